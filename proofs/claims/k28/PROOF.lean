import PyProof.Rows.All
import PySem.Str
import PySem.Sem
import PyProof.StrBlockL
import PyProof.Rows.Walk
import Wide.All
import OpenK.AllK
import Wide.FinOn
import Lean
import PyProof.EqAt
import PyProof.EqKinds
import PyProof.TupleCall
import PyProof.SeqRoads2
import PyProof.ExcArgs
import KE.KIsAll
import PyProof.DictIter
import PyProof.Rows.CountFlat
import PyProof.NeKinds
import KE.KSortKey
import KE.KMinKey
import KE.KIntText
import PyProof.Rows.FStr
import PyProof.Rows.StrJoin2
import PyProof.DictItems
import KE.KDictSum
import PySem.Challenge.RW_risecount_k28_whole_chain_table
set_option Elab.async false
set_option linter.all false
set_option maxRecDepth 100000
set_option maxHeartbeats 3999999
open PySem.W (CodeHd OpenLaw codeIn fnOf instObj keepIn kitOne lookIn methodObj noTabs tabObj)
open And renaming intro->Dj
open Array renaming append_empty->uh,empty_append->a2X,eraseIdxIfInBounds->a2W,ext_getElem?->a2V,extract_empty_of_stop_le_start->qw,extract_succ_right->a2U,forIn_toList->a2T,getD->mq,getElem?_eq_getElem->nz,getElem?_eq_none->a2S,getElem?_extract->Ln,getElem?_map->Lm,getElem?_setIfInBounds->a2R,getElem?_toList->ug,length_toList->iu,map_append->Di,map_extract->v_,map_reverse->a2Q,size_extract->Lk,size_map->Lj,toList->a2P,toList_append->uf,toList_extract->ym,toList_map->a2O
open Array.Perm renaming refl->qd
open BEq renaming beq->Li
open Bool renaming and_eq_false_iff->a2N,and_eq_true->ij,eq_false_iff->Dh,eq_iff_iff->jk,false->ag,false_and->ue,false_eq_true->o_,false_ne_true->bz,false_or->a2M,not_eq_true->Lh,not_eq_true'->yl,not_false->Lg,not_true->Lf,or_eq_true->Dg,true->ae,true_and->ny,true_or->a2L
open Classical renaming axiomOfChoice->a34,byContradiction->qc,epsilon->a2K,epsilon_spec->a2J,propDecidable->qv
open Decidable renaming decide->Zv
open False renaming elim->l_
open ForInStep renaming done->a2I,yield->qb
open Function renaming comp->a2H
open Int renaming add_mul->ud,add_zero->oz,emod_lt_of_pos->yj,emod_nonneg->uc,eq_ofNat_of_zero_le->mn,eq_of_mul_eq_mul_right->a2G,fdiv_eq_ediv_of_nonneg->a2F,le_of_lt->a2E,le_refl->Le,le_trans->De,mul_assoc->yi,mul_comm->qu,mul_neg->a2D,mul_one->Ld,mul_zero->Dc,natAbs_mul->a2C,ne_of_gt->a2B,one_mul->C_,pow_pos->a2A,toNat_natCast->gq,toNat_of_nonneg->a2z,zero_add->ju,zero_mul->ml
open List renaming Nodup->Lc,all_cons->vz,all_eq_true->jd,all_map->Cy,any_cons->mj,any_eq_false->a2x,any_eq_true->Cw,any_map->Cv,append_assoc->Cu,append_nil->lr,concat_eq_append->a2w,cons_append->Cs,contains_eq_mem->a2v,contains_iff_mem->t_,dropLast_concat->a2u,drop_eq_getElem_cons->nu,drop_eq_nil_of_le->vw,drop_length->a2t,drop_zero->qt,eq_nil_of_length_eq_zero->La,eq_nil_or_concat->a2s,eq_of_mem_replicate->a2r,ext_getElem->a2q,ext_getElem?->qa,extract_eq_take_drop->yf,filterMap_cons->K_,filter_append->a2p,filter_cons->a2o,filter_eq_self->a2n,find?_cons->jj,flatten_cons->tw,foldl->Kz,foldl_append->a2m,foldl_cons->lp,forIn_cons->oy,forIn_nil->ye,getD_eq_getElem?_getD->ll,getElem?_append_left->kh,getElem?_append_right->ji,getElem?_cons_succ->kg,getElem?_cons_zero->yd,getElem?_dropLast->a2l,getElem?_eq_getElem->cn,getElem?_eq_none->ig,getElem?_eq_some_iff->de,getElem?_map->c_,getElem?_nil->Ky,getElem?_range->qr,getElem?_replicate->mi,getElem?_set_ne->kc,getElem?_set_self->ox,getElem?_take_of_lt->Kx,getElem?_zipIdx->a2k,getElem?_zip_eq_some->yc,getElem_drop->Kw,getElem_inj->a2j,getElem_map->a2i,getElem_mem->yb,getElem_of_mem->qq,getElem_take->Kv,length->vv,length_append->gk,length_cons->eg,length_drop->tu,length_eq_zero_iff->qp,length_erase_of_mem->a2h,length_filter_le->nr,length_map->bb,length_nil->lj,length_range->jt,length_replicate->p_,length_set->kb,length_singleton->Ku,length_take->js,length_zip->Kt,lookup_append->Ks,lookup_cons->vt,map->Kr,map_append->h_,map_congr_left->mh,map_cons->bx,map_id->a2g,map_map->dg,map_nil->nq,mem_append->ie,mem_append_left->lh,mem_append_right->ir,mem_cons->bu,mem_cons_of_mem->fq,mem_cons_self->cz,mem_filter->gi,mem_filterMap->ya,mem_flatMap->Kq,mem_iff_getElem?->Cr,mem_map->gx,mem_map_of_mem->x_,mem_of_getElem?->j_,mem_of_mem_take->a2f,mem_range->k_,mem_reverse->a2e,mem_singleton->dh,nil_append->vq,nil_perm->a2d,nodup_append->tq,nodup_cons->kq,nodup_nil->vp,nodup_range->a2c,not_mem_nil->jh,of_mem_zip->tm,pairwise_append->xx,pairwise_cons->f_,pairwise_iff_getElem->xw,pairwise_lt_range->Ko,pairwise_map->vn,pairwise_reverse->Kn,pairwise_singleton->a2b,perm_ext_iff_of_nodup->Km,perm_nil->Kl,range->cj,range_succ->Cq,range_succ_eq_map->xu,replicate->cg,replicate_succ->ko,replicate_succ'->a2a,replicate_zero->Kk,reverse_perm->Kj,set_cons_succ->Ki,set_cons_zero->Kh,set_nil->Kg,size_toArray->cu,sum_append->a19,sum_cons->jc,take_append_drop->vm,take_length->tj,take_of_length_le->s_,take_sublist->a18,take_succ->xt,take_zero->a17,toArray->xr,zipIdx_cons->a16,zip_append->a15,zip_cons_cons->Kf,zip_map->Ke
open List.Nodup renaming length_le_of_subset->a33,mem_erase_iff->a32,sublist->a31
open List.Pairwise renaming filter->kr,imp_of_mem->Lb,map->yh,nil->Cz,of_map->a30
open List.Perm renaming cons_inv->a3Z,refl->a2y,swap->a3Y
open List.cons renaming inj->a3X,injEq->Ct
open Nat renaming add_assoc->Kd,add_comm->a14,add_left_cancel->a13,add_sub_cancel_left->a12,add_zero->xq,and_div_two->a11,and_mod_two_pow->a10,and_one_is_mod->a1Z,eq_of_testBit_eq->qo,le_add_right->ou,le_of_eq->p0,le_of_lt->nj,le_refl->bq,le_succ->qm,le_trans->jb,lt_asymm->a1Y,lt_irrefl->jr,lt_log2_self->a1X,lt_of_lt_of_le->gu,lt_or_ge->xp,lt_succ_of_lt->vk,lt_succ_self->Cp,lt_trans->xo,lt_trichotomy->a1W,min_eq_left->a1V,min_self->a1U,mod_two_eq_zero_or_one->Co,mul_le_mul_right->a1T,ne_of_gt->ni,ne_of_lt->gp,one_pos->a1S,or_div_two->a1R,or_mod_two_pow->a1Q,pow_add->a1P,pow_le_pow_right->nh,pow_succ->a1O,shiftLeft_eq->a1N,shiftRight_eq_div_pow->Kc,strongRecOn->Kb,sub_self->Cn,sub_zero->xn,succ->a1M,succ_mul->xm,succ_ne_self->Ka,testBit_and->vj,testBit_lt_two_pow->a1L,testBit_or->J_,testBit_two_pow->Jz,zero_add->ql,zero_le->ic,zero_testBit->Cm
open Ne renaming symm->fz
open Option renaming bind_none->Jy,bind_some->fg,getD_none->a1K,isSome_iff_exists->a1J,isSome_map->xl,join_none->Jx,join_some->Ck,map->a1I,map_eq_some_iff->jz,map_none->Jw,map_some->vi,none->af,some->ab
open Option.some renaming inj->dm,injEq->a3W
open Or renaming inl->fm,inr->cy
open Prod renaming ext->a1H
open Prod.mk renaming inj->Jv
open PyProof.Rows renaming AllBare->pq,Call_->vh,IntsAre->ng,IsTup->jg,Keyed->fj,SortKind->nc,SortSt->dj,Subscript_->Jt,args_list_sort->Js,args_sorted1->Jr,args_tuple_getitem->a1G,boot_all->a3V,boot_any->a3U,boot_bool->Cj,boot_int->Jq,boot_isinstance->a3T,boot_list->a1F,boot_max->a1E,boot_range->Jp,boot_sorted->xk,boot_str->a3S,boot_sum->a1D,boot_tuple->sy,bubble_perm->Jo,callWith_builtin1->a3R,callWith_kw->a1C,callWith_type1->sx,entry_list_sort->Ci,entry_sorted->Cg,entry_tuple_getitem->a1B,get?_update_seq->qk,getElem?_bubble->a1A,isTrue_plain->a1z,kind_sorted->Cf,listItems_at->Ce,listUpdate_at->qj,list_sort_plain->a1y,lt_int->Cd,plain_sorted->Cc,seqEpoch_at->vg,slicePart_none->a1x,slot_list_sort->Ca,slot_tuple_getitem->si,sortedAll_at->a1w,sortedAll_old->a1v,sortedHeap_at->a1u,sortedHeap_old->a1t,subscriptTail_builtinR->a1s,truthy_tuple->a1r,tupleItemsOf_->a1q,wpS_bind->bj,wpS_forRange->jq,wpS_get->oq,wpS_lift->r_,wpS_modify->pj,wpS_mono->kn,wpS_pure->cc
open PyProof.Rows.IsTup renaming new->Ju
open PyProof.Rows.SortSt renaming mk'->pk
open PySem renaming Addr->ah,Arguments->B_,Around->bt,BindsTo->vf,Builtin->Jn,DictEntry->xj,Draws->km,Env->fv,Expr->av,Fin->Iz,FuncData->gw,Heap->a_,IntMulOk->xf,IsEnum->xb,IsPair->gj,IsPart->om,IsRange->Iw,IsRangeIter->a02,IsZip->iq,ItemsOf->Br,Keyword->jf,Model->r6,NameKind->jy,Obj->ay,Paired->jo,PassesOwn->uw,Pos->bo,Program->bh,Result->Bn,Scope->gn,Sem->gr,Shared->ak,Stmt->df,Str->aj,Tok->iz,Value->ai,Within->a0H,World->bg,assignEach->fw,backTo->e_,cLine->di,call->Ik,callType_new->Ij,call_function_tree->a0G,call_list_seq->a0F,call_meets->wy,call_range_1->a0E,codeAny->oh,codeAny_builtin->mx,codeAny_mono->Ii,concat_meets->Ih,eqIsQuiet_byValue->a0D,evalPart_none->a0C,find?_eq_fast->Bd,fitsIndex_both->a0B,intBits_le_64->a0A,isSubtype_stop->a0z,isSubtype_tuple_tuple->a0y,keywordEach->qh,mainGlobals->iw,mem_of_lookup->mf,model->au,name_of_addr->a0x,noFill_tuple_add->Ig,nums_intItems->a0w,plainId_quiet->mw,pushCells_keeps->a0v,rangeSize_one->Ie,seqIndex_neg->Ic,seqIndex_of->Ib,seq_tuple_add->Ia,sizeLine->br,sizeLine_eq->gm,slot_list_getitem->a0u,small_one->H_,starEach->ar,swapsWith->g_,tupleKind_room_in1->a0t,typeIs_int->Hz,wpAny->ax,wpAny_Assign_Subscript->a0s,wpAny_Call_Name_kw->wx,wpAny_Dict_empty->a0r,wpAny_Name->Hy,wpAny_assign_Name->a0q,wpAny_attempt->rh,wpAny_bind->ao,wpAny_callSpecial?_slot->pf,wpAny_call_entry->jw,wpAny_eqBool_int->a0p,wpAny_execs_cons->a0o,wpAny_execs_nil->Bc,wpAny_extend_seq->a0n,wpAny_field->jv,wpAny_getItem_heap->a0m,wpAny_getItem_of->a0l,wpAny_handled->a0k,wpAny_holding->i_,wpAny_isInstance->Bb,wpAny_isTrue_Compare1->a0j,wpAny_letGo->og,wpAny_load->Ba,wpAny_loadPart'->a0i,wpAny_mono->jl,wpAny_newList->qg,wpAny_newObj_type->wu,wpAny_newTuple->A_,wpAny_onRaise->Az,wpAny_passesOwn->rf,wpAny_pure->az,wpAny_pyIter_enum->Ay,wpAny_pyIter_list->wt,wpAny_pyIter_tuple->ur,wpAny_pyIter_zip->wq,wpAny_rule->je,wpAny_runValue->Hx,wpAny_seqItems->n_,wpAny_sequenceKey->a0h,wpAny_setField->a0g,wpAny_setField_rec->uq,wpAny_setItem_heap->a0f,wpAny_setItem_pairs->a0e,wpAny_specialOf->Hw,wpAny_standAt->Hv,wpAny_throw->a0d,wpAny_truthy_bool->mr,wpAny_truthy_list->a0c,wpAny_tryCatch->Hu,wpAny_tupleItemsOf->a0b,wpAny_typeOf->Ax,wpAny_updateSeq->Ht,wpAny_updateSeq_pair->Hs
open PySem.Around renaming frames_deeper->a1p,under_plainId->m_
open PySem.AutoListH renaming list___mul___list_int_3->a3Q
open PySem.AutoSeq1 renaming list_extend_list_list_0->a3P,sub_tuple_tuple->a3O
open PySem.Builtin renaming bitNot->Jj,bitOr->a1j,bitXor->a1i
open PySem.Builtin.Builtins renaming bindParams->a1o
open PySem.Builtin.Dict_items renaming ownsTuple->a1n
open PySem.Builtin.List renaming listTooLong->Bz
open PySem.Builtin.Range renaming rangeSize->ve,small->Jm
open PySem.Builtin.Slice renaming sliceAdjust->Jk,sliceApplied->a1m,sliceFields->a3N,slicePartIndex->a3M,slicePlaces->By
open PySem.Builtin.SmallTypes renaming nextOf->vd,ownedTupleHandOut->a3L,ownedTupleIsFree->Bx
open PySem.Builtin.Tuple renaming tupleCompareSizes->a3K,tupleExact->Bw,tupleHashOf->a1l,tupleIsExact->a3J,tupleItemsOf->a1k
open PySem.Calls renaming Name_function_global->a1h,call_function_entry->Ji
open PySem.DictEntry renaming refKey->a3I
open PySem.EqMixed renaming eq_bool_str->a3H,eq_int_str->a3G,eq_str_bool->a3F,eq_str_int->a3E,ne_bool_str->a3D,ne_int_str->a3C,ne_str_bool->a3B,ne_str_int->a3A
open PySem.EqNone renaming eq_bool_none->a3z,eq_int_none->a3y,eq_none_bool->a3x,eq_none_int->a3w,eq_none_none->a3v,eq_none_str->a3u,eq_str_none->a3t,ne_bool_none->a3s,ne_int_none->a3r,ne_none_bool->a3q,ne_none_int->a3p,ne_none_none->a3o,ne_none_str->a3n,ne_str_none->a3m
open PySem.F renaming args_dict_keyiterator_next_1->a1g,args_object_init_2->a1f,args_tuple_add_2->Jg,args_tuple_iterator_next_1->a1e,args_zip_next_1->Jf,entry_all_loop->a1d,entry_any_loop->a1c,entry_dict_keyiterator_next->a1b,entry_list_iadd->Je,entry_proto_collect->Jd,entry_tuple_add->Jc,entry_tuple_iterator_next->a1a,entry_zip_next->Jb,plain_all_loop->Bv,plain_any_loop->Bu,plain_list_iadd->vc,plain_max_loop->xi,plain_proto_collect->Ja,slot_dict_getitem->a09,slot_dict_iter->a08,slot_dict_keyiterator_next->xh,slot_int_rmul->a07,slot_list_append->a06,slot_list_extend->a05,slot_list_pop->a04,slot_tuple_add->I_,slot_tuple_eq->a03,slot_tuple_iterator_next->Bt,slot_zip_next->vb
open PySem.Heap renaming ExtBut->Iy,SameBut->r9,get?_push_of_some->cx,get?_push_size->d_,get?_update_other->Bs,get?_update_self->u_,lt_size->cf,size_push->oo
open PySem.Heap.DictOf renaming new->a3l
open PySem.Heap.IsSliceOf renaming new->a3k
open PySem.Heap.SameBut renaming update->mz
open PySem.IsL renaming update->a3j
open PySem.Manifest renaming find?->Bq
open PySem.MeetsSeq renaming list_pop_at->a3i
open PySem.NameKind renaming cell->my,free->kl
open PySem.Obj renaming cls_mapFields->a01,data_mapFields->Bp,isFreed_of_fields->a00,mapFields->Iu,mapSeq->fu,putSet->a0Z
open PySem.Paired renaming length->uz,snoc->Bo
open PySem.PassesOwn renaming never->ja
open PySem.SeqAt renaming EqAt->xa
open PySem.SeqAt.EqAt renaming bool_bool->a3h,bool_int->a3g,bool_none->a3f,bool_str->a3e,int_bool->a3d,int_int->uv,int_none->a3c,int_str->a0Y,int_tuple->a3b,none_bool->a3a,none_int->a29,none_str->a28,same->Ir,str_bool->a27,str_int->a0X,str_none->a26,str_str->a25,str_tuple->a24,tuple_int->a23,tuple_str->a22
open PySem.SeqAt.RcAt renaming lists->a21,lists_lengths->a20
open PySem.SeqAt.RcNeAt renaming lists->a2Z,lists_lengths->a2Y
open PySem.Str renaming ofString->jn
open PySem.Value renaming bool->w_,float->a0W,int->oj,isInt->a0V,isStrOf->a0U,none->ik,ref->ft,str->Bm,type->jm
open PySem.W renaming Frag->aq,KasT->rn,OpenLaw->uu,WalkO->Iq,cellsFrom_some->a0P,findIn->a0O,kas_asc->kj,kas_ask->rm,kas_bin->Bl,kas_count->Bk,kas_desc->rj,kas_descPart->Bj,kas_item->b_,kas_place->kz,kas_rev->iy,kas_sort->wz,kas_swaps_map->a0N,kas_tail3->Ip,kat_cons->Io,kat_yes->Im,kia_one->ku,kitx_dict->a0M,kitx_list->Il,kitx_tuple->a0L,kla_fn->Bi,kla_obj->Bh,nsIn->a0K,plainGet->a0J,subIn->Bf,tabIn->Be
open PySem.W.KasT renaming ret->qi
open PySem.W.KatTups renaming cons->a0T
open PySem.W.Looks renaming of_pure->a0S
open PySem.W.WData renaming int->a0R
open PySem.W.WShape renaming has->a0Q
open PySem.Walks renaming list->a0I
open Sum renaming inl->dq,inr->ki
open Sum.inl renaming inj->uo,injEq->Hr
open Sum.inr renaming inj->Hq,injEq->a0a
open True renaming intro->ma
open PySem
set_option genSizeOf false
set_option compiler.extract_closed false
set_option bootstrap.genMatcherCode false
noncomputable section
local macro_rules|`(⇑$x)=>`(($x).length)
local macro_rules|`(↥$x)=>`(($x).heap.objs.size)
local macro_rules|`(⋯)=>`(by decide)
local macro_rules|`(↑$x)=>`(by simpa using $x)
local macro_rules|`(tactic|delta $[$x]*$[$l]?)=>`(tactic|unfold $[$x]*$[$l]?)
local macro_rules|`(tactic|erw[$[$r:term],*]$[$l]?)=>`(tactic|simp only[$[$r:term],*]$[$l]?)
local macro_rules|`(tactic|lia)=>`(tactic|first|cutsat|omega)
local macro_rules|`(∅)=>`(by lia)
local macro_rules|`(tactic|show $t)=>`(tactic|first|refine $t|fail)
set_option hygiene false
local macro_rules|`(tactic|symm$[$l:location]?)=>`(tactic|simp only[Dn]$[$l]?)
set_option hygiene true
local macro_rules|`(tactic|walk_at "0")=>`(tactic|first|show .inl rfl|show .inr rfl)
local macro_rules|`(tactic|walk_at "1")=>`(tactic|first|show fm rfl|show cy (fm rfl)|show cy (cy rfl))
local macro_rules|`(tactic|walk_at "2")=>`(tactic|first|show .inr rfl|show .inl rfl)
theorem Zq0(h:True:=by rfl):True:=h
theorem Zq1(h:True:=by decide):True:=h
theorem Zq2(h:True:=by walk_at "0"):True:=h
theorem Zq3(h:True:=by walk_at "1"):True:=h
theorem Zq4(h:True:=by intro _;rfl):True:=h
theorem Zq5(h:True:=by with_unfolding_all rfl):True:=h
theorem Zq6(h:True:=by walk_at "2"):True:=h
theorem Zq7(h:True:=by show⟨rfl,rfl,rfl,by decide+kernel,rfl,by decide+kernel,by decide+kernel⟩):True:=h
theorem Zq8(h:True:=by intro _ _;rfl):True:=h
theorem Zq9(h:True:=by first|show .inl rfl|show .inr rfl|assumption):True:=h
theorem Zq10(h:True:=by intro _ z;cases z):True:=h
local macro_rules|`($t<|>0)=>`(autoParam $t Zq0._auto_1)|`($t<|>1)=>`(autoParam $t Zq1._auto_1)|`($t<|>2)=>`(autoParam $t Zq2._auto_1)|`($t<|>3)=>`(autoParam $t Zq3._auto_1)|`($t<|>4)=>`(autoParam $t Zq4._auto_1)|`($t<|>5)=>`(autoParam $t Zq5._auto_1)|`($t<|>6)=>`(autoParam $t Zq6._auto_1)|`($t<|>7)=>`(autoParam $t Zq7._auto_1)|`($t<|>8)=>`(autoParam $t Zq8._auto_1)|`($t<|>9)=>`(autoParam $t Zq9._auto_1)|`($t<|>10)=>`(autoParam $t Zq10._auto_1)
abbrev Q0a:=List (List Int)
abbrev Q0b:=List (ah×ay)
abbrev Q0c:=ai->ak->Prop
abbrev Q0d:=aj->Option ai
abbrev Q0e:=List Int
abbrev Q0f:=List ai
abbrev Q0g:=List aj
abbrev Z_.{u}:=@if_pos.{u}
abbrev Zz.{u}:=@if_neg.{u}
abbrev Zy:=@decide_eq_false
abbrev Zx:=@decide_eq_true
abbrev Zw.{u}:=@absurd.{u}

namespace L3
inductive D where
 |non
 |bl (b:Bool)
 |int (i:Int)
 |str (x:aj)
 |tup (xs:List D)
 |lst (xs:List D)
 |k6 (ns:Q0e)
 |i8 (ks:List (Sum Int aj)) (xs:List D)
 |a8 (q:Nat->ay->Prop) (ks:List (Sum (Sum Int aj) (List (Sum (Sum Int aj) (List (Sum Int aj)))))) (xs:List D)
 |exc (c:aj) (a:Nat)
 |rws (xs:Q0a)
mutual
noncomputable def D.CP:D->Bool
 |.non=>ae
 |.bl _=>ae
 |.int _=>ae
 |.str _=>ae
 |.tup ds=>lD ds
 |.lst _=>ag
 |.k6 _=>ae
 |.i8 _ _=>ag
 |.a8 _ _ _=>ag
 |.exc _ _=>ae
 |.rws _=>ag
noncomputable def lD:List D->Bool
 |[]=>ae
 |d::ds=>d.CP&&lD ds
end
abbrev cN:=List (Option D)
inductive Sv where
 |no
 |ro (d:D)
 |ow (d:D)
abbrev bC:=List Sv
noncomputable def Sv.all:Sv->Option D
 |.no=>af
 |.ro d=>ab d
 |.ow d=>ab d
abbrev Sv.ri(n:Int):Sv:=.ro (.int n)
noncomputable def Sv.rd:Sv->Option D
 |.ro d=>ab d
 |_=>af
def bL(ρ:bC):cN:=ρ.map Sv.all
def gI(ρ:bC):cN:=ρ.map Sv.rd
end L3
namespace L4
open L3
inductive M (α:Type) where
 |no
 |ex (c:aj)
 |ok (a:α)
inductive Out where
 |no
 |nx (ρ:bC)
 |rt (d:D)
 |ex (c:aj)
abbrev EF:=cN->Option D
abbrev TF:=cN->Option Bool
abbrev AF:=cN->Option (List D)
abbrev XF:=bC->Option (bC×D)
abbrev SF:=bC->Out
abbrev kE:=List D->M D
def k7:Nat:=16777216
def bF(i:Nat):EF:=λρ=>(ρ[i]?).join
def eC(d:D):EF:=λ_=>ab d
abbrev eI(n:Int):EF:=eC (.int n)
abbrev bY:EF:=bF 0
abbrev cP:EF:=bF 1
abbrev fH:EF:=bF 2
abbrev m7:EF:=bF 3
abbrev i9:EF:=bF 4
abbrev nL:EF:=bF 5
abbrev QE:EF:=bF 6
abbrev q_:EF:=bF 7
abbrev Nb:EF:=bF 8
abbrev yx:EF:=bF 9
abbrev CU:EF:=bF 10
abbrev aMh:EF:=bF 11
abbrev aMi:EF:=bF 12
def aC(g:D->D->Option D)(a b:EF):EF:=λρ=>(a ρ).bind λx=>(b ρ).bind λy=>g x y
noncomputable def lE:D->Option Bool
 |.bl b=>ab b
 |.lst ds=>ab (!ds.isEmpty)
 |.tup ds=>ab (!ds.isEmpty)
 |_=>af
def tV(f:EF):TF:=λρ=>(f ρ).bind lE
def m8(t:TF):TF:=λρ=>(t ρ).map (!·)
def AA(t u:TF):TF:=λρ=>(t ρ).bind λb=>if b=ae then u ρ else ab ag
def MT(t u:TF):TF:=λρ=>(t ρ).bind λb=>if b=ae then ab ae else u ρ
noncomputable def rR:D->Option Bool
 |.bl b=>ab b
 |_=>af
def kF(a b:EF):EF:=λρ=>(a ρ).bind λx=>(rR x).bind λc=>if c=ae then b ρ else ab (.bl ag)
def yy(a b:EF):EF:=λρ=>(a ρ).bind λx=>(rR x).bind λc=>if c=ae then ab (.bl ae) else b ρ
def qH(a:EF):EF:=λρ=>(a ρ).bind λx=>(rR x).map λc=>.bl (!c)
def WY(t:TF)(a b:EF):EF:=λρ=>(t ρ).bind λc=>if c=ae then a ρ else b ρ
noncomputable def WZ:D->Option D
 |.int i=>ab (.int (-i))
 |_=>af
def sO(a:EF):EF:=λρ=>(a ρ).bind WZ
def lF(f g:D->D->Option D)(a b c:EF):EF:=λρ=>(a ρ).bind λx=>(b ρ).bind λy=>(f x y).bind λz=>(rR z).bind λk=>if k=ae then(c ρ).bind λw=>g y w else ab (.bl ag)
noncomputable def GJ(g:Int->Int->D):D->D->Option D
 |.int i,.int j=>ab (g i j)
 |_,_=>af
noncomputable def iI(c:Int->Int->Bool)(g:Int->Int->D):D->D->Option D
 |.int i,.int j=>if c i j=ae then ab (g i j) else af
 |_,_=>af
noncomputable def dH:D->D->Option D
 |.int i,.int j=>ab (.int (i+j))
 |.lst a,.lst b=>if ⇑a+⇑b<=k7 then ab (.lst (a++b)) else af
 |.tup a,.tup b=>if ⇑a+⇑b<=k7 then ab (.tup (a++b)) else af
 |.str a,.str b=>if ⇑a+⇑b<=k7 then ab (.str (a++b)) else af
 |_,_=>af
def qI:D->D->Option D:=GJ λi j=>.int (i-j)
def uC(i j:Int):Bool:=Zv (i.natAbs<18446744073709551616)||Zv (j.natAbs<18446744073709551616)||Zv (i.natAbs.log2+j.natAbs.log2<=134217700)
def mulM:D->D->Option D:=iI uC λi j=>.int (i*j)
def jT:D->D->Option D:=iI (λ_ j=>Zv (0<j)) λi j=>.int (i%j)
def sP:D->D->Option D:=iI (λ_ j=>Zv (0<j)&&Zv (j.natAbs<1073741824)) λi j=>.int (i/j)
def As:D->D->Option D:=iI (λi j=>Zv (0<=j)&&Zv (j.natAbs<=1000000)&&Zv (i.natAbs<18446744073709551616)) λi j=>.int (i^j.toNat)
def ltM:D->D->Option D:=GJ λi j=>.bl (Zv (i<j))
def leM:D->D->Option D:=GJ λi j=>.bl (Zv (i<=j))
def CQ:D->D->Option D:=GJ λi j=>.bl (Zv (j<i))
def geM:D->D->Option D:=GJ λi j=>.bl (Zv (j<=i))
noncomputable def Hn:D->D->Option Bool
 |.int i,.int j=>ab (Zv (i=j))
 |.bl i,.bl j=>ab (Zv (i=j))
 |.str i,.str j=>ab (Zv (i=j))
 |.non,.non=>ab ae
 |_,_=>af
def oM:D->D->Option D:=λx y=>(Hn x y).map .bl
def QF:D->D->Option D:=λx y=>(Hn x y).map λb=>.bl (!b)
noncomputable def uD:D->Bool
 |.non=>ae
 |_=>ag
def W0:D->D->Option D:=λx y=>if uD y=ae then ab (.bl (uD x)) else af
noncomputable def intsOf:List D->Option (List Int)
 |[]=>ab []
 |.int i::ds=>(intsOf ds).map (i :: ·)
 |_::_=>af
def uE(neg:Bool):D->D->Option D
 |.int i,.tup ds=>(intsOf ds).map λns=>.bl (if neg then !ns.contains i else ns.contains i)
 |.int i,.lst ds=>(intsOf ds).map λns=>.bl (if neg then !ns.contains i else ns.contains i)
 |_,_=>af
def P7(n:Nat)(i:Int):Option Nat:=if 0<=i then(if i<n then ab i.toNat else af) else if -(n:Int)<=i then ab (i+n).toNat else af
def sQ{α:Type}(xs:List α)(i:Int):Option α:=(P7 ⇑xs i).bind λj=>xs[j]?
noncomputable def eB:D->D->Option D
 |.lst a,.int i=>sQ a i
 |.tup a,.int i=>sQ a i
 |.k6 a,.int i=>(sQ a i).map D.int
 |_,_=>af
noncomputable def uF:D->Option (Sum Int aj)
 |.int i=>ab (.inl i)
 |.str x=>ab (.inr x)
 |_=>af
def jC(ks:List (Sum Int aj))(ds:List D)(k:Sum Int aj):Option D:=((ks.zip ds).find? λa=>Zv (a.1=k)).map (·.2)
def uG:D->D->Option D
 |.i8 ks ds,d=>(uF d).bind λk=>jC ks ds k
 |_,_=>af
def aG:AF:=λ_=>ab []
def aA(a:EF)(t:AF):AF:=λρ=>(a ρ).bind λd=>(t ρ).bind λds=>ab (d::ds)
abbrev bO(i:Nat):AF:=aA (bF i) aG
def hJ(t:AF):EF:=λρ=>(t ρ).bind λds=>if ⇑ds<=k7 then ab (.tup ds) else af
def eQ(t:AF):EF:=λρ=>(t ρ).bind λds=>if ⇑ds<=k7 then ab (.lst ds) else af
def cL(g:List D->Option D)(t:AF):EF:=λρ=>(t ρ).bind g
noncomputable def CV:M D->Option D
 |.ok d=>ab d
 |_=>af
def aO(R:kE)(t:AF):EF:=λρ=>(t ρ).bind λds=>CV (R ds)
noncomputable def cJ:List D->Option D
 |[.lst a]=>ab (.int ⇑a)
 |[.tup a]=>ab (.int ⇑a)
 |[.k6 a]=>ab (.int ⇑a)
 |_=>af
noncomputable def dU:List D->Option D
 |[.lst a]=>ab (.tup a)
 |[.tup a]=>ab (.tup a)
 |_=>af
noncomputable def yA:List D->Option D
 |[.lst a]=>ab (.lst a)
 |[.tup a]=>ab (.lst a)
 |_=>af
noncomputable def insI(a:Int):List Int->List Int
 |[]=>[a]
 |b::l=>if a<=b then a::b::l else b::insI a l
def sortI:List Int->List Int
 |[]=>[]
 |a::l=>insI a (sortI l)
def jD:List D->Option D
 |[.lst a]=>(intsOf a).bind λns=>if ⇑ns<64 then ab (.lst ((sortI ns).map D.int)) else af
 |_=>af
def xH:List D->Option D
 |[.lst a]=>(intsOf a).map λns=>.int ns.sum
 |_=>af
def nM:List D->Option (List Bool)
 |[]=>ab []
 |d::ds=>(lE d).bind λb=>(nM ds).map (b :: ·)
def allM:List D->Option D
 |[.lst a]=>(nM a).map λbs=>.bl (bs.all id)
 |_=>af
def anyM:List D->Option D
 |[.lst a]=>(nM a).map λbs=>.bl (bs.any id)
 |_=>af
noncomputable def tyM:D->String
 |.non => "NoneType"
 |.bl _ => "bool"
 |.int _ => "int"
 |.str _ => "str"
 |.tup _ => "tuple"
 |.lst _ => "list"
 |.k6 _ => "list"
 |.i8 _ _ => "dict"
 |.a8 _ _ _ => "dict"
 |.exc _ _ => "NoneType"
 |.rws _ => "NoneType"
def GK(T:String)(d:D):Bool:=tyM d == T||(T == "int"&&tyM d == "bool")
noncomputable def GL:D->Bool
 |.exc _ _=>ag
 |.a8 _ _ _=>ag
 |.rws _=>ag
 |_=>ae
def iJ(T:String)(a:EF):EF:=λρ=>(a ρ).bind λd=>if GL d=ae then ab (.bl (GK T d)) else af
def aQ(lo:Int)(n:Nat):List Int:=(cj n).map λk:Nat=>lo+(k:Int)
def We(a:Int)(n:Nat):List Int:=(cj n).map λk:Nat=>a-(k:Int)
noncomputable def GN(t:AF):EF:=λρ=>(t ρ).bind λds=>match ds with
 |[.int j]=>if j.natAbs<=16777216 then ab (.lst ((aQ 0 j.toNat).map D.int)) else af
 |_=>af
noncomputable def JJ(t:AF):EF:=λρ=>(t ρ).bind λds=>match ds with
 |[.int j]=>if j.natAbs<=16777216 then ab (.tup ((aQ 0 j.toNat).map D.int)) else af
 |[.int i,.int j]=>if i.natAbs<=8388608/\j.natAbs<=8388608 then ab (.tup ((aQ i (j-i).toNat).map D.int)) else af
 |_=>af
noncomputable def yB:List D->Option D
 |[.int i,.int j]=>ab (.int (if j>i then j else i))
 |_=>af
noncomputable def repLM:D->D->Option D
 |.lst a,.int n=>if ⇑a*n.toNat<=k7/\n.natAbs<9223372036854775808 then ab (.lst (cg n.toNat a).flatten) else af
 |_,_=>af
noncomputable def MU:D->D->Option D
 |.lst a,.lst b=>if ⇑a+⇑b<=k7 then ab (.lst (a++b)) else af
 |_,_=>af
noncomputable def CW:D->Option (List D)
 |.lst ds=>ab ds
 |.tup ds=>ab ds
 |_=>af
def bV(f:EF):AF:=λρ=>(f ρ).bind CW
noncomputable def GO:List D->Option (List D)
 |[.int j]=>if j.natAbs<4611686018427387904 then ab ((aQ 0 j.toNat).map D.int) else af
 |[.int i,.int j]=>if i.natAbs<4611686018427387904/\j.natAbs<4611686018427387904 then ab ((aQ i (j-i).toNat).map D.int) else af
 |[.int i,.int j,.int k]=>if k=-1/\i.natAbs<1000000/\j.natAbs<1000000 then ab ((We i (i-j).toNat).map D.int) else af
 |_=>af
def bG(t:AF):AF:=λρ=>(t ρ).bind GO
noncomputable def JK:List D->Option (List D)
 |[.lst ds]=>ab (ds.zipIdx.map λp=>.tup [.int (p.2:Int),p.1])
 |[.tup ds]=>ab (ds.zipIdx.map λp=>.tup [.int (p.2:Int),p.1])
 |_=>af
def oO(t:AF):AF:=λρ=>(t ρ).bind JK
def Wd:List D->Option (List D)
 |[a,b]=>(CW a).bind λxs=>(CW b).map λys=>(xs.zip ys).map λp=>.tup [p.1,p.2]
 |_=>af
def Ar(t:AF):AF:=λρ=>(t ρ).bind Wd
noncomputable def Aq:List D->Option (List D)
 |[.lst ds]=>ab ds.reverse
 |[.tup ds]=>ab ds.reverse
 |_=>af
def Ap(t:AF):AF:=λρ=>(t ρ).bind Aq
abbrev WM:=D->cN->Option cN
def g1(i:Nat):WM:=λd ρ=>ab (ρ.set i (ab d))
noncomputable def yC:D->Option (D×D)
 |.tup [x,y]=>ab (x,y)
 |_=>af
def g2(i j:Nat):WM:=λd ρ=>(yC d).map λp=>(ρ.set i (ab p.1)).set j (ab p.2)
def bQ:TF:=λ_=>ab ae
def benv(nl:Nat)(fr:List Nat)(ρ:cN):cN:=cg nl af++fr.map λj=>(ρ[j]?).join
noncomputable def iK(g:WM)(t:TF)(e:EF)(ρ:cN):List D->Option (List D)
 |[]=>ab []
 |d::ds=>(g d ρ).bind λρ1=>(t ρ1).bind λb=>if b=ae then(e ρ1).bind λy=>(iK g t e ρ ds).map (y :: ·) else iK g t e ρ ds
def bE(nl:Nat)(fr:List Nat)(it:AF)(g:WM)(t:TF)(e:EF):EF:=λρ=>(it ρ).bind λds=>if ⇑ds<=k7 then(iK g t e (benv nl fr ρ) ds).map D.lst else af
abbrev OF:=cN->Option (Option Int)
def MV:OF:=λ_=>ab af
noncomputable def asInt:D->Option Int
 |.int i=>ab i
 |_=>af
def oE(f:EF):OF:=λρ=>(f ρ).bind λd=>(asInt d).map ab
noncomputable def MW(n d:Nat):Option Int->Nat
 |none=>d
 |some i=>if i<0 then(i+n).toNat else min i.toNat n
def CY(xs:List D)(lo a:Option Int):List D:=(xs.drop (MW ⇑xs 0 lo)).take (MW ⇑xs ⇑xs a-MW ⇑xs 0 lo)
def slM(d:D)(lo a:Option Int):Option D:=match d with
 |.lst ds=>ab (.lst (CY ds lo a))
 |.tup ds=>ab (.tup (CY ds lo a))
 |_=>af
def JL(f:EF)(lo a:OF):EF:=λρ=>(f ρ).bind λd=>(lo ρ).bind λl=>(a ρ).bind λh=>slM d l h
def QG(f:EF):XF:=λρ=>(f (bL ρ)).bind λd=>if d.CP=ae then ab (ρ,d) else af
def a9(f:EF):XF:=λρ=>(f (gI ρ)).bind λd=>ab (ρ,d)
noncomputable def lG:Option Sv->Option (List D)
 |some (.ow (.lst ds))=>ab ds
 |_=>af
def m9(i:Nat)(m:List D->D->Option (List D×D))(x:XF):XF:=λρ=>(lG ρ[i]?).bind λ_=>(x ρ).bind λp=>(lG p.1[i]?).bind λds=>(m ds p.2).map λq=>(p.1.set i (.ow (.lst q.1)),q.2)
def g4:List D->D->Option (List D×D):=λds d=>if ⇑ds<k7 then ab (ds++[d],.non) else af
noncomputable def W2:List D->D->Option (List D×D)
 |ds,.int k=>if k.natAbs<9223372036854775808 then(P7 ⇑ds k).bind λj=>(ds[j]?).map λd=>(ds.eraseIdx j,d) else af
 |_,_=>af
noncomputable def MX:List D->D->Option (List D×D)
 |ds,.lst es=>if ⇑ds+⇑es<=k7 then ab (ds++es,.non) else af
 |_,_=>af
def dW:SF:=λρ=>.nx ρ
noncomputable def aK(f g:SF):SF:=λρ=>match f ρ with
 |.nx ρ'=>g ρ'
 |o=>o
def b8(f:EF):SF:=λρ=>match f (bL ρ) with
 |some d=>.rt d
 |none=>.no
def g8(t:TF)(a b:SF):SF:=λρ=>match t (bL ρ) with
 |some ae=>a ρ
 |some ag=>b ρ
 |none=>.no
def bH(i:Nat)(f:EF):SF:=λρ=>match f (gI ρ) with
 |some d=>.nx (ρ.set i (.ro d))
 |none=>.no
noncomputable def QH(i:Nat)(x:XF):SF:=λρ=>match x ρ with
 |some p=>.nx (p.1.set i (.ro p.2))
 |none=>.no
def jM(i:Nat)(f:EF):SF:=λρ=>match f (gI ρ) with
 |some d=>.nx (ρ.set i (.ow d))
 |none=>.no
def uH:D->Bool
 |.lst ds=>lD ds
 |_=>ag
def QI(i:Nat)(f:EF):SF:=λρ=>match f (bL ρ) with
 |some d=>if uH d=ae then .nx (ρ.set i (.ow d)) else .no
 |none=>.no
def uI(i:Nat)(f:EF):SF:=λρ=>match f (bL ρ) with
 |some d=>if uH d=ae then .nx (ρ.set i (.ro d)) else .no
 |none=>.no
def CZ(i:Nat):SF:=λρ=>.nx (ρ.set i (.ow (.i8 [] [])))
noncomputable def sX(x:XF):SF:=λρ=>match x ρ with
 |some p=>.nx p.1
 |none=>.no
def MY(i:Nat)(x:XF)(k:EF):SF:=λρ=>match ((x ρ).bind λp=>(lG p.1[i]?).bind λds=>(k (bL p.1)).bind λkd=>(asInt kd).bind λa=>(P7 ⇑ds a).map λj=>p.1.set i (.ow (.lst (ds.set j p.2)))) with
 |some ρ'=>.nx ρ'
 |none=>.no
noncomputable def uJ:Option Sv->Option (List (Sum Int aj)×List D)
 |some (.ow (.i8 ks ds))=>ab (ks,ds)
 |_=>af
def JM(i:Nat)(x:XF)(k:EF):SF:=λρ=>match ((x ρ).bind λp=>(uJ p.1[i]?).bind λkd=>(k (bL p.1)).bind λd=>(uF d).bind λa =>
  if(jC kd.1 kd.2 a).isNone=ae/\⇑kd.2<k7 then ab (p.1.set i (.ow (.i8 (kd.1++[a]) (kd.2++[p.2])))) else af) with
 |some ρ'=>.nx ρ'
 |none=>.no
abbrev GSF:=D->bC->Option bC
def rS(i:Nat):GSF:=λd ρ=>ab (ρ.set i (.ro d))
def W3(i j:Nat):GSF:=λd ρ=>(yC d).map λp=>(ρ.set i (.ro p.1)).set j (.ro p.2)
noncomputable def g9(g:GSF)(b:SF):List D->bC->Out
 |[],ρ=>.nx ρ
 |d::ds,ρ=>match g d ρ with
  |none=>.no
  |some ρ1=>match b ρ1 with
   |.nx ρ2=>g9 g b ds ρ2
   |o=>o
def fB(it:AF)(g:GSF)(b:SF):SF:=λρ=>match it (gI ρ) with
 |some ds=>g9 g b ds ρ
 |none=>.no
def dY(t:TF)(b:SF):Nat->bC->Out
 |0,_=>.no
 |n+1,ρ=>match t (bL ρ) with
  |none=>.no
  |some ag=>.nx ρ
  |some ae=>match b ρ with
   |.nx ρ'=>dY t b n ρ'
   |o=>o
def nN:Nat:=1000000
def uK(n:Nat)(t:TF)(b:SF):SF:=dY t b n
def eG(n:Nat)(ds:List D):bC:=ds.map Sv.ro++cg (n-⇑ds) Sv.no
noncomputable def c8(n a:Nat)(b:SF):kE:=λds=>if ⇑ds=a then(match b (eG n ds) with
 |.rt d=>.ok d
 |.nx _=>.ok .non
 |.ex c=>.ex c
 |.no=>.no) else .no
noncomputable def fN:List Int->List Int->Bool
 |[],[]=>ag
 |[],_::_=>ae
 |_::_,[]=>ag
 |a::as,b::bs=>if a=b then fN as bs else Zv (a<b)
def MZ(t:Q0e):List (List Int)->List (List Int)
 |[]=>[t]
 |u::us=>if fN u t=ae then u::MZ t us else t::u::us
def rT:List (List Int)->List (List Int)
 |[]=>[]
 |t::ts=>MZ t (rT ts)
def oP(t:Q0e):D:=.tup (t.map D.int)
def Hm:D->Option (List Int)
 |.tup ds=>intsOf ds
 |_=>af
def nO:List D->Option (List (List Int))
 |[]=>ab []
 |d::ds=>(Hm d).bind λt=>(nO ds).map (t :: ·)
def nQ:List D->Option D
 |[.lst a]=>(nO a).bind λd=>if ⇑d<64/\d.all (λt=>!t.isEmpty)=ae then ab (.lst ((rT d).map oP)) else af
 |_=>af
theorem GP:∀a b:Q0e,fN a b=ae->fN b a=ag
 |[],[],h=>by cases h
 |[],_::_,_=>rfl
 |_::_,[],h=>by cases h
 |a::as,b::bs,h=>by
  delta fN at h ⊢;by_cases e:a=b
  .rw [Z_ e] at h;rw[Z_ e.symm];show GP as bs h
  .rw [Zz e] at h;rw[Zz (fz e)];simp at h ⊢;lia
theorem GQ:∀a b c:Q0e,fN b a=ag->fN c b=ag->fN c a=ag
 |[],[],c,h1,h2=>h2
 |[],b::bs,[],h1,h2=>rfl
 |[],b::bs,c::cs,h1,h2=>rfl
 |a::as,[],c,h1,h2=>by cases h1
 |a::as,b::bs,[],h1,h2=>by cases h2
 |a::as,b::bs,c::cs,h1,h2=>by
  delta fN at h1 h2 ⊢;by_cases e1:b=a
  .subst e1;rw[Z_ rfl] at h1;by_cases d:c=b
   .subst d;rw[Z_ rfl] at h2 ⊢;show GQ as bs cs h1 h2
   .rw [Zz d] at h2 ⊢;show h2
  .rw [Zz e1] at h1;by_cases d:c=b
   .subst d;rw[Zz e1];show h1
   .rw [Zz d] at h2;simp at h1 h2;rw[Zz ∅];simp;lia
theorem QJ:∀a b:Q0e,fN a b=ag->fN b a=ag->a=b
 |[],[],_,_=>rfl
 |[],_::_,h1,_=>by cases h1
 |_::_,[],_,h2=>by cases h2
 |a::as,b::bs,h1,h2=>by
  delta fN at h1 h2;by_cases e:a=b
  .subst e;rw[Z_ rfl] at h1 h2;rw[QJ as bs h1 h2]
  .rw [Zz e] at h1;rw[Zz (fz e)] at h2;simp at h1 h2;lia
theorem qJ(t:Q0e):∀l,(MZ t l).Perm (t::l)
 |[]=>.refl _
 |u::us=>by
  delta MZ;by_cases h:fN u t=ae
  .rw [Z_ h];show((qJ t us).cons u).trans (.swap t u us)
  .rw [Zz h]
theorem kG:∀l,(rT l).Perm l
 |[]=>.refl _
 |t::ts=>(qJ t _).trans ((kG ts).cons t)
def UpT(l:Q0a):Prop:=l.Pairwise λa b=>fN b a=ag
theorem JN(t:Q0e):∀l,UpT l->UpT (MZ t l)
 |[],_=>a2b _ _
 |u::us,h=>by
  have⟨h1,h2⟩:=f_.mp h;delta MZ;by_cases e:fN u t=ae
  .rw [Z_ e];show f_.mpr ⟨λx a=>?_,JN t us h2⟩;rcases bu.mp ((qJ t us).mem_iff.mp a) with rfl|a
   .exact GP _ _ e
   .exact h1 x a
  .rw [Zz e];have e:fN u t=ag:=by simpa using e
   show f_.mpr ⟨λx a=>?_,h⟩;rcases(bu.mp a:x=u\/x∈us) with rfl|a
   .exact e
   .exact GQ t u x e (h1 x a)
theorem C0:∀l,UpT (rT l)
 |[]=>.nil
 |t::ts=>JN t _ (C0 ts)
theorem JO:∀{l m:Q0a},l.Perm m->UpT l->UpT m->l=m
 |[],m,p,_,_=>by rw[a2d.mp p]
 |a::l,[],p,_,_=>by have:=p.length_eq;simp at this
 |a::l,b::m,p,h1,h2=>by
  obtain⟨v,q⟩:=f_.mp h1;obtain⟨o,n⟩:=f_.mp h2;have e:a=b:=by
   have j:=bu.mp (p.mem_iff.mp cz);have d:=bu.mp (p.mem_iff.mpr cz);rcases j with h|h
   .exact h
   .rcases d with h' | h'
    .exact h'.symm
    .exact QJ _ _ (o a h) (v b h')
  subst e;rw[JO p.cons_inv q n]
noncomputable def Wc(ρ:bC)(i:Nat):bC:=match ρ[i]? with
 |some (.ow d)=>ρ.set i (.ro d)
 |_=>ρ
def Ao(i:Nat)(f:SF):SF:=λρ=>f (Wc ρ i)
noncomputable def aLo:D->Option D
 |.lst ds=>ab (.lst ds.reverse)
 |_=>af
def M4:D->D->Option Bool
 |.lst a,.lst b=>(intsOf a).bind λx=>(intsOf b).map λy=>Zv (x=y)
 |_,_=>af
def GR:D->D->Option D:=λx y=>(M4 x y).map λb=>.bl (!b)
noncomputable def W4:List Int->Int
 |[]=>0
 |a::l=>l.foldl (λm b=>if m<b then b else m) a
def lH:List D->Option D
 |[.tup ds]=>(intsOf ds).bind λns=>if ⇑ns<64 then ab (.lst ((sortI ns).map D.int)) else af
 |_=>af
abbrev hV:Nat->ay->Prop:=λ_ _=>True
def adr(q:Nat->ay->Prop):Nat->ay->Prop:=λa _=>∃o,q a o
abbrev xI:=Sum Int aj
abbrev PN1:=List (Sum xI (List xI))
abbrev rV:=Sum xI PN1
def yD:List D->Option (List xI)
 |[]=>ab []
 |d::ds=>(uF d).bind λk=>(yD ds).map (k :: ·)
def QK:D->Option (Sum xI (List xI))
 |.tup ds=>(yD ds).map .inr
 |d=>(uF d).map .inl
def lI:List D->Option PN1
 |[]=>ab []
 |d::ds=>(QK d).bind λk=>(lI ds).map (k :: ·)
def lJ:D->Option rV
 |.tup ds=>(lI ds).map .inr
 |d=>(uF d).map .inl
noncomputable def dK:xI->D
 |.inl i=>.int i
 |.inr x=>.str x
def QL:Sum xI (List xI)->D
 |.inl k=>dK k
 |.inr ks=>.tup (ks.map dK)
def pd:rV->D
 |.inl k=>dK k
 |.inr ks=>.tup (ks.map QL)
def aS(ks:List rV)(ds:List D)(k:rV):Option D:=((ks.zip ds).find? λp=>Zv (p.1=k)).map (·.2)
def kindB(ks:List rV)(k:rV):Bool:=ks.all λq=>q.isLeft == k.isLeft
def Fu:D->D->Option D
 |.a8 _ ks ds,d=>(lJ d).bind λk=>if kindB ks k=ae then aS ks ds k else af
 |_,_=>af
def uL(neg:Bool):D->D->Option D
 |d,.a8 _ ks ds=>(lJ d).bind λk=>if kindB ks k=ae then ab (.bl (if neg then !(aS ks ds k).isSome else(aS ks ds k).isSome)) else af
 |_,_=>af
def cV(ks:List rV)(ds:List D)(k:rV)(v:D):List rV×List D :=
 if ks.any (λq=>Zv (q=k))=ae then(ks,(ks.zip ds).map λp=>if p.1=k then v else p.2) else(ks++[k],ds++[v])
def QM:D->Option (List D)
 |.a8 _ ks _=>ab (ks.map pd)
 |_=>af
noncomputable def AB:Option Sv->Option ((Nat->ay->Prop)×List rV×List D)
 |some (.ow (.a8 q ks ds))=>ab (q,ks,ds)
 |_=>af
def JP(i:Nat):SF:=λρ=>.nx (ρ.set i (.ow (.a8 hV [] [])))
def iL(i:Nat)(x:XF)(k:EF):SF:=λρ=>match ((x ρ).bind λp=>(AB p.1[i]?).bind λkd=>(k (bL p.1)).bind λd=>(lJ d).bind λa =>
  if kindB kd.2.1 a=ae/\⇑kd.2.2<k7 then ab (p.1.set i (.ow (.a8 (adr kd.1) (cV kd.2.1 kd.2.2 a p.2).1 (cV kd.2.1 kd.2.2 a p.2).2))) else af) with
 |some ρ'=>.nx ρ'
 |none=>.no
noncomputable def Hl:List D->Option (List D)
 |[.lst xs,.lst ys]=>ab ((xs.zip ys).map λp=>.tup [p.1,p.2])
 |_=>af
def uM(t:AF):AF:=λρ=>(t ρ).bind Hl
def QN:D->D->Option D:=λx y=>(M4 x y).map D.bl
abbrev KD:=List rV×List D
abbrev sR:=List D->KD->M (D×KD)
def startM(n:Nat)(ds:List D)(q:Nat->ay->Prop)(kd:KD):bC:=ds.map Sv.ro++Sv.ow (.a8 q kd.1 kd.2)::cg (n-(⇑ds+1)) Sv.no
def AD(j:Nat)(k:EF)(q:Nat->ay->Prop):bC->Option (D×KD):=λρ=>(AB ρ[j]?).bind λkd=>(k (gI ρ)).bind λl=>(lJ l).bind λh=>@ite _ (kindB kd.2.1 h=ae /\∀a o,kd.1 a o ->∃o2,q a o2) (qv _) ((aS kd.2.1 kd.2.2 h).map λd=>(d,kd.2)) af
def oQ(n a:Nat)(b:SF)(k:EF)(q:Nat->ay->Prop)(ds:List D)(kd:KD):Option (D×KD):=if ⇑ds+1=a then(match b (startM n ds q kd) with
 |.nx ρ=>AD (a-1) k q ρ
 |_=>af) else af
def runM(n a:Nat)(b:SF)(k:EF):sR:=λds kd=>@dite _ (∃r,∀q,oQ n a b k q ds kd=ab r) (qv _) (λh=>.ok h.choose) λ_=>.no
def JQ(h:runM n np b k ds kd=.ok r)(q:Nat->ay->Prop):oQ n np b k q ds kd=ab r:=by
 delta runM at h;split at h
 .rename_i hx;cases h;show hx.choose_spec q
 .cases h
theorem AE(h:∀q,oQ n np b k q ds kd=ab r):runM n np b k ds kd=.ok r:=by have a:∃r,∀q,oQ n np b k q ds kd=ab r:=⟨r,h⟩;delta runM;rw[dif_pos a];have e:=a.choose_spec hV;rw[h hV] at e;rw[dm e]
def stepM(R:sR)(t:AF)(j:Nat)(ρ:bC):Option ((Nat->ay->Prop)×D×KD):=(t (gI ρ)).bind λds=>(AB ρ[j]?).bind λkd=>match R ds kd.2 with
 |.ok r=>ab (kd.1,r)
 |_=>af
def qK(i:Nat)(R:sR)(t:AF)(j:Nat):SF:=λρ=>match stepM R t j ρ with
 |some r=>.nx ((ρ.set j (.ow (.a8 (adr r.1) r.2.2.1 r.2.2.2))).set i (.ro r.2.1))
 |none=>.no
def M5(R:sR)(t:AF)(j:Nat):SF:=λρ=>match stepM R t j ρ with
 |some r=>.nx (ρ.set j (.ow (.a8 (adr r.1) r.2.2.1 r.2.2.2)))
 |none=>.no
def nnC(i j:Int):Bool:=Zv (0<=i)&&Zv (0<=j)
def C2:D->D->Option D:=iI (λi j=>Zv (0<=j)&&Zv (j.natAbs<=1000000)&&Zv (i.natAbs<18446744073709551616)) λi j=>.int (i*2^j.toNat)
def M6:D->D->Option D:=iI (λ_ j=>Zv (0<=j)) λi j=>.int (i/2^j.toNat)
def jE:D->D->Option D:=iI nnC λi j=>.int ((i.toNat &&& j.toNat:Nat):Int)
def QO:D->D->Option D:=iI nnC λi j=>.int (((i.toNat ||| j.toNat:Nat):Int)-((i.toNat &&& j.toNat:Nat):Int))
noncomputable def uN(key:EF)(ρ:cN):List D->Option (List D)
 |[]=>ab []
 |d::ds=>(key (ρ.set 0 (ab d))).bind λk=>(uN key ρ ds).map (k :: ·)
theorem yE:∀{ds ks:List D} {i:Nat} {d:D},uN key ρ ds=ab ks->ds[i]?=ab d ->∃k,ks[i]?=ab k/\key (ρ.set 0 (ab d))=ab k
 |[],ks,i,d,h,hd=>by cases hd
 |d0::ds,ks,i,d,h,hd=>by
  delta uN at h
  cases e:key (ρ.set 0 (ab d0)) with
  |none=>rw[e] at h;cases h
  |some k =>
   rw[e] at h
   cases e2:uN key ρ ds with
   |none=>rw[e2] at h;cases h
   |some r =>
    rw[e2] at h;cases h
    cases i with
    |zero=>cases hd;show⟨k,rfl,e⟩
    |succ i =>
     obtain⟨a,j,h2⟩:=yE (i:=i) (d:=d) e2 (by rw[kg] at hd;show hd);show⟨a,by rw[<- j];show kg,h2⟩
structure TO {α:Type} (lt:α->α->Bool):Prop where
 as:∀x y,lt x y=ae->lt y x=ag
 tr:∀x y z,lt x y=ag->lt y z=ag->lt x z=ag
 one:∀x y,lt x y=ag->lt y x=ag->x=y
theorem TO.GC{α:Type}{lt:α->α->Bool}(O:TO lt)(x:α):lt x x=ag:=by
 cases h:lt x x with
 |false=>rfl
 |true=>rw[O.as x x h] at h;cases h
noncomputable def M7{α:Type}(lt:α->α->Bool)(a:α):List α->List α
 |[]=>[a]
 |b::l=>if lt b a=ae then b::M7 lt a l else a::b::l
def lK{α:Type}(lt:α->α->Bool):List α->List α
 |[]=>[]
 |a::l=>M7 lt a (lK lt l)
section
variable{α:Type}{lt:α->α->Bool}
theorem qL(a:α):∀l:List α,(M7 lt a l).Perm (a::l)
 |[]=>.refl _
 |b::l=>by
  delta M7;split
  .exact ((qL a l).cons b).trans (.swap a b l)
  .exact .refl _
theorem eF:∀l:List α,(lK lt l).Perm l
 |[]=>.refl _
 |a::l=>(qL a _).trans ((eF l).cons a)
def UpB(lt:α->α->Bool)(l:List α):Prop:=l.Pairwise λa b=>lt b a=ag
theorem JR(O:TO lt)(a:α):∀l:List α,UpB lt l->UpB lt (M7 lt a l)
 |[],_=>a2b ..
 |b::l,h=>by
  obtain⟨j,h2⟩:=f_.1 h;delta M7;split
  .rename_i c;show f_.2 ⟨λx d=>?_,JR O a l h2⟩;rcases bu.1 ((qL a l).mem_iff.1 d) with rfl|d
   .exact O.as _ _ c
   .exact j x d
  .rename_i c;have c:lt b a=ag:=by simpa using c
   show f_.2 ⟨λx d=>?_,h⟩;rcases bu.1 d with rfl|d
   .exact c
   .exact O.tr x b a (j x d) c
theorem mO(O:TO lt):∀l:List α,UpB lt (lK lt l)
 |[]=>.nil
 |a::l=>JR O a _ (mO O l)
theorem tM(O:TO lt):∀{l m:List α},l.Perm m->UpB lt l->UpB lt m->l=m
 |[],m,p,_,_=>(a2d.1 p).symm
 |a::l,[],p,_,_=>by cases (Kl.1 p)
 |a::l,b::m,p,h,k=>by
  obtain⟨q,h2⟩:=f_.1 h;obtain⟨j,d⟩:=f_.1 k;have e:a=b:=by
   rcases bu.1 (p.mem_iff.1 (cz (a:=a) (l:=l))) with e|o
   .exact e
   rcases bu.1 (p.mem_iff.2 (cz (a:=b) (l:=m))) with e|n
   .exact e.symm
   show O.one a b (j a o) (q b n)
  subst e;rw[tM O (a3Z p) h2 d]
theorem W5(O:TO lt)(p:l.Perm m):lK lt l=lK lt m:=tM O (((eF l).trans p).trans (eF m).symm) (mO O l) (mO O m)
noncomputable def sS[DecidableEq α](lt:α->α->Bool):List α->List α->Bool
 |[],[]=>ag
 |[],_::_=>ae
 |_::_,[]=>ag
 |a::l,b::m=>if a=b then sS lt l m else lt a b
theorem AG[DecidableEq α](O:TO lt):TO (sS lt) where
 as:=λx=>by
  induction x with
  |nil=>intro y h;cases y with
   |nil=>cases h
   |cons b m=>rfl
  |cons a l ih=>intro y h;cases y with
   |nil=>cases h
   |cons b m =>
    delta sS at h ⊢;by_cases e:a=b
    .rw [Z_ e] at h;rw[Z_ e.symm];show ih m h
    .rw [Zz e] at h;rw[Zz (fz e)];show O.as a b h
 one:=λx=>by
  induction x with
  |nil=>intro y h k;cases y with
   |nil=>rfl
   |cons b m=>cases h
  |cons a l ih=>intro y h k;cases y with
   |nil=>cases k
   |cons b m =>
    delta sS at h k;by_cases e:a=b
    .rw [Z_ e] at h;rw[Z_ e.symm] at k;rw[e,ih m h k]
    .rw [Zz e] at h;rw[Zz (fz e)] at k;show Zw (O.one a b h k) e
 tr:=λx=>by
  induction x with
  |nil=>intro y z h k;cases y with
   |nil=>show k
   |cons b m=>cases h
  |cons a l ih=>intro y z h k;cases y with
   |nil=>cases z with
    |nil=>rfl
    |cons c n=>cases k
   |cons b m=>cases z with
    |nil=>rfl
    |cons c n =>
     delta sS at h k ⊢;by_cases e:a=b
     .subst e;rw[Z_ rfl] at h;by_cases f:a=c
      .rw [Z_ f] at k ⊢;show ih m n h k
      .rw [Zz f] at k ⊢;show k
     .rw [Zz e] at h;by_cases f:b=c
      .subst f;rw[Zz e];show h
      .rw [Zz f] at k;by_cases g:a=c
       .subst g;show Zw (O.one a b h k) e
       .rw [Zz g];show O.tr a b c h k
def iM{a:Type}[DecidableEq α](lt:α->α->Bool)(d:a->a->Bool)(x y:α×a):Bool:=if x.1=y.1 then d x.2 y.2 else lt x.1 y.1
theorem lL{a:Type}[DecidableEq α]{d:a->a->Bool}(O:TO lt)(P:TO d):TO (iM lt d) where
 as:=λx y h=>by
  delta iM at h ⊢;by_cases e:x.1=y.1
  .rw [Z_ e] at h;rw[Z_ e.symm];show P.as _ _ h
  .rw [Zz e] at h;rw[Zz (fz e)];show O.as _ _ h
 one:=λx y h k=>by
  delta iM at h k;by_cases e:x.1=y.1
  .rw [Z_ e] at h;rw[Z_ e.symm] at k;show a1H e (P.one _ _ h k)
  .rw [Zz e] at h;rw[Zz (fz e)] at k;show Zw (O.one _ _ h k) e
 tr:=λx y z h k=>by
  delta iM at h k ⊢;by_cases e:x.1=y.1
  .rw [Z_ e] at h;by_cases f:x.1=z.1
   .rw [Z_ f];rw[Z_ (e.symm.trans f)] at k;show P.tr _ _ _ h k
   .rw [Zz f];rw[Zz (λg=>f (e.trans g))] at k;rw[e];show k
  .rw [Zz e] at h;by_cases f:y.1=z.1
   .rw [Zz (λg=>e (g.trans f.symm)),<- f];show h
   .rw [Zz f] at k;by_cases g:x.1=z.1
    .rw [<- g] at k;show Zw (O.one _ _ h k) e
    .rw [Zz g];show O.tr _ _ _ h k
end
noncomputable def xJ{α:Type}(f:D->Option α):List D->Option (List α)
 |[]=>ab []
 |d::ds=>(f d).bind λx=>(xJ f ds).map (x :: ·)
theorem mP{α:Type}{f:D->Option α}{g:α->D}(h:∀d x,f d=ab x->d=g x):∀{ds:List D} {xs:List α},xJ f ds=ab xs->ds=xs.map g
 |[],_,e=>by cases e;rfl
 |d::ds,xs,e=>by delta xJ at e;obtain⟨x,e1,e⟩:=Option.bind_eq_some_iff.1 e;obtain⟨ys,a,rfl⟩:=jz.1 e;rw[bx,h d x e1,mP h a]
theorem oR{α:Type}{f:D->Option α}{g:α->D}(h:∀x,f (g x)=ab x):∀xs:List α,xJ f (xs.map g)=ab xs
 |[]=>rfl
 |x::xs=>by rw[bx,xJ,h,oR h xs];rfl
def AH{α:Type}(f:D->Option α)(g:α->D)(lt:α->α->Bool):List D->Option D
 |[.lst ds]=>(xJ f ds).bind λT=>if ⇑T<=5000 then ab (.lst ((lK lt T).map g)) else af
 |_=>af
abbrev GD(a b:Int):Bool:=Zv (a<b)
def lM:TO GD:=⟨λa b h=>by simp at h ⊢;lia,λa b c h k=>by simp at h k ⊢;lia,λa b h k=>by simp at h k;lia⟩
theorem JS:∀a b:Q0e,fN a b=sS GD a b
 |[],[]=>rfl
 |[],_::_=>rfl
 |_::_,[]=>rfl
 |a::l,b::m=>by rw[fN,sS,JS l m]
abbrev W6:=Int×List Int
abbrev W7(x:W6):D:=.tup [.int x.1,.tup (x.2.map D.int)]
def JT:D->Option W6
 |.tup [.int k,.tup a]=>(intsOf a).map λl=>(k,l)
 |_=>af
abbrev xK:W6->W6->Bool:=iM GD (sS GD)
abbrev GS:List D->Option D:=AH JT W7 xK
theorem AI:TO xK:=lL lM (AG lM)
noncomputable def W8{a:Type}(f:D->Option a):D->Option (Int×a)
 |.tup [.int k,e]=>(f e).map λb=>(k,b)
 |_=>af
def AJ{a:Type}[DecidableEq a](f:D->Option a)(g:a->D)(lt:a->a->Bool)(items:D->Option (List D))(fr:List Nat)(src key:EF):EF:=λρ=>(src ρ).bind λd=>(items d).bind λds=>(xJ f ds).bind λbs=>(uN key (benv 1 fr ρ) ds).bind λkd=>(xJ (W8 f) kd).bind λT =>
 if ⇑T<=5000/\T.map (·.2)=bs then ab (.lst ((lK (iM GD lt) T).map λt=>g t.2)) else af
def GU:D->Option (List Int)
 |.tup a=>intsOf a
 |_=>af
abbrev qz(l:Q0e):D:=.tup (l.map D.int)
abbrev AK(fr:List Nat)(src key:EF):EF:=AJ GU qz (sS GD) QM fr src key
def lN(k:Int)(ns:Q0e):Int:=if ns=[] then k else W4 ns
def JU:D->D->Option D
 |.tup ds,.int k=>(intsOf ds).bind λns=>ab (.int (lN k ns))
 |_,_=>af
def JV(t:TF)(R:sR)(a:AF)(j:Nat)(ρ:bC):Option (Bool×bC):=match t (bL ρ) with
 |some ag=>ab (ag,ρ)
 |some ae=>match stepM R a j ρ with
  |some (q,.bl b,kd)=>ab (b,ρ.set j (.ow (.a8 (adr q) kd.1 kd.2)))
  |_=>af
 |none=>af
def QQ(t:TF)(R:sR)(a:AF)(j:Nat)(f g:SF):SF:=λρ=>match JV t R a j ρ with
 |some (ae,ρ')=>f ρ'
 |some (ag,ρ')=>g ρ'
 |none=>.no
def An(j:Nat)(e:EF)(q:Nat->ay->Prop):bC->Option (D×KD):=λρ=>(AB ρ[j]?).bind λkd=>(e (gI ρ)).bind λd=>@ite _ (∀a o,kd.1 a o ->∃o2,q a o2) (qv _) (ab (d,kd.2)) af
def uO(n a:Nat)(b:SF)(e:EF)(q:Nat->ay->Prop)(ds:List D)(kd:KD):Option (D×KD):=if ⇑ds+1=a then(match b (startM n ds q kd) with
 |.nx ρ=>An (a-1) e q ρ
 |_=>af) else af
def C4(n a:Nat)(b:SF)(e:EF):sR:=λds kd=>@dite _ (∃r,∀q,uO n a b e q ds kd=ab r) (qv _) (λh=>.ok h.choose) λ_=>.no
def JW{n a:Nat}{b:SF}{e:EF}{ds:List D}{kd:KD}{r:D×KD}(h:C4 n a b e ds kd=.ok r)(q:Nat->ay->Prop):uO n a b e q ds kd=ab r:=by
 delta C4 at h;split at h
 .rename_i hx;cases h;show hx.choose_spec q
 .cases h
theorem W9{n a:Nat}{b:SF}{e:EF}{ds:List D}{kd:KD}{r:D×KD}(h:∀q,uO n a b e q ds kd=ab r):C4 n a b e ds kd=.ok r:=by have d:∃r,∀q,uO n a b e q ds kd=ab r:=⟨r,h⟩;delta C4;rw[dif_pos d];have e:=d.choose_spec hV;rw[h hV] at e;rw[dm e]
def M8:List D->D->Bool
 |[],.lst (.int _::ds)=>lD ds
 |.tup _::_,.lst (.int _::ds)=>lD ds
 |_,_=>ag
def C5(R:sR)(t:AF)(a j:Nat)(ρ:bC):Option ((Nat->ay->Prop)×D×KD):=(lG ρ[a]?).bind λd=>(t ((gI ρ).set a (ab (.lst d)))).bind λds=>(AB ρ[j]?).bind λkd=>match R ds kd.2 with
 |.ok r=>if M8 d r.1=ae/\lD r.2.2=ae then ab (kd.1,r) else af
 |_=>af
def uP(i:Nat)(h:TF)(R:sR)(t:AF)(a j:Nat)(e:EF):SF:=λρ=>match h (bL ρ) with
 |some ae=>match C5 R t a j ρ with
  |some r=>.nx ((ρ.set j (.ow (.a8 (adr r.1) r.2.2.1 r.2.2.2))).set i (.ro r.2.1))
  |none=>.no
 |some ag=>match e (gI ρ) with
  |some d=>.nx (ρ.set i (.ro d))
  |none=>.no
 |none=>.no
noncomputable def QR:List D->Option (List D)
 |[.lst xs,.tup ys]=>ab ((xs.zip ys).map λp=>.tup [p.1,p.2])
 |_=>af
def AL(t:AF):AF:=λρ=>(t ρ).bind QR
end L4
namespace Ord
structure Rows (rows:Q0a):Prop where
 up:∀(b:Nat) (r:Q0e),rows[b]?=ab r->r.Pairwise (·<·)
 rng:∀(b:Nat) (r:Q0e),rows[b]?=ab r ->∀a∈r,0<=a/\a<(⇑rows:Int)
 tr:∀(b a:Nat) (r v:Q0e),rows[b]?=ab r->(a:Int)∈r->rows[a]?=ab v ->∀c∈v,c∈r
 GC:∀(b:Nat) (r:Q0e),rows[b]?=ab r->(b:Int)∉r
theorem uQ{α:Type}:∀(l:List α) (j:Nat) (x:α),l[j]?=ab x->(x::l.eraseIdx j).Perm l
 |[],j,x,h=>by simp at h
 |a::l,0,x,h=>by simp at h;subst h;simp
 |a::l,j+1,x,h=>by have d:=uQ l j x ↑h;rw[List.eraseIdx_cons_succ];show(a3Y a x _).trans (d.cons a)
def AM{l:Q0e}(p:Int->Bool)(h:l.Nodup):(l.filter p).Nodup:=kr p h
def Under(d:Q0e)(us:Q0a)(t:Nat)(u:Q0e):Prop :=
 u.Nodup /\∀a∈u,∃(s:Nat) (v:Q0e),s<t/\d[s]?=ab a/\us[s]?=ab v /\∀c∈v,c∈u
def Good(a:Q0e)(us:Q0a):Prop:=∀(t:Nat) (u:Q0e),us[t]?=ab u->Under a us t u
def Under.mono(h:Under Ξ us t u)(m:t<=t'):Under Ξ us t' u :=
 ⟨h.1,λa d=>by obtain⟨s,v,n,h2,l,j⟩:=h.2 a d;show⟨s,v,∅,h2,l,j⟩⟩
def uR{d:Q0e}(h:d.Nodup){i j:Nat}{a:Int}(m:d[i]?=ab a)(l:d[j]?=ab a):i=j:=by obtain⟨o,e1⟩:=de.mp m;obtain⟨h2,n⟩:=de.mp l;show(a2j h).mp (e1.trans n.symm)
theorem Under.step{j:Q0e}{us:Q0a}{i:Nat}{u v:Q0e}{x:Int}(hw:j.Nodup)(g:Good j us)(h:Under j us i u)(A:j[i]?=ab x)(F:us[i]?=ab v):
  Under j us (i+1) (u++(v++[x]).filter λa=>!u.contains a):=by
 have o:=g i v F;have mem:∀c,c∈v++[x]->c∈u++(v++[x]).filter λa=>!u.contains a:=λc d=>by
  by_cases I:c∈u
  .exact lh _ I
  .exact ir _ (gi.mpr ⟨d,↑I⟩)
 have J:(v++[x]).Nodup:=by show tq.mpr ⟨o.1,by simp,λa m b l e=>?_⟩;have l:=dh.mp l;subst l;subst e;obtain⟨s,_,n,h2,_⟩:=o.2 a m;have:=uR hw h2 A;lia
 show⟨tq.mpr ⟨h.1,AM _ J,λa m b l e=>?_⟩,λa m=>?_⟩
 .subst e;have:=(gi.mp l).2;simp at this;show this m
 .rcases ie.mp m with n|n
  .obtain ⟨s,z,K,y,q,p⟩:=h.2 a n;show⟨s,z,∅,y,q,λc d=>lh _ (p c d)⟩
  .rcases ie.mp (gi.mp n).1 with h2|h2
   .obtain ⟨s,z,K,y,q,p⟩:=o.2 a h2;show⟨s,z,∅,y,q,λc d=>mem c (lh _ (p c d))⟩
   .have e:=dh.mp h2;subst e;show⟨i,v,∅,A,F,λc d=>mem c (lh _ d)⟩
def Good.snoc(g:Good Ξ us)(h:Under Ξ us ⇑us u):Good Ξ (us++[u]):=λt z e=>by
 have old:∀{s:Nat} {v:Q0e},us[s]?=ab v->(us++[u])[s]?=ab v:=λ{s v} e=>by rw[kh (de.mp e).1];show e
 have up:∀{t:Nat} {z:Q0e},Under Ξ us t z->Under Ξ (us++[u]) t z:=λ{t z} q=>⟨q.1,λa j=>by obtain⟨s,v,p,o,n,m⟩:=q.2 a j;show⟨s,v,p,o,old n,m⟩⟩;by_cases d:t<⇑us
 .rw [kh d] at e;show up (g t z e)
 .have l:t=⇑us:=by have:=(de.mp e).1;simp at this;lia
  subst l;rw[ji (bq _),Cn] at e;have e:u=z:=by simpa using e
  subst e;show up h
theorem Good.rows{d:Q0e}{us rows:Q0a}{n:Nat}(g:Good d us)(hu:⇑us=n)(hw:d.Perm ((cj n).map λk:Nat=>(k:Int)))(hr:⇑rows=n)
  (h:∀(b t:Nat) (r u:Q0e),rows[b]?=ab r->d[t]?=ab (b:Int)->us[t]?=ab u->r.Perm u/\r.Pairwise (· <= ·)):Rows rows:=by
 have nd:d.Nodup:=hw.nodup_iff.mpr (by
  show yh _ (λa b y=>?_) a2c;intro e;show y ∅)
 have find:∀(b:Nat),b<n ->∃t u,d[t]?=ab (b:Int)/\us[t]?=ab u:=λb o=>by
  have x:(b:Int)∈d:=hw.mem_iff.mpr (gx.mpr ⟨b,k_.mpr o,rfl⟩);obtain⟨t,F⟩:=Cr.mp x;have hl:⇑d=n:=by rw[hw.length_eq,bb,jt]
  have:=(de.mp F).1;show⟨t,us[t]'∅,F,cn ∅⟩
 have row:∀(b:Nat) (r:Q0e),rows[b]?=ab r ->∃t u,d[t]?=ab (b:Int)/\us[t]?=ab u/\r.Perm u/\r.Pairwise (· <= ·):=λb r e=>by have o:=(de.mp e).1;obtain⟨t,u,l,h2⟩:=find b ∅;show⟨t,u,l,h2,h b t r u e l h2⟩
 show⟨λb r e=>?_,λb r e a A=>?_,λb a r v e A ev c X=>?_,λb r e o=>?_⟩
 .obtain ⟨t,u,l,h2,j,p⟩:=row b r e;have J:r.Nodup:=j.nodup_iff.mpr (g t u h2).1;show(List.pairwise_and_iff.mpr ⟨p,J⟩).imp λq=>by have:=q.1;have:=q.2;lia
 .obtain ⟨t,u,l,h2,j,p⟩:=row b r e;obtain⟨s,z,_,m,_⟩:=(g t u h2).2 a (j.mem_iff.mp A);have x:=hw.mem_iff.mp (j_ m);obtain⟨k,U,rfl⟩:=gx.mp x;have:=k_.mp U;lia
 .obtain ⟨t,u,l,h2,j,p⟩:=row b r e;obtain⟨t2,u2,O,L,K,k4⟩:=row a v ev;obtain⟨s,z,_,m,I,Z⟩:=(g t u h2).2 _ (j.mem_iff.mp A);have Y:=uR nd m O;subst Y;rw[L] at I;cases I;show j.mem_iff.mpr (Z c (K.mem_iff.mp X))
 .obtain ⟨t,u,l,h2,j,p⟩:=row b r e;obtain⟨s,z,a1,m,_⟩:=(g t u h2).2 _ (j.mem_iff.mp o);have:=uR nd m l;lia
noncomputable def tri:Nat->Nat
 |0=>0
 |j+1=>tri j+j
theorem QS(h:i<=j):tri i<=tri j:=by
 induction h with
 |refl=>show bq _
 |step _ ih=>show jb ih (ou _ _)
def aBZ(a:j<n)(d:i<j):tri j+i<tri n:=by have:=QS (show j+1<=n by lia);show tri j+i<tri n;have e:tri (j+1)=tri j+j:=rfl;lia
theorem gJ:∀(l m:Q0e),l.Nodup->(∀a∈l,a∈m)->⇑l<=⇑m
 |[],m,_,_=>ic _
 |a::l,m,h,hs=>by
  obtain⟨o,h2⟩:=kq.mp h;have j:=hs a cz;have n:=gJ l (m.erase a) h2 λb d=>by have:b≠a:=λe=>o (e▸d);show(List.mem_erase_of_ne this).mpr (hs b (fq _ d))
  rw[a2h j] at n;have:0<⇑m:=List.length_pos_of_mem j;rw[eg];lia
end Ord
namespace LL
open L3 L4
def iN:kE:=c8 2 2
  (aK (g8 (tV (aC oM (cL cJ (bO 0)) (eI 0)))
   (b8 (eI 0))
   dW)
  (b8 (aC eB bY (aC jT cP (cL cJ (bO 0))))))
def iC:kE:=c8 5 3
  (aK (bH 3 (aC jT (aC mulM (aC dH (aC dH (aC dH bY (aC mulM (aC mulM (eI 11) cP) cP)) (aC mulM (eI 17) cP)) fH) (eI 48271)) (eI 2147483647)))
  (aK (bH 4 (aC jT (aC dH (aC dH (aC mulM m7 (aC dH (aC sP m7 (eI 4096)) (eI 5))) (aC mulM (eI 29) cP)) fH) (eI 2147483629)))
  (b8 (aC jT (aC mulM i9 (eI 39373)) (eI 1000000007)))))
def gK:kE:=c8 6 3
  (aK (jM 3 (eQ aG))
  (aK (bH 4 (eI 0))
  (aK (g8 (tV (aC geM bY (aC As (eI 10) (eI 18))))
   (bH 4 bY)
   dW)
  (aK (fB (bG (bO 1)) (rS 5)
   (g8 (tV (aC CQ i9 (eI 0)))
    (aK (sX (m9 3 g4 (a9 (aC jT i9 (eI 64)))))
    (bH 4 (aC sP i9 (eI 64))))
    (sX (m9 3 g4 (a9 (aO LL.iC (aA bY (aA nL (bO 2)))))))))
  (b8 m7)))))
def eE:Nat->kE
 |0=>λ_=>.no
 |n+1=>c8 2 2
  (aK (g8 (tV (iJ "tuple" cP))
   (aK (g8 (MT (m8 (tV (iJ "tuple" bY))) (tV (aC QF (cL cJ (bO 0)) (cL cJ (bO 1)))))
    (b8 (eC (.bl ag)))
    dW)
   (b8 (cL allM (aA (bE 1 [0,1] (bG (aA (cL cJ (bO 1)) aG)) (g1 0) bQ (aO (eE n) (aA (aC eB cP bY) (aA (aC eB fH bY) aG)))) aG))))
   dW)
  (aK (g8 (tV (aC W0 cP (eC .non)))
   (b8 (aC W0 bY (eC .non)))
   dW)
  (aK (g8 (tV (iJ "bool" cP))
   (b8 (kF (iJ "bool" bY) (aC oM bY cP)))
   dW)
  (aK (g8 (tV (iJ "int" cP))
   (b8 (kF (iJ "int" bY) (kF (qH (iJ "bool" bY)) (aC oM bY cP))))
   dW)
  (b8 (kF (iJ "str" bY) (aC oM bY cP)))))))
def jU:kE:=c8 11 3
  (aK (jM 3 (GN (bO 1)))
  (aK (jM 4 (eQ aG))
  (aK (fB (bG (bO 1)) (rS 5)
   (sX (m9 4 g4 (m9 3 W2 (QG (aC jT (aC eB bY nL) (cL cJ (bO 3))))))))
  (aK (CZ 6)
  (aK (bH 7 cP)
  (aK (fB (bG (bO 1)) (rS 8)
   (aK (bH 9 (eQ aG))
   (aK (fB (bG (bO 8)) (rS 10)
    (aK (g8 (tV (aC ltM (aC jT (aC eB bY q_) (eI 4)) fH))
     (uI 9 (aC MU yx (bE 1 [9] (bV (aC dH (aC uG QE (aC eB i9 CU)) (eQ (aA (aC eB i9 CU) aG)))) (g1 0) (tV (aC (uE ae) bY cP)) bY)))
     dW)
    (bH 7 (aC dH q_ (eI 1)))))
   (JM 6 (a9 yx) (aC eB i9 Nb)))))
  (b8 (cL dU (aA (bE 1 [6] (bG (bO 1)) (g1 0) bQ (cL dU (aA (cL jD (aA (aC uG cP bY) aG)) aG))) aG)))))))))
def mQ:kE:=c8 7 4
  (aK (bH 4 (aO LL.gK (aA (aO LL.iN (aA bY (bO 1))) (aA (eI 4) (bO 3)))))
  (aK (bH 5 (aC jT (aC eB i9 (eI 0)) (aC dH fH (eI 1))))
  (aK (bH 6 (aO LL.gK (aA (aO LL.iN (aA bY (aA (aC dH cP (eI 1)) aG))) (aA (aC dH nL (aC sP (aC mulM nL (aC qI nL (eI 1))) (eI 2))) (aA (aC dH m7 (eI 10007)) aG)))))
  (b8 (aO LL.jU (aA QE (aA nL (aA (aC eB (eQ (aA (eI 1) (aA (eI 1) (aA (eI 2) (aA (eI 2) (aA (eI 3) (aA (eI 1) (aA (eI 0) (aA (eI 4) aG))))))))) (aC jT (aC eB i9 (eI 1)) (eI 8))) aG))))))))
def τ(xs:Q0e):D:=.tup (xs.map D.int)
def aB(xs:Q0e):D:=.lst (xs.map D.int)
def aF(rows:Q0a):D:=.tup (rows.map τ)
def iO:dH (.int i) (.int j)=ab (.int (i+j)):=rfl
def oS:qI (.int i) (.int j)=ab (.int (i-j)):=rfl
def dJ(h:0<j):jT (.int i) (.int j)=ab (.int (i%j)):=by simp[jT,iI,h]
def lO(h:0<j)(h2:j<1073741824):sP (.int i) (.int j)=ab (.int (i/j)):=by simp[sP,iI,h,show j.natAbs<1073741824 by lia]
def tN:ltM (.int i) (.int j)=ab (.bl (Zv (i<j))):=rfl
def tP:leM (.int i) (.int j)=ab (.bl (Zv (i<=j))):=rfl
def oU:CQ (.int i) (.int j)=ab (.bl (Zv (j<i))):=rfl
def AN:geM (.int i) (.int j)=ab (.bl (Zv (j<=i))):=rfl
def gS:oM (.int i) (.int j)=ab (.bl (Zv (i=j))):=rfl
def mR:QF (.int i) (.int j)=ab (.bl (!Zv (i=j))):=rfl
def qM:oM (.bl i) (.bl j)=ab (.bl (Zv (i=j))):=rfl
def mS:oM (.str i) (.str j)=ab (.bl (Zv (i=j))):=rfl
def AO:W0 d .non=ab (.bl (uD d)):=rfl
def jF:eB (.lst a) (.int i)=sQ a i:=rfl
def oV:eB (.tup a) (.int i)=sQ a i:=rfl
def AQ:eB (.k6 a) (.int i)=(sQ a i).map D.int:=rfl
def lP:cJ [.lst a]=ab (.int ⇑a):=rfl
def fI:cJ [.tup a]=ab (.int ⇑a):=rfl
def uS:cJ [.k6 a]=ab (.int ⇑a):=rfl
def iP:dU [.lst a]=ab (.tup a):=rfl
def nR:dU [.tup a]=ab (.tup a):=rfl
def qN:yA [.lst a]=ab (.lst a):=rfl
def qO:yA [.tup a]=ab (.lst a):=rfl
def qP:CW (.lst a)=ab a:=rfl
def qQ:CW (.tup a)=ab a:=rfl
def jV:lE (.bl b)=ab b:=rfl
def nU:lE (.lst b)=ab (!b.isEmpty):=rfl
def nV:lE (.tup b)=ab (!b.isEmpty):=rfl
def oW:rR (.bl b)=ab b:=rfl
def tQ(h:⇑ds<16777216):g4 ds d=ab (ds++[d],.non):=Z_ h
def XA(h:⇑ds+⇑es<=16777216):MX ds (.lst es)=ab (ds++es,.non):=Z_ h
def qR:JK [.tup ds]=ab (ds.zipIdx.map λp=>.tup [.int (p.2:Int),p.1]):=rfl
def qS:JK [.lst ds]=ab (ds.zipIdx.map λp=>.tup [.int (p.2:Int),p.1]):=rfl
def uT:Aq [.tup ds]=ab ds.reverse:=rfl
def uU:Aq [.lst ds]=ab ds.reverse:=rfl
def XB(h:t ρ=ab ds)(a:⇑ds<=16777216):hJ t ρ=ab (.tup ds):=by delta hJ;rw[h];show Z_ a
def fO(a:⇑ds=np)(h:b (eG n ds)=.rt d):c8 n np b ds=.ok d:=by delta c8;rw[Z_ a,h]
def bX(a:bC)(d:f ρ=.nx a)(h2:g a=o):aK f g ρ=o:=by delta aK;rw[d];show h2
def AR(a:f ρ=.rt d):aK f g ρ=.rt d:=by delta aK;rw[a]
def f7(h:f (bL ρ)=ab d):b8 f ρ=.rt d:=by delta b8;rw[h]
def fF(d:D)(h:f (gI ρ)=ab d)(a:ρ.set i (.ro d)=ρ'):bH i f ρ=.nx ρ':=by delta bH;rw[h,<- a]
def M9(h:t (bL ρ)=ab ae)(h2:a ρ=o):g8 t a b ρ=o:=by delta g8;rw[h];show h2
def oN(h:t (bL ρ)=ab ag)(h2:b ρ=o):g8 t a b ρ=o:=by delta g8;rw[h];show h2
def XD(ds:List D)(h:it (gI ρ)=ab ds)(h2:g9 g b ds ρ=o):fB it g b ρ=o:=by delta fB;rw[h];show h2
def dZ(ds:List D)(h:it ρ=ab ds)(a:⇑ds<=16777216)(h2:iK g t e (benv nl fr ρ) ds=ab ys):bE nl fr it g t e ρ=ab (.lst ys):=by delta bE;rw[h];show(if ⇑ds<=k7 then _ else _)=_;rw[Z_ (show ⇑ds<=k7 from a),h2];rfl
def oX(h:⇑a+⇑b<=16777216):dH (.lst a) (.lst b)=ab (.lst (a++b)):=Z_ h
def C6(h:⇑a+⇑b<=16777216):dH (.tup a) (.tup b)=ab (.tup (a++b)):=Z_ h
def QT(h:⇑a+⇑b<=16777216):MU (.lst a) (.lst b)=ab (.lst (a++b)):=Z_ h
def qT(h:i.natAbs<18446744073709551616):mulM (.int i) (.int j)=ab (.int (i*j)):=by simp[mulM,iI,uC,h]
def AS(h:j.natAbs<18446744073709551616):mulM (.int i) (.int j)=ab (.int (i*j)):=by simp[mulM,iI,uC,h]
def C7(h:j.natAbs<4611686018427387904):GO [.int j]=ab ((aQ 0 j.toNat).map D.int):=Z_ h
def oY{n:Nat}(h:n<4611686018427387904):GO [.int (n:Int)]=ab ((aQ 0 n).map D.int):=by rw[C7 ∅];rfl
theorem bP:∀ns:Q0e,intsOf (ns.map D.int)=ab ns
 |[]=>rfl
 |n::ns=>by simp[intsOf,bP ns]
def oZ{neg:Bool}{i:Int}{ns:Q0e}:uE neg (.int i) (.tup (ns.map D.int))=ab (.bl (if neg then !ns.contains i else ns.contains i)):=by simp[uE,bP]
def AU{neg:Bool}{i:Int}{ns:Q0e}:uE neg (.int i) (.lst (ns.map D.int))=ab (.bl (if neg then !ns.contains i else ns.contains i)):=by simp[uE,bP]
def sorted_ints(h:⇑ns<64):jD [.lst (ns.map D.int)]=ab (.lst ((sortI ns).map D.int)):=by simp[jD,bP,h]
def sum_ints{ns:Q0e}:xH [.lst (ns.map D.int)]=ab (.int ns.sum):=by simp[xH,bP]
theorem qU:∀bs:List Bool,nM (bs.map D.bl)=ab bs
 |[]=>rfl
 |b::bs=>by simp[nM,lE,qU bs]
def pA{bs:List Bool}:allM [.lst (bs.map D.bl)]=ab (.bl (bs.all id)):=by simp[allM,qU]
def JX{bs:List Bool}:anyM [.lst (bs.map D.bl)]=ab (.bl (bs.any id)):=by simp[anyM,qU]
def uV{n:Nat}{i:Int}(d:0<=i)(a:i<n):P7 n i=ab i.toNat:=by delta P7;rw[Z_ d,Z_ a]
def XE(h:k<n):P7 n (k:Int)=ab k:=by rw[uV ∅ ∅];rfl
def XG{α:Type}{xs:List α}{k:Nat}(h:k<⇑xs):sQ xs (k:Int)=xs[k]?:=by delta sQ;rw[XE h];rfl
def AV{α:Type}{xs:List α}{i:Int}(h:0<=i)(d:i<⇑xs):∃x∈xs,sQ xs i=ab x/\xs[i.toNat]?=ab x:=by
 have a:i.toNat<⇑xs:=∅
 show⟨xs[i.toNat],yb a,?_,by simp[a]⟩;delta sQ;rw[uV h d];simp[a]
theorem tR{α a:Type}(f:α->a)(xs:List α)(i:Int):sQ (xs.map f) i=(sQ xs i).map f:=by
 delta sQ;rw[bb]
 cases P7 ⇑xs i with
 |none=>rfl
 |some j=>simp
def mT{α:Type}{xs:List α}{k:Nat}{x:α}(h:xs[k]?=ab x):sQ xs (k:Int)=ab x:=by rw[XG (de.mp h).1,h]
def aJ(lo:Int)(n:Nat):⇑(aQ lo n)=n:=by simp[aQ]
def fJ(h:i<n):(aQ lo n)[i]?=ab (lo+(i:Int)):=by simp[aQ,h]
def yF(lo:Int)(n:Nat):aQ lo (n+1)=aQ lo n++[lo+(n:Int)]:=by simp[aQ,Cq]
def aX:x∈aQ lo n↔lo<=x/\x<lo+n:=by
 delta aQ;rw[gx];erw[k_]
 constructor
 .rintro ⟨k,a,rfl⟩;lia
 .rintro ⟨d,h2⟩;show⟨(x-lo).toNat,∅,∅⟩
theorem C8(P:Nat->bC->Prop)(ds:List D)(y:P 0 ρ)(step:∀(i:Nat) (d:D) (ρ:bC),ds[i]?=ab d->P i ρ ->∃ρ1 j,g d ρ=ab ρ1/\b ρ1=.nx j/\P (i+1) j):
  ∃a,g9 g b ds ρ=.nx a/\P ⇑ds a:=by
 suffices H:∀(l:List D) (k:Nat) (ρ:bC),ds.drop k=l->k<=⇑ds->P k ρ ->∃a,g9 g b l ρ=.nx a/\P ⇑ds a from H ds 0 ρ (by simp) (ic _) y
 intro l
 induction l with
 |nil =>
  intro k ρ m q p;have:⇑ds<=k:=by simpa using m
  show⟨ρ,rfl,by rwa [show ⇑ds=k by lia]⟩
 |cons d l ih =>
  intro k ρ m q p;have n:k<⇑ds:=by apply qc;intro h;rw[vw ∅] at m;cases m
  have v:ds[k]?=ab d:=by have:=congrArg (λx=>x[0]?) m;simpa using this
  obtain⟨ρ1,j,e1,A,p2⟩:=step k d ρ v p;have o:ds.drop (k+1)=l:=by rw[nu n] at m;show(a3X m).2
  obtain⟨a,z,p3⟩:=ih (k+1) j o n p2;show⟨a,by erw[g9,e1,A,z],p3⟩
theorem QU(P:Nat->bC->Prop)(lo:Int)(n:Nat)(o:P 0 ρ)(step:∀(i:Nat) (ρ:bC),i<n->P i ρ ->∃ρ1 a,g (.int (lo+(i:Int))) ρ=ab ρ1/\b ρ1=.nx a/\P (i+1) a):
  ∃h,g9 g b ((aQ lo n).map D.int) ρ=.nx h/\P n h:=by
 have:=C8 (g:=g) (b:=b) P ((aQ lo n).map D.int) o λi d ρ j m=>by
  have l:i<n:=by have:=(de.mp j).1;simpa[aJ] using this
  rw[c_,fJ l] at j;cases j;show step i ρ l m
 simpa[aJ] using this
theorem yG{α:Type}(mk:α->D)(f:α->D)(l:List α)(h:∀a∈l,(g (mk a) ρ).bind e=ab (f a)):iK g bQ e ρ (l.map mk)=ab (l.map f):=by
 induction l with
 |nil=>rfl
 |cons a l ih =>
  have d:=h a (by simp);have h2:=ih λx m=>h x (by simp[m])
  cases hg:g (mk a) ρ with
  |none=>rw[hg] at d;cases d
  |some ρ1 =>
   rw[hg] at d;have j:e ρ1=ab (f a):=d;erw[bx,iK,hg,fg,bQ,if_true,j,h2,vi]
def bM{α:Type}(mk:α->D)(f:α->D)(l:List α)(h:∀a∈l,∃ρ1,g (mk a) ρ=ab ρ1/\e ρ1=ab (f a)):iK g bQ e ρ (l.map mk)=ab (l.map f) :=
 yG mk f l λa d=>by obtain⟨ρ1,j,h2⟩:=h a d;rw[j];show h2
theorem fQ{α:Type}(mk:α->D)(p:α->Bool)(f:α->D)(l:List α)(h:∀a∈l,∃ρ1,g (mk a) ρ=ab ρ1/\t ρ1=ab (p a)/\(p a=ae->e ρ1=ab (f a))):
  iK g t e ρ (l.map mk)=ab ((l.filter p).map f):=by
 induction l with
 |nil=>rfl
 |cons a l d =>
  obtain⟨ρ1,j,h2,n⟩:=h a (by simp);have d:=d λx m=>h x (by simp[m])
  cases hp:p a with
  |false=>simp[iK,j,h2,hp,d]
  |true=>simp[iK,j,h2,hp,n hp,d]
theorem QV{α j:Type}(mk:α->D)(out:j->D)(R:α->j->Prop)(l:List α)(h:∀a∈l,∃ρ1 b,g (mk a) ρ=ab ρ1/\e ρ1=ab (out b)/\R a b):
  ∃bs:List j,⇑bs=⇑l/\(∀(i:Nat) (a:α) (b:j),l[i]?=ab a->bs[i]?=ab b->R a b)/\iK g bQ e ρ (l.map mk)=ab (bs.map out):=by
 induction l with
 |nil=>show⟨[],rfl,λi a b h=>by simp at h,rfl⟩
 |cons a l ih =>
  obtain⟨ρ1,b,v,h2,q⟩:=h a (by simp);obtain⟨bs,o,n,p⟩:=ih λx d=>h x (by simp[d]);show⟨b::bs,by simp[o],λi x y d m=>?_,by simp[iK,v,h2,p,bQ]⟩
  cases i with
  |zero=>simp at d m;subst d m;show q
  |succ i=>show n i x y ↑d ↑m
def Rt(o:Out)(Q:D->Prop):Prop:=∃d,o=.rt d/\Q d
def Nx(o:Out)(Q:bC->Prop):Prop:=∃ρ,o=.nx ρ/\Q ρ
def iQ(M:bC->Prop)(d:Nx (f ρ) M)(h2:∀a,M a->Rt (g a) Q):Rt (aK f g ρ) Q:=by obtain⟨a,e,m⟩:=d;delta aK;rw[e];show h2 a m
def uW(M:bC->Prop)(d:Nx (f ρ) M)(h2:∀a,M a->Nx (g a) Q):Nx (aK f g ρ) Q:=by obtain⟨a,e,m⟩:=d;delta aK;rw[e];show h2 a m
def bJ(a:bC)(d:f ρ=.nx a)(h2:Rt (g a) Q):Rt (aK f g ρ) Q:=by delta aK;rw[d];show h2
def kH(a:bC)(d:f ρ=.nx a)(h2:Nx (g a) Q):Nx (aK f g ρ) Q:=by delta aK;rw[d];show h2
def JY(a:Rt (f ρ) Q):Rt (aK f g ρ) Q:=by obtain⟨d,e,m⟩:=a;delta aK;rw[e];show⟨d,rfl,m⟩
def Hk(c:Bool)(h:t (bL ρ)=ab c)(d:c=ae->Rt (a ρ) Q)(h2:c=ag->Rt (b ρ) Q):Rt (g8 t a b ρ) Q:=by delta g8;rw[h];cases c;show h2 rfl;show d rfl
def uX(c:Bool)(h:t (bL ρ)=ab c)(d:c=ae->Nx (a ρ) Q)(h2:c=ag->Nx (b ρ) Q):Nx (g8 t a b ρ) Q:=by delta g8;rw[h];cases c;show h2 rfl;show d rfl
def iR(d:D)(h:f (bL ρ)=ab d)(q:Q d):Rt (b8 f ρ) Q:=⟨d,f7 h,q⟩
def lQ(d:D)(h:f (gI ρ)=ab d)(q:Q (ρ.set i (.ro d))):Nx (bH i f ρ) Q:=⟨_,fF d h rfl,q⟩
def nW(q:Q ρ):Nx (dW ρ) Q:=⟨ρ,rfl,q⟩
theorem qV(ds:List D)(P:Nat->bC->Prop)(h:it (gI ρ)=ab ds)(n:P 0 ρ)(step:∀(i:Nat) (d:D) (ρ:bC),ds[i]?=ab d->P i ρ ->∃ρ1,g d ρ=ab ρ1/\Nx (b ρ1) (P (i+1)))
  (fin:∀a,P ⇑ds a->Q a):Nx (fB it g b ρ) Q:=by
 obtain⟨a,e,p⟩:=C8 (g:=g) (b:=b) P ds n λi d ρ m l=>by obtain⟨ρ1,e1,j,o,p2⟩:=step i d ρ m l;show⟨ρ1,j,e1,o,p2⟩
 show⟨a,XD ds h e,fin a p⟩
theorem kJ{t:AF}{g:GSF}{b:SF}{ρ:bC}{Q:bC->Prop}(n:Nat)(P:Nat->bC->Prop)(h:t (gI ρ)=ab [.int (n:Int)])(o:n<4611686018427387904)(v:P 0 ρ)(step:∀(i:Nat) (ρ:bC),i<n->P i ρ ->∃ρ1,g (.int (i:Int)) ρ=ab ρ1/\Nx (b ρ1) (P (i+1)))
  (fin:∀a,P n a->Q a):Nx (fB (bG t) g b ρ) Q:=by
 show qV ((aQ 0 n).map D.int) P (by delta bG;rw[h,fg,oY o]) v (λi d ρ j m=>?_) (λa p=>fin a (by simpa[aJ] using p));have l:i<n:=by have:=(de.mp j).1;simpa[aJ] using this
 rw[c_,fJ l] at j;have j:D.int (0+(i:Int))=d:=by simpa using j
 subst j;obtain⟨ρ1,e,q⟩:=step i ρ l m;show⟨ρ1,by rw[ju];show e,q⟩
def uY(a:⇑ds=np)(h:Rt (b (eG n ds)) Q):∃d,c8 n np b ds=.ok d/\Q d:=by obtain⟨d,e,q⟩:=h;show⟨d,fO a e,q⟩
theorem yH:∀(l:Q0e) (j:Nat),(l.map D.int).eraseIdx j=(l.eraseIdx j).map D.int
 |[],j=>by simp
 |a::l,0=>by simp
 |a::l,j+1=>by simp[yH l j]
def cK(j:a ρ=ab x)(d:b ρ=ab y)(h:g x y=z):aC g a b ρ=z:=by delta aC;rw[j,d];show h
def binI{g:D->D->Option D}{d a:EF}{ρ:cN}{x y:Int}{z:Option D}(j:d ρ=ab (.int x))(h2:a ρ=ab (.int y))(h:g (.int x) (.int y)=z):aC g d a ρ=z:=cK j h2 h
def cZ(d:a ρ=ab x)(h:g [x]=z):cL g (aA a aG) ρ=z:=by delta cL aA aG;rw[d];show h
def Wb(j:a ρ=ab x)(d:b ρ=ab y)(h:g [x,y]=z):cL g (aA a (aA b aG)) ρ=z:=by delta cL aA aG;rw[j,d];show h
def fG(j:a ρ=ab x)(h:f [x]=.ok d):aO f (aA a aG) ρ=ab d:=by delta aO;(try delta bO);delta aA aG;rw[j];show CV (f [x])=_;rw[h];rfl
def dO(l:a ρ=ab x)(j:b ρ=ab y)(h:f [x,y]=.ok d):aO f (aA a (aA b aG)) ρ=ab d:=by delta aO;(try delta bO);delta aA aG;rw[l,j];show CV (f [x,y])=_;rw[h];rfl
def nX(m:a ρ=ab x)(l:b ρ=ab y)(j:c ρ=ab z)(h:f [x,y,z]=.ok d):aO f (aA a (aA b (aA c aG))) ρ=ab d:=by delta aO;(try delta bO);delta aA aG;rw[m,l,j];show CV (f [x,y,z])=_;rw[h];rfl
def QW(n:a ρ=ab x)(m:b ρ=ab y)(l:c ρ=ab z)(j:e ρ=ab w)(h:f [x,y,z,w]=.ok d):aO f (aA a (aA b (aA c (aA e aG)))) ρ=ab d:=by delta aO;(try delta bO);delta aA aG;rw[n,m,l,j];show CV (f [x,y,z,w])=_;rw[h];rfl
def args1(d:a ρ=ab x):aA a aG ρ=ab [x]:=by delta aA aG;rw[d];rfl
def args2(h:a ρ=ab x)(d:b ρ=ab y):aA a (aA b aG) ρ=ab [x,y]:=by delta aA aG;rw[h,d];rfl
def yI{a:EF}{ρ:cN}{n:Nat}(h:a ρ=ab (.int (n:Int)))(d:n<4611686018427387904):bG (aA a aG) ρ=ab ((aQ 0 n).map D.int):=by delta bG;rw[args1 h,fg,oY d]
def aEO(m:a ρ=ab (.int i))(l:b ρ=ab (.int j))(h:i.natAbs<4611686018427387904)(d:j.natAbs<4611686018427387904):bG (aA a (aA b aG)) ρ=ab ((aQ i (j-i).toNat).map D.int):=by delta bG;rw[args2 m l,fg];show Z_ ⟨h,d⟩
def nA(h:f ρ=ab d)(a:lE d=ab b):tV f ρ=ab b:=by delta tV;rw[h];show a
def tnE(h:t ρ=ab b)(a:(!b)=c):m8 t ρ=ab c:=by delta m8;rw[h,<- a];rfl
def aEP(h:t ρ=ab b)(h2:b=ae->u ρ=ab c)(a:b=ag->c=ag):AA t u ρ=ab c:=by
 delta AA;rw[h];cases b
 .rw [a rfl];rfl
 .exact h2 rfl
def XH(h:t ρ=ab b)(h2:b=ag->u ρ=ab c)(a:b=ae->c=ae):MT t u ρ=ab c:=by
 delta MT;rw[h];cases b
 .exact h2 rfl
 .rw [a rfl];rfl
def XI{l:Q0e}{i:Int}{y:Int}(h:0<=i)(d:i<⇑l)(h2:⇑l<=16777216)(a:l[i.toNat]?=ab y):W2 (l.map D.int) (.int i)=ab ((l.eraseIdx i.toNat).map D.int,.int y):=by show(if i.natAbs<9223372036854775808 then _ else _)=_;rw[Z_ ∅,bb,uV h d,fg,c_,a,yH];rfl
def gT{ws:Q0e}{j:Nat}{x:Int}(h:ws[j]?=ab x):sQ (ws.map D.int) (j:Int)=ab (.int x):=by rw[tR,mT h];rfl
def QX{α:Type}{l:List α}{i j:Nat}{x:α}(h:l[i]?=ab x)(a:i<j):(l.take j)[i]?=ab x:=by rw[Kx a];show h
theorem qW:∀ns:Q0e,lD (ns.map D.int)=ae
 |[]=>rfl
 |n::ns=>by rw[bx,lD,qW ns];rfl
def nY:jC (q::ks) (d::ds) k=if q=k then ab d else jC ks ds k:=by
 by_cases e:q=k
 .simp [jC,e]
 .simp [jC,e]
theorem qX:∀{d:Q0e} {us:Q0a} {i:Nat} {x:Int} {v:Q0e},d.Nodup->d[i]?=ab x->us[i]?=ab v->jC (d.map dq) (us.map aB) (dq x)=ab (aB v)
 |[],us,i,x,v,_,h,_=>by simp at h
 |w::ws,[],i,x,v,_,_,h=>by simp at h
 |w::ws,u::us,0,x,v,_,h1,h2=>by simp at h1 h2;subst h1 h2;rw[bx,bx,nY,Z_ rfl]
 |w::ws,u::us,i+1,x,v,hn,h1,h2=>by
  obtain⟨m,l⟩:=kq.mp hn;have a:ws[i]?=ab x:=by simpa using h1
  have j:(dq w:Sum Int aj)≠dq x:=λe=>m (by cases e;show j_ a);rw[bx,bx,nY,Zz j];show qX l a ↑h2
theorem yJ:∀{a:Q0e} {us:Q0a} {x:Int},x∉a->jC (a.map dq) (us.map aB) (dq x)=af
 |[],us,x,_=>by simp[jC]
 |w::ws,[],x,_=>by simp[jC]
 |w::ws,u::us,x,h=>by have d:(dq w:Sum Int aj)≠dq x:=λe=>h (by cases e;show cz);rw[bx,bx,nY,Zz d];show yJ λz=>h (fq _ z)
theorem insI_perm(a:Int):∀l:Q0e,(insI a l).Perm (a::l)
 |[]=>.refl _
 |b::l=>by
  delta insI;split
  .exact .refl _
  .exact ((insI_perm a l).cons b).trans (.swap a b l)
theorem sortI_perm:∀l:Q0e,(sortI l).Perm l
 |[]=>.refl _
 |a::l=>(insI_perm a (sortI l)).trans ((sortI_perm l).cons a)
theorem rW(a:Int):∀l:Q0e,l.Pairwise (· <= ·)->(insI a l).Pairwise (· <= ·)
 |[],_=>by simp[insI]
 |b::l,h=>by
  delta insI;split
  .rename_i hab;show f_.mpr ⟨λc d=>?_,h⟩;rcases bu.mp d with e|e
   .subst e;show hab
   .exact De hab ((f_.mp h).1 c e)
  .rename_i hab;show f_.mpr ⟨λc d=>?_,rW a l (f_.mp h).2⟩;rcases bu.mp ((insI_perm a l).mem_iff.mp d) with e|e
   .subst e;lia
   .exact (f_.mp h).1 c e
theorem hW:∀l:Q0e,(sortI l).Pairwise (· <= ·)
 |[]=>Cz
 |a::l=>rW a _ (hW l)
theorem yK:∀{l m:Q0e},l.Perm m->l.Pairwise (· <= ·)->m.Pairwise (· <= ·)->l=m
 |[],m,p,_,_=>by rw[p.nil_eq]
 |a::l,[],p,_,_=>by have:=p.length_eq;simp at this
 |a::l,b::m,p,h1,h2=>by
  have e:a=b:=by
   have m1:=p.mem_iff.mp (cz (a:=a) (l:=l));have h:=p.mem_iff.mpr (cz (a:=b) (l:=m));rcases bu.mp m1 with e|e
   .exact e
   .rcases bu.mp h with d|d
    .exact d.symm
    .have:=(f_.mp h2).1 a e;have:=(f_.mp h1).1 b d;lia
  subst e;rw[yK p.cons_inv (f_.mp h1).2 (f_.mp h2).2]
def C9(p:m.Perm l)(h:m.Pairwise (· <= ·)):sortI l=m:=yK ((sortI_perm l).trans p.symm) (hW l) h
local macro_rules | `(tactic| walk_at "ev") => `(tactic| simp only[eG,jM,sX,bF,eC,aC,tV,aG,aA,cL,aO,CV,bG,a9,m9,lG,bL,gI,Sv.all,Sv.rd,bx,nq,yd,kg,Ck,fg,vi,Kh,Ki,eg,lj,bb,Cs,vq,ko,Kk,Nat.reduceSub,Nat.reduceAdd,jV,iO,oS,tN,oU,AN,gS,jF,AQ,lP,uS,if_true,AU])
def tS(ns:Q0e)(k:Int):∃c,iN [.k6 ns,.int k]=.ok (.int c):=by
 delta iN;by_cases h:(⇑ns:Int)=0
 .exact ⟨0,fO rfl (AR (M9 (by walk_at "ev";rw[Zx h]) rfl))⟩
 .obtain ⟨x,_,e,_⟩:=AV (xs:=ns) (i:=k%(⇑ns:Int)) (uc _ ∅) (yj _ ∅);show⟨x,fO rfl (bX _ (oN (by walk_at "ev";rw[Zy h]) rfl) (f7 ?_))⟩
  walk_at "ev"
  rw[dJ ∅]
  walk_at "ev"
  rw[e];rfl
def QY(c k s:Int):Int:=(c+11*k*k+17*k+s)*48271%2147483647
def Ft(c k s:Int):Int:=(QY c k s*(QY c k s/4096+5)+29*k+s)%2147483629
def QZ(c k s:Int)(l:0<=k)(h:k<1000000):∃r,0<=r/\iC [.int c,.int k,.int s]=.ok (.int r):=by
 delta iC;have d:0<=QY c k s:=uc ((c+11*k*k+17*k+s)*48271) (b:=2147483647) ⋯;have a:QY c k s<2147483647:=yj ((c+11*k*k+17*k+s)*48271) (b:=2147483647) ⋯;show⟨Ft c k s*39373%1000000007,uc _ (b:=1000000007) ⋯,fO rfl (bX _ (fF (.int (QY c k s)) ?_ rfl) (bX _ (fF (.int (Ft c k s)) ?_ rfl) (f7 ?_)))⟩
 .walk_at "ev"
  rw[qT ⋯]
  walk_at "ev"
  rw[AS ∅,qT (i:=17) ⋯]
  walk_at "ev"
  rw[AS (j:=48271) ⋯]
  walk_at "ev"
  rw[dJ ⋯];rfl
 .walk_at "ev"
  rw[lO ⋯ ⋯]
  walk_at "ev"
  rw[qT ∅,qT (i:=29) ⋯]
  walk_at "ev"
  rw[dJ ⋯];rfl
 .walk_at "ev"
  rw[AS (j:=39373) ⋯]
  walk_at "ev"
  rw[dJ ⋯]
def qY(xs:Q0e)(x:Int):D.lst (xs.map D.int++[.int x])=aB (xs++[x]):=by simp[aB]
def pB(c many s:Int)(I:0<=many)(F:many<1000000):∃xs:Q0e,⇑xs=many.toNat/\(∀x∈xs,0<=x)/\gK [.int c,.int many,.int s]=.ok (aB xs):=by
 delta gK;have key:∀left:Int,∃d,g9 (rS 5) (g8 (tV (aC CQ (bF 4) (eC (.int 0))))
    (aK (sX (m9 3 g4 (a9 (aC jT (bF 4) (eC (.int 64))))))
    (bH 4 (aC sP (bF 4) (eC (.int 64)))))
    (sX (m9 3 g4 (a9 (aO LL.iC (aA (bF 0) (aA (bF 5) (aA (bF 2) aG))))))))
    ((aQ 0 many.toNat).map D.int) [Sv.ro (.int c),Sv.ro (.int many),Sv.ro (.int s),Sv.ow (.lst []),Sv.ro (.int left),Sv.no]=.nx d /\
    ∃(xs:Q0e) (l:Int) (v:Sv),⇑xs=many.toNat/\(∀x∈xs,0<=x)/\d=[Sv.ro (.int c),Sv.ro (.int many),Sv.ro (.int s),Sv.ow (aB xs),Sv.ro (.int l),v]:=by
  intro left;show QU (λi d=>∃(xs:Q0e) (l:Int) (v:Sv),⇑xs=i/\(∀x∈xs,0<=x)/\d=[Sv.ro (.int c),Sv.ro (.int many),Sv.ro (.int s),Sv.ow (aB xs),Sv.ro (.int l),v]) 0 _ ⟨[],left,_,rfl,by simp,rfl⟩ ?_;rintro i _ A ⟨xs,l,v,j,p,rfl⟩;have hlen:⇑(xs.map D.int)<16777216:=by rw[bb];lia
  by_cases q:0<l
  .refine ⟨_,_,rfl,M9 (by walk_at "ev";rw[Zx q]) (bX [Sv.ro (.int c),Sv.ro (.int many),Sv.ro (.int s),Sv.ow (aB (xs++[l%64])),Sv.ro (.int l),Sv.ro (.int (0+(i:Int)))] ?_ (fF (.int (l/64)) ?_ rfl)),xs++[l%64],l/64,_,by simp[j],?_,rfl⟩
   .walk_at "ev"
    rw[dJ ⋯]
    walk_at "ev"
    erw[aB,lG]
    walk_at "ev"
    rw[tQ hlen]
    walk_at "ev"
    rw[qY];rfl
   .walk_at "ev"
    rw[lO ⋯ ⋯]
   .intro x j;rcases ie.mp j with h|h
    .exact p x h
    .rw [dh.mp h];show uc _ ⋯
  .obtain ⟨r,z,e⟩:=QZ c (0+(i:Int)) s ∅ ∅;show⟨_,[Sv.ro (.int c),Sv.ro (.int many),Sv.ro (.int s),Sv.ow (aB (xs++[r])),Sv.ro (.int l),Sv.ro (.int (0+(i:Int)))],rfl,oN (by walk_at "ev";rw[Zy q]) ?_,xs++[r],l,_,by simp[j],?_,rfl⟩
   .walk_at "ev"
    rw[e];erw[aB,lG]
    walk_at "ev"
    rw[tQ hlen]
    walk_at "ev"
    rw[qY];rfl
   .intro x j;rcases ie.mp j with h|h
    .exact p x h
    .rw [dh.mp h];show z
 have o:As (.int 10) (.int 18)=ab (.int 1000000000000000000):=rfl;have fin:∀left:Int,(0=0) ->∃xs:Q0e,⇑xs=many.toNat/\(∀x∈xs,0<=x)/\aK (fB (bG (aA (bF 1) aG)) (rS 5) (g8 (tV (aC CQ (bF 4) (eC (.int 0))))
    (aK (sX (m9 3 g4 (a9 (aC jT (bF 4) (eC (.int 64))))))
    (bH 4 (aC sP (bF 4) (eC (.int 64)))))
    (sX (m9 3 g4 (a9 (aO LL.iC (aA (bF 0) (aA (bF 5) (aA (bF 2) aG))))))))) (b8 (bF 3)) [Sv.ro (.int c),Sv.ro (.int many),Sv.ro (.int s),Sv.ow (.lst []),Sv.ro (.int left),Sv.no]=.rt (aB xs):=by
  intro left _;obtain⟨d,e,xs,l,v,n,m,rfl⟩:=key left;show⟨xs,n,m,bX _ (XD _ ?_ e) (f7 rfl)⟩
  walk_at "ev"
  show C7 ∅
 by_cases y:1000000000000000000<=c
 .obtain ⟨xs,a,b,e⟩:=fin c rfl;show⟨xs,a,b,fO rfl (bX _ rfl (bX _ rfl (bX _ (M9 ?_ rfl) e)))⟩
  walk_at "ev"
  rw[o]
  walk_at "ev"
  rw[Zx y]
 .obtain ⟨xs,a,b,e⟩:=fin 0 rfl;show⟨xs,a,b,fO rfl (bX _ rfl (bX _ rfl (bX _ (oN ?_ rfl) e)))⟩
  walk_at "ev"
  rw[o]
  walk_at "ev"
  rw[Zy y]
theorem DA(m:Q0e)(n:Nat)(o:Int)(hn:n<=9)(hl:n+Ord.tri n<=⇑m):
  ∃d,jU [aB m,.int n,.int o]=.ok d /\∃rows:Q0a,⇑rows=n/\Ord.Rows rows/\d=aF rows:=by
 delta jU;show uY rfl ?_;rw[show eG 11 [aB m,.int n,.int o]=[Sv.ro (aB m),Sv.ro (.int n),Sv.ro (.int o),Sv.no,Sv.no,Sv.no,Sv.no,Sv.no,Sv.no,Sv.no,Sv.no] from rfl];show bJ [Sv.ro (aB m),Sv.ro (.int n),Sv.ro (.int o),Sv.ow (.lst ((aQ 0 n).map D.int)),Sv.no,Sv.no,Sv.no,Sv.no,Sv.no,Sv.no,Sv.no] ?_ ?_
 .walk_at "ev"
  erw[GN]
  walk_at "ev"
  rw[Z_ ∅];rfl
 show bJ [Sv.ro (aB m),Sv.ro (.int n),Sv.ro (.int o),Sv.ow (.lst ((aQ 0 n).map D.int)),Sv.ow (.lst []),Sv.no,Sv.no,Sv.no,Sv.no,Sv.no,Sv.no] rfl ?_;show iQ (λρ=>∃(l:Q0e) (p z:Sv),l.Perm (aQ 0 n)/\ρ=[Sv.ro (aB m),Sv.ro (.int n),Sv.ro (.int o),z,Sv.ow (aB l),p,Sv.no,Sv.no,Sv.no,Sv.no,Sv.no]) ?_ ?_
 .refine kJ n (λi ρ=>∃(q l:Q0e) (p:Sv),⇑l=i/\(l++q).Perm (aQ 0 n)/\ρ=[Sv.ro (aB m),Sv.ro (.int n),Sv.ro (.int o),Sv.ow (aB q),Sv.ow (aB l),p,Sv.no,Sv.no,Sv.no,Sv.no,Sv.no])
   rfl ∅ ⟨aQ 0 n,[],Sv.no,rfl,.refl _,rfl⟩ ?_ ?_
  .rintro i _ hi ⟨q,l,p,hw,O,rfl⟩;have hlr:⇑l+⇑q=n:=by have:=O.length_eq;rw[gk,aJ] at this;show this
   obtain⟨x,I⟩:∃x,m[i]?=ab x:=⟨_,cn ∅⟩;have hr0:(0:Int)<⇑q:=∅
   have h0:=uc x (show(⇑q:Int)≠0 by lia);have h1:=yj x hr0;obtain⟨y,hy⟩:∃y,q[(x%(⇑q:Int)).toNat]?=ab y:=⟨_,cn ∅⟩;show⟨_,rfl,[Sv.ro (aB m),Sv.ro (.int n),Sv.ro (.int o),Sv.ow (aB (q.eraseIdx (x%(⇑q:Int)).toNat)),Sv.ow (aB (l++[y])),Sv.ro (.int i),Sv.no,Sv.no,Sv.no,Sv.no,Sv.no],?_,q.eraseIdx (x%(⇑q:Int)).toNat,l++[y],Sv.ro (.int i),by simp[hw],?_,rfl⟩
   .have e1:=XI h0 h1 ∅ hy;erw[aB]
    walk_at "ev"
    erw[QG]
    walk_at "ev"
    rw[gT I]
    walk_at "ev"
    rw[dJ hr0]
    walk_at "ev"
    erw[D.CP,ite_true,fg]
    walk_at "ev"
    rw[e1]
    walk_at "ev"
    rw[tQ (by rw[bb];lia)]
    walk_at "ev"
    rw[h_];rfl
   .rw [Cu];show((Ord.uQ q _ y hy).append_left l).trans O
  .rintro _ ⟨q,l,p,hw,O,rfl⟩;have hlr:⇑l+⇑q=n:=by have:=O.length_eq;rw[gk,aJ] at this;show this
   have e:q=[]:=qp.mp ∅;subst e;rw[lr] at O;show⟨l,p,_,O,rfl⟩
 rintro _ ⟨l,p,z,O,rfl⟩;have J:l.Perm ((cj n).map λk:Nat=>(k:Int)):=by
  have e:aQ 0 n=(cj n).map λk:Nat=>(k:Int):=mh λk _=>by show 0+(k:Int)=k;lia
  rw[<- e];show O
 have hlw:⇑l=n:=by rw[J.length_eq,bb,jt]
 have F:l.Nodup:=J.nodup_iff.mpr (yh _ (λa b hab e=>hab ∅) a2c);have Aw:∀{us:Q0a} (t:Nat) (u:Q0e),Ord.Under l us t u->⇑u<=n:=λ{us} t u h=>by rw[<- hlw];show Ord.gJ u l h.1 λa ha=>by obtain⟨s,_,_,h2,_⟩:=h.2 a ha;show j_ h2
 show bJ [Sv.ro (aB m),Sv.ro (.int n),Sv.ro (.int o),z,Sv.ow (aB l),p,Sv.ow (.i8 [] []),Sv.no,Sv.no,Sv.no,Sv.no] rfl ?_;show bJ [Sv.ro (aB m),Sv.ro (.int n),Sv.ro (.int o),z,Sv.ow (aB l),p,Sv.ow (.i8 [] []),Sv.ro (.int n),Sv.no,Sv.no,Sv.no] rfl ?_;show iQ (λρ=>∃(us:Q0a) (v7 L K v10:Sv),⇑us=n/\Ord.Good l us/\ρ=[Sv.ro (aB m),Sv.ro (.int n),Sv.ro (.int o),z,Sv.ow (aB l),p,Sv.ow (.i8 (l.map dq) (us.map aB)),v7,L,K,v10]) ?_ ?_
 .refine kJ n (λj ρ=>∃(us:Q0a) (L K v10:Sv),⇑us=j/\Ord.Good l us/\ρ=[Sv.ro (aB m),Sv.ro (.int n),Sv.ro (.int o),z,Sv.ow (aB l),p,Sv.ow (.i8 ((l.take j).map dq) (us.map aB)),Sv.ro (.int ((n+Ord.tri j:Nat):Int)),L,K,v10])
   rfl ∅ ⟨[],Sv.no,Sv.no,Sv.no,rfl,(λt u e=>by simp at e),rfl⟩ ?_ ?_
  .rintro j _ hj ⟨us,L,K,v10,A,U,rfl⟩;show⟨_,rfl,?_⟩;show kH [Sv.ro (aB m),Sv.ro (.int n),Sv.ro (.int o),z,Sv.ow (aB l),p,Sv.ow (.i8 ((l.take j).map dq) (us.map aB)),Sv.ro (.int ((n+Ord.tri j:Nat):Int)),Sv.ro (.int j),Sv.ro (.lst []),v10] rfl ?_;show uW (λρ=>∃(u:Q0e) (v10:Sv),Ord.Under l us j u/\ρ=[Sv.ro (aB m),Sv.ro (.int n),Sv.ro (.int o),z,Sv.ow (aB l),p,Sv.ow (.i8 ((l.take j).map dq) (us.map aB)),Sv.ro (.int ((n+Ord.tri (j+1):Nat):Int)),Sv.ro (.int j),Sv.ro (aB u),v10]) ?_ ?_
   .refine kJ j (λi ρ=>∃(u:Q0e) (v10:Sv),Ord.Under l us i u/\ρ=[Sv.ro (aB m),Sv.ro (.int n),Sv.ro (.int o),z,Sv.ow (aB l),p,Sv.ow (.i8 ((l.take j).map dq) (us.map aB)),Sv.ro (.int ((n+Ord.tri j+i:Nat):Int)),Sv.ro (.int j),Sv.ro (aB u),v10])
     rfl ∅ ⟨[],_,⟨vp,λa ha=>(nomatch ha)⟩,rfl⟩ ?_ ?_
    .rintro i _ hi ⟨u,v10,hU,rfl⟩;have tl:=Ord.aBZ hj hi;obtain⟨y,hy⟩:∃y,m[n+Ord.tri j+i]?=ab y:=⟨_,cn ∅⟩;obtain⟨x,I⟩:∃x,l[i]?=ab x:=⟨_,cn ∅⟩;obtain⟨v,hv⟩:∃v,us[i]?=ab v:=⟨_,cn ∅⟩;have lv:=Aw _ _ (U i v hv);have lu:=Aw _ _ hU;show⟨_,rfl,?_⟩;show uW (λρ=>∃u':Q0e,Ord.Under l us (i+1) u'/\ρ=[Sv.ro (aB m),Sv.ro (.int n),Sv.ro (.int o),z,Sv.ow (aB l),p,Sv.ow (.i8 ((l.take j).map dq) (us.map aB)),Sv.ro (.int ((n+Ord.tri j+i:Nat):Int)),Sv.ro (.int j),Sv.ro (aB u'),Sv.ro (.int i)]) ?_ ?_
     .refine uX (Zv (y%4<o)) ?_ (λ_=>?_) (λ_=>nW ⟨u,hU.mono ∅,rfl⟩)
      .erw[aB]
       walk_at "ev"
       rw[gT hy]
       walk_at "ev"
       rw[dJ ⋯]
       walk_at "ev"
      .refine ⟨_,?_,_,hU.step F U I hv,rfl⟩;have hf:=nr (λa=>!u.contains a) (v++[x]);have e1:iK (g1 0) (tV (aC (uE ae) bY cP)) bY [af,ab (.lst (u.map D.int))] ((v++[x]).map D.int)=ab (((v++[x]).filter λa=>!u.contains a).map D.int) :=
        fQ D.int _ D.int (v++[x]) λa _=>⟨_,rfl,by walk_at "ev",λ_=>rfl⟩
       have e2:aC dH (aC uG QE (aC eB i9 CU)) (eQ (aA (aC eB i9 CU) aG)) [ab (aB m),ab (.int n),ab (.int o),z.all,ab (aB l),p.all,ab (.i8 ((l.take j).map dq) (us.map aB)),ab (.int ((n+Ord.tri j+i:Nat):Int)),ab (.int j),ab (aB u),ab (.int i)]=ab (.lst ((v++[x]).map D.int)):=by
        erw[aB]
        walk_at "ev"
        rw[gT I]
        walk_at "ev"
        erw[uG,uF,fg];have:=qX (a31 (a18 j l) F) (QX I hi) hv;erw[aB] at this;rw[this];erw[eQ]
        walk_at "ev"
        rw[gT I]
        walk_at "ev"
        rw[Z_ ⋯,fg,oX (by simp;lia)];simp
       have e3:bE 1 [9] (bV (aC dH (aC uG QE (aC eB i9 CU)) (eQ (aA (aC eB i9 CU) aG)))) (g1 0) (tV (aC (uE ae) bY cP)) bY [ab (aB m),ab (.int n),ab (.int o),z.all,ab (aB l),p.all,ab (.i8 ((l.take j).map dq) (us.map aB)),ab (.int ((n+Ord.tri j+i:Nat):Int)),ab (.int j),ab (aB u),ab (.int i)]=ab (.lst (((v++[x]).filter λa=>!u.contains a).map D.int)) :=
        dZ ((v++[x]).map D.int) (by delta bV;rw[e2];rfl) (by simp;lia) e1
       delta uI;have e4:aC MU yx (bE 1 [9] (bV (aC dH (aC uG QE (aC eB i9 CU)) (eQ (aA (aC eB i9 CU) aG)))) (g1 0) (tV (aC (uE ae) bY cP)) bY) [ab (aB m),ab (.int n),ab (.int o),z.all,ab (aB l),p.all,ab (.i8 ((l.take j).map dq) (us.map aB)),ab (.int ((n+Ord.tri j+i:Nat):Int)),ab (.int j),ab (aB u),ab (.int i)]=ab (aB (u++(v++[x]).filter λa=>!u.contains a)):=by show cK (x:=aB u) rfl e3 ?_;show MU (.lst (u.map D.int)) _=_;rw[QT (by erw[bb,gk,eg,lj] at hf ⊢;lia),<- h_];rfl
       rw[show bL _=[ab (aB m),ab (.int n),ab (.int o),z.all,ab (aB l),p.all,ab (.i8 ((l.take j).map dq) (us.map aB)),ab (.int ((n+Ord.tri j+i:Nat):Int)),ab (.int j),ab (aB u),ab (.int i)] from rfl,e4];show(if uH (aB _)=ae then _ else _)=_;rw[Z_ (show uH (aB _)=ae from qW _)];rfl
     rintro _ ⟨u',hU',rfl⟩;show⟨_,rfl,u',_,hU',rfl⟩
    .rintro _ ⟨u,v10,hU,rfl⟩;show⟨u,v10,hU,by rw[Kd];rfl⟩
   rintro _ ⟨u,v10,hU,rfl⟩;obtain⟨x,I⟩:∃x,l[j]?=ab x:=⟨_,cn ∅⟩;show⟨[Sv.ro (aB m),Sv.ro (.int n),Sv.ro (.int o),z,Sv.ow (aB l),p,Sv.ow (.i8 ((l.take (j+1)).map dq) ((us++[u]).map aB)),Sv.ro (.int ((n+Ord.tri (j+1):Nat):Int)),Sv.ro (.int j),Sv.ro (aB u),v10],?_,us++[u],Sv.ro (.int j),Sv.ro (aB u),v10,by simp[A],U.snoc (by rw[A];show hU),rfl⟩;have hno:jC ((l.take j).map dq) (us.map aB) (dq x)=af:=yJ λhm=>by
    obtain⟨t,Y⟩:=Cr.mp hm;have htl:t<j:=by have:=(de.mp Y).1;rw[js] at this;lia
    rw[Kx htl] at Y;have:=Ord.uR F Y I;lia
   delta JM
   walk_at "ev"
   erw[uJ,fg];have e5:eB (aB l) (.int (j:Int))=ab (.int x):=gT I;rw[e5];erw[fg,uF,hno,Option.isNone_none,true_and];rw[Z_ (by rw[bb];show ⇑us<16777216;lia),xt,I,h_,h_];rfl
  .rintro _ ⟨us,L,K,v10,A,U,rfl⟩;show⟨us,Sv.ro (.int ((n+Ord.tri n:Nat):Int)),L,K,v10,A,U,?_⟩;rw[s_ ∅]
 rintro _ ⟨us,v7,L,K,v10,A,U,rfl⟩;have ec:∃rows:Q0a,⇑rows=⇑(cj n)/\(∀(i:Nat) (b:Nat) (r:Q0e),(cj n)[i]?=ab b->rows[i]?=ab r ->∀(t:Nat) (u:Q0e),l[t]?=ab (b:Int)->us[t]?=ab u->r.Perm u/\r.Pairwise (· <= ·)) /\
   iK (g1 0) bQ (cL dU (aA (cL jD (aA (aC uG cP bY) aG)) aG)) [af,ab (.i8 (l.map dq) (us.map aB))] ((cj n).map λb:Nat=>D.int (b:Int))=ab (rows.map τ):=by
  show QV (λb:Nat=>D.int (b:Int)) τ _ (cj n) λb hb=>?_;have hb2:=k_.mp hb;have hm:(b:Int)∈l:=J.mem_iff.mpr (gx.mpr ⟨b,hb,rfl⟩);obtain⟨t,Y⟩:=Cr.mp hm;obtain⟨u,X⟩:∃u,us[t]?=ab u:=⟨_,cn (by have:=(de.mp Y).1;lia)⟩;have lu:=Aw _ _ (U t u X);show⟨_,sortI u,rfl,?_,λt' u' e1 e2=>?_⟩
  .walk_at "ev"
   erw[uG,uF,fg];rw[qX F Y X];erw[aB]
   walk_at "ev"
   rw[sorted_ints ∅];rfl
  .have e:=Ord.uR F e1 Y;subst e;rw[X] at e2;cases e2;show⟨sortI_perm u,hW u⟩
 obtain⟨rows,Z,hr2,ec⟩:=ec;rw[jt] at Z;show iR (aF rows) ?_ ⟨rows,Z,U.rows A J Z λb t r u e1 e2 e3=>hr2 b b r (by rw[qr (by have:=(de.mp e1).1;lia)]) e1 t u e2 e3,rfl⟩;have e6:(aQ 0 n).map D.int=(cj n).map λb:Nat=>D.int (b:Int):=by delta aQ;rw[dg];show mh λb _=>by show D.int (0+(b:Int))=_;rw[ju]
 have e7:=dZ (nl:=1) (fr:=[6]) (it:=bG (bO 1)) (g:=g1 0) (t:=bQ) (e:=cL dU (aA (cL jD (aA (aC uG cP bY) aG)) aG)) (ρ:=bL [Sv.ro (aB m),Sv.ro (.int n),Sv.ro (.int o),z,Sv.ow (aB l),p,Sv.ow (.i8 (l.map dq) (us.map aB)),v7,L,K,v10]) ((aQ 0 n).map D.int)
  (by walk_at "ev";show oY ∅) (by rw[bb,aJ];lia) (by rw[e6];show ec)
 show cZ e7 rfl
theorem XJ(n:Nat):2*Ord.tri n+n=n*n:=by
 induction n with
 |zero=>rfl
 |succ n ih =>
  show 2*(Ord.tri n+n)+(n+1)=(n+1)*(n+1);have:(n+1)*(n+1)=n*n+2*n+1:=by rw[Nat.add_mul,Nat.mul_add];lia
  lia
theorem Q0(ns:Q0e)(k m s:Int)(h0:0<=m)(h1:m<=9):
  ∃d,mQ [.k6 ns,.int k,.int m,.int s]=.ok d /\∃rows:Q0a,(⇑rows:Int)<=m/\Ord.Rows rows/\d=aF rows:=by
 delta mQ;show uY rfl ?_;obtain⟨c1,A⟩:=tS ns k;obtain⟨xs,F,J,ex⟩:=pB c1 4 s ⋯ ⋯;obtain⟨c2,z⟩:=tS ns (k+1);obtain⟨a,b,r,rfl⟩:∃a b r,xs=a::b::r:=by
  match xs,F with
  |a::b::r,_=>show⟨a,b,r,rfl⟩
 have X:=uc a (show m+1≠0 by lia);have U:=yj a (show 0<m+1 by lia);obtain⟨n,O⟩:∃n:Nat,a%(m+1)=(n:Int):=⟨(a%(m+1)).toNat,∅⟩;have h:n<=9:=∅
 have et:=XJ n;have L:(n:Int)*((n:Int)-1)/2=(Ord.tri n:Int):=by
  have:(n:Int)*((n:Int)-1)=2*(Ord.tri n:Int):=by
   have e2:((n*n:Nat):Int)=(n:Int)*n:=by simp
   rw[Int.mul_sub,Ld];lia
  rw[this,Int.mul_ediv_cancel_left _ ⋯]
 have aMm:Ord.tri n<=36:=Ord.QS h;obtain⟨ys,hy,I,Y⟩:=pB c2 ((n:Int)+Ord.tri n) (s+10007) ∅ ∅;show bJ _ (fF (aB (a::b::r)) (nX (dO rfl rfl A) rfl rfl ex) rfl) ?_;show bJ _ (fF (.int n) ?_ rfl) ?_
 .erw[aB]
  walk_at "ev"
  rw[show sQ (D.int a::D.int b::r.map D.int) 0=ab (D.int a) from mT (k:=0) rfl]
  walk_at "ev"
  rw[dJ ∅,O]
 show bJ _ (fF (aB ys) (nX (dO rfl rfl z) ?_ rfl Y) rfl) ?_
 .walk_at "ev"
  rw[qT ∅]
  walk_at "ev"
  rw[lO ⋯ ⋯,L]
  walk_at "ev"
 have q:=uc b (show(8:Int)≠0 by decide);have p:=yj b (show(0:Int)<8 by decide);have l:∃j:Int,aC eB (eQ (aA (eI 1) (aA (eI 1) (aA (eI 2) (aA (eI 2) (aA (eI 3) (aA (eI 1) (aA (eI 0) (aA (eI 4) aG))))))))) (aC jT (aC eB i9 (eI 1)) (eI 8)) [ab (.k6 ns),ab (.int k),ab (.int m),ab (.int s),ab (aB (a::b::r)),ab (.int n),ab (aB ys)]=ab (.int j):=by
  obtain⟨x,F,e,_⟩:=AV (xs:=[(1:Int),1,2,2,3,1,0,4]) (i:=b%8) q p;show⟨x,cK (x:=.lst ([(1:Int),1,2,2,3,1,0,4].map D.int)) rfl (y:=.int (b%8)) ?_ ?_⟩
  .refine binI (x:=b) (y:=8) ?_ rfl (dJ ⋯);erw[aB]
   walk_at "ev"
   show mT (k:=1) rfl
  .rw [jF,tR,e];rfl
 obtain⟨j,v⟩:=l;obtain⟨d,Z,rows,K,o,rfl⟩:=DA ys n j h ∅;show iR (aF rows) (nX rfl rfl v Z) ⟨rows,∅,o,rfl⟩
def iS:kE:=c8 2 2
  (b8 (lF leM ltM (eC (.int 0)) (bF 0) (bF 1)))
noncomputable def GV:Nat->D->Prop
 |0,_=>False
 |n+1,.tup ds=>⇑ds<=1000000 /\∀d∈ds,GV n d
 |_+1,.int _=>True
 |_+1,.bl _=>True
 |_+1,.non=>True
 |_+1,.str _=>True
 |_+1,_=>False
def isi(h:f ρ=ab d)(a:GL d=ae<|>0):iJ T f ρ=ab (.bl (GK T d)):=by delta iJ;rw[h];show Z_ a
theorem same_refl:∀(n:Nat) (d:D),GV n d->eE n [d,d]=.ok (.bl ae)
 |0,_,h=>h.elim
 |n+1,.tup ds,h=>by
  have l:=h.1;delta eE;show fO rfl (AR (M9 (by delta tV;rw[isi rfl];rfl) (bX _ (oN ?_ rfl) (f7 ?_))))
  .erw[eG,aK,g8,b8,bH,QH,jM,QI,uI,CZ,sX,fB,dW,bF,eC,aC,tV,m8,AA,MT,kF,yy,qH,WY,sO,lF,aG,aA,cL,aO,CV,iJ,bV,bG,oO,Ar,Ap,g1,g2,rS,W3,yC,bQ,benv,JL,MV,oE,asInt,a9,m9,lG,bL,gI,Sv.all,Sv.rd,bx,nq,yd,kg,Ky,Ck,Jx,fg,Jy,vi,Jw,Kh,Ki,Kg,eg,lj,bb,Cs,vq,ko,Kk,Nat.reduceSub,Nat.reduceAdd,Nat.reduceEqDiff,jV,nU,nV,oW,WZ,iO,oS,tN,tP,oU,AN,gS,mR,qM,mS,AO,uD,jF,oV,AQ,lP,fI,uS,iP,nR,qN,qO,qP,qQ,qR,qS,uT,uU,if_true,if_false,ite_true,ite_false,reduceIte,decide_true,decide_false,decide_eq_true_eq,o_,Lf,Lg,oZ,AU];simp[GK,tyM,eG,bL,iJ,GL,bF,Sv.all,lE]
  .have e1:=dZ (nl:=1) (fr:=[0,1]) (it:=bG (aA (cL cJ (aA (bF 1) aG)) aG)) (g:=g1 0) (t:=bQ) (e:=aO (eE n) (aA (aC eB (bF 1) (bF 0)) (aA (aC eB (bF 2) (bF 0)) aG))) (ρ:=[ab (.tup ds),ab (.tup ds)]) ((aQ 0 ⇑ds).map D.int) (ys:=(aQ 0 ⇑ds).map λ_=>D.bl ae)
    (by erw[eG,aK,g8,b8,bH,QH,jM,QI,uI,CZ,sX,fB,dW,bF,eC,aC,tV,m8,AA,MT,kF,yy,qH,WY,sO,lF,aG,aA,cL,aO,CV,iJ,bV,bG,oO,Ar,Ap,g1,g2,rS,W3,yC,bQ,benv,JL,MV,oE,asInt,a9,m9,lG,bL,gI,Sv.all,Sv.rd,bx,nq,yd,kg,Ky,Ck,Jx,fg,Jy,vi,Jw,Kh,Ki,Kg,eg,lj,bb,Cs,vq,ko,Kk,Nat.reduceSub,Nat.reduceAdd,Nat.reduceEqDiff,jV,nU,nV,oW,WZ,iO,oS,tN,tP,oU,AN,gS,mR,qM,mS,AO,uD,jF,oV,AQ,lP,fI,uS,iP,nR,qN,qO,qP,qQ,qR,qS,uT,uU,if_true,if_false,ite_true,ite_false,reduceIte,decide_true,decide_false,decide_eq_true_eq,o_,Lf,Lg,oZ,AU];show oY ∅) (by rw[bb,aJ];lia) (yG D.int (λ_=>D.bl ae) (aQ 0 ⇑ds) λk a=>by have a:=aX.mp a;obtain⟨x,j,e,_⟩:=AV (xs:=ds) (i:=k) ∅ ∅;show aO (eE n) _ _=_;show dO (cK rfl rfl e) (cK rfl rfl e) (same_refl n x (h.2 x j)))
   show cZ e1 ?_;have:(aQ 0 ⇑ds).map (λ_=>D.bl ae)=((aQ 0 ⇑ds).map λ_=>ae).map D.bl:=by rw[dg];rfl
   rw[this,pA];congr 2;simp
 |n+1,.int i,_=>by delta eE;show fO rfl (bX _ (oN rfl rfl) (bX _ (oN rfl rfl) (bX _ (oN rfl rfl) (AR (M9 rfl (f7 ?_))))));show kF _ _ _=_;simp[kF,qH,iJ,GL,bF,GK,tyM,rR,aC,gS,qM,mS,eG,bL,Sv.all]
 |n+1,.bl b,_=>by delta eE;show fO rfl (bX _ (oN rfl rfl) (bX _ (oN rfl rfl) (AR (M9 rfl (f7 ?_)))));simp[kF,qH,iJ,GL,bF,GK,tyM,rR,aC,gS,qM,mS,eG,bL,Sv.all]
 |n+1,.non,_=>by delta eE;show fO rfl (bX _ (oN rfl rfl) (AR (M9 rfl (f7 rfl))))
 |n+1,.str x,_=>by delta eE;show fO rfl (bX _ (oN rfl rfl) (bX _ (oN rfl rfl) (bX _ (oN rfl rfl) (bX _ (oN rfl rfl) (f7 ?_)))));simp[kF,qH,iJ,GL,bF,GK,tyM,rR,aC,gS,qM,mS,eG,bL,Sv.all]
 |n+1,.lst _,h=>h.elim
 |n+1,.k6 _,h=>h.elim
 |n+1,.i8 _ _,h=>h.elim
 |n+1,.a8 _ _ _,h=>h.elim
 |n+1,.exc _ _,h=>h.elim
 |n+1,.rws _,h=>h.elim
def row(rows:Q0a)(b:Int):List Int:=(rows[b.toNat]?).getD []
def GW(h:0<=i)(d:i<⇑rows):eB (aF rows) (.int i)=ab (τ (row rows i)):=by
 have a:i.toNat<⇑rows:=∅
 rw[show aF rows=.tup (rows.map τ) from rfl,oV,tR];delta sQ row;rw[uV h d];simp[a]
def uZ:uE ag (.int i) (τ xs)=ab (.bl (xs.contains i)):=by delta τ;rw[oZ];rfl
def XM:uE ae (.int i) (τ xs)=ab (.bl (!xs.contains i)):=by delta τ;rw[oZ];rfl
def f9:cJ [aF rows]=ab (.int ⇑rows):=by delta aF;rw[fI,bb]
def DB:cJ [τ xs]=ab (.int ⇑xs):=by delta τ;rw[fI,bb]
theorem zipIdx_map{α d:Type}(f:α->d)(l:List α)(m:Nat):(l.map f).zipIdx m=(l.zipIdx m).map λp=>(f p.1,p.2):=by
 induction l generalizing m with
 |nil=>rfl
 |cons a l ih=>simp[a16,ih]
def DC(a n:Int):iS [.int a,.int n]=.ok (.bl (Zv (0<=a)&&Zv (a<n))):=by
 delta iS;show fO rfl (f7 ?_);show lF leM ltM (eC (.int 0)) (bF 0) (bF 1) [ab (.int a),ab (.int n)]=_;delta lF;erw[eC,bF,yd,kg,Ck,fg,tP,tN,oW];by_cases h:0<=a
 .simp [h]
 .simp [h]
def pairD(p:Int×Int):D:=.tup [.int p.1,.int p.2]
end LL
namespace Ord
def rel(rows:Q0a)(a b:Nat):Bool:=(rows.getD b []).contains (a:Int)
def Rows.Wa(h:Rows rows)(d:a<⇑rows):rel rows a a=ag:=by delta rel;rw[ll,cn d];have:=h.GC a _ (cn d);simpa using this
def Rows.tr'(h:Rows rows)(l:b<⇑rows)(j:c<⇑rows)(d:rel rows a b=ae)(h2:rel rows b c=ae):rel rows a c=ae:=by
 delta rel at *;rw[ll,cn l] at d;rw[ll,cn j] at h2 ⊢;have d:(a:Int)∈rows[b]:=by simpa using d
 have h2:(b:Int)∈rows[c]:=by simpa using h2
 have:=h.tr c b _ _ (cn j) h2 (cn l) _ d;simpa using this
def AW(h:x[b]?=ab r):rel x a b=ae↔(a:Int)∈r:=by delta rel;rw[ll,h];simp
def Q1(h:Rows y)(d:y[b]?=ab v):z∈v ↔ ∃a:Nat,z=(a:Int)/\a<⇑y/\rel y a b=ae:=by
 constructor
 .intro j;obtain⟨q1,q2⟩:=h.rng _ _ d _ j;show⟨z.toNat,∅,∅,?_⟩;rw[AW d,show((z.toNat:Nat):Int)=z by lia];show j
 .rintro ⟨a,rfl,l,h2⟩
  rwa [AW d] at h2
def aB2(lo:Int)(n:Nat):(L4.aQ lo n).Pairwise (·<·):=yh _ (λa b (h:a<b)=>∅) Ko
def Rows.short(h:Rows x)(j:r∈x):⇑r<=⇑x:=by
 obtain⟨b,d⟩:=Cr.mp j;have nd:r.Nodup:=(h.up b r d).imp λq=>by lia
 have:=gJ r (L4.aQ 0 ⇑x) nd λa l=>LL.aX.mpr (by have:=h.rng b r d a l;lia)
 rwa [LL.aJ] at this
end Ord
namespace K45
open L3 L4 LL
def pr(p:Int×Int):List Int:=[p.1,p.2]
def eR(x:Q0a)(k:Nat):List (Int×Int):=(aQ 0 k).flatMap λb=>(row x b).map λa=>(a,b)
def nZ(x:Q0a)(k:Nat):eR x (k+1)=eR x k++(row x (k:Int)).map λa=>(a,(k:Int)):=by delta eR;rw[yF,List.flatMap_append];simp
def lR{x:Q0a}{p:Int×Int}:p∈eR x ⇑x↔0<=p.2/\p.2<(⇑x:Int)/\p.1∈row x p.2:=by
 delta eR;rw[Kq]
 constructor
 .rintro ⟨b,h,d⟩;obtain⟨a,j,rfl⟩:=gx.mp d;have:=aX.mp h;show⟨∅,∅,j⟩
 .rintro ⟨m,l,h2⟩;show⟨p.2,aX.mpr ∅,gx.mpr ⟨p.1,h2,rfl⟩⟩
def gA{x:Q0a}{b:Int}(d:0<=b)(a:b<(⇑x:Int)):x[b.toNat]?=ab (row x b):=by
 have:b.toNat<⇑x:=∅
 delta row;rw[cn this];rfl
def DD{x:Q0a}{a b:Nat}(d:b<⇑x):(((a:Int),(b:Int))∈eR x ⇑x)↔Ord.rel x a b=ae:=by
 rw[lR];have e:=gA (x:=x) (b:=(b:Int)) ∅ ∅;rw[gq] at e;rw[Ord.AW e]
 constructor
 .rintro ⟨_,_,h⟩;show h
 .intro h;show⟨by show(0:Int)<=(b:Int);lia,by show(b:Int)<_;lia,h⟩
def GX{x:Q0a}(j:Ord.Rows x):(eR x ⇑x).Nodup:=by
 delta eR;rw[Lc,List.pairwise_flatMap]
 constructor
 .intro b d;have d:=aX.mp d;have nd:(row x b).Nodup:=(j.up _ _ (gA ∅ ∅)).imp λq=>by lia
  show yh _ (λa c h e=>h (congrArg Prod.fst e)) nd
 .refine (Ord.aB2 0 ⇑x).imp λ{b c} h p m q l e=>?_;obtain⟨a,_,rfl⟩:=gx.mp m;obtain⟨n,_,rfl⟩:=gx.mp l;have:=congrArg Prod.snd e;simp at this;lia
theorem DF(d:Ord.Rows x)(j:⇑x<=9):∀k,k<=⇑x->⇑(eR x k)<=k*8:=by
 intro k
 induction k with
 |zero=>intro _;simp[eR,aQ]
 |succ k ih =>
  intro l;rw[nZ,gk,bb];have m:=ih ∅;have e:=gA (x:=x) (b:=(k:Int)) ∅ ∅;rw[gq] at e;have nd:(row x (k:Int)).Nodup:=(d.up _ _ e).imp λq=>by lia
  have h2:⇑((k:Int)::row x (k:Int))<=⇑(aQ 0 ⇑x):=Ord.gJ _ _ (kq.mpr ⟨d.GC _ _ e,nd⟩) λa h=>by
   rcases bu.1 h with rfl|h
   .exact aX.mpr ∅
   .have:=d.rng _ _ e a h;show aX.mpr ∅
  rw[aJ,eg] at h2;lia
def un(t:Q0e):Int×Int:=(t.getD 0 0,t.getD 1 0)
def srt(l:List (Int×Int)):List (Int×Int):=(rT (l.map pr)).map un
def DG(l:List (Int×Int)):(srt l).Perm l:=by have:=(kG (l.map pr)).map un;rw[dg] at this;have e:(un∘pr)=id:=funext λp=>rfl;rw[e,a2g] at this;show this
def XN(l:List (Int×Int)):(rT (l.map pr)).map oP=(srt l).map pairD:=by delta srt;rw[dg];show mh λt a=>?_;obtain⟨p,_,rfl⟩:=gx.mp ((kG (l.map pr)).mem_iff.mp a);rfl
theorem u4:∀l:List (Int×Int),nO (l.map pairD)=ab (l.map pr)
 |[]=>rfl
 |p::l=>by rw[bx,nO,u4 l];rfl
def GY(h:⇑l<64):nQ [.lst (l.map pairD)]=ab (.lst ((srt l).map pairD)):=by delta nQ;erw[u4,fg];rw[Z_ ⟨↑h,jd.mpr λt a=>by obtain⟨p,_,rfl⟩:=gx.mp a;rfl⟩,XN]
def code(p:Int×Int):Int:=if p.1<p.2 then p.1*9+p.2 else p.2*9+p.1
def codes:List Int:=(aQ 0 9).flatMap λi=>(aQ (i+1) (8-i).toNat).map λj=>i*9+j
def u5{x:Q0a}(j:Ord.Rows x){a b:Int}(l:(a,b)∈eR x ⇑x)(h2:(b,a)∈eR x ⇑x):False:=by obtain⟨o,n,h⟩:=lR.mp l;obtain⟨q,p,d⟩:=lR.mp h2;simp only at o n q p h d;obtain⟨m,rfl⟩:∃m:Nat,a=(m:Int):=⟨a.toNat,∅⟩;obtain⟨k,rfl⟩:∃k:Nat,b=(k:Int):=⟨b.toNat,∅⟩;have:=j.tr' ∅ ∅ ((DD ∅).mp l) ((DD ∅).mp h2);rw[j.Wa ∅] at this;cases this
def pC{a b c d:Int}(j:0<=b/\b<9)(h:0<=d/\d<9)(e:a*9+b=c*9+d):a=c/\b=d:=∅
def XQ{x:Q0a}(o:Ord.Rows x)(J:⇑x<=9):⇑(eR x ⇑x)<=36:=by
 have y:∀p∈eR x ⇑x,0<=p.1/\p.1<9/\0<=p.2/\p.2<9/\p.1≠p.2:=λp m=>by obtain⟨F,n,h2⟩:=lR.mp m;have e:=gA F n;obtain⟨q1,q2⟩:=o.rng _ _ e _ h2;show⟨q1,∅,F,∅,λz=>?_⟩;obtain⟨a,b⟩:=p;simp only at z;subst z;show u5 o m m
 have nd:((eR x ⇑x).map code).Nodup:=by
  rw[Lc,vn];show Lb (λ{p q} m A v e=>?_) (GX o);have l:=y p m;have j:=y q A;obtain⟨a,b⟩:=p;obtain⟨c,d⟩:=q;simp only at l j;delta code at e;simp only at e;by_cases n:a<b<;>by_cases h2:c<d
  .rw [Z_ n,Z_ h2] at e;obtain⟨rfl,rfl⟩:=pC ⟨l.2.2.1,l.2.2.2.1⟩ ⟨j.2.2.1,j.2.2.2.1⟩ e;show v rfl
  .rw [Z_ n,Zz h2] at e;obtain⟨rfl,rfl⟩:=pC ⟨l.2.2.1,l.2.2.2.1⟩ ⟨j.1,j.2.1⟩ e;show u5 o m A
  .rw [Zz n,Z_ h2] at e;obtain⟨rfl,rfl⟩:=pC ⟨l.1,l.2.1⟩ ⟨j.2.2.1,j.2.2.2.1⟩ e;show u5 o m A
  .rw [Zz n,Zz h2] at e;obtain⟨rfl,rfl⟩:=pC ⟨l.1,l.2.1⟩ ⟨j.1,j.2.1⟩ e;show v rfl
 have:=Ord.gJ _ codes nd λz I=>by
  obtain⟨p,m,rfl⟩:=gx.mp I;have:=y p m;delta code codes;by_cases h:p.1<p.2
  .rw [Z_ h,Kq];show⟨p.1,aX.mpr ∅,gx.mpr ⟨p.2,aX.mpr ∅,rfl⟩⟩
  .rw [Zz h,Kq];show⟨p.2,aX.mpr ∅,gx.mpr ⟨p.1,aX.mpr ∅,rfl⟩⟩
 rw[bb] at this;have e:⇑codes=36:=by decide+kernel
 lia
def DH{x:Q0a}(a:Ord.Rows x)(d:⇑x<=9):⇑(eR x ⇑x)<64:=by have:=XQ a d;lia
end K45
namespace P8
open L3 L4
def iD:kE:=c8 4 1
  (aK (jM 1 (eQ aG))
  (aK (fB (oO (bO 0)) (W3 2 3)
   (sX (m9 1 MX (a9 (bE 1 [2] (bV m7) (g1 0) bQ (hJ (aA bY (bO 1))))))))
  (b8 (cL dU (aA (cL nQ (bO 1)) aG)))))
open LL K45
def Lw(h:x ρ=ab (ρ',d)):sX x ρ=.nx ρ':=by delta sX;rw[h]
theorem V_(l:lG ρ[i]?=ab ds0)(a:x ρ=ab (ρ1,d))(j:lG ρ1[i]?=ab ds)(h:m ds d=ab q):
  m9 i m x ρ=ab (ρ1.set i (.ow (.lst q.1)),q.2):=by
 delta m9;rw[l,fg,a,fg,j,fg,h];rfl
def aB3(x:Q0a)(p:Int×Int):Bool:=!(row x p.2).any λc=>(row x c).contains p.1
structure Cl (x:Q0a) (P:List (Int×Int)) (b:Int) (u f:Q0e):Prop where
 nd:u.Nodup
 sub:∀a∈u,a∈row x b
 fr:∀a∈f,a=b\/a∈u
 cl:∀c,(c=b\/c∈u)->c∉f ->∀a,(a,c)∈P->a∈u
abbrev T(x:Q0a):List (Int×Int):=srt (eR x ⇑x)
def n5(o:Ord.Rows x)(v:⇑x<=9):iD [aF x]=.ok (.tup ((T x).map pairD)):=by
 have A:=DH o v;delta iD;show fO rfl (bX [.ro (aF x),.ow (.lst []),.no,.no] rfl ?_);obtain⟨z,e,n,m,rfl⟩:Nx (fB (oO (bO 0)) (W3 2 3)
   (sX (m9 1 MX (a9 (bE 1 [2] (bV m7) (g1 0) bQ (hJ (aA bY (bO 1))))))) [.ro (aF x),.ow (.lst []),.no,.no])
   (λρ=>∃n m,ρ=[Sv.ro (aF x),Sv.ow (.lst ((eR x ⇑x).map pairD)),n,m]):=by
  show qV ((x.map τ).zipIdx.map λp=>.tup [.int (p.2:Int),p.1]) (λi ρ=>∃n m,ρ=[Sv.ro (aF x),Sv.ow (.lst ((eR x i).map pairD)),n,m]) rfl ⟨_,_,rfl⟩ ?_ λρ h=>by simpa using h
  rintro i d _ l ⟨n,m,rfl⟩;rw[c_,a2k,c_] at l
  cases q:x[i]? with
  |none=>rw[q] at l;cases l
  |some r =>
   have I:i<⇑x:=(de.mp q).1;rw[q] at l;have l:=dm l;subst l;have y:row x (i:Int)=r:=by delta row;rw[gq,q];rfl
   have F:=DF o v i ∅;have j:=DF o v (i+1) ∅;rw[nZ,gk,y] at j;show⟨[.ro (aF x),.ow (.lst ((eR x i).map pairD)),.ro (.int (i:Int)),.ro (τ r)],by show ab [_,_,_,_]=_;rw[ql],_,Lw (V_ (ρ1:=[.ro (aF x),.ow (.lst ((eR x i).map pairD)),.ro (.int (i:Int)),.ro (τ r)]) (ds0:=(eR x i).map pairD) (ds:=(eR x i).map pairD) (d:=.lst ((r.map λa=>(a,(i:Int))).map pairD)) rfl ?_ rfl (XA (by simp at j ⊢;lia))),.ro (.int (i:Int)),.ro (τ r),?_⟩
   .delta a9;rw[dZ (r.map D.int) rfl (by simp at j ⊢;lia) (bM D.int (λa=>pairD (a,(i:Int))) r λa _=>⟨_,rfl,rfl⟩),dg];rfl
   .rw [nZ,h_,y];rfl
 show bX _ e (f7 (cZ (cZ rfl (GY A)) rfl))
def aEU:p∈T x↔0<=p.2/\p.2<(⇑x:Int)/\p.1∈row x p.2:=by rw[(DG _).mem_iff,lR]
def aEV(a:Ord.Rows x)(d:⇑x<=9):⇑(T x)<64:=by rw[(DG _).length_eq];show DH a d
abbrev B(x:Q0a):List (Int×Int):=(T x).filter (aB3 x)
end P8
namespace LL
open L3 L4
def iD:kE:=c8 4 1
  (aK (jM 1 (eQ aG))
  (aK (fB (oO (bO 0)) (W3 2 3)
   (sX (m9 1 MX (a9 (bE 1 [2] (bV m7) (g1 0) bQ (hJ (aA bY (bO 1))))))))
  (b8 (cL dU (aA (cL nQ (bO 1)) aG)))))
def Fs(h:a ρ=ab x)(d:b ρ=ab y):hJ (aA a (aA b aG)) ρ=ab (.tup [x,y]):=XB (args2 h d) (by simp)
def XR(v:p<=4000)(o:q<=4000)(n:i.natAbs<2^p)(l:j.natAbs<2^q):mulM (.int i) (.int j)=ab (.int (i*j)):=by
 have d:∀m r:Nat,m<2^r->m.log2<r+1:=by
  intro m r h;by_cases z:m=0
  .rw [z];show Nat.succ_pos r
  .exact vk ((Nat.log2_lt z).mpr h)
 have a:=d _ _ n;have b:=d _ _ l;have e:uC i j=ae:=by delta uC;rw[Zx (show i.natAbs.log2+j.natAbs.log2<=134217700 by lia),Bool.or_true]
 delta mulM iI;show Z_ e
def n5(a:Ord.Rows x)(d:⇑x<=9):LL.iD [aF x]=.ok (.tup ((P8.T x).map pairD)):=P8.n5 a d
def η(d:Q0e)(a:Int):Int:=(d[a.toNat]?).getD 0
def aB4(h:0<=a)(d:a<(⇑fl:Int)):eB (τ fl) (.int a)=ab (.int (η fl a)):=by obtain⟨x,_,e,j⟩:=AV h d;show sQ (fl.map D.int) a=_;rw[tR,e];delta η;rw[j];rfl
def aB5(h:0<=a)(d:a<(⇑fl:Int)):eB (aB fl) (.int a)=ab (.int (η fl a)):=aB4 h d
def eS:kE:=c8 2 2
  (b8 (cL dU (aA (cL lH (aA (aC dH bY (hJ (bO 1))) aG)) aG)))
def dB:kE:=c8 3 2
  (aK (bH 2 (bE 1 [1] (bG (aA (cL cJ (bO 0)) aG)) (g1 0) (tV (aC (uE ae) bY cP)) bY))
  (b8 (bE 1 [1,0] (bV fH) (g1 0) (tV (cL allM (aA (bE 1 [1] (bV (aC eB fH bY)) (g1 0) bQ (aC (uE ag) bY cP)) aG))) bY)))
def aV(x:Q0a)(a:Q0e):List Int:=((aQ 0 ⇑x).filter λt=>!a.contains t).filter λt=>(row x t).all λl=>a.contains l
def aI(a:Q0e)(t:Int):List Int:=sortI (a++[t])
def rdI(x:Q0a)(a:Q0e):List (List Int):=(aV x a).map (aI a)
def Q2(x:Q0a)(a:Q0e):Prop:=a.Nodup /\∀t∈a,0<=t/\t<(⇑x:Int)
def AX(h:⇑ns<64):lH [.tup (ns.map D.int)]=ab (.lst ((sortI ns).map D.int)):=by simp[lH,bP,h]
def yL(h:⇑a<=9):eS [τ a,.int t]=.ok (τ (aI a t)):=by
 delta eS;show fO rfl (f7 (cZ (x:=aB (aI a t)) (cZ (x:=τ (a++[t])) (cK (x:=τ a) (y:=τ [t]) rfl rfl ?_) ?_) rfl))
 .delta τ;rw[C6 (by simp;lia),h_]
 .have:=AX (ns:=a++[t]) (by simp;lia);show this
def u6(q:⇑x<=9)(n:∀r∈x,⇑r<=9):dB [aF x,τ a]=.ok (aB (aV x a)):=by
 delta dB aV;have e1:bE 1 [1] (bG (aA (cL cJ (bO 0)) aG)) (g1 0) (tV (aC (uE ae) bY cP)) bY (gI (eG 3 [aF x,τ a]))=ab (aB ((aQ 0 ⇑x).filter λt=>!a.contains t)):=by show dZ ((aQ 0 ⇑x).map D.int) (yI (cZ rfl f9) ∅) (by rw[bb,aJ];lia) ?_;show fQ D.int _ D.int (aQ 0 ⇑x) λt _=>⟨[ab (.int t),ab (τ a)],rfl,nA (cK (x:=.int t) (y:=τ a) rfl rfl XM) rfl,λ_=>rfl⟩
 generalize j:((aQ 0 ⇑x).filter λt=>!a.contains t)=L at e1;have o:∀t∈L,0<=t/\t<(⇑x:Int):=λt h=>by rw[<- j] at h;have:=aX.mp (gi.mp h).1;lia
 have v:⇑L<=9:=by rw[<- j];have:=nr (λt=>!a.contains t) (aQ 0 ⇑x);rw[aJ] at this;lia
 show fO rfl (bX _ (fF (aB L) e1 rfl) (f7 ?_));show dZ (L.map D.int) rfl (by rw[bb];lia) ?_;show fQ D.int _ D.int L λt h=>⟨[ab (.int t),ab (τ a),ab (aF x)],rfl,?_,λ_=>rfl⟩;obtain⟨m,t1⟩:=o t h;have p:⇑(row x t)<=9:=by delta row;rw[cn ∅];show n _ (yb _)
 show nA (d:=.bl ((row x t).all λl=>a.contains l)) (cZ (x:=.lst (((row x t).map λl=>a.contains l).map D.bl)) ?_ ?_) rfl
 .refine Eq.trans (dZ ((row x t).map D.int) ?_ (by rw[bb];lia) (bM D.int (λl=>.bl (a.contains l)) (row x t) λl _=>⟨[ab (.int l),ab (τ a)],rfl,cK (x:=.int l) (y:=τ a) rfl rfl uZ⟩)) (by rw[dg];rfl);delta bV;rw[cK (x:=aF x) (y:=.int t) (z:=ab (τ (row x t))) rfl rfl (GW m t1)];rfl
 .rw [pA,Cy];rfl
def jW(h:t∈aV x a):(0<=t/\t<(⇑x:Int))/\t∉a:=by delta aV at h;have d:=(gi.mp h).1;have h2:=gi.mp d;have:=aX.mp h2.1;show⟨∅,by simpa using h2.2⟩
def aB6(n:Nat):(aQ 0 n).Nodup:=by show xw.mpr λi j h d l=>?_;have e1:=fJ (lo:=0) (n:=n) (i:=i) (by simpa[aJ] using h);have a:=fJ (lo:=0) (n:=n) (i:=j) (by simpa[aJ] using d);rw[cn h] at e1;rw[cn d] at a;have e1:=dm e1;have a:=dm a;lia
def jX(h:Q2 x a):⇑(aV x a)+⇑a<=⇑x:=by
 have nd:(aV x a++a).Nodup:=by show tq.mpr ⟨?_,h.1,λu j v d e=>(jW j).2 (e▸d)⟩;delta aV;show kr _ (kr _ (aB6 ⇑x))
 have:=Ord.gJ _ (aQ 0 ⇑x) nd λt l=>aX.mpr (by
  rcases ie.1 l with z|z
  .have:=(jW z).1;lia
  .have:=h.2 t z;lia)
 rwa [gk,aJ] at this
def JZ(h:Q2 x a):(∀b∈rdI x a,Q2 x b/\⇑b=⇑a+1)/\⇑(rdI x a)+⇑a<=⇑x:=by
 show⟨λb l=>?_,by delta rdI;rw[bb];show jX h⟩;delta rdI at l;obtain⟨t,m,rfl⟩:=gx.mp l;obtain⟨n,o⟩:=jW m;have p:=sortI_perm (a++[t]);show⟨⟨?_,λu d=>?_⟩,?_⟩
 .delta aI;show p.nodup_iff.mpr (tq.mpr ⟨h.1,by simp,λu d v j e=>?_⟩);rw[dh] at j;subst j;subst e;show o d
 .delta aI at d;rcases ie.1 (p.mem_iff.mp d) with z|z
  .exact h.2 u z
  .rw [dh] at z;subst z;show n
 .delta aI;rw[p.length_eq];simp
def pD(h:Q2 x a):⇑a<=⇑x:=by have:=jX h;lia
def J0:Q2 x []:=⟨vp,λt a=>by cases a⟩
end LL
namespace K24
noncomputable def fact:Nat->Int
 |0=>1
 |k+1=>fact k*(k+1)
noncomputable def ff(x:Int):Nat->Int
 |0=>1
 |k+1=>ff x k*(x-k)
theorem pE:∀k,0<fact k
 |0=>by decide
 |k+1=>Int.mul_pos (pE k) ∅
theorem J1(x:Int):∀k,ff (x+1) (k+1)=(x+1)*ff x k
 |0=>by simp[ff]
 |k+1=>by rw[show ff (x+1) (k+1+1)=ff (x+1) (k+1)*(x+1-((k+1:Nat):Int)) from rfl,J1 x k,show ff x (k+1)=ff x k*(x-k) from rfl,yi];congr 2;lia
def AZ(x:Int)(k:Nat):ff (x+1) (k+1)=ff x (k+1)+(k+1)*ff x k:=by rw[J1,show ff x (k+1)=ff x k*(x-k) from rfl,qu (ff x k),<- ud];congr 1;lia
theorem J3:∀k,ff 0 (k+1)=0
 |0=>by simp[ff]
 |k+1=>by rw[show ff 0 (k+1+1)=ff 0 (k+1)*_ from rfl,J3 k,ml]
theorem Q4:∀(k:Nat) (x:Int),fact k ∣ ff x k
 |0,x=>by simp[fact,ff]
 |k+1,x=>by
  have a:∀y:Int,fact (k+1) ∣ (k+1)*ff y k:=λy=>by obtain⟨c,e⟩:=Q4 k y;show⟨c,by rw[e,show fact (k+1)=fact k*(k+1) from rfl,<- yi,qu (k+1:Int)]⟩
  have up:∀y:Int,fact (k+1) ∣ ff y (k+1)->fact (k+1) ∣ ff (y+1) (k+1):=λy h=>by rw[AZ];show Int.dvd_add h (a y)
  have dn:∀y:Int,fact (k+1) ∣ ff (y+1) (k+1)->fact (k+1) ∣ ff y (k+1):=λy h=>by rw[AZ] at h;show(Int.dvd_add_left (a y)).mp h
  have d:fact (k+1) ∣ ff 0 (k+1):=by rw[J3];show Int.dvd_zero _
  have j:∀n:Nat,fact (k+1) ∣ ff (n:Int) (k+1):=λn=>by
   induction n with
   |zero=>show d
   |succ n ih=>show up _ ih
  have neg:∀n:Nat,fact (k+1) ∣ ff (-(n:Int)) (k+1):=λn=>by
   induction n with
   |zero=>show d
   |succ n ih=>show dn _ (by rw[show -((n+1:Nat):Int)+1=-(n:Int) by lia];show ih)
  rcases Int.le_total 0 x with l|l
  .have:=j x.toNat;rwa [show((x.toNat:Nat):Int)=x by lia] at this
  .have:=neg (-x).toNat;rwa [show -(((-x).toNat:Nat):Int)=x by lia] at this
--CUT
def C(x:Int)(m:Nat):Int:=ff x m/fact m
def yM(x:Int)(m:Nat):C x m*fact m=ff x m:=Int.ediv_mul_cancel (Q4 m x)
def Fq(h:c*fact m=ff x m):c=C x m:=a2G (a2B (pE m)) (h.trans (yM x m).symm)
def GZ(x:Int):C x 0=1:=rfl
def Q5(x:Int)(m:Nat):C (x+1) (m+1)=C x (m+1)+C x m:=by show(Fq ?_).symm;rw[ud,yM,show fact (m+1)=fact m*(m+1) from rfl,<- yi,yM,AZ,qu (ff x m)]
theorem J4:∀{m:Nat},x<m->ff (x:Int) m=0
 |m+1,h=>by
  show ff (x:Int) m*((x:Int)-(m:Int))=0;by_cases e:x=m
  .subst e;rw[Int.sub_self,Dc]
  .rw [J4 ∅,ml]
theorem Q6{x:Int}{m:Nat}(a:0<=x)(h:x<m):C x m=0:=by show(Fq ?_).symm;obtain⟨n,rfl⟩:∃n:Nat,x=(n:Int):=⟨x.toNat,∅⟩;rw[J4 ∅,ml]
def Df(f:Int->Int):Int->Int:=λx=>f (x+1)-f x
noncomputable def It(j:Nat)(f:Int->Int):Int->Int:=match j with
 |0=>f
 |j+1=>It j (Df f)
noncomputable def diffs:List Int->List Int
 |a::b::l=>(b-a)::diffs (b::l)
 |_=>[]
theorem h9:∀l:Q0e,⇑(diffs l)=⇑l-1
 |[]=>rfl
 |[_]=>rfl
 |a::b::l=>by rw[diffs,eg,h9 (b::l)];simp
def fd(l:Q0e):List Int:=match l with
 |[]=>[]
 |a::r=>a::fd (diffs (a::r))
termination_by ⇑l
decreasing_by rw[h9];simp
def Q7:fd []=[]:=by rw[fd]
theorem A1(a:Int)(r:Q0e):fd (a::r)=a::fd (diffs (a::r)):=by rw[fd]
noncomputable def vals(f:Int->Int):Nat->Int->List Int
 |0,_=>[]
 |n+1,x=>f x::vals f n (x+1)
theorem u7(f:Int->Int):∀(n:Nat) (x:Int),diffs (vals f (n+1) x)=vals (Df f) n x
 |0,x=>rfl
 |n+1,x=>by have a:=u7 f n (x+1);show(f (x+1)-f x)::diffs (vals f (n+1) (x+1))=(f (x+1)-f x)::vals (Df f) n (x+1);rw[a]
theorem XS(f:Int->Int)(n:Nat):fd (vals f (n+1) 0)=f 0::fd (vals (Df f) n 0):=by show fd (f 0::vals f n (0+1))=_;rw[A1];congr 1;show congrArg fd (u7 f n 0)
def DV(n:Nat)(d:Int):List Int->Int->Int
 |[],_=>0
 |w::l,k=>w*C (k+n-1-d) n+DV n (d+1) l k
theorem yN:∀(a b:Q0e) (d:Int),DV n d (a++b) k=DV n d a k+DV n (d+⇑a) b k
 |[],b,d=>by simp[DV]
 |w::a,b,d=>by show w*C (k+n-1-d) n+DV n (d+1) (a++b) k=w*C (k+n-1-d) n+DV n (d+1) a k+DV n (d+(⇑a+1:Nat)) b k;rw[yN a b (d+1),show d+1+(⇑a:Int)=d+(⇑a+1:Nat) by lia];lia
theorem yO:∀(n:Nat) (l:Q0e),⇑l=n->⇑(fd l)=n
 |0,l,h=>by rw[qp.mp h,Q7];rfl
 |n+1,[],h=>by simp at h
 |n+1,a::r,h=>by rw[A1,eg,yO n _ (by rw[h9,h];rfl)]
theorem lT(f:Int->Int):∀n x,⇑(vals f n x)=n
 |0,_=>rfl
 |n+1,x=>by rw[vals,eg,lT f n]
def Bg(b:Nat)(x:Int):Prop:=x.natAbs<2^b
def Bg.mono(h:Bg a x)(d:a<=b):Bg b x:=gu h (nh ∅ d)
def Bg.mul(h:Bg a x)(g:Bg b y):Bg (a+b) (x*y):=by delta Bg at *;rw[a1P,a2C];show Nat.mul_lt_mul_of_lt_of_lt h g
def Bg.sub(h:Bg a x)(g:Bg a y):Bg (a+1) (x-y):=by delta Bg at *;rw[a1O];generalize 2^a=z at *;lia
end K24
namespace LL
open L3 L4
def jG:kE:=c8 2 2
  (b8 (bE 2 [] (uM (aA bY (bO 1))) (g2 0 1) bQ (aC dH bY cP)))
def bR:kE:=c8 1 1
  (b8 (aC dH (eQ (aA (eI 0) aG)) (JL bY MV (oE (sO (eI 1))))))
def bB:Nat->sR
 |0=>λ_ _=>.no
 |n+1=>runM 8 4
  ((aK (bH 4 (hJ (aA cP (bO 2))))
  (g8 (tV (aC (uL ae) i9 m7))
   (aK (jM 5 (aC repLM (eQ (aA (eI 0) aG)) (cL yB (aA (cL cJ (bO 0)) (aA (eI 1) aG)))))
   (aK (g8 (tV (aC oM (cL cJ (bO 1)) (cL cJ (bO 0))))
    (MY 5 (a9 (eI 1)) (eI 0))
    dW)
   (aK (Ao 5 (fB (bV (aO LL.dB (aA bY (bO 1)))) (rS 6)
    (aK (qK 7 (bB n) (aA bY (aA (aO LL.eS (aA cP (bO 6))) (bO 6))) 3)
    (bH 5 (aO LL.jG (aA nL (aA (WY (tV (aC CQ fH QE)) (aO LL.bR (bO 7)) q_) aG)))))))
   (iL 3 (a9 nL) i9))))
   dW)))
  i9
def jH:kE:=c8 2 1
  (aK (JP 1)
  (aK (M5 (LL.bB 11) (aA bY (aA (hJ aG) (aA (eI 0) aG))) 1)
  (b8 cP)))
def dM:kE:=c8 1 1
  (b8 (cL dU (aA (aC Fu (aO LL.jH (bO 0)) (hJ (aA (hJ aG) (aA (eI 0) aG)))) aG)))
def pF:kE:=c8 4 2
  (aK (bH 2 (eI 1))
  (aK (fB (bG (bO 1)) (rS 3)
   (bH 2 (aC sP (aC mulM fH (aC qI bY m7)) (aC dH m7 (eI 1)))))
  (b8 fH)))
def dP:kE:=c8 3 3
  (b8 (cL xH (aA (bE 2 [1,2] (oO (bO 0)) (g2 0 1) bQ (aC mulM cP (aO LL.pF (aA (aC qI (aC qI (aC dH m7 fH) (eI 1)) bY) (bO 2))))) aG)))
def dQ:kE:=c8 3 1
  (aK (jM 1 (eQ aG))
  (aK (bH 2 bY)
  (aK (uK nN (tV fH)
   (aK (sX (m9 1 g4 (a9 (aC eB fH (eI 0)))))
   (bH 2 (bE 2 [] (uM (aA fH (aA (JL fH (oE (eI 1)) MV) aG))) (g2 0 1) bQ (aC qI cP bY)))))
  (b8 (cL dU (bO 1))))))
def eL:kE:=c8 3 1
  (aK (bH 1 (cL cJ (bO 0)))
  (aK (bH 2 (aO LL.dM (bO 0)))
  (b8 (aO LL.dQ (aA (bE 1 [2,1] (bG (aA (aC dH cP (eI 1)) aG)) (g1 0) bQ (aO LL.dP (aA cP (aA fH (bO 0))))) aG)))))
def mU:kE:=c8 2 2
  (aK (g8 (MT (m8 (tV (iJ "tuple" bY))) (tV (aC QF (cL cJ (bO 0)) cP)))
   (b8 (eC (.bl ag)))
   dW)
  (b8 (cL allM (aA (bE 1 [] (bV bY) (g1 0) bQ (kF (iJ "int" bY) (qH (iJ "bool" bY)))) aG))))
def mV:kE:=c8 1 1
  (b8 (bE 1 [] (bV bY) (g1 0) bQ (cL xH (aA (bE 1 [] (bV bY) (g1 0) bQ (aC C2 (eI 1) bY)) aG))))
def eT{ks:List rV}{k a:rV}{v:D}:∀{ks:List rV} {ds:List D},⇑ks=⇑ds->aS (cV ks ds k v).1 (cV ks ds k v).2 a=if a=k then ab v else aS ks ds a:=by
 intro ks ds j;delta cV;split
 .rename_i hc;have go:∀(ks:List rV) (ds:List D),⇑ks=⇑ds->aS ks ((ks.zip ds).map λp=>if p.1=k then v else p.2) a=if a=k then(aS ks ds a).map (λ_=>v) else aS ks ds a:=by
   intro ks
   induction ks with
   |nil=>intro ds _;simp[aS]
   |cons q ks ih =>
    intro ds j
    cases ds with
    |nil=>simp at j
    |cons d ds =>
     have:=ih ds ↑j;delta aS at this ⊢;by_cases l:q=a
     .subst l;by_cases h2:q=k
      .simp [h2]
      .simp [h2]
     .simpa [l] using this
  have m:k∈ks:=by rw[Cw] at hc;obtain⟨q,n,e⟩:=hc;rw[<- of_decide_eq_true e];show n
  have some_of:∀(ks:List rV) (ds:List D),⇑ks=⇑ds->k∈ks ->∃d,aS ks ds k=ab d:=by
   intro ks
   induction ks with
   |nil=>intro ds _ h;cases h
   |cons q ks ih =>
    intro ds j h
    cases ds with
    |nil=>simp at j
    |cons d ds =>
     by_cases l:q=k
     .exact ⟨d,by simp[aS,l]⟩
     .obtain ⟨d',e⟩:=ih ds ↑j ((bu.1 h).resolve_left (fz l));show⟨d',by delta aS at e ⊢;simpa[l] using e⟩
  rw[go ks ds j];by_cases h:a=k
  .subst h;obtain⟨d,e⟩:=some_of ks ds j m;rw[e];simp
  .rw [Zz h,Zz h]
 .rename_i hc;have x:k∉ks:=λh=>hc (Cw.2 ⟨k,h,by simp⟩);delta aS;dsimp only;rw[a15 j,List.find?_append];by_cases h:a=k
  .subst h;have:((ks.zip ds).find? λp=>Zv (p.1=a))=af:=by rw[List.find?_eq_none];intro p o;have:=tm o;erw[decide_eq_true_eq];show λe=>x (e▸this.1)
   rw[this];simp
  .rw [Zz h];have:([k].zip [v]).find? (λp=>Zv (p.1=a))=af:=by simp[fz h]
   rw[this,Option.or_none]
def pG{ks:List rV}{ds:List D}{k:rV}{v:D}(h:⇑ks=⇑ds):⇑(cV ks ds k v).1=⇑(cV ks ds k v).2/\⇑(cV ks ds k v).1<=⇑ks+1:=by
 delta cV;split
 .simp [h]
 .simp [h]
def yP{ks:List rV}{ds:List D}{k:rV}{v:D}(h:∀q∈ks,q.isLeft=ag)(d:k.isLeft=ag):∀q∈(cV ks ds k v).1,q.isLeft=ag:=by
 delta cV;split
 .exact h
 .intro q a;rcases ie.1 a with z|z
  .exact h q z
  .rw [dh.1 z];show d
def fP(h:∀q∈ks,q.isLeft=ag)(d:k.isLeft=ag):kindB ks k=ae:=by delta kindB;rw[jd];intro q a;rw[h q a,d];rfl
theorem yQ:∀a:Q0e,yD (a.map D.int)=ab (a.map dq)
 |[]=>rfl
 |x::a=>by rw[bx,yD,yQ a];rfl
def kS(a:Q0e)(l:Int):rV:=.inr [.inr (a.map dq),.inl (.inl l)]
def J5(a:Q0e)(l:Int):lJ (.tup [τ a,.int l])=ab (kS a l):=by
 have e:QK (τ a)=ab (.inr (a.map dq)):=by show(yD (a.map D.int)).map ki=_;rw[yQ];rfl
 show(lI [τ a,.int l]).map ki=_;delta lI;rw[e];rfl
theorem J6:∀{a b:Q0e},a.map (dq:Int->xI)=b.map dq->a=b
 |[],[],_=>rfl
 |[],_::_,h=>by simp at h
 |_::_,[],h=>by simp at h
 |x::a,y::b,h=>by erw[bx,Ct,Hr] at h;rw[h.1,J6 h.2]
theorem Q8{a b:Q0e}{l m:Int}(h:kS a l=kS b m):a=b/\l=m:=by delta kS at h;erw[a0a,Ct,Hr,and_true] at h;show⟨J6 h.1,h.2⟩
def eM(a b:Q0e):List Int:=(a.zip b).map λp=>p.1+p.2
def eO(l:Q0e):List Int:=0::l.dropLast
def A2(n:Nat):List Int:=1::cg (max n 1-1) 0
def xM(n:Nat):List Int:=cg (max n 1) 0
section
variable(x:Q0a)
def Sh:Nat->List Int->Int->List Int
 |0,_,_=>A2 ⇑x
 |m+1,a,l=>(aV x a).foldl (λd t=>eM d (if t<l then eO (Sh m (aI a t) t) else Sh m (aI a t) t)) (xM ⇑x)
end
def DI(h:⇑a<=1000):jG [aB a,aB b]=.ok (aB (eM a b)):=by
 delta jG eM;show fO rfl (f7 (dZ ((a.zip b).map λp=>D.tup [.int p.1,.int p.2]) ?_ ?_ ?_))
 .delta uM;rw[args2 (x:=aB a) (y:=aB b) rfl rfl];show ab (((a.map D.int).zip (b.map D.int)).map _)=_;rw[Ke,dg];rfl
 .rw [bb,Kt];lia
 .rw [bM (λp:Int×Int=>D.tup [.int p.1,.int p.2]) (λp=>.int (p.1+p.2)) (a.zip b) λp _=>⟨[ab (.int p.1),ab (.int p.2)],rfl,rfl⟩,dg];rfl
def XT(d:1<=⇑a)(h:⇑a<=1000):bR [aB a]=.ok (aB (eO a)):=by
 delta bR;show fO rfl (f7 (cK (x:=aB [0]) (y:=aB a.dropLast) rfl ?_ ?_))
 .show ab (D.lst (CY (a.map D.int) af (ab (-1))))=_;delta aB CY MW;rw[bb];erw[xn,qt];rw[Z_ ⋯,show((-1:Int)+(⇑a:Int)).toNat=⇑a-1 by lia,<- List.map_take,List.dropLast_eq_take]
 .show (if _ then _ else _)=_;rw[Z_ (by simp[k7];lia)];rfl
def eU(h:⇑a=⇑b):⇑(eM a b)=⇑a:=by delta eM;simp[h]
def fR(h:1<=⇑a):⇑(eO a)=⇑a:=by delta eO;simp;lia
def kK(n:Nat):⇑(xM n)=max n 1:=by simp[xM]
def DJ(n:Nat):⇑(A2 n)=max n 1:=by simp[A2];lia
theorem iE(x:Q0a):∀(m:Nat) (a:Q0e) (l:Int),⇑(Sh x m a l)=max ⇑x 1
 |0,a,l=>DJ _
 |m+1,a,l=>by
  delta Sh;have go:∀(j:Q0e) (d:Q0e),⇑d=max ⇑x 1->⇑(j.foldl (λd t=>eM d (if t<l then eO (Sh x m (aI a t) t) else Sh x m (aI a t) t)) d)=max ⇑x 1:=by
   intro j
   induction j with
   |nil=>intro d h;show h
   |cons t j ih =>
    intro d h;rw[lp];show ih _ ?_;rw[eU]
    .exact h
    .rw [h];have:=iE x m (aI a t) t;split
     .rw [fR ∅];show this.symm
     .exact this.symm
  show go _ _ (kK _)
noncomputable def most:Nat->Nat
 |0=>1
 |m+1=>1+(m+1)*most m
def gY(x:Q0a)(kd:KD):Prop:=⇑kd.1=⇑kd.2/\(∀q∈kd.1,q.isLeft=ag)/\(∀a l d,aS kd.1 kd.2 (kS a l)=ab d->d=aB (Sh x (⇑x-⇑a) a l)) /\∀a l,(aS kd.1 kd.2 (kS a l)).isSome=ae->⇑a<⇑x ->∀t∈aV x a,(aS kd.1 kd.2 (kS (aI a t) t)).isSome=ae
def A3(kd a:KD):Prop:=∀k,(aS kd.1 kd.2 k).isSome=ae->(aS a.1 a.2 k).isSome=ae
def gY.put{x:Q0a}{kd:KD}(h:gY x kd)(a:Q0e)(l:Int)(o:⇑a<⇑x ->∀t∈aV x a,(aS kd.1 kd.2 (kS (aI a t) t)).isSome=ae):gY x (cV kd.1 kd.2 (kS a l) (aB (Sh x (⇑x-⇑a) a l))):=by
 have up:∀k,(aS kd.1 kd.2 k).isSome=ae->(aS (cV kd.1 kd.2 (kS a l) (aB (Sh x (⇑x-⇑a) a l))).1 (cV kd.1 kd.2 (kS a l) (aB (Sh x (⇑x-⇑a) a l))).2 k).isSome=ae:=λk e=>by
  rw[eT (ks:=[]) h.1];split
  .rfl
  .exact e
 show⟨(pG h.1).1,yP h.2.1 rfl,λb m d e=>?_,λb m e n t j=>?_⟩
 .rw [eT (ks:=[]) h.1] at e;split at e
  .rename_i hk;obtain⟨rfl,rfl⟩:=Q8 hk;show(dm e).symm
  .exact h.2.2.1 b m d e
 .rw [eT (ks:=[]) h.1] at e;split at e
  .rename_i hk;obtain⟨rfl,rfl⟩:=Q8 hk;show up _ (o n t j)
  .exact up _ (h.2.2.2 b m e n t j)
def nI(x:Q0a)(a:Q0e)(l:Int)(q:Nat->ay->Prop)(kd:KD)(s v6 v7:Sv):bC:=[.ro (aF x),.ro (τ a),.ri l,.ow (.a8 q kd.1 kd.2),.ro (.tup [τ a,.int l]),s,v6,v7]
def Au(h:gY x kd):tV (aC (uL ae) i9 m7) (bL (nI x a l q kd s v6 v7))=ab (!(aS kd.1 kd.2 (kS a l)).isSome):=by show nA (d:=.bl (!(aS kd.1 kd.2 (kS a l)).isSome)) (cK (x:=.tup [τ a,.int l]) (y:=.a8 q kd.1 kd.2) rfl rfl ?_) rfl;show((lJ (.tup [τ a,.int l])).bind _)=_;rw[J5];show(if _ then _ else _)=_;rw[Z_ (fP h.2.1 rfl)];rfl
def Hj(h:gY x kd)(m:∀b o,q b o ->∃o2,q0 b o2)(n:aS kd.1 kd.2 (kS a l)=ab d):AD 3 i9 q0 (nI x a l q kd s v6 v7)=ab (d,kd):=by have e:AD 3 i9 q0 (nI x a l q kd s v6 v7)=(lJ (.tup [τ a,.int l])).bind λj=>@ite _ (kindB kd.1 j=ae /\∀b o,q b o ->∃o2,q0 b o2) (qv _) ((aS kd.1 kd.2 j).map λd=>(d,kd)) af:=rfl;rw[e,J5];show(Z_ ⟨fP h.2.1 rfl,m⟩).trans (by rw[n];rfl)
theorem rep0(n:Nat)(h:n<=1000):repLM (.lst [.int 0]) (.int (n:Int))=ab (aB (cg n 0)):=by
 show(if _ then _ else _)=_;rw[Z_ ⟨by simp[k7];lia,∅⟩];delta aB;congr 2;erw[gq]
 induction n with
 |zero=>rfl
 |succ n ih=>rw[ko,tw,ih ∅,ko];rfl
def vA(h:Q2 x a)(d:⇑a=⇑x):aV x a=[]:=by have:=jX h;show La ∅
def J7(a:⇑x<=9)(h:ρ[0]?=ab (ab (aF x))):aC repLM (eQ (aA (eI 0) aG)) (cL yB (aA (cL cJ (bO 0)) (aA (eI 1) aG))) ρ=ab (aB (xM ⇑x)):=by
 have e0:bF 0 ρ=ab (aF x):=by delta bF;rw[h];rfl
 show cK (x:=.lst [.int 0]) (y:=.int ((max ⇑x 1:Nat):Int)) rfl (Wb (x:=.int ⇑x) (y:=.int 1) (cZ e0 f9) rfl ?_) (rep0 _ ∅);show ab (D.int (if _ then _ else _))=_;split<;>congr 2<;>lia
def pH(j:ρ[0]?=ab (ab (aF x)))(h:ρ[1]?=ab (ab (τ a))):tV (aC oM (cL cJ (bO 1)) (cL cJ (bO 0))) ρ=ab (Zv (⇑a=⇑x)):=by
 have e0:bF 0 ρ=ab (aF x):=by delta bF;rw[j];rfl
 have e1:bF 1 ρ=ab (τ a):=by delta bF;rw[h];rfl
 show nA (d:=.bl (Zv ((⇑a:Int)=⇑x))) (cK (cZ e1 DB) (cZ e0 f9) gS) ?_;rw[jV];congr 1;show decide_eq_decide.2 ∅
def sU(x:Q0a)(kd:KD)(a:Q0e)(l:Int):KD:=cV kd.1 kd.2 (kS a l) (aB (Sh x (⇑x-⇑a) a l))
def J8{x:Q0a}{kd:KD}{a:Q0e}{l:Int}(h:gY x kd)(d:⇑a<⇑x ->∀t∈aV x a,(aS kd.1 kd.2 (kS (aI a t) t)).isSome=ae):gY x (sU x kd a l)/\⇑(sU x kd a l).1<=⇑kd.1+1/\aS (sU x kd a l).1 (sU x kd a l).2 (kS a l)=ab (aB (Sh x (⇑x-⇑a) a l))/\A3 kd (sU x kd a l) :=
 ⟨h.put a l d,(pG h.1).2,by delta sU;rw[eT (ks:=[]) h.1,Z_ rfl],λk e=>by
  delta sU;rw[eT (ks:=[]) h.1];split
  .rfl
  .exact e⟩
theorem Hi(h:gY x kd)(j:⇑kd.1<16000000):
  iL 3 (a9 nL) i9 (nI x a l q kd (.ro (aB (Sh x (⇑x-⇑a) a l))) v6 v7)=.nx (nI x a l (adr q) (sU x kd a l) (.ro (aB (Sh x (⇑x-⇑a) a l))) v6 v7):=by
 have e0:iL 3 (a9 nL) i9 (nI x a l q kd (.ro (aB (Sh x (⇑x-⇑a) a l))) v6 v7)=(match ((lJ (.tup [τ a,.int l])).bind λd=>if kindB kd.1 d=ae/\⇑kd.2<k7 then ab ((nI x a l q kd (.ro (aB (Sh x (⇑x-⇑a) a l))) v6 v7).set 3 (.ow (.a8 (adr q) (cV kd.1 kd.2 d (aB (Sh x (⇑x-⇑a) a l))).1 (cV kd.1 kd.2 d (aB (Sh x (⇑x-⇑a) a l))).2))) else af) with
  |some ρ'=>.nx ρ'
  |none=>.no):=rfl
 rw[e0,J5,fg,Z_ ⟨fP h.2.1 rfl,by rw[<- h.1];delta k7;lia⟩];rfl
def Vz(h:ρ[5]?=ab (.ow (aB (0::r)))):MY 5 (a9 (eI 1)) (eI 0) ρ=.nx (ρ.set 5 (.ow (aB (1::r)))):=by
 have e:MY 5 (a9 (eI 1)) (eI 0) ρ=(match ((lG ρ[5]?).bind λds=>(P7 ⇑ds 0).map λj=>ρ.set 5 (.ow (.lst (ds.set j (.int 1))))) with
  |some ρ'=>.nx ρ'
  |none=>.no):=rfl
 rw[e,h]
 show(match ((P7 ⇑((0::r).map D.int) 0).map λj=>ρ.set 5 (.ow (.lst (((0::r).map D.int).set j (.int 1))))) with
  |some ρ'=>Out.nx ρ'
  |none=>.no)=_
 rw[uV ⋯ (by simp)];rfl
abbrev bS(n:Nat):SF:=(aK (bH 4 (hJ (aA cP (bO 2))))
  (g8 (tV (aC (uL ae) i9 m7))
   (aK (jM 5 (aC repLM (eQ (aA (eI 0) aG)) (cL yB (aA (cL cJ (bO 0)) (aA (eI 1) aG)))))
   (aK (g8 (tV (aC oM (cL cJ (bO 1)) (cL cJ (bO 0))))
    (MY 5 (a9 (eI 1)) (eI 0))
    dW)
   (aK (Ao 5 (fB (bV (aO LL.dB (aA bY (bO 1)))) (rS 6)
    (aK (qK 7 (bB n) (aA bY (aA (aO LL.eS (aA cP (bO 6))) (bO 6))) 3)
    (bH 5 (aO jG (aA nL (aA (WY (tV (aC CQ fH QE)) (aO bR (bO 7)) q_) aG)))))))
   (iL 3 (a9 nL) i9))))
   dW))
theorem tT(h:gY x kd)
  (there:∀d',aS kd.1 kd.2 (kS a l)=ab d'->d'=d/\i7=kd)
  (new:aS kd.1 kd.2 (kS a l)=af ->∀q,∃q2 j p v6 v7,(∀b o,q2 b o ->∃o2,q b o2)/\bS n (startM 8 [aF x,τ a,.int l] q kd)=.nx (nI x a l q2 j p v6 v7)/\gY x j/\aS j.1 j.2 (kS a l)=ab d/\j=i7):
  bB (n+1) [aF x,τ a,.int l] kd=.ok (d,i7):=by
 delta bB;show AE λq=>?_
 have e1:oQ 8 4 (bS n) i9 q [aF x,τ a,.int l] kd=(match bS n (startM 8 [aF x,τ a,.int l] q kd) with
  |.nx ρ=>AD 3 i9 q ρ
  |_=>af):=rfl
 show e1.trans ?_
 cases hl:aS kd.1 kd.2 (kS a l) with
 |some d' =>
  obtain⟨rfl,rfl⟩:=there d' hl;have A:bS n (startM 8 [aF x,τ a,.int l] q i7)=.nx (nI x a l q i7 .no .no .no):=by show bX (nI x a l q i7 .no .no .no) (fF (.tup [τ a,.int l]) rfl rfl) ?_;show oN ?_ rfl;rw[Au h,hl];rfl
  rw[A];show Hj h (λb o ho=>⟨o,ho⟩) hl
 |none =>
  obtain⟨q2,j,p,v6,v7,v,z,y,m,rfl⟩:=new hl q;rw[z];show Hj y v m
def Hh(j:a ρ=ab x)(h:b ρ=ab y)(d:c ρ=ab z):aA a (aA b (aA c aG)) ρ=ab [x,y,z]:=by have:=args2 h d;delta aA at this ⊢;rw[j,this];rfl
abbrev lS(n:Nat):SF:=aK (qK 7 (bB n) (aA bY (aA (aO LL.eS (aA cP (bO 6))) (bO 6))) 3)
    (bH 5 (aO jG (aA nL (aA (WY (tV (aC CQ fH QE)) (aO bR (bO 7)) q_) aG))))
def iT(x:Q0a)(m:Nat)(a:Q0e)(l:Int)(d:Q0e)(t:Int):List Int:=eM d (if t<l then eO (Sh x m (aI a t) t) else Sh x m (aI a t) t)
theorem aB9(j:⇑a<=9)(z:⇑x<=9)(d:⇑ψ=max ⇑x 1)
  (o:bB n [aF x,τ (aI a t),.int t] kd=.ok (aB (Sh x m (aI a t) t),i7)):
  lS n (nI x a l q kd (.ro (aB ψ)) (.ro (.int t)) v7)=.nx (nI x a l (adr q) i7 (.ro (aB (iT x m a l ψ t))) (.ro (.int t)) (.ro (aB (Sh x m (aI a t) t)))):=by
 have A:=iE x m (aI a t) t;show bX (nI x a l (adr q) i7 (.ro (aB ψ)) (.ro (.int t)) (.ro (aB (Sh x m (aI a t) t)))) ?_ ?_
 .have e:stepM (bB n) (aA bY (aA (aO LL.eS (aA cP (bO 6))) (bO 6))) 3 (nI x a l q kd (.ro (aB ψ)) (.ro (.int t)) v7)=ab (q,aB (Sh x m (aI a t) t),i7):=by
   delta stepM;have e1:aA bY (aA (aO LL.eS (aA cP (bO 6))) (bO 6)) (gI (nI x a l q kd (.ro (aB ψ)) (.ro (.int t)) v7))=ab [aF x,τ (aI a t),.int t]:=by have y:aO LL.eS (aA cP (bO 6)) (gI (nI x a l q kd (.ro (aB ψ)) (.ro (.int t)) v7))=ab (τ (aI a t)):=dO rfl rfl (yL j);show Hh rfl y rfl
   rw[e1,fg]
   show(match bB n [aF x,τ (aI a t),.int t] kd with
    |.ok r=>ab (q,r)
    |_=>af)=_
   rw[o]
  delta qK;rw[e];rfl
 .refine fF (aB (iT x m a l ψ t)) ?_ rfl;have v:WY (tV (aC CQ fH QE)) (aO bR (bO 7)) q_ (gI (nI x a l (adr q) i7 (.ro (aB ψ)) (.ro (.int t)) (.ro (aB (Sh x m (aI a t) t)))))=ab (aB (if t<l then eO (Sh x m (aI a t) t) else Sh x m (aI a t) t)):=by
   have p:tV (aC CQ fH QE) (gI (nI x a l (adr q) i7 (.ro (aB ψ)) (.ro (.int t)) (.ro (aB (Sh x m (aI a t) t)))))=ab (Zv (t<l)):=rfl;delta WY;rw[p,fg];by_cases h:t<l
   .rw [Zx h,Z_ rfl,Z_ h];show fG rfl (XT ∅ ∅)
   .rw [Zy h,Zz ⋯,Zz h];rfl
  show dO rfl v (DI ∅)
theorem Q9(X:⇑a<=9)(U:⇑x<=9):∀(h:Q0e) (j:Q0e) (kd:KD),⇑j=max ⇑x 1->gY x kd ->
  (∀t∈h,∀kd,gY x kd->⇑kd.1+most m<=10000000 ->∃p,bB n [aF x,τ (aI a t),.int t] kd=.ok (aB (Sh x m (aI a t) t),p)/\gY x p/\⇑p.1<=⇑kd.1+most m/\A3 kd p/\(aS p.1 p.2 (kS (aI a t) t)).isSome=ae) ->
  ⇑kd.1+⇑h*most m<=10000000 ->
  ∃d,gY x d/\⇑d.1<=⇑kd.1+⇑h*most m/\A3 kd d/\(∀t∈h,(aS d.1 d.2 (kS (aI a t) t)).isSome=ae) /\∀(y q:Nat->ay->Prop) (v6 v7:Sv),(∀b o,q b o ->∃o2,y b o2) ->∃(q2:Nat->ay->Prop) (F A:Sv),(∀b o,q2 b o ->∃o2,y b o2) /\
   g9 (rS 6) (lS n) (h.map D.int) (nI x a l q kd (.ro (aB j)) v6 v7)=.nx (nI x a l q2 d (.ro (aB (h.foldl (iT x m a l) j))) F A)
 |[],j,kd,hacc,hM,_,_=>⟨kd,hM,by simp,λ_ e=>e,λt ht=>(nomatch ht),λy q v6 v7 L=>⟨q,v6,v7,L,rfl⟩⟩
 |t::h,j,kd,hacc,hM,hR,hc=>by
  rw[eg,xm] at hc;obtain⟨kd1,e1,XU,hc1,I,in1⟩:=hR t cz kd hM ∅;have Y:=iE x m (aI a t) t;have O:⇑(iT x m a l j t)=max ⇑x 1:=by
   delta iT;rw[eU]
   .exact hacc
   .rw [hacc];split
    .rw [fR ∅];show Y.symm
    .exact Y.symm
  obtain⟨d,Z,hc2,v,J,go⟩:=Q9 X U h (iT x m a l j t) kd1 O XU (λu z=>hR u (fq _ z)) ∅;show⟨d,Z,by rw[eg,xm];lia,λk e=>v k (I k e),λu z=>?_,λy q v6 v7 L=>?_⟩
  .rcases bu.1 z with e|z
   .rw [e];show v _ in1
   .exact J u z
  obtain⟨q2,F,A,K,e2⟩:=go y (adr q) (.ro (.int t)) (.ro (aB (Sh x m (aI a t) t))) λb o ⟨o1,h1⟩=>L b o1 h1;show⟨q2,F,A,K,?_⟩;rw[bx,lp]
  have e3:g9 (rS 6) (lS n) (D.int t::h.map D.int) (nI x a l q kd (.ro (aB j)) v6 v7)=(match lS n (nI x a l q kd (.ro (aB j)) (.ro (.int t)) v7) with
   |.nx ρ2=>g9 (rS 6) (lS n) (h.map D.int) ρ2
   |o=>o):=rfl
  rw[e3,aB9 X U hacc e1];show e2
theorem XW(v:⇑x<=9)(Y:∀r∈x,⇑r<=9):∀(m e:Nat) (a:Q0e) (l:Int) (kd:KD),Q2 x a->⇑a+m=⇑x->gY x kd->⇑kd.1+most m<=10000000 ->
  ∃p,bB (m+1+e) [aF x,τ a,.int l] kd=.ok (aB (Sh x m a l),p)/\gY x p/\⇑p.1<=⇑kd.1+most m/\aS p.1 p.2 (kS a l)=ab (aB (Sh x m a l))/\A3 kd p:=by
 intro m
 induction m with
 |zero =>
  intro e a l kd ok A j hc;have A:⇑a=⇑x:=A;have m0:most 0=1:=rfl;have e0:⇑x-⇑a=0:=∅
  rw[show 0+1+e=e+1 by lia]
  cases hk:aS kd.1 kd.2 (kS a l) with
  |some d =>
   have F:=j.2.2.1 a l d hk;rw[e0] at F;subst F;show⟨kd,tT j (λd' h'=>by rw[hk] at h';show⟨(dm h').symm,rfl⟩) (λh'=>by rw[hk] at h';cases h'),j,∅,hk,λ_ e=>e⟩
  |none =>
   obtain⟨p1,p2,p3,p4⟩:=J8 (a:=a) (l:=l) j (λz=>∅);rw[e0] at p3;show⟨sU x kd a l,tT j (λd' h'=>by rw[hk] at h';cases h') λ_ q=>⟨adr q,sU x kd a l,.ro (aB (Sh x 0 a l)),.no,.no,λb o h=>h,?_,p1,p3,rfl⟩,p1,∅,p3,p4⟩
   .refine bX (nI x a l q kd .no .no .no) (fF (.tup [τ a,.int l]) rfl rfl) (M9 ?_ ?_)
    .rw [Au j,hk];rfl
    .have ez:xM ⇑x=0::cg (max ⇑x 1-1) 0:=by delta xM;rw[<- ko];congr 1;lia
     show bX (nI x a l q kd (.ow (aB (xM ⇑x))) .no .no) (by delta jM;rw[J7 v rfl];rfl) ?_;show bX (nI x a l q kd (.ow (aB (A2 ⇑x))) .no .no) (M9 ((pH rfl rfl).trans (by rw[Zx A])) ?_) ?_
     .rw [ez];show Vz rfl
     show bX (nI x a l q kd (.ro (aB (A2 ⇑x))) .no .no) ?_ ?_
     .show fB _ _ _ (nI x a l q kd (.ro (aB (A2 ⇑x))) .no .no)=_;show XD [] ?_ rfl;delta bV;rw[dO (x:=aF x) (y:=τ a) rfl rfl (u6 v Y),vA ok A];rfl
     .have:=Hi (x:=x) (a:=a) (l:=l) (q:=q) (kd:=kd) (v6:=.no) (v7:=.no) j ∅;rw[e0] at this;show this
 |succ m ih =>
  intro e a l kd ok A j hc;have mm:most (m+1)=1+(m+1)*most m:=rfl;have e0:⇑x-⇑a=m+1:=∅
  have Z:=jX ok;have ha:=pD ok;rw[show m+1+1+e=(m+1+e)+1 by lia]
  cases hk:aS kd.1 kd.2 (kS a l) with
  |some d =>
   have F:=j.2.2.1 a l d hk;rw[e0] at F;subst F;show⟨kd,tT j (λd' h'=>by rw[hk] at h';show⟨(dm h').symm,rfl⟩) (λh'=>by rw[hk] at h';cases h'),j,∅,hk,λ_ e=>e⟩
  |none =>
   have hlen:⇑(aV x a)*most m<=(m+1)*most m:=a1T _ ∅;obtain⟨kd1,XU,hc1,sb,K,go⟩:=Q9 (n:=m+1+e) (m:=m) (l:=l) (by lia:⇑a<=9) v (aV x a) (xM ⇑x) kd (kK _) j (λt X kd U O=>(ih e (aI a t) t kd ((JZ ok).1 _ (x_ X)).1 (by have:=((JZ ok).1 _ (x_ X)).2;lia) U O).imp λ_ h=>⟨h.1,h.2.1,h.2.2.1,h.2.2.2.2,by rw[h.2.2.2.1];rfl⟩) ∅;obtain⟨p1,p2,p3,p4⟩:=J8 (a:=a) (l:=l) XU (λ_=>K);rw[e0] at p3;show⟨sU x kd1 a l,tT j (λd' h'=>by rw[hk] at h';cases h') λ_ q=>?_,p1,∅,p3,λk e=>p4 k (sb k e)⟩;obtain⟨q2,J,I,L,el⟩:=go q q .no .no λb o h=>⟨o,h⟩;show⟨adr q2,sU x kd1 a l,.ro (aB (Sh x (m+1) a l)),J,I,λb o ⟨o1,h1⟩=>L b o1 h1,?_,p1,p3,rfl⟩;show bX (nI x a l q kd .no .no .no) (fF (.tup [τ a,.int l]) rfl rfl) (M9 ?_ ?_)
   .rw [Au j,hk];rfl
   .refine bX (nI x a l q kd (.ow (aB (xM ⇑x))) .no .no) (by delta jM;rw[J7 v rfl];rfl) ?_;show bX (nI x a l q kd (.ow (aB (xM ⇑x))) .no .no) (oN ((pH rfl rfl).trans (by rw[Zy ∅])) rfl) ?_;show bX (nI x a l q2 kd1 (.ro (aB (Sh x (m+1) a l))) J I) ?_ ?_
    .show fB _ _ _ (nI x a l q kd (.ro (aB (xM ⇑x))) .no .no)=_;show XD ((aV x a).map D.int) ?_ el;delta bV;rw[dO (x:=aF x) (y:=τ a) rfl rfl (u6 v Y)];rfl
    .have:=Hi (x:=x) (a:=a) (l:=l) (q:=q2) (kd:=kd1) (v6:=J) (v7:=I) XU ∅;rw[e0] at this;show this
def RA:∀{n:Nat},n<=9->most n<=1000000:=by
 intro n h;have:∀n,n<=9->most n<=1000000:=by decide
 show this n h
def shares(x:Q0a):List Int:=Sh x ⇑x [] 0
def vB{x:Q0a}(j:⇑x<=9)(m:∀r∈x,⇑r<=9):∃kd,jH [aF x]=.ok (.a8 (adr hV) kd.1 kd.2)/\gY x kd/\aS kd.1 kd.2 (kS [] 0)=ab (aB (shares x)):=by
 obtain⟨kd,e,p,A,o,_⟩:=XW j m ⇑x (10-⇑x) [] 0 ([],[]) J0 (by simp) ⟨rfl,λq n=>(by cases n),λa l d h=>(by simp[aS] at h),λa l h=>(by simp[aS] at h)⟩ (by have:=RA j;simp;lia);rw[show ⇑x+1+(10-⇑x)=11 by lia] at e;show⟨kd,?_,p,o⟩
 .delta jH;show fO rfl (bX [.ro (aF x),.ow (.a8 hV [] [])] rfl (bX [.ro (aF x),.ow (.a8 (adr hV) kd.1 kd.2)] ?_ (f7 rfl)));have v:stepM (bB 11) (aA bY (aA (hJ aG) (aA (eI 0) aG))) 1 [.ro (aF x),.ow (.a8 hV [] [])]=ab (hV,aB (Sh x ⇑x [] 0),kd):=by
   delta stepM;rw[Hh (x:=aF x) (y:=τ []) (z:=.int 0) rfl rfl rfl,fg]
   show(match bB 11 [aF x,τ [],.int 0] ([],[]) with
    |.ok r=>ab (hV,r)
    |_=>af)=_
   rw[e]
  delta M5;rw[v];rfl
def NA(a:⇑x<=9)(d:∀r∈x,⇑r<=9):dM [aF x]=.ok (τ (shares x)):=by obtain⟨kd,e1,j,h⟩:=vB a d;delta dM;show fO rfl (f7 (cZ (x:=aB (shares x)) (cK (x:=.a8 (adr hV) kd.1 kd.2) (y:=.tup [τ [],.int 0]) (fG rfl e1) rfl ?_) rfl));show((lJ (.tup [τ [],.int 0])).bind λk=>if kindB kd.1 k=ae then aS kd.1 kd.2 k else af)=_;rw[J5,fg,Z_ (fP j.2.1 rfl)];show h
open K24
theorem RB(a:Bg 210 x):∀m:Nat,m<=1000->Bg (211*m+1) (ff x m)
 |0,_=>by delta Bg ff;decide
 |m+1,h=>by
  have d:=RB a m ∅;have h2:Bg 211 (x-m):=by
   have:Bg 210 (m:Int):=by
    delta Bg;have:(m:Int).natAbs<2^10:=∅
    show gu this (nh ⋯ ⋯)
   show a.sub this
  show(d.mul h2).mono ∅
def aE0(a:Bg 210 x)(d:m<=1000):Bg (211*m+1) (C x m):=by
 have h:=RB a m d;have e:=yM x m;delta Bg at h ⊢;rw[<- e,a2C] at h;have:1<=(fact m).natAbs:=by have:=pE m;lia
 show Nat.lt_of_le_of_lt (Nat.le_mul_of_pos_right _ this) h
def aBb(x:Int)(i:Nat):C x i*(x-i)/((i:Int)+1)=C x (i+1):=by
 have a:=yM x i;have h2:=yM x (i+1);have e:C x i*(x-i)=C x (i+1)*((i:Int)+1):=by
  show a2G (a2B (pE i)) ?_;rw[show fact (i+1)=fact i*(i+1) from rfl,show ff x (i+1)=ff x i*(x-i) from rfl,<- a] at h2
  calc C x i*(x - (i:Int))*fact i=C x i*fact i*(x - (i:Int)):=by rw[Int.mul_right_comm]
   _=C x (i+1)*(fact i*((i:Int)+1)):=h2.symm
   _=C x (i+1)*((i:Int)+1)*fact i:=by rw[qu (fact i),yi]
 rw[e,Int.mul_ediv_cancel _ ∅]
def NB{x:Int}{m:Nat}(a:Bg 210 x)(j:m<=12):pF [.int x,.int m]=.ok (.int (C x m)):=by
 delta pF;have h:Rt (aK (bH 2 (eI 1)) (aK (fB (bG (bO 1)) (rS 3) (bH 2 (aC sP (aC mulM fH (aC qI bY m7)) (aC dH m7 (eI 1))))) (b8 fH)) (eG 4 [.int x,.int m])) λd=>d=.int (C x m):=by
  show bJ [.ri x,.ri m,.ri 1,.no] rfl ?_;show iQ (λρ=>∃v,ρ=[.ri x,.ri m,.ro (.int (C x m)),v]) ?_ λρ ⟨v,e⟩=>by subst e;show iR _ rfl rfl
  show kJ m (λi ρ=>∃v,ρ=[.ri x,.ri m,.ro (.int (C x i)),v]) rfl ∅ ⟨_,rfl⟩ (λi ρ l ⟨v,e⟩=>?_) λρ h=>h;subst e;show⟨_,rfl,lQ (.int (C x (i+1))) (binI (x:=(C x i*(x-i))) (y:=((i:Int)+1)) (binI (x:=(C x i)) (y:=(x-i)) rfl rfl (XR (p:=211*i+1) (q:=211) ∅ ∅ (aE0 a ∅) ?_)) rfl ?_) ⟨_,rfl⟩⟩
  .have:Bg 210 (i:Int):=by
    delta Bg;have:(i:Int).natAbs<2^10:=∅
    show gu this (nh ⋯ ⋯)
   show a.sub this
  .rw [lO ∅ ∅,aBb]
 obtain⟨d,e,rfl⟩:=uY rfl h;show e
def dvL(n:Nat)(k:Int)(w:Q0e)(d:Nat):List Int:=(w.zipIdx d).map λp=>p.1*C (k+n-1-p.2) n
theorem J9(n:Nat)(k:Int):∀(w:Q0e) (d:Nat),(dvL n k w d).sum=DV n d w k
 |[],d=>rfl
 |a::w,d=>by have h:=J9 n k w (d+1);show a*C (k+n-1-d) n+(dvL n k w (d+1)).sum=a*C (k+n-1-d) n+DV n ((d:Int)+1) w k;rw[h];rfl
def RC{k:Int}(d:Bg 208 k){a b:Nat}(j:a<=1000)(h:b<=1000):Bg 210 (k+a-1-b):=by
 delta Bg at d ⊢;have:(2:Nat)^210=4*2^208:=by rw[show 210=2+208 from rfl,a1P]
 have h2:2000<2^208:=gu (by decide:2000<2^11) (nh ⋯ ⋯);rw[this];generalize 2^208=z at *;lia
def DK{w:Q0e}{n:Nat}{k:Int}(hw:⇑w<=20)(a:∀y∈w,y.natAbs<18446744073709551616)(h:n<=12)(l:Bg 208 k):dP [τ w,.int n,.int k]=.ok (.int (DV n 0 w k)):=by
 delta dP;have e:=J9 n k w 0;rw[show((0:Nat):Int)=0 from rfl] at e;rw[<- e];show fO rfl (f7 (cZ (x:=aB (dvL n k w 0)) ?_ sum_ints));show dZ ((w.zipIdx).map λp=>D.tup [.int (p.2:Int),.int p.1]) ?_ (by simp;lia) ?_
 .delta oO
  skip
  show ab (((w.map D.int).zipIdx).map _)=_;rw[zipIdx_map,dg];rfl
 .delta dvL;rw[dg];show bM (λp:Int×Nat=>D.tup [.int (p.2:Int),.int p.1]) (λp=>.int (p.1*C (k+n-1-p.2) n)) w.zipIdx λp d=>⟨[ab (.int p.2),ab (.int p.1),ab (.int n),ab (.int k)],rfl,?_⟩;have j:=List.mem_zipIdx d;have m:p.1∈w:=by have:=j.2.2;rw[this];show yb _
  show binI (x:=p.1) (y:=(C (k+n-1-p.2) n)) rfl (dO (x:=.int (k+n-1-p.2)) (y:=.int n) rfl rfl (NB (RC l ∅ ∅) h)) (qT (a _ m))
def G0(h:f (gI ρ)=ab d)(h2:ρ[i]?=ab (.ow (.lst ds)))(a:⇑ds<16777216):sX (m9 i g4 (a9 f)) ρ=.nx (ρ.set i (.ow (.lst (ds++[d])))):=by
 have e:m9 i g4 (a9 f) ρ=ab (ρ.set i (.ow (.lst (ds++[d]))),.non):=by delta m9 a9;rw[h2,h];show((lG ρ[i]?).bind λds=>(g4 ds d).map _)=_;rw[h2];show((g4 ds d).map _)=_;rw[tQ a];rfl
 delta sX;rw[e]
theorem yR:∀r:Q0e,diffs r=(r.zip (r.drop 1)).map λp=>p.2-p.1
 |[]=>rfl
 |[a]=>rfl
 |a::b::l=>by have d:=yR (b::l);show(b-a)::diffs (b::l)=_;rw[d];rfl
theorem RD(F:⇑v<=1000):dQ [aB v]=.ok (τ (fd v)):=by
 delta dQ;have step:∀(n:Nat) (r f:Q0e) (m:Nat),⇑r=n->n<m->⇑f+n<=1000->dY (tV fH) (aK (sX (m9 1 g4 (a9 (aC eB fH (eI 0))))) (bH 2 (bE 2 [] (uM (aA fH (aA (JL fH (oE (eI 1)) MV) aG))) (g2 0 1) bQ (aC qI cP bY)))) m [.ro (aB v),.ow (aB f),.ro (aB r)]=.nx [.ro (aB v),.ow (aB (f++fd r)),.ro (aB [])]:=by
  intro n
  induction n with
  |zero =>
   intro r f m h l q;rw[qp] at h;subst h
   cases m with
   |zero=>lia
   |succ m =>
    delta dY;rw[Q7,lr];rfl
  |succ n ih =>
   intro r f m h l q
   cases m with
   |zero=>lia
   |succ m =>
    cases r with
    |nil=>cases h
    |cons a r =>
     have e1:(aK (sX (m9 1 g4 (a9 (aC eB fH (eI 0))))) (bH 2 (bE 2 [] (uM (aA fH (aA (JL fH (oE (eI 1)) MV) aG))) (g2 0 1) bQ (aC qI cP bY)))) [.ro (aB v),.ow (aB f),.ro (aB (a::r))]=.nx [.ro (aB v),.ow (aB (f++[a])),.ro (aB (diffs (a::r)))]:=by
      show bX [.ro (aB v),.ow (aB (f++[a])),.ro (aB (a::r))] ?_ (fF (aB (diffs (a::r))) ?_ rfl)
      .rw [G0 (d:=.int a) (ds:=f.map D.int) (cK (x:=aB (a::r)) (y:=.int 0) rfl rfl (gT (ws:=a::r) (j:=0) rfl)) rfl (by rw[bb];lia)];show Out.nx [Sv.ro (aB v),.ow (.lst (f.map D.int++[D.int a])),.ro (aB (a::r))]=_;rw[qY]
      .have z:aB (diffs (a::r))=.lst (((a::r).zip ((a::r).drop 1)).map λp=>.int (p.2-p.1)):=by rw[yR];delta aB;rw[dg];rfl
       rw[z];show dZ (((a::r).zip ((a::r).drop 1)).map λp=>D.tup [.int p.1,.int p.2]) ?_ (by simp at h ⊢;lia) ?_
       .delta uM;have A:JL fH (oE (eI 1)) MV (gI [Sv.ro (aB v),.ow (aB (f++[a])),.ro (aB (a::r))])=ab (aB r):=by show ab (D.lst (CY ((a::r).map D.int) (ab 1) af))=_;delta CY MW;simp[aB];show s_ (i:=⇑r) (by simp)
        rw[args2 (x:=aB (a::r)) (y:=aB r) rfl A];show ab ((((a::r).map D.int).zip (r.map D.int)).map _)=_;rw[Ke,dg];rfl
       .exact bM (λp:Int×Int=>D.tup [.int p.1,.int p.2]) (λp=>.int (p.2-p.1)) _ λp _=>⟨[ab (.int p.1),ab (.int p.2)],rfl,rfl⟩
     delta dY
     show(match (aK _ _) [Sv.ro (aB v),.ow (aB f),.ro (aB (a::r))] with
      |.nx ρ'=>dY _ _ m ρ'
      |o=>o)=_
     rw[e1];show dY _ _ m _=_;rw[ih (diffs (a::r)) (f++[a]) m (by rw[h9,h];rfl) ∅ (by simp;lia),A1,Cu];rfl
 show fO rfl (bX [.ro (aB v),.ow (aB []),.no] rfl (bX [.ro (aB v),.ow (aB []),.ro (aB v)] rfl (bX [.ro (aB v),.ow (aB (fd v)),.ro (aB [])] ?_ (f7 rfl))));show step ⇑v v [] nN rfl (by delta nN;lia) (by simp;lia)
noncomputable def ev(k:Int):List Int->Int
 |[]=>0
 |a::l=>a+k*ev k l
def RE(x:Q0a)(a:Q0e):⇑(aV x a)<=⇑x:=by delta aV;have d:=nr (λt=>(row x t).all λl=>a.contains l) ((aQ 0 ⇑x).filter λt=>!a.contains t);have h2:=nr (λt=>!a.contains t) (aQ 0 ⇑x);rw[aJ] at h2;lia
theorem RF(v:⇑x<=9):∀(m:Nat) (a:Q0e) (l:Int),∀y∈Sh x m a l,0<=y/\y<=9^m
 |0,a,l,y,d=>by
  delta Sh A2 at d;rcases bu.1 d with e|e
  .subst e;decide
  .rw [a2r e];decide
 |m+1,a,l,y,d=>by
  have q:=RF v m;have go:∀(n:Q0e) (j:Q0e) (c:Int),0<=c->(∀y∈j,0<=y/\y<=c*9^m) ->∀y∈n.foldl (λj t=>eM j (if t<l then eO (Sh x m (aI a t) t) else Sh x m (aI a t) t)) j,0<=y/\y<=(c+⇑n)*9^m:=by
   intro n
   induction n with
   |nil=>intro j c A h;simpa using h
   |cons t n iht =>
    intro j c A h;rw[lp];have:=iht (eM j (if t<l then eO (Sh x m (aI a t) t) else Sh x m (aI a t) t)) (c+1) ∅ ?_
    .rw [eg];rw[show c+((⇑n+1:Nat):Int)=c+1+⇑n by lia];show this
    .intro y d;delta eM at d;obtain⟨p,z,rfl⟩:=gx.1 d;obtain⟨m1,o⟩:=tm z;have g1:=h _ m1;have g2:0<=p.2/\p.2<=9^m:=by
      split at o
      .delta eO at o;rcases bu.1 o with e|e
       .rw [e];show⟨⋯,a2E (a2A ⋯)⟩
       .exact q _ _ _ (List.dropLast_subset _ e)
      .exact q _ _ _ o
     rw[ud,C_];lia
  delta Sh at d;have:=go (aV x a) (xM ⇑x) 0 ⋯ (λy d=>by rw[a2r d];simp) y d
  show⟨this.1,De this.2 ?_⟩;rw[ju,Int.pow_succ,qu];have F:=RE x a;show Int.mul_le_mul_of_nonneg_left ∅ (a2E (a2A ⋯))
def G2(a:⇑x<=9):∀y∈shares x,0<=y/\y<=387420489:=λy d=>by
 have h:=RF a ⇑x [] 0 y d;show⟨h.1,De h.2 ?_⟩;have:∀n,n<=9->(9:Int)^n<=387420489:=by decide
 show this _ a
def xN(x:Q0a):⇑(shares x)=max ⇑x 1:=iE x _ _ _
theorem lU(f:Int->Int):∀(n:Nat) (x:Int),vals f n x=(aQ x n).map f
 |0,x=>rfl
 |n+1,x=>by have a:=lU f n (x+1);show f x::vals f n (x+1)=_;rw[a];delta aQ;rw[xu,bx,bx,dg,dg,dg];erw[Int.ofNat_zero,oz];congr 1;show mh λj _=>?_;erw[a2H];congr 1;lia
def kL(x:Q0a):List Int:=fd (vals (DV ⇑x 0 (shares x)) (⇑x+1) 0)
def RG(a:⇑x<=9)(j:∀r∈x,⇑r<=9):eL [aF x]=.ok (τ (kL x)):=by
 delta eL kL;show fO rfl (bX [.ro (aF x),.ri ⇑x,.no] (fF (.int ⇑x) (cZ rfl f9) rfl) (bX [.ro (aF x),.ri ⇑x,.ro (τ (shares x))] (fF _ (fG rfl (NA a j)) rfl) (f7 (fG (x:=aB (vals (DV ⇑x 0 (shares x)) (⇑x+1) 0)) ?_ (RD (by rw[lT];lia))))));rw[lU];have m:aB ((aQ 0 (⇑x+1)).map (DV ⇑x 0 (shares x)))=.lst ((aQ 0 (⇑x+1)).map λk=>D.int (DV ⇑x 0 (shares x) k)):=by delta aB;rw[dg];rfl
 rw[m];show dZ ((aQ 0 (⇑x+1)).map D.int) (yI (n:=⇑x+1) rfl ∅) (by rw[bb,aJ];lia) ?_;show bM D.int (λk=>.int (DV ⇑x 0 (shares x) k)) _ λk l=>⟨[ab (.int k),ab (τ (shares x)),ab (.int ⇑x)],rfl,nX rfl rfl rfl (DK (by rw[xN];lia) (λy d=>?_) ∅ ?_)⟩
 .have:=G2 a y d;lia
 .have:=aX.1 l;have h:k.natAbs<2^10:=∅
  show gu h (nh ⋯ ⋯)
theorem vC{a b:Q0e}{j:Nat}{y z:Int}(d:a[j]?=ab y)(h2:b[j]?=ab z):(eM a b)[j]?=ab (y+z):=by delta eM;rw[c_,yc (z:=(y,z)) |>.2 ⟨d,h2⟩];rfl
section
variable(x:Q0a)
def Nj(f:List Int->Int->Nat->Int):Nat->List Int->Int->Int
 |0,_,_=>0
 |j+1,a,l=>Nj f j a (-1)+(((aV x a).filter λt=>Zv (l<t)).map λt=>f (aI a t) t (j+1)).sum
def Nn:Nat->List Int->Int->Nat->Int
 |0,_,_,_=>1
 |m+1,a,l,j=>Nj x (Nn m) j a l
end
def Zr(w:Q0e)(m:Nat):Prop:=∀(d:Nat) (y:Int),w[d]?=ab y->m<d->y=0
def Zr.mono(h:Zr w m)(a:m<=k):Zr w k:=λd y e j=>h d y e ∅
def Zr.add{a b:Q0e}{m:Nat}(l:Zr a m)(j:Zr b m):Zr (eM a b) m:=λd y e h=>by delta eM at e;rw[c_] at e;obtain⟨p,n,rfl⟩:=jz.1 e;obtain⟨e1,o⟩:=yc.1 n;rw[l d _ e1 h,j d _ o h];rfl
theorem Zr.shl(h:Zr w m):Zr (eO w) (m+1):=λd y e a=>by
 cases d with
 |zero=>lia
 |succ d =>
  have e:w.dropLast[d]?=ab y:=e;rw[a2l] at e;split at e
  .exact h d y e ∅
  .cases e
def Zr.xM(n m:Nat):Zr (xM n) m:=λd y e _=>by
 delta LL.xM at e;rw[mi] at e;split at e
 .cases e;rfl
 .cases e
theorem Zr.fold(h:∀t,Zr (if t<l then eO (Sh x m (aI a t) t) else Sh x m (aI a t) t) k):∀(j d:Q0e),Zr d k->Zr (j.foldl (iT x m a l) d) k
 |[],d,hz=>hz
 |t::j,d,hz=>Zr.fold h j _ (hz.add (h t))
def mW(x:Q0a)(m:Nat)(a:Q0e)(l:Int):Sh x (m+1) a l=(aV x a).foldl (iT x m a l) (xM ⇑x):=rfl
theorem KA(x:Q0a):∀(m:Nat) (a:Q0e) (l:Int),Zr (Sh x m a l) m
 |0,a,l=>λd y e h=>by
  cases d with
  |zero=>lia
  |succ d =>
   have e:(cg (max ⇑x 1-1) (0:Int))[d]?=ab y:=e;rw[mi] at e;split at e
   .cases e;rfl
   .cases e
 |m+1,a,l=>by
  rw[mW];show Zr.fold (λt=>?_) _ _ (Zr.xM _ _);split
  .exact (KA x m _ _).shl
  .exact (KA x m _ _).mono ∅
def vD{x:Q0a}{a:Q0e}{t:Int}(h:t∈aV x a):0<=t:=(jW h).1.1
theorem fold_congr{α a:Type}{f g:a->α->a}:∀(l:List α) (b:a),(∀b,∀t∈l,f b t=g b t)->l.foldl f b=l.foldl g b
 |[],b,_=>rfl
 |t::l,b,h=>by rw[lp,lp,h b t cz];show fold_congr l _ λb u d=>h b u (fq _ d)
theorem aBd(x:Q0a)(m:Nat)(a:Q0e){l l':Int}(h:l<=0)(h':l'<=0):Sh x m a l=Sh x m a l':=by
 cases m with
 |zero=>rfl
 |succ m =>
  rw[mW,mW];show fold_congr _ _ λj t d=>?_;have:=vD d;delta iT;rw[Zz ∅,Zz ∅]
def aBe(x:Q0a)(m:Nat)(a:Q0e):Zr (Sh x (m+1) a (-1)) m:=by
 rw[mW];have e:(aV x a).foldl (iT x m a (-1)) (xM ⇑x)=(aV x a).foldl (λd t=>eM d (Sh x m (aI a t) t)) (xM ⇑x):=fold_congr _ _ λd t l=>by have:=vD l;delta iT;rw[Zz ∅]
 rw[e];have go:∀(j d:Q0e),Zr d m->Zr (j.foldl (λd t=>eM d (Sh x m (aI a t) t)) d) m:=by
  intro j
  induction j with
  |nil=>intro d h;show h
  |cons t j ih=>intro d h;show ih _ (h.add (KA x m _ _))
 show go _ _ (Zr.xM _ _)
theorem RH:∀{a b:Q0e} {d:Int},⇑a=⇑b->DV n d (eM a b) k=DV n d a k+DV n d b k
 |[],[],d,_=>rfl
 |[],_::_,d,h=>by simp at h
 |_::_,[],d,h=>by simp at h
 |y::a,z::b,d,h=>by have j:=RH (n:=n) (k:=k) (a:=a) (b:=b) (d:=d+1) ↑h;show(y+z)*C (k+n-1-d) n+DV n (d+1) (eM a b) k=y*C (k+n-1-d) n+DV n (d+1) a k+(z*C (k+n-1-d) n+DV n (d+1) b k);rw[j,ud];lia
theorem A4:∀(m:Nat) (d:Int),DV n d (cg m 0) k=0
 |0,d=>rfl
 |m+1,d=>by rw[ko];show 0*_+DV n (d+1) (cg m 0) k=0;rw[A4 m (d+1),ml];rfl
theorem Hg:∀(w:Q0e) (d:Int),DV (m+1) d w (j+1)=DV (m+1) d w j+DV m d w (j+1)
 |[],d=>rfl
 |y::w,d=>by have a:=Hg (m:=m) (j:=j) w (d+1);show y*C (j+1+((m+1:Nat):Int)-1-d) (m+1)+DV (m+1) (d+1) w (j+1)=y*C (j+((m+1:Nat):Int)-1-d) (m+1)+DV (m+1) (d+1) w j+(y*C (j+1+(m:Int)-1-d) m+DV m (d+1) w (j+1));rw[a,show j+1+((m+1:Nat):Int)-1-d=(j+m-d)+1 by lia,Q5,show j+((m+1:Nat):Int)-1-d=j+m-d by lia,show j+1+(m:Int)-1-d=j+m-d by lia,Int.mul_add];lia
theorem KC:∀(w:Q0e) (d:Int),DV n (d+1) w (k+1)=DV n d w k
 |[],d=>rfl
 |y::w,d=>by have a:=KC (n:=n) (k:=k) w (d+1);show y*C (k+1+n-1-(d+1)) n+DV n (d+1+1) w (k+1)=y*C (k+n-1-d) n+DV n (d+1) w k;rw[a,show k+1+n-1-(d+1)=k+n-1-d by lia]
def aBf(h:w.getLast?=ab 0):DV n 0 (eO w) (k+1)=DV n 0 w k:=by
 show 0*_+DV n (0+1) w.dropLast (k+1)=_;rw[KC,ml,ju];have e:w=w.dropLast++[0]:=by obtain⟨l,a⟩:=List.getLast?_eq_some_iff.1 h;rw[a];simp
 conv=>rhs;rw[e]
 rw[yN];show _=_+(0*_+0);rw[ml];lia
theorem Fy:∀(w:Q0e) (d:Nat),(∀(i:Nat) (y:Int),w[i]?=ab y->m<d+i->y=0)->DV (m+1) d w 0=0
 |[],d,_=>rfl
 |y::w,d,h=>by
  have a:=Fy (m:=m) w (d+1) λi z e j=>h (i+1) z ↑e ∅;show y*C (0+((m+1:Nat):Int)-1-d) (m+1)+DV (m+1) ((d:Int)+1) w 0=0;rw[show((d:Int)+1)=((d+1:Nat):Int) from rfl,a,oz];by_cases l:m<d
  .rw [h 0 y rfl ∅,ml]
  .rw [Q6 ∅ ∅,Dc]
theorem A5:∀(j d:Q0e),⇑d=max ⇑x 1->DV n 0 (j.foldl (iT x m a l) d) k=DV n 0 d k+(j.map λt=>DV n 0 (if t<l then eO (Sh x m (aI a t) t) else Sh x m (aI a t) t) k).sum
 |[],d,_=>by simp
 |t::j,d,h=>by
  have p:=iE x m (aI a t) t;have o:⇑d=⇑(if t<l then eO (Sh x m (aI a t) t) else Sh x m (aI a t) t):=by
   rw[h];split
   .rw [fR ∅];show p.symm
   .exact p.symm
  have q:=A5 (x:=x) (n:=n) (m:=m) (a:=a) (l:=l) (k:=k) j (iT x m a l d t) (by delta iT;rw[eU o,h]);rw[lp,q,bx,jc];delta iT;rw[RH o];lia
theorem KG{α:Type}{f g h:α->Int}{p:α->Bool}:∀l:List α,(∀t∈l,f t=g t+if p t=ae then h t else 0)->(l.map f).sum=(l.map g).sum+((l.filter p).map h).sum
 |[],_=>rfl
 |t::l,e=>by
  have a:=KG l λu d=>e u (fq _ d);have e0:=e t cz;rw[bx,jc,bx,jc,a,e0,a2o]
  cases p t with
  |true=>simp;lia
  |false=>simp;lia
def d6:u∈aI a t↔u∈a\/u=t:=by delta aI;rw[(sortI_perm (a++[t])).mem_iff];simp
def DL(a:Q0e)(t:Int):⇑(aI a t)=⇑a+1:=by delta aI;rw[(sortI_perm (a++[t])).length_eq];simp
def aBg{x:Q0a}{j:Int}:DV 0 0 (A2 ⇑x) j=1:=by delta A2;show 1*C _ 0+DV 0 (0+1) (cg _ 0) j=1;rw[A4,GZ];rfl
theorem A6{x:Q0a}:∀(m j:Nat) (a:Q0e) (l:Int),⇑a+m=⇑x->(l=-1\/l∈a)->(1<=j\/l=-1)->Nn x m a l j=DV m 0 (Sh x m a l) j
 |0,j,a,l,_,_,_=>aBg.symm
 |m+1,0,a,l,hl,hm,hj=>by
  have:l=-1:=∅
  subst this;show 0=_;show(Fy (m:=m) (Sh x (m+1) a (-1)) 0 λi y e L=>aBe x m a i y e ∅).symm
 |m+1,j+1,a,l,hl,hm,hj=>by
  have o:=A6 (x:=x) (m+1) j a (-1) hl (.inl rfl) (.inr rfl);have n:∀t,Nn x m (aI a t) t (j+1)=DV m 0 (Sh x m (aI a t) t) ((j:Int)+1):=λt=>A6 (x:=x) m (j+1) (aI a t) t (by rw[DL];lia) (.inr (d6.2 (.inr rfl))) (.inl ∅);show Nj x (Nn x m) j a (-1)+(((aV x a).filter λt=>Zv (l<t)).map λt=>Nn x m (aI a t) t (j+1)).sum=_;have e1:Nj x (Nn x m) j a (-1)=Nn x (m+1) a (-1) j:=rfl;rw[e1,o,mW,mW,A5 _ _ (kK _),A5 _ _ (kK _)];delta xM;rw[A4,A4,ju,ju];have key:∀t∈aV x a,DV (m+1) 0 (if t<l then eO (Sh x m (aI a t) t) else Sh x m (aI a t) t) (((j+1:Nat):Int))=DV (m+1) 0 (if t < -1 then eO (Sh x m (aI a t) t) else Sh x m (aI a t) t) j+if Zv (l<t)=ae then Nn x m (aI a t) t (j+1) else 0:=λt v=>by
   have J:=vD v;have tn:=(jW v).2;rw[Zz (show ¬ t < -1 by lia),n,show(((j+1:Nat):Int))=(j:Int)+1 from rfl];by_cases h:t<l
   .rw [Z_ h,Zz (by simp;lia),oz];show aBf ?_;have A:l∈a:=hm.resolve_left ∅
    have O:1<=⇑a:=by cases a with
     |nil=>cases A
     |cons _ _=>simp
    have I:=iE x m (aI a t) t;have F:=KA x m (aI a t) t;rw[List.getLast?_eq_getElem?,I];have d:max ⇑x 1-1<⇑(Sh x m (aI a t) t):=∅
    rw[cn d];congr 1;show F _ _ (cn d) ∅
   .have K:t≠l:=λz=>by
     rcases hm with q|q
     .omega
     .exact tn (z▸q)
    rw[Zz h,Z_ (by simp;lia)];show Hg _ _
  rw[KG (f:=λt=>DV (m+1) 0 (if t<l then eO (Sh x m (aI a t) t) else Sh x m (aI a t) t) (((j+1:Nat):Int))) (g:=λt=>DV (m+1) 0 (if t < -1 then eO (Sh x m (aI a t) t) else Sh x m (aI a t) t) j) (h:=λt=>Nn x m (aI a t) t (j+1)) (p:=λt=>Zv (l<t)) _ key]
def NC(x:Q0a)(k:Nat):Nn x ⇑x [] (-1) k=DV ⇑x 0 (shares x) k:=by rw[A6 ⇑x k [] (-1) (by simp) (.inl rfl) (.inr rfl)];delta shares;rw[aBd x ⇑x [] (l:=-1) (l':=0) ⋯ ⋯]
theorem vE:∀a b:Nat,a+b=(a ||| b)+(a &&& b):=by
 intro a
 induction a using Kb with
 |ind a ih =>
  intro b;by_cases h:a=0
  .subst h;simp
  .have e:=ih (a/2) ∅ (b/2);have l:(a ||| b)/2=(a/2 ||| b/2):=a1R ..;have j:(a &&& b)/2=(a/2 &&& b/2):=a11 ..;have m1:(a ||| b)%2=(a%2 ||| b%2):=a1Q (n:=1);have d:(a &&& b)%2=(a%2 &&& b%2):=a10 (n:=1);have c:a%2+b%2=(a%2 ||| b%2)+(a%2 &&& b%2):=by rcases Co a with p|p<;>rcases Co b with q|q<;>rw[p,q]<;>decide
   lia
def KH(h:S.testBit b=ag):2^b+S=(2^b ||| S):=by
 have e:(2^b &&& S)=0:=by
  apply qo;intro i;rw[vj,Jz,Cm];by_cases a:b=i
  .subst a;simp[h]
  .simp [a]
 rw[vE,e,xq]
theorem A7{M S:Nat}:(M &&& S=M) ↔ ∀i,M.testBit i=ae->S.testBit i=ae:=by
 constructor
 .intro h i a;have:=congrArg (λz=>z.testBit i) h;erw[vj,a,ny] at this;show this
 .intro h;apply qo;intro i;rw[vj]
  cases e:M.testBit i with
  |false=>rfl
  |true=>rw[h i e];rfl
noncomputable def bT:List Int->Nat
 |[]=>0
 |a::r=>2^a.toNat ||| bT r
theorem bZ:∀{r:Q0e},(∀a∈r,0<=a)->((bT r).testBit i=ae↔(i:Int)∈r)
 |[],_=>by simp[bT]
 |a::r,h=>by
  have d:=bZ (i:=i) (r:=r) λb j=>h b (fq _ j);have l:=h a cz;rw[bT,J_,Jz,Dg,d,bu,decide_eq_true_eq]
  constructor
  .rintro (e|e)
   .exact .inl ∅
   .exact .inr e
  .rintro (e|e)
   .exact .inl ∅
   .exact .inr e
theorem A8:∀{r:Q0e},(∀a∈r,0<=a)->r.Nodup->(r.map λa=>(2:Int)^a.toNat).sum=(bT r:Int)
 |[],_,_=>rfl
 |a::r,h,nd=>by
  have h':∀b∈r,0<=b:=λb d=>h b (fq _ d);have j:=A8 h' (kq.1 nd).2;have l:=h a cz;have d:(bT r).testBit a.toNat=ag:=by
   cases e:(bT r).testBit a.toNat with
   |false=>rfl
   |true =>
    have:=(bZ h').1 e;rw[show((a.toNat:Nat):Int)=a by lia] at this;show Zw this (kq.1 nd).1
  rw[bx,jc,j,bT,<- KH d]
  push_cast
  rfl
section
variable(x:Q0a)
def Mk(b:Nat):Nat:=bT (row x b)
end
section
variable{x:Q0a}
def RI(j:Ord.Rows x)(d:b<⇑x):(Mk x b).testBit i=ae↔(i:Int)∈row x b:=by
 show bZ λa h=>?_;have e:row x b=x[b]:=by delta row;simp[d]
 rw[e] at h;obtain⟨c,rfl,_⟩:=(Ord.Q1 j (cn d)).1 h;lia
def iF:t∈aV x a↔(0<=t/\t<(⇑x:Int))/\t∉a /\∀l∈row x t,l∈a:=by
 delta aV;rw[gi,gi,aX,jd];erw[yl,a2v,decide_eq_false_iff_not,decide_eq_true_eq]
 constructor
 .rintro ⟨⟨h,h2⟩,d⟩;show⟨∅,h2,d⟩
 .rintro ⟨h,h2,d⟩;show⟨⟨∅,h2⟩,d⟩
end
theorem G3:∀a b:Nat,(a ||| b)=(a ^^^ b)+(a &&& b):=by
 intro a
 induction a using Kb with
 |ind a ih =>
  intro b;by_cases h:a=0
  .subst h;simp
  .have e:=ih (a/2) ∅ (b/2);have o:(a ||| b)/2=(a/2 ||| b/2):=a1R ..;have m:(a ^^^ b)/2=(a/2 ^^^ b/2):=Nat.xor_div_two ..;have l:(a &&& b)/2=(a/2 &&& b/2):=a11 ..;have m1:(a ||| b)%2=(a%2 ||| b%2):=a1Q (n:=1);have j:(a ^^^ b)%2=(a%2 ^^^ b%2):=Nat.xor_mod_two_pow (n:=1);have d:(a &&& b)%2=(a%2 &&& b%2):=a10 (n:=1);have c:(a%2 ||| b%2)=(a%2 ^^^ b%2)+(a%2 &&& b%2):=by rcases Co a with p|p<;>rcases Co b with q|q<;>rw[p,q]<;>decide
   lia
def lV(h:c i j=ae):iI c g (.int i) (.int j)=ab (g i j):=Z_ h
def KI(a b:Nat):nnC (a:Int) (b:Int)=ae:=by delta nnC;rw[Zx ∅,Zx ∅];rfl
def lW(a b:Nat):jE (.int a) (.int b)=ab (.int ((a &&& b:Nat):Int)):=by show(lV (KI a b)).trans ?_;rw[gq,gq]
def RJ(a b:Nat):QO (.int a) (.int b)=ab (.int ((a ^^^ b:Nat):Int)):=by show(lV (KI a b)).trans ?_;rw[gq,gq];have:=G3 a b;congr 2;lia
def XX(a b:Nat):M6 (.int a) (.int b)=ab (.int ((a >>> b:Nat):Int)):=by show(lV (Zx (show(0:Int)<=(b:Int) by lia))).trans ?_;rw[gq,Kc];congr 2
def A9{a b:Nat}(h:a<18446744073709551616)(d:b<=1000000):C2 (.int a) (.int b)=ab (.int ((a <<< b:Nat):Int)):=by
 show(lV (by
  show(Zv (0<=(b:Int))&&Zv ((b:Int).natAbs<=1000000)&&Zv ((a:Int).natAbs<18446744073709551616))=ae;rw[Zx ∅,Zx ∅,Zx ∅];rfl)).trans ?_
 rw[gq,a1N];congr 2
def BA(b:Nat):(1 <<< b:Nat)=2^b:=by rw[a1N,Nat.one_mul]
def KJ(a b:Nat):(a >>> b &&& 1)=if a.testBit b=ae then 1 else 0:=by
 rw[a1Z,Kc,Nat.testBit_eq_decide_div_mod_eq];by_cases h:a/2^b%2=1
 .rw [Zx h,Z_ rfl];show h
 .rw [Zy h,Zz ⋯];lia
def Fx{f g:EF}{ρ:cN}{h b:Nat}(d:f ρ=ab (.int h))(a:g ρ=ab (.int b)):aC jE (aC M6 f g) (eI 1) ρ=ab (.int (if h.testBit b=ae then 1 else 0)):=by show binI (x:=((h >>> b:Nat):Int)) (y:=((1:Nat):Int)) (cK d a (XX h b)) rfl ?_;rw[lW,KJ];split<;>rfl
section
variable{x:Q0a}
def pI(x:Q0a):List Int:=x.map λr=>(bT r:Int)
def RK(j:Ord.Rows x)(A:⇑x<=9):mV [aF x]=.ok (aB (pI x)):=by
 delta mV pI;have z:aB (x.map λr=>(bT r:Int))=.lst (x.map λr=>D.int (bT r:Int)):=by delta aB;rw[dg];rfl
 rw[z];show fO rfl (f7 (dZ (x.map τ) rfl (by rw[bb];lia) (bM τ (λr=>.int (bT r:Int)) x λr o=>⟨[ab (τ r)],rfl,?_⟩)));obtain⟨b,p,rfl⟩:=qq o;have d:∀a∈x[b],0<=a/\a<(⇑x:Int):=j.rng b _ (cn p);have l:=j.up b _ (cn p);have m:(x[b]).Nodup:=l.imp λh=>by lia
 have q:=Ord.Rows.short j o;rw[<- A8 (λa n=>(d a n).1) m];show cZ (x:=aB ((x[b]).map λa:Int=>(2:Int)^a.toNat)) ?_ sum_ints;have v:aB ((x[b]).map λa=>(2:Int)^a.toNat)=.lst ((x[b]).map λa=>D.int ((2:Int)^a.toNat)):=by delta aB;rw[dg];rfl
 rw[v];show dZ ((x[b]).map D.int) rfl (by rw[bb];lia) (bM D.int (λa=>.int ((2:Int)^a.toNat)) _ λa n=>⟨[ab (.int a)],rfl,?_⟩);have r:=d a n;show binI (x:=1) (y:=a) rfl rfl ?_;show(lV (by
  show(Zv (0<=a)&&Zv (a.natAbs<=1000000)&&Zv ((1:Int).natAbs<18446744073709551616))=ae;rw[Zx r.1,Zx ∅];rfl)).trans ?_
 rw[C_]
def aBh(a:b<⇑x):eB (aB (pI x)) (.int b)=ab (.int (Mk x b:Int)):=by
 delta aB;rw[jF];show gT ?_;delta pI;rw[c_,cn a];have e:row x b=x[b]:=by delta row;simp[a]
 delta Mk;rw[e];rfl
end
end LL
namespace K25
open L3 L4 K24 LL
def RL(h:⇑xs<=1000):mU [τ xs,.int ⇑xs]=.ok (.bl ae):=by
 delta mU;show fO rfl (bX [.ro (τ xs),.ri ⇑xs] (oN (XH (b:=ag) (tnE (b:=ae) (nA (isi (d:=τ xs) rfl) rfl) rfl) (λ_=>nA (binI (x:=⇑xs) (y:=⇑xs) (cZ rfl DB) rfl mR) ?_) (λh=>by cases h)) rfl) (f7 (cZ (x:=.lst ((xs.map λ_=>ae).map D.bl)) ?_ ?_)))
 .rw [jV];simp
 .rw [dg];show dZ (xs.map D.int) rfl (by rw[bb];lia) ?_;show bM D.int (λ_=>.bl ae) xs λy _=>⟨[ab (.int y)],rfl,rfl⟩
 .rw [pA];simp
section
variable{x:Q0a}
def nJ(x:Q0a):⇑(kL x)=⇑x+1:=yO _ _ (lT _ _ _)
end
end K25
namespace LL
open L3 L4 K24
theorem Hf(f:Int->Int):∀(m:Nat) (x:Int),It m (Df f) x=It m f (x+1)-It m f x:=by
 intro m
 induction m generalizing f with
 |zero=>intro x;rfl
 |succ m ih=>intro x;show ih (Df f) x
noncomputable def dot(f:Int->Int):List Int->Int->Int
 |[],_=>0
 |a::l,x=>a*f x+dot f l (x+1)
theorem KL(f:Int->Int):∀{a b:Q0e} {x:Int},⇑a=⇑b->dot f (eM a b) x=dot f a x+dot f b x
 |[],[],x,_=>rfl
 |[],_::_,x,h=>by simp at h
 |_::_,[],x,h=>by simp at h
 |y::a,z::b,x,h=>by have d:=KL f (a:=a) (b:=b) (x:=x+1) ↑h;show(y+z)*f x+dot f (eM a b) (x+1)=y*f x+dot f a (x+1)+(z*f x+dot f b (x+1));rw[d,ud];lia
theorem KN(f:Int->Int):∀(a:Q0e) (x:Int),dot f (a.map λy=>-y) x=-dot f a x
 |[],x=>rfl
 |y::a,x=>by have d:=KN f a (x+1);show -y*f x+dot f (a.map λy=>-y) (x+1)=-(y*f x+dot f a (x+1));rw[d,Int.neg_mul];lia
theorem KO(f:Int->Int):∀(a:Q0e) (x:Int),dot f (a++[0]) x=dot f a x
 |[],x=>by show 0*f x+0=0;rw[ml];rfl
 |y::a,x=>by have d:=KO f a (x+1);show y*f x+dot f (a++[0]) (x+1)=y*f x+dot f a (x+1);rw[d]
noncomputable def al:Nat->List Int
 |0=>[1]
 |m+1=>eM (0::al m) ((al m).map (λy=>-y)++[0])
theorem qZ:∀m,⇑(al m)=m+1
 |0=>rfl
 |m+1=>by rw[al,eU (by simp),eg,qZ m]
theorem G4(f:Int->Int):∀(m:Nat) (x:Int),It m f x=dot f (al m) x
 |0,x=>by show f x=1*f x+0;rw[C_,oz]
 |m+1,x=>by show It m (Df f) x=_;rw[Hf,G4 f m,G4 f m,al,KL f (by simp),KO,KN];show dot f (al m) (x+1)-dot f (al m) x=0*f x+dot f (al m) (x+1) + -dot f (al m) x;rw[ml];lia
def sg(k:Int):Int:=1-2*(k%2)
def XY(k:Int):sg (k+1)=-sg k:=by delta sg;lia
theorem G5:∀(m i:Nat),i<=m->(al m)[i]?=ab (C m i*sg ((m:Int)-i))
 |0,i,h=>by
  have:i=0:=∅
  subst this;rfl
 |m+1,i,h=>by
  have n:=qZ m;have d:((al m).map (λy=>-y)++[0])[i]?=ab (-(C m i*sg ((m:Int)-i))):=by
   by_cases l:i<=m
   .rw [kh (by simp;lia),c_,G5 m i l];rfl
   .rw [ji (by simp;lia),bb,show i-⇑(al m)=0 by lia,Q6 ∅ ∅,ml];rfl
  have a:sg (((m+1:Nat):Int)-i)=-sg ((m:Int)-i):=by rw[<- XY];congr 1;lia
  cases i with
  |zero =>
   rw[al,vC (show(0::al m)[0]?=ab 0 from rfl) d,a,GZ,GZ];simp
  |succ i =>
   have e1:(0::al m)[i+1]?=ab (C m i*sg ((m:Int)-i)):=by rw[kg];show G5 m i ∅
   have j:sg ((m:Int)-i)=sg (((m+1:Nat):Int)-(i+1:Nat)):=by congr 1;lia
   rw[al,vC e1 d,j,a,show((m+1:Nat):Int)=(m:Int)+1 from rfl,Q5,ud,a2D,a2D,Int.add_comm]
theorem KP(f:Int->Int):∀(l:Q0e) (x:Int),dot f l x=((aQ 0 ⇑l).map λi=>η l i*f (x+i)).sum
 |[],x=>rfl
 |a::l,x=>by
  have d:=KP f l (x+1);show a*f x+dot f l (x+1)=_;rw[d,eg,show ⇑l+1=1+⇑l by lia];delta aQ;rw[List.range_add,h_,h_,a19,dg,dg,dg];have e0:(Kr ((λi=>η (a::l) i*f (x+i))∘λk:Nat=>0+(k:Int)) (cj 1)).sum=a*f x:=by simp[Cq,η]
  rw[e0];congr 2;rw[dg];show mh λj _=>?_;erw[a2H];have e1:η (a::l) (0+((1+j:Nat):Int))=η l (0+(j:Int)):=by delta η;rw[show(0+((1+j:Nat):Int)).toNat=j+1 by lia,show(0+(j:Int)).toNat=j by lia,kg]
  rw[e1,show x+1+(0+(j:Int))=x+(0+((1+j:Nat):Int)) by push_cast;lia]
def DM(f:Int->Int)(m:Nat)(x:Int):It m f x=((aQ 0 (m+1)).map λi=>f (x+i)*C m i.toNat*(1-2*(((m:Int)-i)%2))).sum:=by rw[G4,KP,qZ];congr 1;show mh λi a=>?_;have:=aX.1 a;have e:=G5 m i.toNat ∅;delta η;rw[e,Option.getD_some,show((i.toNat:Nat):Int)=i by lia];delta sg;rw[qu,<- yi]
theorem RM:∀(n:Nat) (f:Int->Int) (j:Nat),j<n->(fd (vals f n 0))[j]?=ab (It j f 0)
 |0,f,j,h=>by lia
 |n+1,f,j,h=>by
  rw[XS]
  cases j with
  |zero=>rfl
  |succ j=>rw[kg,RM n (Df f) j ∅];rfl
section
variable(x:Q0a)
def cnt:Nat->List Int->Int
 |0,_=>1
 |m+1,a=>((aV x a).map λt=>cnt m (aI a t)).sum
end
theorem sum_map_add{α:Type}(f g:α->Int):∀L:List α,(L.map λa=>f a+g a).sum=(L.map f).sum+(L.map g).sum
 |[]=>rfl
 |a::L=>by have d:=sum_map_add f g L;erw[bx,jc,d];lia
theorem pJ{α:Type}:∀L:List α,(L.map λ_=>(0:Int)).sum=0
 |[]=>rfl
 |a::L=>by rw[bx,jc,pJ L];rfl
theorem rA{α d:Type}(f:α->d->Int)(M:List d):∀L:List α,(L.map λa=>(M.map λb=>f a b).sum).sum=(M.map λb=>(L.map λa=>f a b).sum).sum
 |[]=>by erw[nq,List.sum_nil];rw[pJ]
 |a::L=>by have h:=rA f M L;erw[bx,jc,h];rw[<- sum_map_add]
section
variable{x:Q0a}
def RN(h:⇑a=⇑b):η (eM a b) j=η a j+η b j:=by
 delta η;by_cases d:j.toNat<⇑a
 .rw [vC (cn d) (cn ∅),cn d,cn ∅];rfl
 .rw [ig (by rw[eU h];lia),ig ∅,ig ∅];rfl
def XZ(h:0<=j)(d:j<⇑w):η (eO w) j=if j=0 then 0 else η w (j-1):=by
 delta η eO;split
 .rename_i z;subst z;rfl
 .obtain ⟨k,a⟩:∃k:Nat,j.toNat=k+1:=⟨j.toNat-1,∅⟩;rw[a,kg,a2l,Z_ ∅,show(j-1).toNat=k by lia]
end
section
variable{x y:Q0a}
def Turned(x y:Q0a):Prop:=⇑y=⇑x /\∀a b:Int,0<=b->b<(⇑x:Int)->(a∈row y ((⇑x:Int)-1-b)↔(⇑x:Int)-1-a∈row x b)
def Turned.symm(h:Turned x y):Turned y x:=by show⟨h.1.symm,λa b j d=>?_⟩;rw[h.1] at d ⊢;have e:=h.2 ((⇑x:Int)-1-a) ((⇑x:Int)-1-b) ∅ ∅;rw[show(⇑x:Int)-1-((⇑x:Int)-1-b)=b by lia,show(⇑x:Int)-1-((⇑x:Int)-1-a)=a by lia] at e;show e.symm
def G6(x z:Q0a):Prop:=⇑z=⇑x /\∀a b:Int,0<=a->a<(⇑x:Int)->0<=b->b<(⇑x:Int)->(a∈row x b↔b∈row z a)
def G6.symm(h:G6 x y):G6 y x:=⟨h.1.symm,λa b l j h2 d=>by rw[h.1] at j d;show(h.2 b a h2 d l j).symm⟩
end
section
variable{x y z:Q0a}
structure Sd (x y z:Q0a):Prop where
 len:⇑z=⇑x+⇑y
 lo:∀t:Int,0<=t->t<(⇑x:Int) ->∀a,a∈row z t↔a∈row x t
 hi:∀t:Int,0<=t->t<(⇑y:Int) ->∀a,a∈row z (t+⇑x)↔a-⇑x∈row y t
 rx:∀t:Int,0<=t->t<(⇑x:Int) ->∀a∈row x t,0<=a/\a<(⇑x:Int)
 ry:∀t:Int,0<=t->t<(⇑y:Int) ->∀a∈row y t,0<=a/\a<(⇑y:Int)
structure Cb (x y:Q0a) (a b c:Q0e):Prop where
 lo:∀t:Int,0<=t->t<(⇑x:Int)->(t∈c↔t∈a)
 hi:∀t:Int,0<=t->t<(⇑y:Int)->(t+⇑x∈c↔t∈b)
structure Av (x y z:Q0a) (s t:Int):Prop where
 len:⇑z=⇑x+⇑y
 lo:∀a:Int,0<=a->a<(⇑x:Int) ->∀b,b∈row z (a+s)↔b-s∈row x a
 hi:∀a:Int,0<=a->a<(⇑y:Int) ->∀b,b∈row z (a+t)↔(s<=b/\b<s+⇑x)\/b-t∈row y a
 rx:∀a:Int,0<=a->a<(⇑x:Int) ->∀b∈row x a,0<=b/\b<(⇑x:Int)
 ry:∀a:Int,0<=a->a<(⇑y:Int) ->∀b∈row y a,0<=b/\b<(⇑y:Int)
 st:(s=0/\t=⇑x)\/(s=⇑y/\t=0)
end
def KQ(j:⇑a=⇑b)(h:∀i:Nat,i<⇑a->η a i=η b i):a=b:=by apply a2q j;intro i d h2;have:=h i d;delta η at this;rw[gq,cn d,cn h2] at this;show this
def RP(a:Ord.Rows x)(h:⇑x<=9):∀r∈x,⇑r<=9:=λr d=>jb (Ord.Rows.short a d) h
def X0:eB (.lst (ds++[d])) (.int (-1))=ab d:=by show sQ (ds++[d]) (-1)=_;delta sQ P7;rw[Zz ⋯,Z_ (by rw[gk,eg,lj];lia)];show(ds++[d])[(-1+(⇑(ds++[d]):Int)).toNat]?=_;rw[show(-1+(⇑(ds++[d]):Int)).toNat=⇑ds by rw[gk,eg,lj];lia,ji (bq _),Cn];rfl
theorem Am(j:a ρ=ab (.bl p))(d:p=ae->b ρ=ab (.bl q))(h:p=ag->q=ag):kF a b ρ=ab (.bl q):=by
 delta kF;rw[j];show(if p=ae then b ρ else ab (.bl ag))=_
 cases p with
 |true=>show d rfl
 |false=>rw[h rfl];rfl
theorem RQ(h:ns≠[]):W4 ns∈ns:=by
 cases ns with
 |nil=>show Zw rfl h
 |cons a l =>
  have go:∀(l:Q0e) (a:Int),l.foldl (λm b=>if m<b then b else m) a=a\/l.foldl (λm b=>if m<b then b else m) a∈l:=by
   intro l
   induction l with
   |nil=>intro a;show .inl rfl
   |cons b l ih =>
    intro a;rw[lp];rcases ih (if a<b then b else a) with z|z
    .rw [z];split
     .exact .inr cz
     .exact .inl rfl
    .exact .inr (fq _ z)
  show l.foldl (λm b=>if m<b then b else m) a∈a::l;rcases go l a with z|z
  .rw [z];show cz
  .exact fq _ z
def X1:slM (.lst (ds++[d])) af (ab (-1))=ab (.lst ds):=by show ab (D.lst (CY (ds++[d]) af (ab (-1))))=_;delta CY MW;dsimp only;rw[Z_ ⋯,show(-1+(⇑(ds++[d]):Int)).toNat=⇑ds by rw[gk,eg,lj];lia,qt,xn,List.take_left]
def DN(a:⇑ds=np)(h:Rt (b (eG n ds)) λe=>e=d):c8 n np b ds=.ok d:=by obtain⟨d',e,rfl⟩:=uY a h;show e
section
variable{x:Q0a}{R:List Int->Int}
def pK(n:Nat):(aQ 0 n).Pairwise (·<·):=by delta aQ;show yh _ (λa b h=>∅) Ko
end
end LL
namespace L4
open L3
noncomputable def foldM(R:sR)(o:D):List D->KD->Option (List D×KD)
 |[],kd=>ab ([],kd)
 |v::l,kd=>match R [o,v] kd with
  |.ok r=>(foldM R o l r.2).map λp=>(r.1::p.1,p.2)
  |_=>af
noncomputable def aE3:D->Option (List D)
 |.lst l=>ab l
 |_=>af
def RR(R:sR)(io il j:Nat):XF:=λρ=>(bF io (gI ρ)).bind λo=>(bF il (gI ρ)).bind λl=>(aE3 l).bind λvs=>(AB ρ[j]?).bind λkd=>(foldM R o vs kd.2).bind λp=>(intsOf p.1).bind λns =>
 if ⇑vs<k7 then ab (ρ.set j (.ow (.a8 (adr kd.1) p.2.1 p.2.2)),.int ns.sum) else af
end L4
namespace K11
open L3 L4
def b9:Nat->sR
 |0=>λ_ _=>.no
 |n+1=>runM 4 3
  ((aK (g8 (tV (aC oM (cL cJ (bO 1)) (cL cJ (bO 0))))
   (iL 2 (a9 (eI 1)) cP)
   dW)
  (g8 (tV (aC (uL ae) cP fH))
   (aK (bH 3 (bE 1 [1] (bV (aO LL.dB (aA bY (bO 1)))) (g1 0) bQ (aO LL.eS (aA cP (bO 0)))))
   (iL 2 (RR (b9 n) 0 3 2) cP))
   dW)))
  cP
def jY:kE:=c8 2 1
  (aK (JP 1)
  (aK (M5 (b9 11) (aA bY (aA (hJ aG) aG)) 1)
  (b8 cP)))
end K11
namespace ND
open L3 L4
def kM:kE:=c8 1 1
  (b8 (cL dU (aA (AK [] (aO K11.jY (bO 0)) (hJ (aA (cL cJ (bO 0)) (bO 0)))) aG)))
def kN:kE:=c8 2 2
  (b8 (cL dU (aA (bE 1 [0] (bG (bO 1)) (g1 0) (tV (aC oM (aC jE (aC M6 cP bY) (eI 1)) (eI 1))) bY) aG)))
def gL:kE:=c8 6 1
  (aK (bH 1 (cL cJ (bO 0)))
  (aK (bH 2 (aO LL.mV (bO 0)))
  (aK (jM 3 (eQ aG))
  (aK (fB (bG (aA (aC C2 (eI 1) cP) aG)) (rS 4)
   (aK (bH 5 (aO kN (aA i9 (bO 1))))
   (g8 (tV (cL allM (aA (bE 1 [4,2] (bV nL) (g1 0) bQ (aC oM (aC jE (aC eB fH bY) cP) (aC eB fH bY))) aG)))
    (sX (m9 3 g4 (a9 (hJ (aA (cL cJ (bO 5)) (bO 5))))))
    dW)))
  (b8 (bE 2 [] (bV (cL GS (bO 3))) (g2 0 1) bQ cP))))))
open K24 LL K11
section
variable{x:Q0a}
def kW(a:Q0e):rV:=.inr (a.map λt=>.inl (.inl t))
theorem KR:∀a:Q0e,lI (a.map D.int)=ab (a.map λt=>.inl (.inl t))
 |[]=>rfl
 |t::a=>by rw[bx];delta lI;rw[KR a];rfl
def RS(a:Q0e):lJ (τ a)=ab (kW a):=by show(lI (a.map D.int)).map ki=_;rw[KR];rfl
theorem BB:∀{a b:Q0e},kW a=kW b->a=b
 |[],[],_=>rfl
 |[],_::_,h=>by simp[kW] at h
 |_::_,[],h=>by simp[kW] at h
 |s::a,t::b,h=>by delta kW at h;erw[bx,a0a,Ct,Hr] at h;rw[h.1,BB (a:=a) (b:=b) (by delta kW;rw[h.2])]
abbrev cW(x:Q0a)(a:Q0e):D:=.int (cnt x (⇑x-⇑a) a)
abbrev NF(kd:KD)(a:Q0e):Prop:=(aS kd.1 kd.2 (kW a)).isSome=ae
def DS(x:Q0a)(a:Q0e):Prop:=a.Pairwise (·<·) /\∀t∈a,(0<=t/\t<(⇑x:Int)) /\∀s∈row x t,s∈a
def aE5{l:Q0e}(h:l.Pairwise (· <= ·))(nd:l.Nodup):l.Pairwise (·<·):=(h.and nd).imp λ{a b} h=>by lia
def BC{a:Q0e}{t:Int}(h:DS x a)(l:t∈aV x a):DS x (aI a t):=by
 obtain⟨o,h2,n⟩:=iF.1 l;have pm:(aI a t).Perm (a++[t]):=sortI_perm _;show⟨aE5 (hW _) (pm.nodup_iff.2 ?_),λs m=>?_⟩
 .rw [tq];show⟨h.1.imp λ{a b} h=>∅,by simp,λu d v j e=>by rw[dh.1 j] at e;show h2 (e▸d)⟩
 .rcases ie.1 (pm.mem_iff.1 m) with z|z
  .exact ⟨(h.2 s z).1,λu d=>pm.mem_iff.2 (lh _ ((h.2 s z).2 u d))⟩
  .rw [dh.1 z];show⟨o,λu d=>pm.mem_iff.2 (lh _ (n u d))⟩
def DO:(cV ks ds k v).1=ks\/(k∉ks/\(cV ks ds k v).1=ks++[k]):=by
 delta cV;split
 .exact .inl rfl
 .rename_i h;show .inr ⟨λq=>h (Cw.2 ⟨k,q,by simp⟩),rfl⟩
def iU(x:Q0a)(kd:KD):Prop:=⇑kd.1=⇑kd.2/\(∀q∈kd.1,q.isLeft=ag)/\(∀a d,aS kd.1 kd.2 (kW a)=ab d->d=cW x a)/\(∀a,NF kd a->⇑a<⇑x ->∀t∈aV x a,NF kd (aI a t))/\kd.1.Nodup /\∀q∈kd.1,∃a,DS x a/\q=kW a
def nB(x:Q0a)(kd:KD)(a:Q0e):KD:=cV kd.1 kd.2 (kW a) (cW x a)
def KS(h:iU x kd)(F:DS x a)(y:⇑a<⇑x ->∀t∈aV x a,NF kd (aI a t)):iU x (nB x kd a)/\⇑(nB x kd a).1<=⇑kd.1+1/\aS (nB x kd a).1 (nB x kd a).2 (kW a)=ab (cW x a)/\A3 kd (nB x kd a):=by
 have up:A3 kd (nB x kd a):=λk e=>by
  delta nB;rw[eT (ks:=[]) h.1];split
  .rfl
  .exact e
 show⟨⟨(pG h.1).1,yP h.2.1 rfl,λb d e=>?_,λb e n t m=>?_,?_,?_⟩,(pG h.1).2,by delta nB;rw[eT (ks:=[]) h.1,Z_ rfl],up⟩
 .delta nB at e;rw[eT (ks:=[]) h.1] at e;split at e
  .rename_i hk;cases BB hk;show(dm e).symm
  .exact h.2.2.1 b d e
 .delta NF nB at e;rw[eT (ks:=[]) h.1] at e;split at e
  .rename_i hk;cases BB hk;show up _ (y n t m)
  .exact up _ (h.2.2.2.1 b e n t m)
 .delta nB;rcases DO (ks:=kd.1) (ds:=kd.2) (k:=kW a) (v:=cW x a) with z|⟨l,j⟩
  .rw [z];show h.2.2.2.2.1
  .rw [j,tq];show⟨h.2.2.2.2.1,by simp,λu p v o e=>by rw[dh.1 o] at e;show l (e▸p)⟩
 .delta nB;rcases DO (ks:=kd.1) (ds:=kd.2) (k:=kW a) (v:=cW x a) with z|⟨l,j⟩
  .rw [z];show h.2.2.2.2.2
  .rw [j];intro q A;rcases ie.1 A with q2|q2
   .exact h.2.2.2.2.2 q q2
   .exact ⟨a,F,dh.1 q2⟩
abbrev KU(x:Q0a)(a:Q0e)(q:Nat->ay->Prop)(kd:KD)(v:Sv):bC:=[.ro (aF x),.ro (τ a),.ow (.a8 q kd.1 kd.2),v]
def Al(h:iU x kd):tV (aC (uL ae) cP fH) (bL (KU x a q kd v))=ab (!(aS kd.1 kd.2 (kW a)).isSome):=by show nA (d:=.bl (!(aS kd.1 kd.2 (kW a)).isSome)) (cK (x:=τ a) (y:=.a8 q kd.1 kd.2) rfl rfl ?_) rfl;show((lJ (τ a)).bind _)=_;rw[RS];show(if _ then _ else _)=_;rw[Z_ (fP h.2.1 rfl)];rfl
def aE6(h:iU x kd)(l:∀b o,q b o ->∃o2,q0 b o2)(m:aS kd.1 kd.2 (kW a)=ab d):AD 2 cP q0 (KU x a q kd v)=ab (d,kd):=by have e:AD 2 cP q0 (KU x a q kd v)=(lJ (τ a)).bind λj=>@ite _ (kindB kd.1 j=ae /\∀b o,q b o ->∃o2,q0 b o2) (qv _) ((aS kd.1 kd.2 j).map λd=>(d,kd)) af:=rfl;rw[e,RS];show(Z_ ⟨fP h.2.1 rfl,l⟩).trans (by rw[m];rfl)
def He(h:iU x kd1)(l:⇑kd1.1<16000000)(j:f (KU x a q kd v)=ab (KU x a q1 kd1 v,cW x a)):iL 2 f cP (KU x a q kd v)=.nx (KU x a (adr q1) (nB x kd1 a) v):=by
 delta iL;rw[j,fg]
 show(match ((lJ (τ a)).bind λd=>if kindB kd1.1 d=ae/\⇑kd1.2<k7 then ab ((KU x a q1 kd1 v).set 2 (.ow (.a8 (adr q1) (cV kd1.1 kd1.2 d (cW x a)).1 (cV kd1.1 kd1.2 d (cW x a)).2))) else af) with
  |some ρ'=>Out.nx ρ'
  |none=>.no)=_
 rw[RS,fg,Z_ ⟨fP h.2.1 rfl,by rw[<- h.1];delta k7;lia⟩];rfl
theorem RT:∀(h:Q0e) (kd:KD),iU x kd ->
  (∀t∈h,∀kd,iU x kd->⇑kd.1+most m<=10000000 ->∃l,b9 n [aF x,τ (aI a t)] kd=.ok (.int (cnt x m (aI a t)),l)/\iU x l/\⇑l.1<=⇑kd.1+most m/\A3 kd l/\NF l (aI a t)) ->
  ⇑kd.1+⇑h*most m<=10000000 ->
  ∃d,foldM (b9 n) (aF x) (h.map λt=>τ (aI a t)) kd=ab (h.map λt=>.int (cnt x m (aI a t)),d)/\iU x d/\⇑d.1<=⇑kd.1+⇑h*most m/\A3 kd d /\∀t∈h,NF d (aI a t)
 |[],kd,hM,_,_=>⟨kd,rfl,hM,by simp,λ_ e=>e,λt y=>(nomatch y)⟩
 |t::h,kd,hM,hR,hc=>by
  rw[eg,xm] at hc;obtain⟨kd1,e1,I,A,p,in1⟩:=hR t cz kd hM ∅;obtain⟨d,F,v,z,j,q⟩:=RT h kd1 I (λu o=>hR u (fq _ o)) ∅;show⟨d,?_,v,by rw[eg,xm];lia,λk e=>j k (p k e),λu o=>?_⟩
  .rw [bx];delta foldM;rw[e1];dsimp only;rw[F];rfl
  .rcases bu.1 o with e|o
   .rw [e];show j _ in1
   .exact q u o
abbrev bW(n:Nat):L4.SF:=(aK (g8 (tV (aC oM (cL cJ (bO 1)) (cL cJ (bO 0))))
   (iL 2 (a9 (eI 1)) cP)
   dW)
  (g8 (tV (aC (uL ae) cP fH))
   (aK (bH 3 (bE 1 [1] (bV (aO LL.dB (aA bY (bO 1)))) (g1 0) bQ (aO LL.eS (aA cP (bO 0)))))
   (iL 2 (RR (b9 n) 0 3 2) cP))
   dW))
def BD(new:∀q,∃q2 v,(∀b o,q2 b o ->∃o2,q b o2)/\bW n (startM 4 [aF x,τ a] q kd)=.nx (KU x a q2 i7 v))(l:iU x i7)(j:aS i7.1 i7.2 (kW a)=ab d):b9 (n+1) [aF x,τ a] kd=.ok (d,i7):=by
 delta b9;show AE λq=>?_
 have e1:oQ 4 3 (bW n) cP q [aF x,τ a] kd=(match bW n (startM 4 [aF x,τ a] q kd) with
  |.nx ρ=>AD 2 cP q ρ
  |_=>af):=rfl
 show e1.trans ?_;obtain⟨q2,v,h,m⟩:=new q;rw[m];show aE6 l h j
theorem RU(hx:⇑x<=9)(hr:∀r∈x,⇑r<=9):∀(m e:Nat) (a:Q0e) (kd:KD),Q2 x a->DS x a->⇑a+m=⇑x->iU x kd->⇑kd.1+most m<=10000000 ->
  ∃v,b9 (m+1+e) [aF x,τ a] kd=.ok (.int (cnt x m a),v)/\iU x v/\⇑v.1<=⇑kd.1+most m/\aS v.1 v.2 (kW a)=ab (.int (cnt x m a))/\A3 kd v:=by
 intro m
 induction m with
 |zero =>
  intro e a kd ok ds F j hc;have F:⇑a=⇑x:=F;have m0:most 0=1:=rfl;have e0:⇑x-⇑a=0:=∅
  rw[show 0+1+e=e+1 by lia];obtain⟨p1,p2,p3,p4⟩:=KS (a:=a) j ds (λz=>∅);have l:=p3;delta cW at l;rw[e0] at l;show⟨nB x kd a,BD (λq=>⟨adr q,.no,λb o h=>h,?_⟩) p1 l,p1,∅,l,p4⟩;have U:cW x a=.int 1:=by delta cW;rw[e0];rfl
  show bX (KU x a (adr q) (nB x kd a) .no) (M9 ((pH (x:=x) (a:=a) rfl rfl).trans (by rw[Zx F])) ?_) (oN ?_ rfl)
  .exact He (q:=q) (q1:=q) (kd:=kd) j ∅ (by rw[U];rfl)
  .rw [Al p1,p3];rfl
 |succ m ih =>
  intro e a kd ok ds F j hc;have mm:most (m+1)=1+(m+1)*most m:=rfl;have e0:⇑x-⇑a=m+1:=∅
  have X:=jX ok;have ha:=pD ok;rw[show m+1+1+e=(m+1+e)+1 by lia];have lt:∀q,tV (aC oM (cL cJ (bO 1)) (cL cJ (bO 0))) (bL (startM 4 [aF x,τ a] q kd))=ab ag:=λq=>(pH (x:=x) (a:=a) rfl rfl).trans (by rw[Zy ∅])
  cases hk:aS kd.1 kd.2 (kW a) with
  |some d =>
   have O:=j.2.2.1 a d hk;delta cW at O;rw[e0] at O;subst O;show⟨kd,BD (λq=>⟨q,.no,λb o h=>⟨o,h⟩,bX (KU x a q kd .no) (oN (lt q) rfl) (oN (by rw[Al j,hk];rfl) rfl)⟩) j hk,j,∅,hk,λ_ e=>e⟩
  |none =>
   have hlen:⇑(aV x a)*most m<=(m+1)*most m:=a1T _ ∅;obtain⟨kd1,ef,Y,hc1,Z,J⟩:=RT (n:=m+1+e) (m:=m) (a:=a) (aV x a) kd j (λt A kd L K=>(ih e (aI a t) kd ((JZ ok).1 _ (x_ A)).1 (BC ds A) (by have:=((JZ ok).1 _ (x_ A)).2;lia) L K).imp λ_ h=>⟨h.1,h.2.1,h.2.2.1,h.2.2.2.2,by delta NF;rw[h.2.2.2.1];rfl⟩) ∅;obtain⟨p1,p2,p3,p4⟩:=KS (a:=a) Y ds (λ_=>J);have l:=p3;delta cW at l;rw[e0] at l
   let I:D:=.lst ((aV x a).map λt=>τ (aI a t))
   show⟨nB x kd1 a,BD (λq=>⟨adr (adr q),.ro I,λb o ⟨o1,o2,h⟩=>⟨o2,h⟩,?_⟩) p1 l,p1,∅,l,λk e=>p4 k (Z k e)⟩;show bX (KU x a q kd .no) (oN (lt q) rfl) (M9 (by rw[Al j,hk];rfl) (bX (KU x a q kd (.ro I)) (fF I ?_ rfl) ?_))
   .refine dZ ((aV x a).map D.int) ?_ (by rw[bb];lia) (bM D.int (λt=>τ (aI a t)) (aV x a) λt A=>⟨[ab (.int t),ab (τ a)],rfl,dO rfl rfl (yL ∅)⟩);delta bV;rw[dO (x:=aF x) (y:=τ a) rfl rfl (u6 hx hr)];rfl
   .refine He (q:=q) (q1:=adr q) (kd:=kd) (kd1:=kd1) Y ∅ ?_;have en:intsOf ((aV x a).map λt=>D.int (cnt x m (aI a t)))=ab ((aV x a).map λt=>cnt x m (aI a t)):=by rw[<- bP,dg];rfl
    have U:cW x a=.int (((aV x a).map λt=>cnt x m (aI a t)).sum):=by delta cW;rw[e0];rfl
    rw[U];show((foldM (b9 (m+1+e)) (aF x) ((aV x a).map λt=>τ (aI a t)) (kd.1,kd.2)).bind λp=>(intsOf p.1).bind λns=>if⇑((aV x a).map λt=>τ (aI a t))<k7 then ab ((KU x a q kd (.ro I)).set 2 (.ow (.a8 (adr q) p.2.1 p.2.2)),D.int ns.sum) else af)=_;rw[show(kd.1,kd.2)=kd from rfl,ef,fg,en,fg,Z_ (by rw[bb];delta k7;lia)];rfl
def X3(l:⇑x<=9)(n:∀r∈x,⇑r<=9):∃kd,jY [aF x]=.ok (.a8 (adr hV) kd.1 kd.2)/\iU x kd/\NF kd []:=by
 obtain⟨kd,e,p,z,o,_⟩:=RU l n ⇑x (10-⇑x) [] ([],[]) J0 ⟨Cz,λt m=>(by cases m)⟩ (by simp) ⟨rfl,λq j=>(by cases j),λa d h=>(by simp[aS] at h),λa h=>(by simp[NF,aS] at h),vp,λq j=>(by cases j)⟩ (by have:=RA l;simp;lia);rw[show ⇑x+1+(10-⇑x)=11 by lia] at e;show⟨kd,?_,p,by delta NF;rw[o];rfl⟩;delta jY;show fO rfl (bX [.ro (aF x),.ow (.a8 hV [] [])] rfl (bX [.ro (aF x),.ow (.a8 (adr hV) kd.1 kd.2)] ?_ (f7 rfl)));have v:stepM (b9 11) (aA bY (aA (hJ aG) aG)) 1 [.ro (aF x),.ow (.a8 hV [] [])]=ab (hV,.int (cnt x ⇑x []),kd):=by
  delta stepM;rw[args2 (x:=aF x) (y:=τ []) rfl rfl,fg]
  show(match b9 11 [aF x,τ []] ([],[]) with
   |.ok r=>ab (hV,r)
   |_=>af)=_
  rw[e]
 delta M5;rw[v];rfl
def X4(d:⇑ks=⇑ds):(aS ks ds k).isSome=ae↔k∈ks:=by
 delta aS;rw[xl,List.find?_isSome]
 constructor
 .rintro ⟨p,a,e⟩;rw[<- of_decide_eq_true e];show(tm a).1
 .intro h;obtain⟨i,j,e⟩:=qq h;show⟨(ks[i],ds[i]'∅),List.mem_iff_getElem.2 ⟨i,by simp;lia,by simp⟩,by simp[e]⟩
def KW(l:Ord.Rows x)(I:0<=s/\s<(⇑x:Int))(F:0<=t/\t<(⇑x:Int))(h:s∈row x t):⇑(row x s)<⇑(row x t):=by
 obtain⟨b,z⟩:∃b:Nat,t=(b:Int):=⟨t.toNat,∅⟩;obtain⟨a,A⟩:∃a:Nat,s=(a:Int):=⟨s.toNat,∅⟩;subst z A;have q:b<⇑x:=∅
 have y:a<⇑x:=∅
 have o:x[b]?=ab x[b]:=cn q;have d:x[a]?=ab x[a]:=cn y;have n:row x (b:Int)=x[b]:=by delta row;rw[gq,o];rfl
 have p:row x (a:Int)=x[a]:=by delta row;rw[gq,d];rfl
 rw[n] at h;rw[p,n];have j:x[a].Nodup:=(l.up a _ d).imp λ{u v} h=>by lia
 have nd:((a:Int)::x[a]).Nodup:=kq.2 ⟨l.GC a _ d,j⟩;have sub:∀u∈(a:Int)::x[a],u∈x[b]:=λu m=>by
  rcases bu.1 m with rfl|m
  .exact h
  .exact l.tr b a _ _ o h d u m
 have:=a33 nd sub;rw[eg] at this;lia
theorem RV{f:Int->Nat}:∀{l:Q0e},l≠[] ->∃t∈l,∀s∈l,f s<=f t
 |[],h=>Zw rfl h
 |[a],_=>⟨a,by simp,λs d=>by rw[dh.1 d];show bq _⟩
 |a::b::l,_=>by
  obtain⟨t,j,h⟩:=RV (f:=f) (l:=b::l) (by simp);by_cases z:f a<=f t
  .exact ⟨t,fq _ j,λs d=>by
    rcases bu.1 d with rfl|d
    .exact z
    .exact h s d⟩
  .exact ⟨a,cz,λs d=>by
    rcases bu.1 d with rfl|d
    .exact bq _
    .have:=h s d;lia⟩
def n6{l m:Q0e}(j:l.Pairwise (·<·))(d:m.Pairwise (·<·))(h:∀t,t∈l↔t∈m):l=m:=by have e:sortI m=l:=C9 ((Km (j.imp λ{a b} h=>∅) (d.imp λ{a b} h=>∅)).2 h) (j.imp λ{a b} h=>∅);have n:sortI m=m:=C9 (a2y _) (d.imp λ{a b} h=>∅);rw[<- e,n]
theorem Hd(o:Ord.Rows x){kd:KD}(h:iU x kd)(v:NF kd []):∀(n:Nat) (a:Q0e),⇑a=n->DS x a->NF kd a
 |0,a,hl,_=>by rw[qp.1 hl];show v
 |n+1,a,hl,hd=>by
  obtain⟨t,d,F⟩:=RV (f:=λt=>⇑(row x t)) (l:=a) (λz=>by rw[z] at hl;cases hl);have nd:a.Nodup:=hd.1.imp λ{a b} h=>by lia
  have m:∀s,s∈a.erase t↔s≠t/\s∈a:=λs=>a32 nd;have hd2:DS x (a.erase t):=⟨hd.1.sublist List.erase_sublist,λs j=>by obtain⟨I,h2⟩:=(m s).1 j;show⟨(hd.2 s h2).1,λu p=>(m u).2 ⟨λe=>?_,(hd.2 s h2).2 u p⟩⟩;subst e;have:=KW o (hd.2 u d).1 (hd.2 s h2).1 p;have:=F s h2;lia⟩
  have y:⇑(a.erase t)=n:=by rw[a2h d];lia
  have A:=Hd o h v n (a.erase t) y hd2;have rd:t∈aV x (a.erase t):=iF.2 ⟨(hd.2 t d).1,λz=>((m t).1 z).1 rfl,λs j=>(m s).2 ⟨λe=>by subst e;have:=KW o (hd.2 s d).1 (hd.2 s d).1 j;lia,(hd.2 t d).2 s j⟩⟩
  have ok:Q2 x a:=⟨nd,λs j=>(hd.2 s j).1⟩;have:=pD ok;have key:=h.2.2.2.1 (a.erase t) A ∅ t rd;have pm:(aI (a.erase t) t).Perm (a.erase t++[t]):=sortI_perm _;have e:aI (a.erase t) t=a:=n6 (BC hd2 rd).1 hd.1 λs=>by
   rw[pm.mem_iff,ie,dh,m s]
   constructor
   .rintro (⟨_,q⟩|rfl)
    .exact q
    .exact d
   .intro q;by_cases z:s=t
    .exact .inr z
    .exact .inl ⟨z,q⟩
  rwa [e] at key
def X5(o:Ord.Rows x)(h:iU x kd)(v:NF kd []):∃A:Q0a,kd.1=A.map kW/\A.Nodup /\∀a,a∈A↔DS x a:=by
 have ex:∀ks:List rV,(∀q∈ks,∃a,DS x a/\q=kW a) ->∃A:Q0a,ks=A.map kW /\∀a∈A,DS x a:=by
  intro ks
  induction ks with
  |nil=>intro _;show⟨[],rfl,λa p=>nomatch p⟩
  |cons q ks ih =>
   intro m;obtain⟨a,l,rfl⟩:=m q cz;obtain⟨A,rfl,j⟩:=ih λq h=>m q (fq _ h);show⟨a::A,rfl,λb d=>by
    rcases bu.1 d with rfl|d
    .exact l
    .exact j b d⟩
 obtain⟨A,e,j⟩:=ex kd.1 h.2.2.2.2.2;show⟨A,e,?_,λa=>⟨j a,λl=>?_⟩⟩
 .have:=h.2.2.2.2.1;rw[e] at this;show a30 kW (λa b n e=>n (by rw[e])) this
 .have:=(X4 h.1).1 (Hd o h v ⇑a a rfl l);rw[e] at this;obtain⟨b,d,y⟩:=gx.1 this
  rwa [<- BB y]
end
section
variable{x:Q0a}
def tL(S n:Nat):List Int:=(aQ 0 n).filter λb=>S.testBit b.toNat
def eV{S n:Nat}{t:Int}:t∈tL S n↔(0<=t/\t<(n:Int))/\S.testBit t.toNat=ae:=by
 delta tL;rw[gi,aX]
 constructor
 .rintro ⟨a,b⟩;show⟨∅,b⟩
 .rintro ⟨a,b⟩;show⟨∅,b⟩
def DP(S n:Nat):(tL S n).Pairwise (·<·):=kr _ (pK n)
def GF(x:Q0a)(S:Nat):Bool:=(tL S ⇑x).all λb=>Zv (Mk x b.toNat &&& S=Mk x b.toNat)
def nK(x:Q0a):List (List Int):=((cj (2^⇑x)).filter λS=>GF x S).map λS=>tL S ⇑x
def Hc(d:Ord.Rows x):GF x S=ae↔DS x (tL S ⇑x):=by
 delta GF DS;rw[jd]
 constructor
 .intro h;show⟨DP _ _,λt a=>⟨(eV.1 a).1,λs j=>?_⟩⟩;obtain⟨⟨l,t1⟩,_⟩:=eV.1 a;have sub:=A7.1 (of_decide_eq_true (h t a));obtain⟨b,rfl⟩:∃b:Nat,t=(b:Int):=⟨t.toNat,∅⟩;have r:=d.rng b (row x b) (by delta row;rw[gq,cn ∅];rfl) s j;obtain⟨i,rfl⟩:∃i:Nat,s=(i:Int):=⟨s.toNat,∅⟩;show eV.2 ⟨∅,?_⟩;show sub i ((RI d ∅).2 j)
 .rintro ⟨_,h⟩ t a;obtain⟨⟨l,t1⟩,_⟩:=eV.1 a;obtain⟨b,rfl⟩:∃b:Nat,t=(b:Int):=⟨t.toNat,∅⟩;show Zx (A7.2 λi m=>?_);have:=(h _ a).2 (i:Int) ((RI d (b:=b) ∅).1 m);show(eV.1 this).2
def aBk(l:S<2^n)(j:T<2^n)(h:tL S n=tL T n):S=T:=by
 apply qo;intro i;by_cases d:i<n
 .have a:=eV (S:=S) (n:=n) (t:=(i:Int));have b:=eV (S:=T) (n:=n) (t:=(i:Int));rw[h] at a;have:S.testBit i=ae↔T.testBit i=ae:=by
   constructor
   .intro z;show(b.1 (a.2 ⟨∅,z⟩)).2
   .intro z;show(a.1 (b.2 ⟨∅,z⟩)).2
  rw[jk];show this
 .have p:2^n<=2^i:=nh ⋯ ∅;rw[a1L ∅,a1L ∅]
def RW:(nK x).Nodup:=by delta nK;rw[Lc,vn];show Lb (λ{a b} j d h e=>?_) (kr _ Ko);have j:=k_.1 (gi.1 j).1;have d:=k_.1 (gi.1 d).1;have:=aBk j d e;lia
def RX(j:Ord.Rows x){a:Q0e}:a∈nK x↔DS x a:=by
 delta nK;rw[gx]
 constructor
 .rintro ⟨S,n,rfl⟩;show(Hc j).1 (gi.1 n).2
 .intro h;have e:tL (bT a) ⇑x=a:=n6 (DP _ _) h.1 λt=>by
   rw[eV]
   constructor
   .rintro ⟨⟨l,t1⟩,z⟩;have:=(bZ λu d=>(h.2 u d).1.1).1 z
    rwa [a2z l] at this
   .intro m;have r:=(h.2 t m).1;show⟨r,(bZ λu d=>(h.2 u d).1.1).2 ?_⟩
    rwa [a2z r.1]
  show⟨bT a,gi.2 ⟨k_.2 (Nat.lt_pow_two_of_testBit _ λi o=>?_),(Hc j).2 (by rw[e];show h)⟩,e⟩
  cases z:(bT a).testBit i with
  |false=>rfl
  |true =>
   have:=(h.2 _ ((bZ λu d=>(h.2 u d).1.1).1 z)).1;lia
def vF(d:⇑x<=9):⇑(nK x)<=512:=by delta nK;rw[bb];have a:=nr (λS=>GF x S) (cj (2^⇑x));rw[jt] at a;have:2^⇑x<=2^9:=nh ⋯ d;lia
abbrev NG(a:Q0e):W6:=((⇑a:Int),a)
def cM(x:Q0a):List (List Int):=(lK xK ((nK x).map NG)).map (·.2)
def aBl{A:Q0a}(nd:A.Nodup)(d:∀a,a∈A↔a∈nK x):lK xK (A.map NG)=lK xK ((nK x).map NG) :=
 W5 AI (((Km nd RW).2 d).map NG)
def pL:⇑(cM x)=⇑(nK x):=by delta cM;rw[bb,(eF _).length_eq,bb]
def dK(a:Q0e):pd (kW a)=τ a:=by delta kW pd;show D.tup _=D.tup _;congr 1;rw[dg];rfl
theorem yS{key:EF}{ρ:cN}{f:List Int->D}:∀A:Q0a,(∀a∈A,key (ρ.set 0 (ab (τ a)))=ab (f a))->uN key ρ (A.map τ)=ab (A.map f)
 |[],_=>rfl
 |a::A,h=>by rw[bx,uN,h a cz,fg,yS A λb d=>h b (fq _ d)];rfl
def DQ(h:Ord.Rows x)(j:⇑x<=9):kM [aF x]=.ok (.tup ((cM x).map τ)):=by
 have n:=RP h j;obtain⟨kd,e,o,q⟩:=X3 j n;obtain⟨A,z,nd,p⟩:=X5 h o q;have m:∀a,a∈A↔a∈nK x:=λa=>(p a).trans (RX h).symm;have F:⇑A<=512:=by have:=((Km nd RW).2 m).length_eq;have:=vF j;lia
 have l:∀a:Q0e,GU (qz a)=ab a:=λa=>bP a;have v:AK [] (aO jY (bO 0)) (hJ (aA (cL cJ (bO 0)) (bO 0))) [ab (aF x)]=ab (.lst ((cM x).map τ)):=by
  delta AK AJ;rw[fG (x:=aF x) (d:=.a8 (adr hV) kd.1 kd.2) rfl e,fg];show((ab (kd.1.map pd)).bind _)=_;rw[fg,z,dg,show(pd∘kW:List Int->D)=τ from funext dK];rw[show xJ GU (A.map τ)=ab A from oR l A,fg,yS (f:=λa=>.tup [.int (⇑a:Int),τ a]) A λa I=>?_,fg]
  .have:A.map (λa=>D.tup [.int (⇑a:Int),τ a])=(A.map NG).map λt:W6=>D.tup [.int t.1,qz t.2]:=by rw[dg];rfl
   rw[this,oR (f:=W8 GU) (g:=λt:W6=>D.tup [.int t.1,qz t.2]) (λt=>?_),fg,bb,Z_ ⟨∅,by rw[dg];show a2g _⟩]
   .rw [show lK (iM GD (sS GD)) (A.map NG)=lK xK ((nK x).map NG) from aBl nd m];delta cM;rw[dg];rfl
   .show ((GU (qz t.2)).map λb=>(t.1,b))=_;rw[l];rfl
  .delta hJ;rw[args2 (x:=.int (⇑a:Int)) (y:=τ a) (cZ (x:=τ a) rfl (by delta τ;rw[fI,bb])) rfl];rfl
 delta kM;show fO rfl (f7 (cZ (x:=.lst ((cM x).map τ)) v iP))
def NH{S n:Nat}(h:n<=9):kN [.int S,.int n]=.ok (τ (tL S n)):=by delta kN;show fO rfl (f7 (cZ (x:=aB (tL S n)) ?_ iP));show dZ ((aQ 0 n).map D.int) (yI rfl ∅) (by rw[bb,aJ];lia) (fQ D.int (λb=>S.testBit b.toNat) D.int (aQ 0 n) λb a=>⟨[ab (.int b),ab (.int S)],rfl,?_,λ_=>rfl⟩);have j:=(aX.1 a).1;obtain⟨c,rfl⟩:∃c:Nat,b=(c:Int):=⟨b.toNat,∅⟩;show(nA (d:=.bl (Zv ((if S.testBit c=ae then(1:Int) else 0)=1))) (binI (x:=(if S.testBit c=ae then 1 else 0)) (y:=1) (Fx rfl rfl) rfl rfl) rfl).trans ?_;rw[gq];cases S.testBit c<;>rfl
def DR(z:Ord.Rows x)(o:⇑x<=9):gL [aF x]=.ok (.lst ((cM x).map τ)):=by
 have J:2^⇑x<=2^9:=nh ⋯ o
 let j:List Int->D:=λa=>.tup [.int (⇑a:Int),τ a]
 delta gL;show DN rfl ?_;show bJ [.ro (aF x),.ri ⇑x,.no,.no,.no,.no] (fF (.int ⇑x) (cZ (x:=aF x) rfl f9) rfl) ?_;show bJ [.ro (aF x),.ri ⇑x,.ro (aB (pI x)),.no,.no,.no] (fF _ (fG rfl (RK z o)) rfl) ?_;show bJ [.ro (aF x),.ri ⇑x,.ro (aB (pI x)),.ow (.lst []),.no,.no] rfl ?_;show iQ (λρ=>∃n m,ρ=[.ro (aF x),.ri ⇑x,.ro (aB (pI x)),.ow (.lst ((nK x).map j)),n,m]) ?_ λρ ⟨n,m,e⟩=>?_
 .refine kJ (2^⇑x) (λi ρ=>∃n m,ρ=[.ro (aF x),.ri ⇑x,.ro (aB (pI x)),.ow (.lst ((((cj i).filter λS=>GF x S).map λS=>tL S ⇑x).map j)),n,m]) (args1 (binI (x:=((1:Nat):Int)) (y:=(⇑x:Nat)) rfl rfl (by rw[A9 ⋯ ∅,BA]))) ∅ ⟨.no,.no,rfl⟩ (λS ρ O ⟨n,m,e⟩=>?_) λρ h=>h;subst e;have few:∀i,i<=512->⇑((((cj i).filter λS=>GF x S).map λS=>tL S ⇑x).map j)<=512:=λi L=>by rw[bb,bb];have a:=nr (λS=>GF x S) (cj i);rw[jt] at a;lia
  have I:=few S ∅;show⟨[.ro (aF x),.ri ⇑x,.ro (aB (pI x)),.ow (.lst ((((cj S).filter λS=>GF x S).map λS=>tL S ⇑x).map j)),.ri S,m],rfl,?_⟩;rw[Cq,a2p,h_,h_];generalize (((cj S).filter λS=>GF x S).map λS=>tL S ⇑x).map j=R at I ⊢;show kH [.ro (aF x),.ri ⇑x,.ro (aB (pI x)),.ow (.lst R),.ri S,.ro (τ (tL S ⇑x))] (fF _ (dO (x:=.int S) (y:=.int ⇑x) rfl rfl (NH o)) rfl) ?_;have p:tV (cL allM (aA (bE 1 [4,2] (bV nL) (g1 0) bQ (aC oM (aC jE (aC eB fH bY) cP) (aC eB fH bY))) aG)) (bL [.ro (aF x),.ri ⇑x,.ro (aB (pI x)),.ow (.lst R),.ri S,.ro (τ (tL S ⇑x))])=ab (GF x S):=by
   show nA (d:=.bl (GF x S)) (cZ (x:=.lst (((tL S ⇑x).map λb=>Zv (Mk x b.toNat &&& S=Mk x b.toNat)).map D.bl)) ?_ ?_) rfl
   .rw [dg];show dZ ((tL S ⇑x).map D.int) rfl (by rw[bb];delta tL;have:=nr (λb:Int=>S.testBit b.toNat) (aQ 0 ⇑x);rw[aJ] at this;lia) (bM D.int _ (tL S ⇑x) λb F=>⟨[ab (.int b),ab (.int S),ab (aB (pI x))],rfl,?_⟩);obtain⟨⟨X,U⟩,_⟩:=eV.1 F;obtain⟨c,rfl⟩:∃c:Nat,b=(c:Int):=⟨b.toNat,∅⟩;have v:aC eB fH bY [ab (.int (c:Int)),ab (.int S),ab (aB (pI x))]=ab (.int (Mk x c:Int)):=cK (x:=aB (pI x)) (y:=.int c) rfl rfl (aBh ∅);show binI (x:=((Mk x c &&& S:Nat):Int)) (y:=(Mk x c:Int)) (cK v rfl (lW _ _)) v ?_;rw[gS];show ab (D.bl _)=ab (D.bl (Zv (Mk x (c:Int).toNat &&& S=Mk x (c:Int).toNat)));rw[gq];congr 2;show decide_eq_decide.2 ∅
   .rw [pA];delta GF;rw[Cy];rfl
  show uX (GF x S) p (λq=>?_) λq=>nW ⟨.ro (.int S),.ro (τ (tL S ⇑x)),by rw[show[S].filter (λS=>GF x S)=[] by simp[q],nq,nq,lr]⟩;rw[show[S].filter (λS=>GF x S)=[S] by simp[q]];show⟨_,G0 (i:=3) (ds:=R) (d:=j (tL S ⇑x)) ?_ rfl ∅,⟨_,_,rfl⟩⟩;delta hJ;rw[args2 (x:=.int (⇑(tL S ⇑x):Int)) (y:=τ (tL S ⇑x)) (cZ (x:=τ (tL S ⇑x)) rfl (by delta τ;rw[fI,bb])) rfl];rfl
 .subst e;have K:=vF o;show iR _ (dZ ((cM x).map j) ?_ (by rw[bb,pL];lia) (bM j τ (cM x) λa _=>⟨[ab (.int (⇑a:Int)),ab (τ a)],rfl,rfl⟩)) rfl;delta bV;rw[cZ (x:=.lst ((nK x).map j)) rfl (?_:GS [.lst ((nK x).map j)]=ab (.lst ((cM x).map j)))]
  .rfl
  .show ((xJ JT ((nK x).map j)).bind λT=>if ⇑T<=5000 then ab (D.lst ((lK xK T).map W7)) else af)=_;rw[show(nK x).map j=((nK x).map NG).map W7 by rw[dg];rfl,oR (λt=>?_),fg,bb,Z_ ∅]
   .congr 2;delta cM;rw[dg];show mh λt A=>?_;obtain⟨a,_,rfl⟩:=gx.1 ((eF _).mem_iff.1 A);rfl
   .show ((intsOf (t.2.map D.int)).map λl=>(t.1,l))=_;rw[bP];rfl
end
end ND
namespace LL
open L3 L4 K24 ND
theorem rB{α:Type}{p:α->Bool}{c:α->Int}:∀{L:List α},(∀t∈L,p t=ag)->(L.map λt=>if p t=ae then c t else 0).sum=0
 |[],_=>rfl
 |t::L,h=>by rw[bx,jc,h t cz,Zz bz,rB λu a=>h u (fq _ a)];rfl
theorem jZ{α:Type}{p:α->Bool}{c:α->Int}{d:α}:∀{L:List α},L.Nodup->d∈L->p d=ae->(∀t∈L,p t=ae->t=d)->(L.map λt=>if p t=ae then c t else 0).sum=c d
 |t::L,nd,h0,hp,hu=>by
  rw[kq] at nd;rw[bx,jc];by_cases e:t=d
  .subst e;rw[Z_ hp,rB λu a=>?_,oz]
   cases hq:p u with
   |false=>rfl
   |true=>show Zw (hu u (fq _ a) hq▸a) nd.1
  .have h:d∈L:=(bu.1 h0).resolve_left λz=>e z.symm;have:p t=ag:=by
    cases hq:p t with
    |false=>rfl
    |true=>show Zw (hu t cz hq) e
   rw[this,Zz bz,ju];show jZ nd.2 h hp λu a=>hu u (fq _ a)
theorem vG{α:Type}(f g:α->Int):∀L:List α,(L.map f).sum+(L.map g).sum=(L.map λt=>f t+g t).sum
 |[]=>rfl
 |t::L=>by rw[bx,bx,bx,jc,jc,jc,<- vG f g L];lia
def g5{α:Type}{f g:α->Int}{L:List α}(h:∀t∈L,f t=g t):(L.map f).sum=(L.map g).sum:=by rw[mh h]
def lX(x:Q0a)(d:Q0e):Bool:=d.all λb=>(row x b).all λa=>!(Zv (b<a)&&d.contains a)
def k9(a T:Q0e):Bool:=a.all λt=>T.contains t
def fW(T a:Q0e):List Int:=T.filter λt=>!a.contains t
def WN(x:Q0a)(a T:Q0e):Bool:=k9 a T&&lX x (fW T a)
def sV(x:Q0a)(a T:Q0e):Bool:=Zv (a≠T)&&WN x a T
def NI(x:Q0a)(l:Int)(a T:Q0e):Bool:=k9 a T&&((fW T a).all (λt=>Zv (l<t))&&lX x (fW T a))
def j3{a T:Q0e}:k9 a T=ae ↔ ∀t∈a,t∈T:=by simp[k9]
def b7{T a:Q0e}{t:Int}:t∈fW T a↔t∈T/\t∉a:=by simp[fW]
def G7{x:Q0a}{d:Q0e}:lX x d=ae ↔ ∀b∈d,∀a∈row x b,b<a->a∉d:=by
 delta lX;erw[jd,yl,Bool.and_eq_false_imp,decide_eq_true_eq];show⟨λh b j a n l m=>?_,λh b j a n l=>?_⟩
 .have:=h b j a n l;rw[t_.2 m] at this;cases this
 .rw [Dh,Ne,t_];show h b j a n l
def n8{x:Q0a}{l:Int}{a T:Q0e}:NI x l a T=ae↔(∀t∈a,t∈T)/\(∀t∈T,t∉a->l<t) /\∀b∈T,b∉a ->∀c∈row x b,b<c->c∈T->c∈a:=by
 delta NI;rw[ij,ij,j3,G7,jd]
 constructor
 .rintro ⟨h,h2,d⟩;show⟨h,λt t1 t2=>of_decide_eq_true (h2 t (b7.2 ⟨t1,t2⟩)),λb y v c m j q=>qc λz=>d b (b7.2 ⟨y,v⟩) c m j (b7.2 ⟨q,z⟩)⟩
 .rintro ⟨h,h2,d⟩;show⟨h,λt n=>Zx (h2 t (b7.1 n).1 (b7.1 n).2),λb p c m j o=>(b7.1 o).2 (d b (b7.1 p).1 (b7.1 p).2 c m j (b7.1 o).1)⟩
section
variable{x:Q0a}{A:Q0a}
def aBm(a:Q0e):(aV x a).Nodup:=kr _ (kr _ ((pK ⇑x).imp λ{a b} h=>∅))
theorem split(hx:Ord.Rows x)(nd:A.Nodup)(Y:∀a,a∈A↔DS x a){a:Q0e}(X:DS x a)(l:Int)(f:List Int->Int):
  (A.map λT=>if NI x l a T=ae then f T else 0).sum=f a+(((aV x a).filter λt=>Zv (l<t)).map λt=>(A.map λT=>if NI x t (aI a t) T=ae then f T else 0).sum).sum:=by
 have e1:f a=(A.map λT=>if Zv (T=a)=ae then f T else 0).sum:=(jZ (p:=λT=>Zv (T=a)) nd ((Y a).2 X) (Zx rfl) λT _ h=>of_decide_eq_true h).symm;rw[rA,e1,vG];show g5 λT hT=>?_;have dT:=(Y T).1 hT;have F:((aV x a).filter λt=>Zv (l<t)).Nodup:=kr _ (aBm a);by_cases y:T=a
 .subst y;rw[Z_ (n8.2 ⟨λt h=>h,λt m h2=>Zw m h2,λb m h2=>Zw m h2⟩),Z_ (Zx rfl)];rw[rB λt j=>?_,oz]
  cases hq:NI x t (aI T t) T with
  |false=>rfl
  |true =>
   have r:=iF.1 (gi.1 j).1;show Zw ((n8.1 hq).1 t (d6.2 (.inr rfl))) r.2.1
 rw[show(if Zv (T=a)=ae then f T else 0)=0 from Zz ↑y,ju]
 -- from one more thing to all
 have up:∀t∈(aV x a).filter (λt=>Zv (l<t)),NI x t (aI a t) T=ae->NI x l a T=ae:=λt j h=>by
  have r:=iF.1 (gi.1 j).1;have hl:l<t:=of_decide_eq_true (gi.1 j).2;obtain⟨m,h2,Z⟩:=n8.1 h;show n8.2 ⟨λu I=>m u (d6.2 (.inl I)),λu u1 u2=>?_,λb v O c o L K=>?_⟩
  .by_cases e:u=t
   .omega
   .have:=h2 u u1 λz=>(d6.1 z).elim u2 e;lia
  .by_cases e:b=t
   .subst e;show r.2.2 c o
   .have U:b∉aI a t:=λz=>(d6.1 z).elim O e;rcases d6.1 (Z b v U c o L K) with z|z
    .exact z
    .have:=h2 b v U;lia
 cases hP:NI x l a T with
 |false =>
  rw[Zz bz];show(rB λt j=>?_).symm
  cases hq:NI x t (aI a t) T with
  |false=>rfl
  |true=>show Zw (up t j hq) (by rw[hP];show bz)
 |true =>
  rw[Z_ rfl];obtain⟨p1,p2,p3⟩:=n8.1 hP
  -- the least thing that is not yet there
  have ne:fW T a≠[]:=λz=>by
   show y (n6 dT.1 X.1 λt=>⟨λh=>?_,p1 t⟩);show qc λq=>by have:=b7.2 ⟨h,q⟩;rw[z] at this;cases this
  have ups:(fW T a).Pairwise (·<·):=kr _ dT.1;obtain⟨d,r,e0⟩:∃d r,fW T a=d::r:=by
   cases h:fW T a with
   |nil=>show Zw h ne
   |cons t r=>show⟨t,r,rfl⟩
  have m0:d∈fW T a:=by rw[e0];show cz
  have least:∀u∈T,u∉a->u≠d->d<u:=λu u1 u2 u3=>by have:=b7.2 ⟨u1,u2⟩;rw[e0] at this ups;show(f_.1 ups).1 u ((bu.1 this).resolve_left u3)
  obtain⟨t1,t2⟩:=b7.1 m0;have hr:d∈aV x a:=iF.2 ⟨(dT.2 d t1).1,t2,λs J=>qc λq=>by
   have n:=(dT.2 d t1).2 s J;by_cases e:s=d
   .obtain ⟨b,rfl⟩:=mn (dT.2 d t1).1.1;subst e;show hx.GC b (row x b) (by delta row;rw[gq,cn (by have:=(dT.2 _ t1).1.2;lia)];rfl) J
   .exact q (p3 d t1 t2 s J (least s n q e) n)⟩
  show(jZ (p:=λt=>NI x t (aI a t) T) (c:=λ_=>f T) F (gi.2 ⟨hr,Zx (p2 d t1 t2)⟩) ?_ λt j h=>?_).symm
  .refine n8.2 ⟨λu I=>(d6.1 I).elim (p1 u) λe=>e▸t1,λu u1 u2=>least u u1 (λz=>u2 (d6.2 (.inl z))) λz=>u2 (d6.2 (.inr z)),λb v O c o L K=>d6.2 (.inl (p3 b v (λz=>O (d6.2 (.inl z))) c o L K))⟩
  .obtain ⟨m,h2,Z⟩:=n8.1 h;show qc λe=>?_;have r:=iF.1 (gi.1 j).1;have a1:=h2 d t1 λz=>(d6.1 z).elim t2 λz=>e z.symm;have a2:=least t (m t (d6.2 (.inr rfl))) r.2.1 e;lia
def RY{a:Q0e}(h:DS x a):Q2 x a:=⟨h.1.imp λ{a b} h=>∅,λt d=>(h.2 t d).1⟩
theorem Hb(d:Ord.Rows x)(nd:A.Nodup)(h:∀a,a∈A↔DS x a)(j:Nat):∀(m:Nat) (a:Q0e) (l:Int),DS x a->⇑a+m=⇑x->Nn x m a l (j+1)=(A.map λT=>if NI x l a T=ae then Nn x (⇑x-⇑T) T (-1) j else 0).sum
 |0,a,l,ha,hl=>by rw[split d nd h ha l λT=>Nn x (⇑x-⇑T) T (-1) j,vA (RY ha) ∅,show ⇑x-⇑a=0 by lia];rfl
 |m+1,a,l,ha,hl=>by rw[split d nd h ha l λT=>Nn x (⇑x-⇑T) T (-1) j,show ⇑x-⇑a=m+1 by lia];show Nj x (Nn x m) j a (-1)+_=Nj x (Nn x m) j a (-1)+_;congr 1;show g5 λt n=>?_;show Hb d nd h j m (aI a t) t (BC ha (gi.1 n).1) (by rw[DL];lia)
def Ek(x:Q0a)(k:Nat)(S:Q0e):Int:=Nn x (⇑x-⇑S) S (-1) k
def DT{S:Q0e}(h:DS x S):⇑S<=⇑x:=pD (RY h)
def Vr(m:Ord.Rows x)(nd:A.Nodup)(j:∀a,a∈A↔DS x a){S:Q0e}(d:DS x S)(k:Nat):Ek x (k+1) S=Ek x k S+(A.map λT=>if sV x S T=ae then Ek x k T else 0).sum:=by
 have y:=DT d;have e1:Ek x k S=(A.map λT=>if Zv (T=S)=ae then Ek x k T else 0).sum:=(jZ (p:=λT=>Zv (T=S)) nd ((j S).2 d) (Zx rfl) λT _ h=>of_decide_eq_true h).symm;rw[e1,vG];show Nn x (⇑x-⇑S) S (-1) (k+1)=_;rw[Hb m nd j k _ S (-1) d ∅];show g5 λT q=>?_;have dT:=(j T).1 q;have v:NI x (-1) S T=WN x S T:=by delta NI WN;rw[show(fW T S).all (λt=>Zv (-1<t))=ae from jd.2 λt n=>Zx (by have:=(dT.2 t (b7.1 n).1).1;lia),ny]
 rw[v];delta sV;by_cases e:T=S
 .subst e;have o:WN x T T=ae:=by delta WN;rw[ij,j3,G7];show⟨λt h=>h,λb l=>Zw (b7.1 l).1 (b7.1 l).2⟩
  rw[o,Z_ rfl,Z_ (Zx rfl),show Zv (T≠T)=ag from Zy (by simp),ue,Zz bz,oz];rfl
 .rw [show Zv (S≠T)=ae from Zx λz=>e z.symm,ny,show(if Zv (T=S)=ae then Ek x k T else 0)=0 from Zz ↑e,ju];rfl
theorem E_0{S:Q0e}(d:DS x S):Ek x 0 S=if ⇑S=⇑x then 1 else 0:=by
 have j:=DT d;delta Ek;by_cases h:⇑S=⇑x
 .rw [Z_ h,h,Cn];rfl
 .rw [Zz h];obtain⟨m,a⟩:∃m,⇑x-⇑S=m+1:=⟨⇑x-⇑S-1,∅⟩;rw[a];rfl
def Gk(x:Q0a)(A:Q0a):Nat->List Int->Nat->Int
 |0,S,k=>Ek x k S
 |j+1,S,k=>(A.map λT=>if sV x S T=ae then Gk x A j T k else 0).sum
theorem DU{α:Type}(f g:α->Int):∀L:List α,(L.map f).sum-(L.map g).sum=(L.map λt=>f t-g t).sum
 |[]=>rfl
 |t::L=>by rw[bx,bx,bx,jc,jc,jc,<- DU f g L];lia
theorem Fw(l:Ord.Rows x)(nd:A.Nodup)(d:∀a,a∈A↔DS x a)(k:Nat):∀(j:Nat) {S:Q0e},DS x S->Gk x A j S (k+1)-Gk x A j S k=Gk x A (j+1) S k
 |0,S,hS=>by show Ek x (k+1) S-Ek x k S=(A.map λT=>if sV x S T=ae then Ek x k T else 0).sum;rw[Vr l nd d hS];lia
 |j+1,S,hS=>by
  show(A.map λT=>if sV x S T=ae then Gk x A j T (k+1) else 0).sum-(A.map λT=>if sV x S T=ae then Gk x A j T k else 0).sum=(A.map λT=>if sV x S T=ae then Gk x A (j+1) T k else 0).sum;rw[DU];show g5 λT m=>?_;by_cases h:sV x S T=ae
  .rw [Z_ h,Z_ h,Z_ h];show Fw l nd d k j ((d T).1 m)
  .rw [Zz h,Zz h,Zz h];rfl
theorem Ak(d:Ord.Rows x)(nd:A.Nodup)(h:∀a,a∈A↔DS x a):∀(j:Nat) {S:Q0e} (k:Nat),DS x S->It j (λz=>Ek x z.toNat S) (k:Int)=Gk x A j S k
 |0,S,k,_=>by show Ek x (k:Int).toNat S=Ek x k S;rw[gq]
 |j+1,S,k,hS=>by show It j (Df λz=>Ek x z.toNat S) (k:Int)=_;rw[Hf,Ak d nd h j k hS,show(k:Int)+1=((k+1:Nat):Int) from rfl,Ak d nd h j (k+1) hS];show Fw d nd h k j hS
def G8:DS x []:=⟨.nil,λt a=>by cases a⟩
theorem X6(d:Ord.Rows x)(nd:A.Nodup)(m:∀a,a∈A↔DS x a){j:Nat}(n:j<=⇑x):(kL x)[j]?=ab (Gk x A j [] 0):=by delta kL;rw[RM _ _ _ ∅,<- Ak d nd m j 0 G8,DM,DM];congr 2;show mh λi l=>?_;have h:=aX.1 l;obtain⟨k,rfl⟩:=mn h.1;congr 2;show DV ⇑x 0 (shares x) (0+(k:Int))=Nn x (⇑x-0) [] (-1) (((0:Nat):Int)+(k:Int)).toNat;rw[show(0:Int)+(k:Int)=(k:Int) by lia,show(((0:Nat):Int)+(k:Int)).toNat=k by lia,xn,NC]
def cp(x:Q0a)(A:Q0a):Nat->List Int->Int
 |0,S=>if S=[] then 1 else 0
 |j+1,S=>(A.map λT=>if sV x T S=ae then cp x A j T else 0).sum
theorem vH{α:Type}(f:α->Int)(c:Int):∀L:List α,(L.map f).sum*c=(L.map λt=>f t*c).sum
 |[]=>by simp
 |t::L=>by rw[bx,bx,jc,jc,ud,vH f c L]
def RZ{α:Type}(f:α->Int)(c:Int)(L:List α):c*(L.map f).sum=(L.map λt=>c*f t).sum:=by rw[qu,vH];show g5 λt _=>qu _ _
def bil(i m:Nat):(A.map λS=>cp x A (i+1) S*Gk x A m S 0).sum=(A.map λS=>cp x A i S*Gk x A (m+1) S 0).sum:=by
 have e1:∀S,cp x A (i+1) S*Gk x A m S 0=(A.map λT=>if sV x T S=ae then cp x A i T*Gk x A m S 0 else 0).sum:=λS=>by
  show(A.map λT=>if sV x T S=ae then cp x A i T else 0).sum*_=_;rw[vH];show g5 λT _=>?_;by_cases h:sV x T S=ae
  .rw [Z_ h,Z_ h]
  .rw [Zz h,Zz h,ml]
 have a:∀T,cp x A i T*Gk x A (m+1) T 0=(A.map λS=>if sV x T S=ae then cp x A i T*Gk x A m S 0 else 0).sum:=λT=>by
  show _*(A.map λS=>if sV x T S=ae then Gk x A m S 0 else 0).sum=_;rw[RZ];show g5 λS _=>?_;by_cases h:sV x T S=ae
  .rw [Z_ h,Z_ h]
  .rw [Zz h,Zz h,Dc]
 rw[g5 λS _=>e1 S,g5 λT _=>a T];show rA _ A A
theorem Vq(i:Nat):∀m:Nat,(A.map λS=>cp x A i S*Gk x A m S 0).sum=(A.map λS=>cp x A 0 S*Gk x A (i+m) S 0).sum:=by
 induction i with
 |zero=>intro m;rw[ql]
 |succ i ih =>
  intro m;rw[bil,ih (m+1),show i+(m+1)=i+1+m by lia]
def KY(d:Ord.Rows x):DS x (aQ 0 ⇑x):=⟨pK _,λt a=>by have a:=aX.1 a;show⟨∅,λs h=>?_⟩;obtain⟨b,rfl⟩:=mn a.1;have:=d.rng b (row x b) (by delta row;rw[gq,cn ∅];rfl) s h;show aX.2 ∅⟩
def KZ{S:Q0e}(h:DS x S)(j:⇑S=⇑x):S=aQ 0 ⇑x:=by show n6 h.1 (pK _) λt=>⟨λa=>aX.2 (by have:=(h.2 t a).1;lia),λa=>?_⟩;show qc λq=>?_;have a:=aX.1 a;have ok:Q2 x (t::S):=⟨kq.2 ⟨q,(RY h).1⟩,λu d=>(bu.1 d).elim (λe=>by subst e;lia) λd=>(h.2 u d).1⟩;have:=pD ok;rw[eg] at this;lia
def R1(m:Ord.Rows x)(nd:A.Nodup)(d:∀a,a∈A↔DS x a){j:Nat}(q:j<=⇑x):(kL x)[j]?=ab (cp x A j (aQ 0 ⇑x)):=by
 rw[X6 m nd d q];have h:=Vq (x:=x) (A:=A) j 0;have l:(A.map λS=>cp x A j S*Gk x A 0 S 0).sum=cp x A j (aQ 0 ⇑x):=by
  have e:∀S∈A,cp x A j S*Gk x A 0 S 0=if Zv (S=aQ 0 ⇑x)=ae then cp x A j S else 0:=λS n=>by
   have o:=(d S).1 n;show cp x A j S*Ek x 0 S=_;rw[E_0 o];by_cases e:S=aQ 0 ⇑x
   .rw [Z_ (by rw[e,aJ]),Z_ (Zx e),Ld]
   .rw [Zz λz=>e (KZ o z),Zz ↑e,Dc]
  rw[g5 e];show jZ (p:=λS=>Zv (S=aQ 0 ⇑x)) nd ((d _).2 (KY m)) (Zx rfl) λS _ h=>of_decide_eq_true h
 have r:(A.map λS=>cp x A 0 S*Gk x A (j+0) S 0).sum=Gk x A j [] 0:=by
  have e:∀S∈A,cp x A 0 S*Gk x A (j+0) S 0=if Zv (S=[])=ae then Gk x A j S 0 else 0:=λS n=>by
   show(if S=[] then(1:Int) else 0)*_=_;by_cases e:S=[]
   .rw [Z_ e,Z_ (Zx e),C_,xq]
   .rw [Zz e,Zz ↑e,ml]
  rw[g5 e];show jZ (p:=λS=>Zv (S=[])) nd ((d _).2 G8) (Zx rfl) λS _ h=>of_decide_eq_true h
 rw[l,r] at h;rw[h]
end
end LL
namespace K28
open L3 L4
def iG:kE:=c8 2 2
  (aK (g8 (m8 (tV (cL allM (aA (bE 1 [0] (bV cP) (g1 0) bQ (aO LL.iS (aA bY (aA (cL cJ (bO 1)) aG)))) aG))))
   (λ_=>.no)
   dW)
  (b8 (qH (cL anyM (aA (bE 2 [1] (bV (aO LL.iD (bO 0))) (g2 0 1) bQ (kF (aC CQ bY cP) (kF (aC (uE ag) bY fH) (aC (uE ag) cP fH)))) aG)))))
def mX:kE:=c8 4 1
  (aK (bH 1 (eI 0))
  (aK (bH 2 (eI 1))
  (aK (fB (bG (aA (aC dH (aC JU bY (sO (eI 1))) (eI 1)) aG)) (rS 3)
   (aK (g8 (tV (aC (uE ag) m7 bY))
    (bH 1 (aC dH cP fH))
    dW)
   (bH 2 (aC mulM fH (eI 2)))))
  (b8 cP))))
def fT:kE:=c8 3 1
  (aK (jM 1 (eQ aG))
  (aK (bH 2 (eI 0))
  (aK (uK nN (tV (aC CQ bY (eI 0)))
   (aK (g8 (tV (aC oM (aC jT bY (eI 2)) (eI 1)))
    (sX (m9 1 g4 (a9 fH)))
    dW)
   (aK (bH 0 (aC sP bY (eI 2)))
   (bH 2 (aC dH fH (eI 1))))))
  (b8 (cL dU (bO 1))))))
def dC:sR:=runM 3 3
  ((g8 (tV (aC (uL ae) cP fH))
   (iL 2 (a9 (aO iG (aA bY (aA (aO fT (bO 1)) aG)))) cP)
   dW))
  cP
def eW:sR:=C4 7 4
  ((aK (bH 4 (aC repLM (eQ (aA (eI 0) aG)) (aC dH (cL cJ (bO 0)) (eI 1))))
  (fB (bV fH) (W3 5 6)
   (QQ (tV (aC oM (aC jE nL cP) nL)) dC (aA bY (aA (aC qI cP nL) aG)) 3
    (bH 4 (aO LL.jG (aA i9 (bO 6))))
    dW))))
  (aC dH (eQ (aA (eI 0) aG)) (JL i9 MV (oE (sO (eI 1)))))
def gU:kE:=c8 7 1
  (aK (jM 1 (eQ aG))
  (aK (jM 2 (eQ aG))
  (aK (JP 3)
  (aK (fB (bV (aO ND.kM (bO 0))) (rS 4)
   (aK (bH 5 (aO mX (bO 4)))
   (aK (uP 6 (tV i9) eW (aA bY (aA nL (bO 2))) 2 3 (aC dH (eQ (aA (eI 1) aG)) (aC repLM (eQ (aA (eI 0) aG)) (cL cJ (bO 0)))))
   (aK (sX (m9 2 g4 (a9 (hJ (aA nL (bO 6))))))
   (sX (m9 1 g4 (a9 (hJ (aA i9 (aA (cL dU (bO 6)) aG))))))))))
  (b8 (cL dU (bO 1)))))))
def lY:kE:=c8 4 2
  (aK (jM 2 (eQ aG))
  (aK (fB (bV cP) (rS 3)
   (sX (m9 2 g4 (a9 (cL dU (aA (bE 1 [1,0,3] (bG (aA (cL cJ (bO 1)) aG)) (g1 0) (tV (aC (uE ag) (aC eB cP bY) (aC eB fH m7))) bY) aG))))))
  (b8 (cL dU (bO 2)))))
def fL:kE:=c8 4 1
  (aK (bH 1 (aO LL.gK (aA (aO LL.iN (aA bY (aA (eI 40) aG))) (aA (eI 2) (aA (eI 900001) aG)))))
  (aK (g8 (tV (aC oM (aC jT (aC eB cP (eI 0)) (eI 64)) (eI 5)))
   (aK (bH 2 (aO LL.jU (aA (aO LL.gK (aA (aO LL.iN (aA bY (aA (eI 41) aG))) (aA (eI 45) (aA (eI 800011) aG)))) (aA (eI 9) (aA (aC jT (aC eB cP (eI 1)) (eI 2)) aG)))))
   (aK (g8 (tV (aC CQ (cL cJ (aA (aO ND.gL (bO 2)) aG)) (eI 256)))
    (bH 2 (aO lY (aA fH (aA (JJ (aA (eI 8) aG)) aG))))
    dW)
   (b8 fH)))
   dW)
  (aK (bH 2 (aO LL.mQ (aA bY (aA (eI 0) (aA (eI 9) (aA (eI 100003) aG))))))
  (aK (bH 3 (eI 80))
  (aK (g8 (tV (aC oM (aC jT (aC eB cP (eI 0)) (eI 8)) (eI 3)))
   (bH 3 (eI 130))
   dW)
  (aK (g8 (tV (aC CQ (cL cJ (aA (aO ND.gL (bO 2)) aG)) m7))
   (b8 (aO lY (aA fH (aA (JJ (aA (eI 6) aG)) aG))))
   dW)
  (b8 fH)))))))
def gW:kE:=c8 5 1
  (aK (bH 1 (cL cJ (bO 0)))
  (aK (bH 2 (bE 1 [0] (bG (bO 1)) (g1 0) bQ (cL xH (aA (bE 1 [0] (bV (aC eB cP bY)) (g1 0) (tV (aC CQ bY cP)) (aC C2 (eI 1) bY)) aG))))
  (aK (jM 3 (eQ aG))
  (aK (fB (bG (aA (aC C2 (eI 1) cP) aG)) (rS 4)
   (sX (m9 3 g4 (a9 (qH (cL anyM (aA (bE 1 [4,2] (bG (bO 1)) (g1 0) bQ (kF (aC oM (aC jE (aC M6 cP bY) (eI 1)) (eI 1)) (aC QF (aC jE (aC eB fH bY) cP) (eI 0)))) aG)))))))
  (b8 m7)))))
def gX:kE:=c8 6 4
  (aK (bH 4 (aC repLM (eQ (aA (eI 0) aG)) (cL cJ (aA (aC eB (aC eB fH m7) (eI 1)) aG))))
  (aK (fB (bG (bO 3)) (rS 5)
   (g8 (AA (tV (aC oM (aC jE (aC eB cP nL) (aC eB cP m7)) (aC eB cP nL))) (tV (aC eB bY (aC QO (aC eB cP m7) (aC eB cP nL)))))
    (bH 4 (bE 2 [] (AL (aA i9 (aA (aC dH (hJ (aA (eI 0) aG)) (aC eB (aC eB fH nL) (eI 1))) aG))) (g2 0 1) bQ (aC dH bY cP)))
    dW))
  (b8 (aC QN (cL yA (aA (aC eB (aC eB fH m7) (eI 1)) aG)) i9))))
def yT:kE:=c8 8 1
  (aK (bH 1 (aO fL (bO 0)))
  (aK (bH 2 (aO ND.gL (bO 1)))
  (aK (bH 3 (aO gU (bO 1)))
  (aK (g8 (MT (m8 (tV (iJ "tuple" m7))) (tV (aC QF (cL cJ (bO 3)) (cL cJ (bO 2)))))
   (b8 (eC (.bl ag)))
   dW)
  (aK (fB (bG (aA (cL cJ (bO 3)) aG)) (rS 4)
   (aK (g8 (MT (m8 (tV (iJ "tuple" (aC eB m7 i9)))) (MT (tV (aC QF (cL cJ (aA (aC eB m7 i9) aG)) (eI 2))) (m8 (tV (aO (LL.eE 6) (aA (aC eB (aC eB m7 i9) (eI 0)) (aA (aC eB fH i9) aG)))))))
    (b8 (eC (.bl ag)))
    dW)
   (g8 (m8 (tV (aO LL.mU (aA (aC eB (aC eB m7 i9) (eI 1)) (aA (aC dH (cL cJ (bO 1)) (eI 1)) aG)))))
    (b8 (eC (.bl ag)))
    dW)))
  (aK (g8 (tV (aC GR (cL yA (aA (aC eB (aC eB m7 (eI 0)) (eI 1)) aG)) (aC dH (eQ (aA (eI 1) aG)) (aC repLM (eQ (aA (eI 0) aG)) (cL cJ (bO 1))))))
   (b8 (eC (.bl ag)))
   dW)
  (aK (bH 5 (aO gW (bO 1)))
  (aK (bH 6 (bE 1 [] (bV fH) (g1 0) bQ (cL xH (aA (bE 1 [] (bV bY) (g1 0) bQ (aC C2 (eI 1) bY)) aG))))
  (aK (fB (bG (aA (eI 1) (aA (cL cJ (bO 3)) aG))) (rS 7)
   (g8 (m8 (tV (aO gX (aA nL (aA QE (aA m7 (bO 7)))))))
    (b8 (eC (.bl ag)))
    dW))
  (b8 (aO (LL.eE 6) (aA (aO LL.eL (bO 1)) (aA (aC eB (aC eB m7 (sO (eI 1))) (eI 1)) aG)))))))))))))
open K24 LL ND
theorem DW{t:TF}{b:L4.SF}{Q:bC->Prop}(P:Nat->bC->Prop)(step:∀m ρ,P m ρ->(t (bL ρ)=ab ag/\Q ρ)\/(t (bL ρ)=ab ae/\Nx (b ρ) λa=>∃d,d<m/\P d a)):∀(N n:Nat) (ρ:bC),n<N->P n ρ->Nx (uK N t b ρ) Q
 |0,n,ρ,h,_=>by lia
 |N+1,n,ρ,h,p=>by
  show Nx (match t (bL ρ) with
   |none=>.no
   |some ag=>.nx ρ
   |some ae=>match b ρ with
    |.nx a=>dY t b N a
    |o=>o) Q
  rcases step n ρ p with⟨e,q⟩|⟨e,a,j,d,lt,p'⟩
  .rw [e];show⟨ρ,rfl,q⟩
  .rw [e];dsimp only;rw[j];show DW P step N d a ∅ p'
section
variable{x:Q0a}
abbrev In(x:Q0a)(a:Q0e):Prop:=∀t∈a,0<=t/\t<(⇑x:Int)
def aBo{a:Q0e}(h:⇑a<=1000):tV (cL allM (aA (bE 1 [0] (bV cP) (g1 0) bQ (aO LL.iS (aA bY (aA (cL cJ (bO 1)) aG)))) aG)) (bL [.ro (aF x),.ro (τ a)])=ab (a.all λt=>Zv (0<=t)&&Zv (t<(⇑x:Int))):=by
 show nA (d:=.bl (a.all λt=>Zv (0<=t)&&Zv (t<(⇑x:Int)))) (cZ (x:=.lst ((a.map λt=>Zv (0<=t)&&Zv (t<(⇑x:Int))).map D.bl)) ?_ ?_) rfl
 .rw [dg];show dZ (a.map D.int) rfl (by rw[bb];lia) (bM D.int _ a λt _=>⟨[ab (.int t),ab (aF x)],rfl,dO (x:=.int t) (y:=.int ⇑x) rfl (cZ (x:=aF x) rfl f9) (DC t ⇑x)⟩)
 .rw [pA,Cy];rfl
def X7(o:Ord.Rows x)(A:⇑x<=9){d:Q0e}(v:In x d)(F:⇑d<=1000):iG [aF x,τ d]=.ok (.bl (lX x d)):=by
 have l:(d.all λt=>Zv (0<=t)&&Zv (t<(⇑x:Int)))=ae:=jd.2 λt h=>by have:=v t h;simp;lia
 have J:=P8.aEV o A;have I:lX x d=!((P8.T x).any λp=>Zv (p.2<p.1)&&(d.contains p.1&&d.contains p.2)):=by
  rw[jk];delta lX;erw[jd,yl,a2N,a2x,ij,not_and,Lh,Prod.forall,P8.aEU,decide_eq_true_eq,decide_eq_false_iff_not,a2v]
  constructor
  .intro h a b m j l n;rcases h b n a m.2.2 with z|z
   .exact z j
   .exact z l
  .intro h b m a l;have r:=v b m;by_cases j:b<a
   .exact .inr λq=>h a b ⟨r.1,r.2,l⟩ j q m
   .exact .inl j
 delta iG;show fO rfl (bX [.ro (aF x),.ro (τ d)] (oN (tnE (b:=ae) (by rw[<- l];show aBo F) rfl) rfl) (f7 ?_));delta qH;rw[cZ (x:=.lst (((P8.T x).map λp=>Zv (p.2<p.1)&&(d.contains p.1&&d.contains p.2)).map D.bl)) (z:=ab (.bl ((P8.T x).any λp=>Zv (p.2<p.1)&&(d.contains p.1&&d.contains p.2)))) ?_ ?_]
 .rw [I];rfl
 .rw [dg];show dZ ((P8.T x).map pairD) ?_ (by rw[bb];lia) (bM pairD _ (P8.T x) λp _=>⟨[ab (.int p.1),ab (.int p.2),ab (τ d)],rfl,?_⟩)
  .delta bV;rw[fG (x:=aF x) rfl (n5 o A)];rfl
  .refine Am (p:=Zv (p.2<p.1)) (binI (x:=p.1) (y:=p.2) rfl rfl oU) (λh=>?_) λh=>?_
   .show _=ab (D.bl (Zv (p.2<p.1)&&(d.contains p.1&&d.contains p.2)));rw[h,ny];show Am (p:=d.contains p.1) (cK (x:=.int p.1) (y:=τ d) rfl rfl uZ) (λh2=>?_) λh2=>?_
    .rw [h2,ny];show cK (x:=.int p.2) (y:=τ d) rfl rfl uZ
    .rw [h2,ue]
   .show (Zv (p.2<p.1)&&(d.contains p.1&&d.contains p.2))=ag;rw[h,ue]
 .rw [JX,Cv];rfl
end
theorem G9{n:Nat}:∀{r:Q0e},(∀a∈r,0<=a/\a<(n:Int))->bT r<2^n
 |[],_=>Nat.two_pow_pos n
 |a::r,h=>by have d:=G9 (n:=n) (r:=r) λb j=>h b (fq _ j);have l:=h a cz;rw[bT];show Nat.or_lt_two_pow (Nat.pow_lt_pow_right ⋯ ∅) d
def K0{S:Q0e}(o:∀a∈S,0<=a)(i:Nat):bT (S.filter λt=>Zv (t<((i+1:Nat):Int)))=bT (S.filter λt=>Zv (t<(i:Int)))+if S.contains (i:Int)=ae then 2^i else 0:=by
 have l:∀m:Int,∀a∈S.filter (λt=>Zv (t<m)),0<=a:=λm a n=>o a (gi.1 n).1;have d:∀(m:Int) (j:Nat),(bT (S.filter λt=>Zv (t<m))).testBit j=Zv ((j:Int)∈S/\(j:Int)<m):=λm j=>by rw[jk,bZ (l m),gi,decide_eq_true_eq,decide_eq_true_eq]
 by_cases h:(i:Int)∈S
 .rw [Z_ (t_.2 h),a14 (bT (S.filter λt=>Zv (t<(i:Int)))) (2^i),KH (S:=bT (S.filter λt=>Zv (t<(i:Int)))) (b:=i) (by rw[d,Zy ∅])];apply qo;intro j;rw[J_,Jz,d,d,jk,Dg,decide_eq_true_eq,decide_eq_true_eq,decide_eq_true_eq]
  constructor
  .rintro ⟨a,b⟩;by_cases e:i=j
   .exact .inl e
   .exact .inr ⟨a,∅⟩
  .rintro (e|⟨a,b⟩)
   .subst e;show⟨h,∅⟩
   .exact ⟨a,∅⟩
 .rw [Zz λz=>h (t_.1 z)];show _=bT (S.filter λt=>Zv (t<(i:Int)));apply qo;intro j;rw[d,d,jk,decide_eq_true_eq,decide_eq_true_eq]
  constructor
  .rintro ⟨a,b⟩;show⟨a,?_⟩;by_cases e:i=j
   .subst e;show Zw a h
   .omega
  .rintro ⟨a,b⟩;show⟨a,∅⟩
theorem X8{a:Int}:∀{ns:Q0e},a∈ns->a<=W4 ns:=by
 have go:∀(l:Q0e) (m:Int),m<=l.foldl (λm b=>if b>m then b else m) m /\∀c∈l,c<=l.foldl (λm b=>if b>m then b else m) m:=by
  intro l
  induction l with
  |nil=>show λm=>⟨Le _,λc d=>by cases d⟩
  |cons b l ih =>
   intro m;rw[lp];obtain⟨n,h2⟩:=ih (if b>m then b else m);have j:m<=(if b>m then b else m)/\b<=(if b>m then b else m):=by split<;>lia
   show⟨∅,λc d=>?_⟩;rcases bu.1 d with e|d
   .subst e;lia
   .exact h2 c d
 intro ns h
 cases ns with
 |nil=>cases h
 |cons b l =>
  rcases bu.1 h with e|h
  .subst e;show(go l a).1
  .exact (go l b).2 a h
def X9{S:Q0e}(h:∀a∈S,0<=a/\a<9):mX [τ S]=.ok (.int (bT S)):=by
 delta mX;show fO rfl ?_;show bX [.ro (τ S),.ri 0,.no,.no] rfl (bX [.ro (τ S),.ri 0,.ri 1,.no] rfl ?_);obtain⟨c,q,v,F⟩:∃c:Nat,lN (-1) S+1=(c:Int)/\(∀a∈S,a<(c:Int))/\c<=9:=by
  delta lN;by_cases l:S=[]
  .exact ⟨0,(by rw[Z_ l];rfl),λa d=>(by rw[l] at d;cases d),⋯⟩
  .have p:=RQ l;have z:=h _ p;show⟨(W4 S+1).toNat,by rw[Zz l];lia,λa d=>?_,∅⟩;have:=X8 d;lia
 have L:Nx (fB (bG (aA (aC dH (aC JU bY (sO (eI 1))) (eI 1)) aG)) (rS 3)
   (aK (g8 (tV (aC (uE ag) m7 bY))
    (bH 1 (aC dH cP fH))
    dW)
   (bH 2 (aC mulM fH (eI 2)))) [.ro (τ S),.ri 0,.ri 1,.no]) λρ=>∃o j,ρ=[.ro (τ S),.ro (.int (bT S)),o,j]:=by
  show kJ c (λi ρ=>∃j,ρ=[.ro (τ S),.ro (.int (bT (S.filter λt=>Zv (t<(i:Int))):Nat)),.ro (.int ((2^i:Nat):Int)),j]) (args1 ?_) ∅ ⟨.no,?_⟩ (λi ρ A n=>?_) λρ n=>?_
  .refine (binI (x:=(lN (-1) S)) (y:=1) (cK (x:=τ S) (y:=.int (-1)) rfl rfl ?_) rfl iO).trans (by rw[q]);show(intsOf (S.map D.int)).bind _=_;rw[LL.bP];rfl
  .rw [show(S.filter λt=>Zv (t<((0:Nat):Int)))=[] from List.filter_eq_nil_iff.2 λa d=>by have:=h a d;simp;lia];rfl
  .obtain ⟨j,rfl⟩:=n;show⟨[.ro (τ S),.ro (.int (bT (S.filter λt=>Zv (t<(i:Int))):Nat)),.ro (.int ((2^i:Nat):Int)),.ri i],rfl,?_⟩;show uW (λρ=>ρ=[.ro (τ S),.ro (.int (bT (S.filter λt=>Zv (t<((i+1:Nat):Int))):Nat)),.ro (.int ((2^i:Nat):Int)),.ri i]) ?_ λρ e=>?_
   .refine uX (S.contains (i:Int)) (nA (cK (x:=.int i) (y:=τ S) rfl rfl uZ) rfl) (λm=>?_) λm=>?_
    .refine lQ _ (binI (x:=(bT (S.filter λt=>Zv (t<(i:Int))):Nat)) (y:=((2^i:Nat):Int)) rfl rfl iO) ?_;rw[K0 (λa d=>(h a d).1),Z_ m,Int.natCast_add];rfl
    .refine nW ?_;rw[K0 (λa d=>(h a d).1),Zz (by rw[m];show bz),xq]
   .subst e;show lQ _ (binI (x:=((2^i:Nat):Int)) (y:=2) rfl rfl (AS ⋯)) ⟨.ro (.int i),?_⟩;rw[show((2^i:Nat):Int)*2=((2^(i+1):Nat):Int) by rw[a1O];push_cast;rfl];rfl
  .obtain ⟨j,rfl⟩:=n;show⟨.ro (.int ((2^c:Nat):Int)),j,?_⟩;rw[show(S.filter λt=>Zv (t<(c:Int)))=S from a2n.2 λa d=>Zx (v a d)]
 obtain⟨ρ,e,o,j,rfl⟩:=L;show bX _ e (f7 rfl)
def DX{m i n:Nat}(a:i<n):tL m (i+1)=tL m i++if m.testBit i=ae then[(i:Int)] else[]:=by delta tL;rw[yF,a2p];congr 1;rw[a2o,ju,gq];split<;>rfl
def YA{m i:Nat}:(m >>> i)%2=if m.testBit i=ae then 1 else 0:=by have:=KJ m i;rw[a1Z] at this;show this
def of_ok{m n:Nat}(z:m<2^n)(I:n<=9):fT [.int m]=.ok (τ (tL m n)):=by
 delta fT;show fO rfl ?_;show bX [.ri m,.ow (.lst []),.no] rfl (bX [.ri m,.ow (.lst []),.ri 0] rfl ?_);have L:Nx (uK nN (tV (aC CQ bY (eI 0)))
   (aK (g8 (tV (aC oM (aC jT bY (eI 2)) (eI 1)))
    (sX (m9 1 g4 (a9 fH)))
    dW)
   (aK (bH 0 (aC sP bY (eI 2)))
   (bH 2 (aC dH fH (eI 1))))) [.ri m,.ow (.lst []),.ri 0]) λρ=>∃p o,ρ=[p,.ow (aB (tL m n)),o]:=by
  show DW (λk ρ=>∃i:Nat,k+i=n/\ρ=[.ro (.int ((m >>> i:Nat):Int)),.ow (aB (tL m i)),.ri i]) (λk ρ A=>?_) nN n _ (by delta nN;lia) ⟨0,∅,by rw[Nat.shiftRight_zero];rfl⟩;obtain⟨i,J,rfl⟩:=A;have te:tV (aC CQ bY (eI 0)) (bL [.ro (.int ((m >>> i:Nat):Int)),.ow (aB (tL m i)),.ri i])=ab (Zv (0<((m >>> i:Nat):Int))):=nA (binI (x:=((m >>> i:Nat):Int)) (y:=0) rfl rfl oU) rfl;by_cases l:m >>> i=0
  .refine .inl ⟨te.trans (by rw[l];rfl),.ro (.int ((m >>> i:Nat):Int)),.ri i,?_⟩;have:tL m n=tL m i:=by
    show n6 (DP _ _) (DP _ _) λt=>?_;rw[eV,eV]
    constructor
    .rintro ⟨a,b⟩;show⟨⟨a.1,?_⟩,b⟩;show qc λq=>?_;have h:(m >>> i).testBit (t.toNat-i)=ae:=by rw[Nat.testBit_shiftRight,show i+(t.toNat-i)=t.toNat by lia];show b
     rw[l,Cm] at h;cases h
    .rintro ⟨a,b⟩;show⟨⟨a.1,∅⟩,b⟩
   rw[this]
  .have v:i<n:=by show qc λq=>l ?_;rw[Kc];show Nat.div_eq_of_lt (gu z (nh ⋯ ∅))
   have j:0<((m >>> i:Nat):Int):=Int.natCast_pos.2 (Nat.pos_of_ne_zero l);show .inr ⟨te.trans (by rw[Zx j]),?_⟩;have F:⇑(tL m i)<=9:=by have:=nr (λb:Int=>m.testBit b.toNat) (aQ 0 i);rw[aJ] at this;show jb this ∅
   show uW (λρ=>ρ=[.ro (.int ((m >>> i:Nat):Int)),.ow (aB (tL m (i+1))),.ri i]) ?_ λρ e=>?_
   .refine uX (m.testBit i) (nA (binI (x:=(((m >>> i:Nat):Int)%2)) (y:=1) (binI (x:=((m >>> i:Nat):Int)) (y:=2) rfl rfl (dJ ⋯)) rfl gS) ?_) (λh=>?_) λh=>?_
    .rw [show((m >>> i:Nat):Int)%2=(((m >>> i)%2:Nat):Int) from rfl,YA];cases m.testBit i<;>rfl
    .refine ⟨_,G0 (d:=.int i) (ds:=(tL m i).map D.int) rfl rfl (by rw[bb];lia),?_⟩;rw[DX v,Z_ h];show[Sv.ro _,Sv.ow (.lst ((tL m i).map D.int++[.int i])),Sv.ro _]=[Sv.ro _,Sv.ow (.lst ((tL m i++[(i:Int)]).map D.int)),Sv.ro _];rw[h_];rfl
    .refine nW ?_;rw[DX v,Zz (by rw[h];show bz),lr]
   .subst e;show kH [.ro (.int ((m >>> (i+1):Nat):Int)),.ow (aB (tL m (i+1))),.ri i] (fF _ (binI (x:=((m >>> i:Nat):Int)) (y:=2) rfl rfl (lO ⋯ ⋯)) ?_) (lQ _ (binI (x:=i) (y:=1) rfl rfl iO) ⟨k-1,∅,i+1,∅,rfl⟩);rw[show((m >>> i:Nat):Int)/2=(((m >>> i)/2:Nat):Int) from rfl,show m >>> (i+1)=(m >>> i)/2 from rfl];rfl
 obtain⟨ρ,e,p,o,rfl⟩:=L;show bX _ e (f7 (cZ (x:=aB (tL m n)) rfl rfl))
section
variable{x:Q0a}
def kI(m:Nat):rV:=.inl (.inl (m:Int))
def lZ(x:Q0a)(kd:KD):Prop:=⇑kd.1=⇑kd.2/\(∀q∈kd.1,q.isLeft=ae)/\(∀(m:Nat) (d:D),aS kd.1 kd.2 (kI m)=ab d->d=.bl (lX x (tL m ⇑x))) /\∀d∈kd.2,∃b,d=.bl b
def HA(x:Q0a)(kd:KD)(m:Nat):KD:=if(aS kd.1 kd.2 (kI m)).isSome=ae then kd else cV kd.1 kd.2 (kI m) (.bl (lX x (tL m ⇑x)))
def rC{ks:List rV}(h:∀q∈ks,q.isLeft=ae)(m:Nat):kindB ks (kI m)=ae:=by delta kindB;rw[jd];intro q a;rw[h q a];rfl
def aBp{m k:Nat}(h:kI m=kI k):m=k:=by have:=uo (uo h);lia
def R3{kd:KD}(h:lZ x kd)(m:Nat):lZ x (HA x kd m)/\⇑(HA x kd m).1<=⇑kd.1+1/\aS (HA x kd m).1 (HA x kd m).2 (kI m)=ab (.bl (lX x (tL m ⇑x))):=by
 delta HA;by_cases l:(aS kd.1 kd.2 (kI m)).isSome=ae
 .rw [Z_ l];obtain⟨d,a⟩:=a1J.1 l;show⟨h,∅,by rw[a,h.2.2.1 m d a]⟩
 .rw [Zz l];have n:=pG (k:=kI m) (v:=.bl (lX x (tL m ⇑x))) h.1;show⟨⟨n.1,λq j=>?_,λk d a=>?_,λd a=>?_⟩,n.2,?_⟩
  .delta cV at j;split at j
   .exact h.2.1 q j
   .rcases ie.1 j with j|j
    .exact h.2.1 q j
    .rw [dh.1 j];rfl
  .rw [eT (ks:=kd.1) h.1] at a;split at a
   .rename_i e;cases a;rw[aBp e]
   .exact h.2.2.1 k d a
  .delta cV at a;split at a
   .obtain ⟨p,o,e⟩:=gx.1 a;split at e
    .exact ⟨_,e.symm⟩
    .rw [<- e];show h.2.2.2 _ (tm o).2
   .rcases ie.1 a with a|a
    .exact h.2.2.2 d a
    .exact ⟨_,dh.1 a⟩
  .rw [eT (ks:=kd.1) h.1,Z_ rfl]
def aE8{m:Nat}:In x (tL m ⇑x):=λt a=>(eV.1 a).1
def aBq{m n:Nat}(a:n<=9):⇑(tL m n)<=9:=by have:=nr (λb:Int=>m.testBit b.toNat) (aQ 0 n);rw[aJ] at this;show jb this a
theorem BE(v:Ord.Rows x)(l:⇑x<=9){kd:KD}(h:lZ x kd)(O:⇑kd.1<16000000){m:Nat}(F:m<2^⇑x):dC [aF x,.int m] kd=.ok (.bl (lX x (tL m ⇑x)),HA x kd m):=by
 delta dC;show AE λq=>?_;delta oQ;rw[Z_ (show[aF x,D.int m].length+1=3 from rfl)];have e0:startM 3 [aF x,.int m] q kd=[.ro (aF x),.ri m,.ow (.a8 q kd.1 kd.2)]:=rfl;rw[e0];have j:tV (aC (uL ae) cP fH) (bL [.ro (aF x),.ri m,.ow (.a8 q kd.1 kd.2)])=ab (!(aS kd.1 kd.2 (kI m)).isSome):=by show nA (d:=.bl (!(aS kd.1 kd.2 (kI m)).isSome)) (cK (x:=.int m) (y:=.a8 q kd.1 kd.2) rfl rfl ?_) rfl;show(if kindB kd.1 (kI m)=ae then _ else _)=_;rw[Z_ (rC h.2.1 m)];rfl
 have ret:∀(q2:Nat->ay->Prop) (a:KD),lZ x a->(∀b o,q2 b o ->∃o2,q b o2)->aS a.1 a.2 (kI m)=ab (.bl (lX x (tL m ⇑x)))->AD (3-1) cP q [.ro (aF x),.ri m,.ow (.a8 q2 a.1 a.2)]=ab (.bl (lX x (tL m ⇑x)),a):=λq2 a h2 A I=>by have e:AD (3-1) cP q [.ro (aF x),.ri m,.ow (.a8 q2 a.1 a.2)]=@ite _ (kindB a.1 (kI m)=ae /\∀b o,q2 b o ->∃o2,q b o2) (qv _) ((aS a.1 a.2 (kI m)).map λd=>(d,a)) af:=rfl;rw[e];show(Z_ ⟨rC h2.2.1 m,A⟩).trans (by rw[I];rfl)
 obtain⟨L,U,p⟩:=R3 h m
 cases hs:(aS kd.1 kd.2 (kI m)).isSome with
 |true =>
  rw[hs] at j;have n:HA x kd m=kd:=by delta HA;rw[Z_ hs]
  rw[n] at p ⊢;rw[oN j rfl];show ret q kd h (λb o z=>⟨o,z⟩) p
 |false =>
  rw[hs] at j;have n:HA x kd m=cV kd.1 kd.2 (kI m) (.bl (lX x (tL m ⇑x))):=by delta HA;rw[Zz (by rw[hs];show bz)]
  have K:iL 2 (a9 (aO iG (aA bY (aA (aO fT (bO 1)) aG)))) cP [.ro (aF x),.ri m,.ow (.a8 q kd.1 kd.2)]=.nx [.ro (aF x),.ri m,.ow (.a8 (adr q) (HA x kd m).1 (HA x kd m).2)]:=by
   have J:a9 (aO iG (aA bY (aA (aO fT (bO 1)) aG))) [.ro (aF x),.ri m,.ow (.a8 q kd.1 kd.2)]=ab ([.ro (aF x),.ri m,.ow (.a8 q kd.1 kd.2)],.bl (lX x (tL m ⇑x))):=by delta a9;rw[dO (x:=aF x) (y:=τ (tL m ⇑x)) rfl (fG rfl (of_ok F l)) (X7 v l aE8 (by have:=aBq (m:=m) l;lia))];rfl
   delta iL;rw[J,fg]
   show(match (if kindB kd.1 (kI m)=ae/\⇑kd.2<k7 then ab ([.ro (aF x),.ri m,.ow (.a8 (adr q) (cV kd.1 kd.2 (kI m) (.bl (lX x (tL m ⇑x)))).1 (cV kd.1 kd.2 (kI m) (.bl (lX x (tL m ⇑x)))).2)]:bC) else af) with
    |some ρ'=>Out.nx ρ'
    |none=>.no)=_
   rw[Z_ ⟨rC h.2.1 m,by rw[<- h.1];delta k7;lia⟩,<- n]
  rw[M9 j K];show ret (adr q) (HA x kd m) L (λb o z=>z) p
abbrev PC:=List Int×List Int
def rD(p:PC):D:=.tup [.int (bT p.1),aB p.2]
def l6(x:Q0a)(S:Q0e)(s:KD×List Int)(p:PC):KD×List Int:=if k9 p.1 S=ae then(HA x s.1 (bT S-bT p.1),if lX x (fW S p.1)=ae then eM s.2 p.2 else s.2) else s
def K1{S T:Q0e}(l:∀a∈S,0<=a)(d:∀a∈T,0<=a):(bT T &&& bT S=bT T)↔k9 T S=ae:=by
 rw[A7,j3]
 constructor
 .intro h t j;obtain⟨i,rfl⟩:=mn (d t j);show(bZ l).1 (h i ((bZ d).2 j))
 .intro h i m;show(bZ l).2 (h _ ((bZ d).1 m))
def YB{S T:Q0e}(l:∀a∈S,0<=a)(j:∀a∈T,0<=a)(h:k9 T S=ae):bT S-bT T=bT (fW S T)/\bT T<=bT S:=by
 have m:∀a∈fW S T,0<=a:=λa n=>l a (b7.1 n).1;have e:=vE (bT T) (bT (fW S T));have e0:bT T &&& bT (fW S T)=0:=by
  apply qo;intro i;rw[vj,Cm,a2N];by_cases d:(i:Int)∈T
  .exact .inr (by rw[Dh,Ne,bZ m];show λz=>(b7.1 z).2 d)
  .exact .inl (by rw[Dh,Ne,bZ j];show d)
 have e1:(bT T ||| bT (fW S T))=bT S:=by
  apply qo;intro i;rw[J_,jk,Dg,bZ j,bZ m,bZ l]
  constructor
  .rintro (a|a)
   .exact j3.1 h _ a
   .exact (b7.1 a).1
  .intro a;by_cases d:(i:Int)∈T
   .exact .inl d
   .exact .inr (b7.2 ⟨a,d⟩)
 rw[e0,e1] at e;lia
def R4{S:Q0e}{n:Nat}(up:S.Pairwise (·<·))(h:∀a∈S,0<=a/\a<(n:Int)):tL (bT S) n=S:=by
 show n6 (DP _ _) up λt=>?_;rw[eV]
 constructor
 .rintro ⟨a,b⟩;obtain⟨i,rfl⟩:=mn a.1;show(bZ λa j=>(h a j).1).1 b
 .intro d;show⟨h t d,?_⟩;obtain⟨i,rfl⟩:=mn (h t d).1;show(bZ λa j=>(h a j).1).2 d
theorem NJ(hx:Ord.Rows x)(hn:⇑x<=9){S:Q0e}(O:DS x S){L:List PC}(n:∀p∈L,DS x p.1/\⇑p.2=⇑x+1)(hLl:⇑L<=1000){kd:KD}(h:lZ x kd)(hl:⇑kd.1<=10000000):
  eW [aF x,.int (bT S),.lst (L.map rD)] kd=.ok (aB (eO (L.foldl (l6 x S) (kd,cg (⇑x+1) 0)).2),(L.foldl (l6 x S) (kd,cg (⇑x+1) 0)).1)/\lZ x (L.foldl (l6 x S) (kd,cg (⇑x+1) 0)).1/\⇑(L.foldl (l6 x S) (kd,cg (⇑x+1) 0)).1.1<=⇑kd.1+⇑L/\⇑(L.foldl (l6 x S) (kd,cg (⇑x+1) 0)).2=⇑x+1:=by
 have I:∀{T:Q0e},DS x T ->∀a∈T,0<=a:=λhT a ha=>(hT.2 a ha).1.1;have v:∀(L:List PC),(∀p∈L,DS x p.1/\⇑p.2=⇑x+1) ->∀(s:KD×List Int),lZ x s.1->⇑s.2=⇑x+1->lZ x (L.foldl (l6 x S) s).1/\⇑(L.foldl (l6 x S) s).1.1<=⇑s.1.1+⇑L/\⇑(L.foldl (l6 x S) s).2=⇑x+1:=by
  intro L
  induction L with
  |nil=>show λ_ s X h2=>⟨X,by simp,h2⟩
  |cons p L ih =>
   intro n s X h2;have K:=n p cz;rw[lp];have one:lZ x (l6 x S s p).1/\⇑(l6 x S s p).1.1<=⇑s.1.1+1/\⇑(l6 x S s p).2=⇑x+1:=by
    delta l6;split
    .obtain ⟨c1,c2,_⟩:=R3 X (bT S-bT p.1);show⟨c1,c2,?_⟩;dsimp only;split
     .rw [eU (by rw[h2,K.2]),h2]
     .exact h2
    .exact ⟨X,∅,h2⟩
   obtain⟨i1,i2,i3⟩:=ih (λr Z=>n r (fq _ Z)) _ one.1 one.2.2;show⟨i1,by rw[eg];lia,i3⟩
 have fin:=v L n (kd,cg (⇑x+1) 0) h (by simp);show⟨?_,fin⟩;delta eW;show W9 λq=>?_;delta uO;rw[Z_ (show[aF x,D.int (bT S),D.lst (L.map rD)].length+1=4 from rfl)];have main:Nx ((aK (bH 4 (aC repLM (eQ (aA (eI 0) aG)) (aC dH (cL cJ (bO 0)) (eI 1))))
  (fB (bV fH) (W3 5 6)
   (QQ (tV (aC oM (aC jE nL cP) nL)) dC (aA bY (aA (aC qI cP nL) aG)) 3
    (bH 4 (aO LL.jG (aA i9 (bO 6))))
    dW))) (startM 7 [aF x,.int (bT S),.lst (L.map rD)] q kd)) λρ=>∃q2 l v6,(∀b o,q2 b o ->∃o2,q b o2)/\ρ=[.ro (aF x),.ro (.int (bT S)),.ro (.lst (L.map rD)),.ow (.a8 q2 (L.foldl (l6 x S) (kd,cg (⇑x+1) 0)).1.1 (L.foldl (l6 x S) (kd,cg (⇑x+1) 0)).1.2),.ro (aB (L.foldl (l6 x S) (kd,cg (⇑x+1) 0)).2),l,v6]:=by
  show kH [.ro (aF x),.ro (.int (bT S)),.ro (.lst (L.map rD)),.ow (.a8 q kd.1 kd.2),.ro (aB (cg (⇑x+1) 0)),.no,.no] (fF _ (cK (x:=.lst [.int 0]) (y:=.int ((⇑x+1:Nat):Int)) rfl (binI (x:=⇑x) (y:=1) (cZ rfl f9) rfl iO) (rep0 (⇑x+1) ∅)) rfl) ?_;show qV (L.map rD) (λi ρ=>∃q2 l v6,(∀b o,q2 b o ->∃o2,q b o2)/\ρ=[.ro (aF x),.ro (.int (bT S)),.ro (.lst (L.map rD)),.ow (.a8 q2 ((L.take i).foldl (l6 x S) (kd,cg (⇑x+1) 0)).1.1 ((L.take i).foldl (l6 x S) (kd,cg (⇑x+1) 0)).1.2),.ro (aB ((L.take i).foldl (l6 x S) (kd,cg (⇑x+1) 0)).2),l,v6]) rfl ⟨q,.no,.no,λb o z=>⟨o,z⟩,rfl⟩ (λi d ρ hd U=>?_) λρ U=>by rw[bb,tj] at U;show U
  obtain⟨q2,l,v6,J,rfl⟩:=U;rw[c_] at hd;obtain⟨p,K,rfl⟩:=jz.1 hd;have hpm:=j_ K;obtain⟨dT,hpl⟩:=n p hpm;have tk:(L.take (i+1)).foldl (l6 x S) (kd,cg (⇑x+1) 0)=l6 x S ((L.take i).foldl (l6 x S) (kd,cg (⇑x+1) 0)) p:=by rw[xt,K,a2m];rfl
  have st:=v (L.take i) (λr Z=>n r (a2f Z)) (kd,cg (⇑x+1) 0) h (by simp);have til:⇑(L.take i)<=⇑L:=by rw[js];lia
  rw[tk];generalize (L.take i).foldl (l6 x S) (kd,cg (⇑x+1) 0)=s at st;obtain⟨s1,s2,s3⟩:=st;show⟨[.ro (aF x),.ro (.int (bT S)),.ro (.lst (L.map rD)),.ow (.a8 q2 s.1.1 s.1.2),.ro (aB s.2),.ro (.int (bT p.1)),.ro (aB p.2)],rfl,?_⟩;generalize j:([.ro (aF x),.ro (.int (bT S)),.ro (.lst (L.map rD)),.ow (.a8 q2 s.1.1 s.1.2),.ro (aB s.2),.ro (.int (bT p.1)),.ro (aB p.2)]:bC)=ρ;have te:tV (aC oM (aC jE nL cP) nL) (bL ρ)=ab (k9 p.1 S):=by subst j;show nA (binI (x:=((bT p.1 &&& bT S:Nat):Int)) (y:=(bT p.1)) (binI (x:=(bT p.1)) (y:=(bT S)) rfl rfl (lW _ _)) rfl gS) ?_;show ab _=ab _;congr 1;rw[jk,decide_eq_true_eq,<- K1 (I O) (I dT)];lia
  delta QQ JV;rw[te];delta l6
  cases hsub:k9 p.1 S with
  |false =>
   rw[Zz bz];show⟨ρ,rfl,q2,.ro (.int (bT p.1)),.ro (aB p.2),J,j.symm⟩
  |true =>
   rw[Z_ rfl];obtain⟨md,Y⟩:=YB (I O) (I dT) hsub;have hD:∀a∈fW S p.1,0<=a/\a<(⇑x:Int):=λa ha=>(O.2 a (b7.1 ha).1).1;have tl:tL (bT S-bT p.1) ⇑x=fW S p.1:=by rw[md];show R4 (kr _ O.1) hD
   have cm:=BE hx hn s1 (by dsimp only at s2;lia) (m:=bT S-bT p.1) (by rw[md];show G9 hD);rw[tl] at cm;have sm:stepM dC (aA bY (aA (aC qI cP nL) aG)) 3 ρ=ab (q2,.bl (lX x (fW S p.1)),HA x s.1 (bT S-bT p.1)):=by subst j;delta stepM;rw[args2 (x:=aF x) (y:=.int ((bT S-bT p.1:Nat):Int)) rfl ((binI (x:=(bT S)) (y:=(bT p.1)) rfl rfl oS).trans (by rw[Int.ofNat_sub Y]))];show(match dC [aF x,.int ((bT S-bT p.1:Nat):Int)] s.1 with | .ok r=>ab (q2,r)|_=>af)=_;rw[cm]
   dsimp only;rw[sm];have A:∀b o,adr q2 b o ->∃o2,q b o2:=λb o ⟨o3,z⟩=>J b o3 z
   cases hc:lX x (fW S p.1) with
   |false =>
    rw[Zz bz];show⟨_,rfl,adr q2,.ro (.int (bT p.1)),.ro (aB p.2),A,by rw[<- j];rfl⟩
   |true =>
    rw[Z_ rfl];show lQ (aB (eM s.2 p.2)) ?_ ⟨adr q2,.ro (.int (bT p.1)),.ro (aB p.2),A,by rw[<- j];rfl⟩;subst j;show dO rfl rfl (DI (by rw[s3];lia))
 obtain⟨ρ,e,q2,l,v6,J,rfl⟩:=main;rw[e];show An 3 _ q _=_;generalize L.foldl (l6 x S) (kd,cg (⇑x+1) 0)=s at fin;have ee:aC dH (eQ (aA (eI 0) aG)) (JL i9 MV (oE (sO (eI 1)))) (gI [.ro (aF x),.ro (.int (bT S)),.ro (.lst (L.map rD)),.ow (.a8 q2 s.1.1 s.1.2),.ro (aB s.2),l,v6])=ab (aB (eO s.2)):=by
  obtain⟨r,z,F⟩:∃r z,s.2=r++[z]:=by
   rcases a2s s.2 with e|⟨r,z,e⟩
   .have:=fin.2.2;rw[e] at this;simp at this
   .exact ⟨r,z,by rw[e,a2w]⟩
  have rl:⇑r<=9:=by have:=fin.2.2;rw[F,gk] at this;simp at this;lia
  show cK (x:=.lst [.int 0]) (y:=.lst (r.map D.int)) rfl ?_ ?_
  .delta JL;show slM (aB s.2) af (ab (-1))=_;rw[F];delta aB;rw[h_];show X1
  .rw [oX (by rw[bb];simp;lia)];delta eO aB;rw[F,a2u];rfl
 have F:An 3 (aC dH (eQ (aA (eI 0) aG)) (JL i9 MV (oE (sO (eI 1))))) q [.ro (aF x),.ro (.int (bT S)),.ro (.lst (L.map rD)),.ow (.a8 q2 s.1.1 s.1.2),.ro (aB s.2),l,v6]=(aC dH (eQ (aA (eI 0) aG)) (JL i9 MV (oE (sO (eI 1)))) (gI [.ro (aF x),.ro (.int (bT S)),.ro (.lst (L.map rD)),.ow (.a8 q2 s.1.1 s.1.2),.ro (aB s.2),l,v6])).bind λd=>@ite _ (∀a o,q2 a o ->∃o2,q a o2) (qv _) (ab (d,s.1)) af:=rfl;rw[F,ee,fg];show Z_ J
def K2:(cM x).Perm (nK x):=by
 delta cM;have:=(eF (lt:=xK) ((nK x).map NG)).map (·.2);rw[dg] at this;have e:((λt:W6=>t.2)∘NG)=λa:List Int=>a:=rfl;rw[e,List.map_id''] at this
 .exact this
 .exact λ_=>rfl
def R5:(cM x).Nodup:=K2.nodup_iff.2 RW
def g6(d:Ord.Rows x){a:Q0e}:a∈cM x↔DS x a:=by rw[K2.mem_iff,RX d]
def R6:(cM x).Pairwise λa b=>⇑a<=⇑b:=by
 delta cM;rw[vn];have d:UpB xK (lK xK ((nK x).map NG)):=mO AI _;show Lb (λ{a b} l j h=>?_) d;obtain⟨u,_,rfl⟩:=gx.1 ((eF _).mem_iff.1 l);obtain⟨v,_,rfl⟩:=gx.1 ((eF _).mem_iff.1 j);show ⇑u<=⇑v;have h:iM GD (sS GD) (NG v) (NG u)=ag:=h;delta iM at h;by_cases e:(⇑v:Int)=(⇑u:Int)
 .omega
 .rw [Zz e] at h;have:¬ (⇑v:Int)<(⇑u:Int):=of_decide_eq_false h;lia
def sub_len{S T:Q0e}(m:S.Pairwise (·<·))(l:T.Pairwise (·<·))(h:k9 T S=ae)(a:T≠S):⇑T<⇑S:=by
 have e:T=S.filter λt=>T.contains t:=n6 l (kr _ m) λt=>by rw[gi,t_];show⟨λz=>⟨j3.1 h t z,z⟩,λz=>z.2⟩
 have j:=nr (λt=>T.contains t) S;rw[<- e] at j;rcases xp ⇑T ⇑S with z|z
 .exact z
 .refine Zw ?_ a;rw[e];show a2n.2 λt d=>?_;have:⇑(S.filter λt=>T.contains t)=⇑S:=by rw[<- e];lia
  show List.length_filter_eq_length_iff.1 this t d
def fX(x:Q0a)(S:Q0e):List Int:=(cj (⇑x+1)).map λj=>cp x (cM x) j S
def fM{S:Q0e}:⇑(fX x S)=⇑x+1:=by simp[fX]
def HB{S:Q0e}{j:Nat}(h:j<=⇑x):η (fX x S) (j:Int)=cp x (cM x) j S:=by delta η fX;rw[gq,c_,qr ∅];rfl
theorem K3:fX x []=1::cg ⇑x 0:=by
 show KQ (by rw[fM];simp) λi a=>?_;rw[fM] at a;rw[HB ∅]
 cases i with
 |zero=>rfl
 |succ j =>
  have:η (1::cg ⇑x 0) ((j+1:Nat):Int)=0:=by delta η;rw[gq,kg,mi];split<;>rfl
  rw[this];show((cM x).map λT=>if sV x T []=ae then cp x (cM x) j T else 0).sum=0;show rB λT _=>?_
  cases T with
  |nil=>rfl
  |cons t T=>delta sV WN k9;simp
theorem fold_at(S:Q0e){j:Nat}(a:j<=⇑x):∀(L:Q0a) (s:KD×List Int),⇑s.2=⇑x+1 ->
  η ((L.map λT=>(T,fX x T)).foldl (l6 x S) s).2 (j:Int)=η s.2 (j:Int)+(L.map λT=>if WN x T S=ae then cp x (cM x) j T else 0).sum/\⇑((L.map λT=>(T,fX x T)).foldl (l6 x S) s).2=⇑x+1
 |[],s,h=>⟨by simp,h⟩
 |T::L,s,h=>by
  rw[bx,lp,bx,jc];have one:⇑(l6 x S s (T,fX x T)).2=⇑x+1/\η (l6 x S s (T,fX x T)).2 (j:Int)=η s.2 (j:Int)+if WN x T S=ae then cp x (cM x) j T else 0:=by
   delta l6 WN;dsimp only
   cases hs:k9 T S with
   |false=>rw[Zz bz,ue,Zz bz,oz];show⟨h,rfl⟩
   |true =>
    rw[Z_ rfl,ny];dsimp only
    cases hc:lX x (fW S T) with
    |false=>rw[Zz bz,Zz bz,oz];show⟨h,rfl⟩
    |true =>
     rw[Z_ rfl,Z_ rfl,eU (by rw[h,fM]),RN (by rw[h,fM]),HB a];show⟨h,rfl⟩
  obtain⟨l,d⟩:=fold_at S a L _ one.1;show⟨?_,d⟩;rw[l,one.2];lia
theorem R7(o:Ord.Rows x){i:Nat}{S:Q0e}(n:(cM x)[i]?=ab S)(q:S≠[])(kd:KD):eO ((((cM x).take i).map λT=>(T,fX x T)).foldl (l6 x S) (kd,cg (⇑x+1) 0)).2=fX x S:=by
 have y:=(g6 o).1 (j_ n);have p:=(fold_at (x:=x) S (ic _) ((cM x).take i) (kd,cg (⇑x+1) 0) (by simp)).2;show KQ (by rw[fR ∅,p,fM]) λk v=>?_;rw[fR ∅,p] at v;rw[HB ∅,XZ ∅ ∅]
 cases k with
 |zero =>
  rw[Z_ (show((0:Nat):Int)=0 from rfl)];show 0=if S=[] then(1:Int) else 0
  rw[Zz q]
 |succ j =>
  rw[Zz ∅,show((j+1:Nat):Int)-1=(j:Int) by lia,(fold_at S (j:=j) ∅ _ _ (by simp)).1];have z:η (cg (⇑x+1) (0:Int)) (j:Int)=0:=by delta η;rw[mi];split<;>rfl
  rw[z,ju];show _=((cM x).map λT=>if sV x T S=ae then cp x (cM x) j T else 0).sum;have e:(cM x).map (λT=>if sV x T S=ae then cp x (cM x) j T else 0)=((cM x).take i).map (λT=>if sV x T S=ae then cp x (cM x) j T else 0)++((cM x).drop i).map (λT=>if sV x T S=ae then cp x (cM x) j T else 0):=by rw[<- h_,vm]
  have m:=(de.1 n).1;have l:=(de.1 n).2;rw[e,a19];have d0:(((cM x).drop i).map λT=>if sV x T S=ae then cp x (cM x) j T else 0).sum=0:=by
   show rB λT d=>?_
   cases hb:sV x T S with
   |false=>rfl
   |true =>
    delta sV WN at hb;rw[ij,ij] at hb;have a:T≠S:=of_decide_eq_true hb.1;have dT:=(g6 o).1 (List.mem_of_mem_drop d);have lt:=sub_len y.1 dT.1 hb.2.1 a;rw[nu m,l] at d;rcases bu.1 d with z|d
    .exact Zw z a
    .have h:=R6 (x:=x);rw[<- vm i (cM x),xx] at h;have h2:=h.2.1;rw[nu m,l,f_] at h2;have:=h2.1 T d;lia
  rw[d0,oz];show g5 λT d=>?_;have a:T≠S:=λz=>by have nd:=R5 (x:=x);rw[<- vm i (cM x),tq] at nd;show nd.2.2 T d S ?_ z;rw[nu m,l];show cz
  delta sV;rw[Zx a,ny]
def aBr{f k:L4.SF}{ρ:bC}{o:Out}{Q:bC->Prop}(h:Nx (f ρ) Q)(h2:∀a,Q a->k a=o):aK f k ρ=o:=by obtain⟨a,e,q⟩:=h;show bX a e (h2 a q)
def xG(x:Q0a)(S:Q0e):D:=.tup [τ S,τ (fX x S)]
theorem K4:∀{l:List D},(∀d∈l,∃b,d=.bl b)->lD l=ae
 |[],_=>rfl
 |d::l,h=>by obtain⟨b,rfl⟩:=h d cz;show(ae&&lD l)=ae;rw[K4 λe a=>h e (fq _ a)];rfl
def vB(v:Ord.Rows x)(O:⇑x<=9):gU [aF x]=.ok (.tup ((cM x).map (xG x))):=by
 delta gU;show fO rfl ?_;show bX [.ro (aF x),.ow (.lst []),.no,.no,.no,.no,.no] rfl (bX [.ro (aF x),.ow (.lst []),.ow (.lst []),.no,.no,.no,.no] rfl (bX [.ro (aF x),.ow (.lst []),.ow (.lst []),.ow (.a8 hV [] []),.no,.no,.no] rfl ?_));have dl:⇑(cM x)<=512:=by rw[pL];show vF O
 show aBr (Q:=λρ=>∃(q:Nat->ay->Prop) (kd:KD) (l j v6:Sv),ρ=[.ro (aF x),.ow (.lst ((cM x).map (xG x))),.ow (.lst (((cM x).map λT=>(T,fX x T)).map rD)),.ow (.a8 q kd.1 kd.2),l,j,v6]) ?_ λρ o=>?_
 rotate_left
 .obtain ⟨q,kd,l,j,v6,rfl⟩:=o;show f7 (cZ (x:=.lst ((cM x).map (xG x))) rfl rfl)
 show qV ((cM x).map τ) (λi ρ=>∃(q:Nat->ay->Prop) (kd:KD) (l j v6:Sv),(lZ x kd/\⇑kd.1<=1000*i)/\ρ=[.ro (aF x),.ow (.lst (((cM x).take i).map (xG x))),.ow (.lst ((((cM x).take i).map λT=>(T,fX x T)).map rD)),.ow (.a8 q kd.1 kd.2),l,j,v6]) ?_ ⟨hV,([],[]),.no,.no,.no,⟨⟨rfl,λq hq=>(by cases hq),λm d h=>(by cases h),λd F=>(by cases F)⟩,by simp⟩,rfl⟩ (λi d ρ F J=>?_) λρ J=>?_
 .delta bV;rw[fG (x:=aF x) rfl (DQ v O)];rfl
 .obtain ⟨q,kd,l,j,v6,⟨Z,hk⟩,rfl⟩:=J;rw[c_] at F;obtain⟨S,I,rfl⟩:=jz.1 F;have U:=(de.1 I).1;have dS:=(g6 v).1 (j_ I);have S9:∀a∈S,0<=a/\a<9:=λa ha=>by have:=(dS.2 a ha).1;lia
  have tk:(cM x).take (i+1)=(cM x).take i++[S]:=by rw[xt,I];rfl
  have L:⇑((cM x).take i)=i:=by rw[js];lia
  show⟨_,rfl,?_⟩;show kH [.ro (aF x),.ow (.lst (((cM x).take i).map (xG x))),.ow (.lst ((((cM x).take i).map λT=>(T,fX x T)).map rD)),.ow (.a8 q kd.1 kd.2),.ro (τ S),.ro (.int (bT S)),v6] (fF _ (fG rfl (X9 S9)) rfl) ?_;show uW (λρ=>∃(q:Nat->ay->Prop) (kd:KD),(lZ x kd/\⇑kd.1<=1000*(i+1))/\ρ=[.ro (aF x),.ow (.lst (((cM x).take i).map (xG x))),.ow (.lst ((((cM x).take i).map λT=>(T,fX x T)).map rD)),.ow (.a8 q kd.1 kd.2),.ro (τ S),.ro (.int (bT S)),.ro (aB (fX x S))]) ?_ λρ o=>?_
  .by_cases K:S=[]
   .refine ⟨_,?_,q,kd,⟨Z,∅⟩,rfl⟩;delta uP;rw[show tV (bF 4) (bL [.ro (aF x),.ow (.lst (((cM x).take i).map (xG x))),.ow (.lst ((((cM x).take i).map λT=>(T,fX x T)).map rD)),.ow (.a8 q kd.1 kd.2),.ro (τ S),.ro (.int (bT S)),v6])=ab ag by rw[K];rfl];dsimp only;rw[cK (x:=.lst [.int 1]) (y:=aB (cg ⇑x 0)) (z:=ab (aB (fX x S))) rfl (cK (x:=.lst [.int 0]) (y:=.int ⇑x) rfl (cZ rfl f9) (rep0 ⇑x ∅)) ?_]
    .rfl
    .delta aB;rw[oX (by simp;lia),K,K3];rfl
   .have hL:∀p∈((cM x).take i).map λT=>(T,fX x T),DS x p.1/\⇑p.2=⇑x+1:=λp hp=>by obtain⟨T,hT,rfl⟩:=gx.1 hp;show⟨(g6 v).1 (a2f hT),fM⟩
    obtain⟨Y,X,c3,c4⟩:=NJ v O dS hL (by rw[bb];lia) Z ∅;rw[R7 v I K] at Y;rw[bb,L] at c3;generalize (((cM x).take i).map λT=>(T,fX x T)).foldl (l6 x S) (kd,cg (⇑x+1) 0)=s at Y X c3;show⟨_,?_,adr q,s.1,⟨X,∅⟩,rfl⟩;delta uP;rw[show tV (bF 4) (bL [.ro (aF x),.ow (.lst (((cM x).take i).map (xG x))),.ow (.lst ((((cM x).take i).map λT=>(T,fX x T)).map rD)),.ow (.a8 q kd.1 kd.2),.ro (τ S),.ro (.int (bT S)),v6])=ab ae by
     cases S with
     |nil=>show Zw rfl K
     |cons _ _=>rfl]
    dsimp only;have sa:C5 eW (aA (bF 0) (aA (bF 5) (bO 2))) 2 3 [.ro (aF x),.ow (.lst (((cM x).take i).map (xG x))),.ow (.lst ((((cM x).take i).map λT=>(T,fX x T)).map rD)),.ow (.a8 q kd.1 kd.2),.ro (τ S),.ro (.int (bT S)),v6]=ab (q,aB (fX x S),s.1):=by
     have e1:C5 eW (aA (bF 0) (aA (bF 5) (bO 2))) 2 3 [.ro (aF x),.ow (.lst (((cM x).take i).map (xG x))),.ow (.lst ((((cM x).take i).map λT=>(T,fX x T)).map rD)),.ow (.a8 q kd.1 kd.2),.ro (τ S),.ro (.int (bT S)),v6]=(match eW [aF x,.int (bT S),.lst ((((cM x).take i).map λT=>(T,fX x T)).map rD)] kd with
      |.ok r=>if M8 ((((cM x).take i).map λT=>(T,fX x T)).map rD) r.1=ae/\lD r.2.2=ae then ab (q,r) else af
      |_=>af):=rfl
     rw[e1,Y];dsimp only;have A:M8 ((((cM x).take i).map λT=>(T,fX x T)).map rD) (aB (fX x S))=ae:=by
      have ec:fX x S=cp x (cM x) 0 S::(fX x S).tail:=by delta fX;rw[xu];rfl
      have U:lD ((fX x S).tail.map D.int)=ae:=LL.qW _;rw[ec]
      cases hh:((cM x).take i) with
      |nil=>show U
      |cons _ _=>show U
     rw[Z_ ⟨A,K4 X.2.2.2⟩]
    rw[sa];rfl
  .obtain ⟨q2,n,uk,rfl⟩:=o;show kH [.ro (aF x),.ow (.lst (((cM x).take i).map (xG x))),.ow (.lst ((((cM x).take i).map λT=>(T,fX x T)).map rD++[rD (S,fX x S)])),.ow (.a8 q2 n.1 n.2),.ro (τ S),.ro (.int (bT S)),.ro (aB (fX x S))] (G0 (d:=rD (S,fX x S)) (ds:=(((cM x).take i).map λT=>(T,fX x T)).map rD) (Fs rfl rfl) rfl (by rw[bb,bb];lia)) ?_;show⟨_,G0 (d:=xG x S) (ds:=((cM x).take i).map (xG x)) (Fs rfl (cZ (x:=aB (fX x S)) rfl rfl)) rfl (by rw[bb];lia),q2,n,.ro (τ S),.ro (.int (bT S)),.ro (aB (fX x S)),uk,?_⟩;rw[tk,h_,h_,h_];rfl
 .rw [bb,tj] at J;obtain⟨q,kd,l,j,v6,_,e⟩:=J;show⟨q,kd,l,j,v6,e⟩
def BF(x:Q0a)(m:Nat):List (List Int):=(aQ 0 m).map λb=>(aQ 0 m).filter λa=>(row x b).contains a
def mY{m:Nat}:⇑(BF x m)=m:=by delta BF;rw[bb,aJ]
def gA{b:Nat}(a:b<⇑x):x[b]?=ab (row x (b:Int)):=by delta row;simp[a]
def pM{m b:Nat}{r:Q0e}(h:(BF x m)[b]?=ab r):b<m/\r=(aQ 0 m).filter λa=>(row x (b:Int)).contains a:=by
 have d:b<m:=by
  have:=(de.1 h).1
  rwa [mY] at this
 show⟨d,?_⟩;delta BF at h;rw[c_,fJ d,ju] at h;show(dm h).symm
theorem DY(l:Ord.Rows x){m:Nat}(q:m<=⇑x):Ord.Rows (BF x m) where
 up:=λb r h=>by obtain⟨_,rfl⟩:=pM h;show kr _ (pK m)
 rng:=λb r h a d=>by obtain⟨_,rfl⟩:=pM h;have:=aX.1 (gi.1 d).1;rw[mY];lia
 tr:=λb a r v h d h2 c j=>by obtain⟨n,rfl⟩:=pM h;obtain⟨p,rfl⟩:=pM h2;rw[gi] at d j ⊢;show⟨j.1,?_⟩;rw[t_] at d j ⊢;show l.tr b a _ _ (gA ∅) d.2 (gA ∅) c j.2
 GC:=λb r h n=>by obtain⟨o,rfl⟩:=pM h;have:=(gi.1 n).2;rw[t_] at this;show l.GC b _ (gA ∅) this
def K5(q:⇑x<=9){m:Nat}(v:m<=⇑x):lY [aF x,τ (aQ 0 m)]=.ok (aF (BF x m)):=by
 delta lY;show DN rfl ?_;show bJ [.ro (aF x),.ro (τ (aQ 0 m)),.ow (.lst []),.no] rfl ?_;show iQ (λρ=>∃h,ρ=[.ro (aF x),.ro (τ (aQ 0 m)),.ow (.lst ((BF x m).map τ)),h]) ?_ λρ ⟨h,e⟩=>?_
 .refine qV ((aQ 0 m).map D.int) (λi ρ=>∃h,ρ=[.ro (aF x),.ro (τ (aQ 0 m)),.ow (.lst (((BF x m).take i).map τ)),h]) rfl ⟨.no,rfl⟩ (λi d ρ l j=>?_) λρ j=>?_
  .obtain ⟨h,rfl⟩:=j;have n:i<m:=by
    have:=(de.1 l).1
    rwa [bb,aJ] at this
   rw[c_,fJ n,ju] at l;cases l;have g:(BF x m)[i]?=ab ((aQ 0 m).filter λa=>(row x (i:Int)).contains a):=by delta BF;rw[c_,fJ n,ju];rfl
   show⟨[.ro (aF x),.ro (τ (aQ 0 m)),.ow (.lst (((BF x m).take i).map τ)),.ri i],rfl,_,G0 (i:=2) (ds:=((BF x m).take i).map τ) (d:=τ ((aQ 0 m).filter λa=>(row x (i:Int)).contains a)) (cZ (x:=aB ((aQ 0 m).filter λa=>(row x (i:Int)).contains a)) ?_ rfl) rfl (by rw[bb,js,mY];lia),.ri i,?_⟩
   .refine dZ ((aQ 0 m).map D.int) (yI (cZ (x:=τ (aQ 0 m)) rfl (by delta τ;rw[fI,bb,aJ])) ∅) (by rw[bb,aJ];lia) (fQ D.int (λa=>(row x (i:Int)).contains a) D.int (aQ 0 m) λa p=>⟨[ab (.int a),ab (τ (aQ 0 m)),ab (aF x),ab (.int i)],rfl,?_,λ_=>rfl⟩);have o:=aX.1 p;obtain⟨c,rfl⟩:=mn o.1;show nA (d:=.bl ((row x (i:Int)).contains (c:Int))) (cK (x:=.int c) (y:=τ (row x i)) (cK (x:=τ (aQ 0 m)) (y:=.int c) rfl rfl ?_) (cK (x:=aF x) (y:=.int i) rfl rfl (GW ∅ ∅)) uZ) rfl;show sQ ((aQ 0 m).map D.int) (c:Int)=_;show gT ?_;rw[fJ ∅,ju]
   .rw [xt,g,h_];rfl
  .rw [bb,aJ] at j;obtain⟨h,rfl⟩:=j;show⟨h,?_⟩;rw[show(BF x m).take m=BF x m from s_ (by rw[mY];lia)]
 .subst e;show iR _ (cZ (x:=.lst ((BF x m).map τ)) rfl rfl) rfl
def Fv{ρ:cN}{m:Nat}(a:m<=9):JJ (aA (eC (.int (m:Int))) aG) ρ=ab (τ (aQ 0 m)):=by show(if((m:Int)).natAbs<=16777216 then ab (D.tup ((aQ 0 ((m:Int)).toNat).map D.int)) else af)=_;rw[Z_ ∅];rfl
def aEa:⇑(nK x)<=2^⇑x:=by
 delta nK;rw[bb];have:=nr (λS=>GF x S) (cj (2^⇑x))
 rwa [jt] at this
def BG(a:Ord.Rows x)(d:⇑x<=9){ρ:cN}{i:Nat}(h:bF i ρ=ab (aF x)):cL cJ (aA (aO ND.gL (bO i)) aG) ρ=ab (.int (⇑(nK x):Int)):=by show cZ (x:=.lst ((cM x).map τ)) (fG h (DR a d)) ?_;rw[lP,bb,pL]
def vJ(ns:Q0e):∃d,fL [.k6 ns]=.ok d /\∃y,Ord.Rows y/\⇑y<=9/\d=aF y:=by
 obtain⟨K,Nd⟩:=tS ns 40;obtain⟨L,Nc⟩:=tS ns 41;obtain⟨j,hl,I,p⟩:=pB K 2 900001 ⋯ ⋯;obtain⟨v,dl,_,q⟩:=pB L 45 800011 ⋯ ⋯;have hl2:⇑j=2:=hl;have A:⇑v=45:=dl;have at_:∀(i:Int) {ρ:cN},bF 1 ρ=ab (aB j)->0<=i->i<2->aC eB cP (eI i) ρ=ab (.int (η j i)):=λi {ρ} e h0 h1=>cK (x:=aB j) (y:=.int i) e rfl (aB5 h0 ∅);delta fL;show uY rfl ?_;show bJ [.ro (.k6 ns),.ro (aB j),.no,.no] (fF (aB j) (nX (x:=.int K) (y:=.int 2) (z:=.int 900001) (dO (x:=.k6 ns) (y:=.int 40) rfl rfl Nd) rfl rfl p) rfl) ?_;by_cases J:η j 0%64=5
 .refine JY (Hk ae (nA (d:=.bl (Zv (η j 0%64=5))) (binI (x:=(η j 0%64)) (y:=5) (binI (x:=(η j 0)) (y:=64) (at_ 0 rfl ⋯ ⋯) rfl (dJ ⋯)) rfl rfl) (by rw[J];rfl)) (λ_=>?_) λh=>by cases h);obtain⟨_,o,y,Y,l,rfl⟩:=DA v 9 (η j 1%2) ⋯ (by rw[A];decide);show bJ [.ro (.k6 ns),.ro (aB j),.ro (aF y),.no] (fF (aF y) (nX (x:=aB v) (y:=.int 9) (z:=.int (η j 1%2)) (nX (x:=.int L) (y:=.int 45) (z:=.int 800011) (dO (x:=.k6 ns) (y:=.int 41) rfl rfl Nc) rfl rfl q) rfl (binI (x:=(η j 1)) (y:=2) (at_ 1 rfl ⋯ ⋯) rfl (dJ ⋯)) o) rfl) ?_;show iQ (λρ=>∃z,Ord.Rows z/\⇑z<=9/\ρ=[.ro (.k6 ns),.ro (aB j),.ro (aF z),.no]) ?_ λρ Z=>?_
  .refine uX (Zv (256<(⇑(nK y):Int))) (nA (d:=.bl (Zv (256<(⇑(nK y):Int)))) (cK (x:=.int ⇑(nK y)) (y:=.int 256) (BG l ∅ rfl) rfl rfl) rfl) (λ_=>?_) λ_=>nW ⟨y,l,∅,rfl⟩;show lQ (aF (BF y 8)) (dO (x:=aF y) (y:=τ (aQ 0 8)) rfl (Fv (m:=8) ⋯) (K5 ∅ ∅)) ⟨BF y 8,DY l ∅,by rw[mY];decide,rfl⟩
  .obtain ⟨z,O,X,rfl⟩:=Z;show iR (aF z) rfl ⟨z,O,X,rfl⟩
 .refine bJ [.ro (.k6 ns),.ro (aB j),.no,.no] (oN (nA (d:=.bl (Zv (η j 0%64=5))) (binI (x:=(η j 0%64)) (y:=5) (binI (x:=(η j 0)) (y:=64) (at_ 0 rfl ⋯ ⋯) rfl (dJ ⋯)) rfl rfl) (by rw[Zy J];rfl)) rfl) ?_;obtain⟨_,o,y,Y,l,rfl⟩:=Q0 ns 0 9 100003 ⋯ ⋯;have n:⇑y<=9:=∅
  show bJ [.ro (.k6 ns),.ro (aB j),.ro (aF y),.no] (fF (aF y) (QW rfl rfl rfl rfl o) rfl) ?_;show bJ [.ro (.k6 ns),.ro (aB j),.ro (aF y),.ri 80] rfl ?_;show iQ (λρ=>∃m:Int,80<=m/\ρ=[.ro (.k6 ns),.ro (aB j),.ro (aF y),.ri m]) ?_ λρ hm=>?_
  .exact uX (Zv (η j 0%8=3)) (nA (d:=.bl (Zv (η j 0%8=3))) (binI (x:=(η j 0%8)) (y:=3) (binI (x:=(η j 0)) (y:=8) (at_ 0 rfl ⋯ ⋯) rfl (dJ ⋯)) rfl rfl) rfl) (λ_=>lQ (.int 130) rfl ⟨130,⋯,rfl⟩) λ_=>nW ⟨80,⋯,rfl⟩
  .obtain ⟨m,U,rfl⟩:=hm;by_cases hw:m<(⇑(nK y):Int)
   .have F:6<=⇑y:=by
     rcases xp ⇑y 6 with h|h
     .have a:=aEa (x:=y);have b:2^⇑y<=2^6:=nh ⋯ ∅;lia
     .exact h
    show JY (Hk ae (nA (d:=.bl (Zv (m<(⇑(nK y):Int)))) (cK (x:=.int ⇑(nK y)) (y:=.int m) (BG l n rfl) rfl rfl) (by rw[Zx hw];rfl)) (λ_=>?_) λh=>by cases h);show iR (aF (BF y 6)) (dO (x:=aF y) (y:=τ (aQ 0 6)) rfl (Fv (m:=6) ⋯) (K5 n F)) ⟨BF y 6,DY l F,by rw[mY];decide,rfl⟩
   .refine bJ [.ro (.k6 ns),.ro (aB j),.ro (aF y),.ri m] (oN (nA (d:=.bl (Zv (m<(⇑(nK y):Int)))) (cK (x:=.int ⇑(nK y)) (y:=.int m) (BG l n rfl) rfl rfl) (by rw[Zy hw];rfl)) rfl) ?_;show iR (aF y) rfl ⟨y,l,n,rfl⟩
def P9(x:Q0a)(b:Int):List Int:=(row x b).filter λa=>Zv (b<a)
def R8(d:Ord.Rows x){b:Nat}(h:b<⇑x):∀a∈row x (b:Int),0<=a/\a<(⇑x:Int):=d.rng b _ (gA h)
def YC{a b:Nat}:(a &&& b≠0) ↔ ∃i,a.testBit i=ae/\b.testBit i=ae:=by
 constructor
 .intro h;obtain⟨i,d⟩:=Nat.exists_testBit_of_ne_zero h;rw[vj,ij] at d;show⟨i,d⟩
 .rintro ⟨i,j,h2⟩ e;have:=congrArg (λn=>n.testBit i) e;erw[vj,j,h2,Cm,Bool.and_self] at this;cases this
def NK(z:Ord.Rows x){m:Nat}:(!((aQ 0 ⇑x).any λb=>m.testBit b.toNat&&Zv (bT (P9 x b) &&& m≠0)))=lX x (tL m ⇑x):=by
 rw[jk,G7,yl,Dh,Ne,Cw];have key:∀{b:Int},b∈aQ 0 ⇑x->((bT (P9 x b) &&& m≠0) ↔ ∃a∈row x b,b<a/\a∈tL m ⇑x):=λ{b} l=>by
  have y:=aX.1 l;obtain⟨c,rfl⟩:=mn y.1;have p:=R8 z (b:=c) ∅;have v:∀a∈P9 x (c:Int),0<=a:=λa j=>(p a (gi.1 j).1).1;rw[YC]
  constructor
  .rintro ⟨i,A,h2⟩;have:=gi.1 ((bZ v).1 A);show⟨i,this.1,of_decide_eq_true this.2,eV.2 ⟨p _ this.1,h2⟩⟩
  .rintro ⟨a,j,d,n⟩;obtain⟨i,rfl⟩:=mn (p a j).1;show⟨i,(bZ v).2 (gi.2 ⟨j,Zx d⟩),(eV.1 n).2⟩
 constructor
 .intro h b l a j d n;have q:=eV.1 l;have o:b∈aQ 0 ⇑x:=aX.2 ∅;show h ⟨b,o,by rw[ij];show⟨q.2,Zx ((key o).2 ⟨a,j,d,n⟩)⟩⟩
 .rintro h ⟨b,o,l⟩;rw[ij] at l;obtain⟨a,j,d,n⟩:=(key o).1 (of_decide_eq_true l.2);have:=aX.1 o;show h b (eV.2 ⟨∅,l.1⟩) a j d n
def K6{r:Q0e}{n:Nat}(l:n<=9)(h:∀a∈r,0<=a/\a<(n:Int))(nd:r.Nodup){f:EF}{ρ:cN}{nl:Nat}{fr:List Nat}{it:AF}{g:WM}{t:TF}(d:bE nl fr it g t f ρ=ab (.lst (r.map λa=>.int ((2:Int)^a.toNat)))):cL xH (aA (bE nl fr it g t f) aG) ρ=ab (.int (bT r:Int)):=by rw[<- A8 (λa j=>(h a j).1) nd];show cZ (x:=aB (r.map λa:Int=>(2:Int)^a.toNat)) ?_ sum_ints;rw[d];delta aB;rw[dg];rfl
def DZ{a:Int}(h:0<=a)(j:a<9){f:EF}{ρ:cN}(d:f ρ=ab (.int a)):aC C2 (eI 1) f ρ=ab (.int ((2:Int)^a.toNat)):=by obtain⟨c,rfl⟩:=mn h;show binI (x:=((1:Nat):Int)) (y:=(c:Int)) rfl d ?_;rw[A9 ⋯ ∅,BA,gq,Int.natCast_pow];rfl
def BH(o:Ord.Rows x)(J:⇑x<=9):gW [aF x]=.ok (.lst ((cj (2^⇑x)).map λm=>.bl (lX x (tL m ⇑x)))):=by
 have U:2^⇑x<=2^9:=nh ⋯ J
 let j:List Int:=(aQ 0 ⇑x).map λb=>(bT (P9 x b):Int)
 delta gW;show DN rfl ?_;show bJ [.ro (aF x),.ri ⇑x,.no,.no,.no] (fF (.int ⇑x) (cZ (x:=aF x) rfl f9) rfl) ?_;show bJ [.ro (aF x),.ri ⇑x,.ro (aB j),.no,.no] (fF (aB j) ?_ rfl) ?_
 .have O:aB j=.lst ((aQ 0 ⇑x).map λb=>D.int (bT (P9 x b):Int)):=by delta aB;rw[dg];rfl
  rw[O];show dZ ((aQ 0 ⇑x).map D.int) (yI rfl ∅) (by rw[bb,aJ];lia) (bM D.int _ (aQ 0 ⇑x) λb I=>⟨[ab (.int b),ab (aF x)],rfl,?_⟩);have A:=aX.1 I;obtain⟨c,rfl⟩:=mn A.1;have z:=R8 o (b:=c) ∅;have up:(row x (c:Int)).Pairwise (·<·):=o.up c _ (gA ∅);show K6 (n:=⇑x) J (λa v=>z a (gi.1 v).1) ((kr _ up).imp λh=>∅) ?_;show dZ ((row x (c:Int)).map D.int) ?_ ?_ (fQ D.int (λa=>Zv ((c:Int)<a)) (λa=>.int ((2:Int)^a.toNat)) (row x (c:Int)) λa v=>⟨[ab (.int a),ab (.int c)],rfl,nA (d:=.bl (Zv ((c:Int)<a))) (binI (x:=a) (y:=c) rfl rfl rfl) rfl,λ_=>DZ (z a v).1 (by have:=(z a v).2;lia) rfl⟩)
  .delta bV;rw[cK (x:=aF x) (y:=.int c) rfl rfl (GW ∅ ∅)];rfl
  .rw [bb];have:=Ord.Rows.short o (j_ (gA (x:=x) (b:=c) ∅));lia
 show bJ [.ro (aF x),.ri ⇑x,.ro (aB j),.ow (.lst []),.no] rfl ?_;show iQ (λρ=>∃l,ρ=[.ro (aF x),.ri ⇑x,.ro (aB j),.ow (.lst ((cj (2^⇑x)).map λm=>.bl (lX x (tL m ⇑x)))),l]) ?_ λρ ⟨l,e⟩=>?_
 .refine kJ (2^⇑x) (λi ρ=>∃l,ρ=[.ro (aF x),.ri ⇑x,.ro (aB j),.ow (.lst ((cj i).map λm=>.bl (lX x (tL m ⇑x)))),l]) (args1 (binI (x:=((1:Nat):Int)) (y:=(⇑x:Nat)) rfl rfl (by rw[A9 ⋯ ∅,BA]))) ∅ ⟨.no,rfl⟩ (λm ρ X ⟨l,e⟩=>?_) λρ h=>h;subst e;show⟨[.ro (aF x),.ri ⇑x,.ro (aB j),.ow (.lst ((cj m).map λm=>.bl (lX x (tL m ⇑x)))),.ri m],rfl,_,G0 (i:=3) (ds:=(cj m).map λm=>.bl (lX x (tL m ⇑x))) (d:=.bl (lX x (tL m ⇑x))) ?_ rfl (by rw[bb,jt];lia),.ri m,?_⟩
  .have L:cL anyM (aA (bE 1 [4,2] (bG (bO 1)) (g1 0) bQ (kF (aC oM (aC jE (aC M6 cP bY) (eI 1)) (eI 1)) (aC QF (aC jE (aC eB fH bY) cP) (eI 0)))) aG) (gI [.ro (aF x),.ri ⇑x,.ro (aB j),.ow (.lst ((cj m).map λm=>.bl (lX x (tL m ⇑x)))),.ri m])=ab (.bl ((aQ 0 ⇑x).any λb=>m.testBit b.toNat&&Zv (bT (P9 x b) &&& m≠0))):=by
    show cZ (x:=.lst (((aQ 0 ⇑x).map λb=>m.testBit b.toNat&&Zv (bT (P9 x b) &&& m≠0)).map D.bl)) ?_ ?_
    .rw [dg];show dZ ((aQ 0 ⇑x).map D.int) (yI rfl ∅) (by rw[bb,aJ];lia) (bM D.int _ (aQ 0 ⇑x) λb I=>⟨[ab (.int b),ab (.int m),ab (aB j)],rfl,?_⟩);have A:=aX.1 I;obtain⟨c,rfl⟩:=mn A.1;show _=ab (D.bl (m.testBit ((c:Int)).toNat&&Zv (bT (P9 x (c:Int)) &&& m≠0)));rw[gq];show Am (p:=m.testBit c) ?_ (λF=>?_) λF=>by rw[F];rfl
     .refine binI (x:=(if m.testBit c=ae then 1 else 0)) (y:=1) (Fx rfl rfl) rfl ?_;cases m.testBit c<;>rfl
     .rw [F,ny];have K:aC eB fH bY [ab (.int (c:Int)),ab (.int m),ab (aB j)]=ab (.int ((bT (P9 x (c:Int)):Nat):Int)):=by show cK (x:=aB j) (y:=.int c) rfl rfl ?_;delta aB;rw[jF];show gT ?_;show((aQ 0 ⇑x).map λb=>(bT (P9 x b):Int))[c]?=_;rw[c_,fJ ∅,ju];rfl
      show binI (x:=((bT (P9 x (c:Int)) &&& m:Nat):Int)) (y:=0) (cK K rfl (lW _ _)) rfl ?_;generalize bT (P9 x (c:Int)) &&& m=q;rw[mR];cases q<;>rfl
    .rw [JX,Cv];rfl
   delta qH;rw[L,<- NK o];rfl
  .rw [Cq,h_];rfl
 .subst e;show iR _ rfl rfl
theorem R9:∀{a c:Q0e},⇑a=⇑c->(eM a c).dropLast=eM a.dropLast c
 |[],[],_=>rfl
 |[_],[_],_=>rfl
 |a::j::l,c::d::m,h=>by have n:=R9 (a:=j::l) (c:=d::m) ↑h;show(a+c)::(eM (j::l) (d::m)).dropLast=(a+c)::eM (j::l).dropLast (d::m);rw[n]
 |[],_::_,h=>by simp at h
 |_::_,[],h=>by simp at h
 |[_],_::_::_,h=>by simp at h
 |_::_::_,[_],h=>by simp at h
def YD{a c:Q0e}(h:⇑a=⇑c):eM (eO a) (0::c)=eO (eM a c):=by show(0+0:Int)::eM a.dropLast c=0::(eM a c).dropLast;rw[R9 h];rfl
def YE{S T:Q0e}(d:∀a∈S,0<=a)(l:∀a∈T,0<=a)(h:k9 T S=ae):bT S ^^^ bT T=bT (fW S T):=by have m:∀a∈fW S T,0<=a:=λa j=>d a (b7.1 j).1;apply qo;intro i;rw[Nat.testBit_xor,jk,bZ m,b7];have a:=bZ (i:=i) d;have b:=bZ (i:=i) l;have c:=j3.1 h (i:Int);cases h1:(bT S).testBit i<;>cases h2:(bT T).testBit i<;>erw[h1,h2] at a b<;>simp_all
def hel(x:Q0a):List Int:=(cM x).map λS=>(bT S:Int)
def n9(x:Q0a):D:=.lst ((cj (2^⇑x)).map λm=>.bl (lX x (tL m ⇑x)))
def fE(x:Q0a):D:=.tup ((cM x).map (xG x))
def vK{i:Nat}{S:Q0e}(a:(cM x)[i]?=ab S){ρ:cN}{j:Nat}(e1:bF 1 ρ=ab (aB (hel x)))(d:bF j ρ=ab (.int (i:Int))):aC eB cP (bF j) ρ=ab (.int ((bT S:Nat):Int)):=by show cK (x:=aB (hel x)) (y:=.int i) e1 d ?_;show sQ ((hel x).map D.int) (i:Int)=_;show gT ?_;delta hel;rw[c_,a];rfl
def BI{i:Nat}{S:Q0e}(a:(cM x)[i]?=ab S):eB (fE x) (.int (i:Int))=ab (xG x S):=by delta fE;rw[oV];show mT ?_;rw[c_,a];rfl
def tU{i:Nat}{S:Q0e}(a:(cM x)[i]?=ab S){ρ:cN}{j k:Nat}(e1:bF k ρ=ab (fE x))(d:bF j ρ=ab (.int (i:Int))):aC eB (aC eB (bF k) (bF j)) (eI 1) ρ=ab (τ (fX x S)) :=
 cK (x:=xG x S) (y:=.int 1) (cK (x:=fE x) (y:=.int i) e1 d (BI a)) rfl rfl
def YF{m:Nat}(a:m<2^⇑x):eB (n9 x) (.int (m:Int))=ab (.bl (lX x (tL m ⇑x))):=by delta n9;rw[jF];show mT ?_;rw[c_,qr a];rfl
def YG{a b:Q0e}(h:⇑a<=1000){f g:EF}{ρ:cN}(j:f ρ=ab (aB a))(d:g ρ=ab (τ b))(l:benv 2 [] ρ=[af,af]):bE 2 [] (AL (aA f (aA g aG))) (g2 0 1) bQ (aC dH bY cP) ρ=ab (aB (eM a b)):=by
 delta eM;show dZ ((a.zip b).map λp=>D.tup [.int p.1,.int p.2]) ?_ ?_ ?_
 .delta AL;rw[args2 (x:=aB a) (y:=τ b) j d];show ab (((a.map D.int).zip (b.map D.int)).map _)=_;rw[Ke,dg];rfl
 .rw [bb,Kt];lia
 .rw [l,bM (λp:Int×Int=>D.tup [.int p.1,.int p.2]) (λp=>.int (p.1+p.2)) (a.zip b) λp _=>⟨[ab (.int p.1),ab (.int p.2)],rfl,rfl⟩,dg];rfl
def sW(x:Q0a)(S:Q0e)(k:Nat):List Int:=((((cM x).take k).map λT=>(T,fX x T)).foldl (l6 x S) (([],[]),cg (⇑x+1) 0)).2
def BJ(S:Q0e)(k:Nat):⇑(sW x S k)=⇑x+1:=(fold_at (x:=x) S (ic _) ((cM x).take k) (([],[]),cg (⇑x+1) 0) (by simp)).2
theorem aBs{S T:Q0e}{k:Nat}(a:(cM x)[k]?=ab T):sW x S (k+1)=if(k9 T S&&lX x (fW S T))=ae then eM (sW x S k) (fX x T) else sW x S k:=by
 delta sW;rw[xt,a,h_,a2m];generalize (((cM x).take k).map λT=>(T,fX x T)).foldl (l6 x S) (([],[]),cg (⇑x+1) 0)=s;show(l6 x S s (T,fX x T)).2=_;delta l6;dsimp only
 cases k9 T S with
 |false=>rfl
 |true =>
  rw[ny,Z_ rfl]
def BK(p:Ord.Rows x)(J:⇑x<=9){i:Nat}{S:Q0e}(j:(cM x)[i]?=ab S)(F:S≠[]):gX [n9 x,aB (hel x),fE x,.int i]=.ok (.bl ae):=by
 have q:=(g6 p).1 (j_ j);have z:∀a∈S,0<=a:=λa n=>(q.2 a n).1.1;have O:=(de.1 j).1;have U:⇑(cM x)<=512:=by rw[pL];show vF J
 delta gX;show DN rfl ?_;show bJ [.ro (n9 x),.ro (aB (hel x)),.ro (fE x),.ri i,.ro (aB (eO (sW x S 0))),.no] (fF _ (cK (x:=.lst [.int 0]) (y:=.int ((⇑x+1:Nat):Int)) rfl (cZ (x:=τ (fX x S)) (tU j rfl rfl) (by delta τ;rw[fI,bb,fM])) ((rep0 (⇑x+1) ∅).trans ?_)) rfl) ?_
 .show ab (aB (cg (⇑x+1) 0))=ab (aB (eO (cg (⇑x+1) 0)));delta eO;rw[a2a,a2u,<- a2a];rfl
 show iQ (λρ=>∃m,ρ=[.ro (n9 x),.ro (aB (hel x)),.ro (fE x),.ri i,.ro (aB (eO (sW x S i))),m]) ?_ λρ ⟨m,e⟩=>?_
 .refine kJ i (λk ρ=>∃m,ρ=[.ro (n9 x),.ro (aB (hel x)),.ro (fE x),.ri i,.ro (aB (eO (sW x S k))),m]) rfl ∅ ⟨.no,rfl⟩ (λk ρ L ⟨m,e⟩=>?_) λρ h=>h;subst e;obtain⟨T,l⟩:∃T,(cM x)[k]?=ab T:=⟨_,cn ∅⟩;have dT:=(g6 p).1 (j_ l);have v:∀a∈T,0<=a:=λa n=>(dT.2 a n).1.1;show⟨[.ro (n9 x),.ro (aB (hel x)),.ro (fE x),.ri i,.ro (aB (eO (sW x S k))),.ri k],rfl,?_⟩;rw[aBs l];show uX (k9 T S&&lX x (fW S T)) (aEP (b:=k9 T S) ?_ (λo=>?_) λo=>by rw[o];rfl) (λI=>?_) λK=>nW ⟨.ro (.int k),by rw[Zz (by rw[K];decide)]⟩
  .refine nA (d:=.bl (Zv (((bT T &&& bT S:Nat):Int)=(bT T:Int)))) (binI (x:=((bT T &&& bT S:Nat):Int)) (y:=(bT T:Int)) (binI (x:=(bT T:Int)) (y:=(bT S:Int)) (vK l rfl rfl) (vK j rfl rfl) (lW _ _)) (vK l rfl rfl) rfl) ?_;show ab (Zv (((bT T &&& bT S:Nat):Int)=(bT T:Int)))=ab (k9 T S);congr 1;rw[jk,decide_eq_true_eq,<- K1 z v];show Int.ofNat_inj
  .rw [o,ny];have A:∀a∈fW S T,0<=a/\a<(⇑x:Int):=λa n=>(q.2 a (b7.1 n).1).1;show nA (d:=.bl (lX x (fW S T))) (cK (x:=n9 x) (y:=.int ((bT (fW S T):Nat):Int)) rfl (binI (x:=(bT S:Int)) (y:=(bT T:Int)) (vK j rfl rfl) (vK l rfl rfl) (by rw[RJ,YE z v o])) ?_) rfl;rw[YF (G9 A),R4 (S:=fW S T) (kr _ q.1) A]
  .rw [Z_ I];show lQ (aB (eO (eM (sW x S k) (fX x T)))) ?_ ⟨.ro (.int k),rfl⟩;rw[<- YD (by rw[BJ,fM])];show YG (by rw[fR (by rw[BJ];lia),BJ];lia) rfl (cK (x:=.tup [.int 0]) (y:=τ (fX x T)) rfl (tU l rfl rfl) ?_) rfl;delta τ;rw[C6 (by rw[bb,fM];show 1+(⇑x+1)<=_;lia)];rfl
 .subst e;show iR (.bl ae) (cK (x:=aB (fX x S)) (y:=aB (fX x S)) (cZ (x:=τ (fX x S)) (tU j rfl rfl) rfl) ?_ ?_) rfl
  .show ab (aB (eO (sW x S i)))=_;rw[show eO (sW x S i)=fX x S from R7 p j F ([],[])]
  .delta QN aB M4;dsimp only;rw[bP];show ab (D.bl (Zv (fX x S=fX x S)))=_;rw[Zx rfl]
theorem YH(a:Ord.Rows x):(cM x)[0]?=ab []:=by
 have h:=(g6 a).2 (G8 (x:=x));have u:=R6 (x:=x)
 cases e:cM x with
 |nil=>rw[e] at h;cases h
 |cons A l =>
  rw[e] at h u;rcases bu.1 h with z|z
  .rw [<- z];rfl
  .have:=(f_.1 u).1 _ z;rw[lj] at this;rw[La (show ⇑A=0 by lia)];rfl
def YI(d:Ord.Rows x):∃l,cM x=l++[aQ 0 ⇑x]:=by
 have h:=(g6 d).2 (KY d);have u:=R6 (x:=x);rcases a2s (cM x) with e|⟨l,A,e⟩
 .rw [e] at h;cases h
 .refine ⟨l,?_⟩;rw[a2w] at e;have j:DS x A:=(g6 d).1 (by rw[e];show ir _ cz);rw[e] at h u;rcases ie.1 h with z|z
  .have a:=(xx.1 u).2.2 _ z A cz;rw[aJ] at a;rw[e,KZ j (Nat.le_antisymm (DT j) a)]
  .rw [e,dh.1 z]
def NL(d:Ord.Rows x):kL x=fX x (aQ 0 ⇑x):=by
 show qa λj=>?_;rcases xp ⇑x j with h|h
 .rw [ig (by rw[K25.nJ];lia),ig (by rw[fM];lia)]
 .rw [R1 d R5 (λa=>g6 d) h];delta fX;rw[c_,qr ∅];rfl
def yU{l:Q0e}(h:⇑l<=1000):GV 6 (τ l):=⟨by rw[bb];lia,λd a=>by obtain⟨i,_,rfl⟩:=gx.1 a;show trivial⟩
def YJ{l m:Q0e}:GR (aB l) (aB m)=ab (.bl (!Zv (l=m))):=by delta GR aB M4;dsimp only;rw[bP,bP];rfl
def vL:cJ [fE x]=ab (.int (⇑(cM x):Int)):=by delta fE;rw[fI,bb]
abbrev S8(ns:Q0e)(x:Q0a)(d a v6 v7:Sv):bC:=[.ro (.k6 ns),.ro (aF x),.ro (.lst ((cM x).map τ)),.ro (fE x),d,a,v6,v7]
def SA(ns:Q0e)(X:⇑ns<=63):yT [.k6 ns]=.ok (.bl ae):=by
 obtain⟨_,Z,x,p,q,rfl⟩:=vJ ns;have dl:⇑(cM x)<=512:=by rw[pL];show vF q
 have F:=YH p;have dl1:0<⇑(cM x):=(de.1 F).1;delta yT;show DN rfl ?_;show bJ [.ro (.k6 ns),.ro (aF x),.no,.no,.no,.no,.no,.no] (fF (aF x) (fG rfl Z) rfl) ?_;show bJ [.ro (.k6 ns),.ro (aF x),.ro (.lst ((cM x).map τ)),.no,.no,.no,.no,.no] (fF _ (fG (x:=aF x) rfl (DR p q)) rfl) ?_;show bJ (S8 ns x .no .no .no .no) (fF (fE x) (fG (x:=aF x) rfl (vB p q)) rfl) ?_;show bJ (S8 ns x .no .no .no .no) (oN (XH (b:=ag) (tnE (b:=ae) (nA (d:=.bl ae) (isi (d:=fE x) rfl) rfl) rfl) (λ_=>nA (d:=.bl ag) (cK (x:=.int ⇑(cM x)) (y:=.int ⇑(cM x)) (cZ (x:=fE x) rfl vL) (cZ (x:=.lst ((cM x).map τ)) rfl (by rw[lP,bb])) (by rw[mR,Zx rfl];rfl)) rfl) λh=>by cases h) rfl) ?_;show iQ (λρ=>∃o,ρ=S8 ns x o .no .no .no) ?_ λρ ⟨o,e⟩=>?_
 .refine kJ ⇑(cM x) (λi ρ=>∃o,ρ=S8 ns x o .no .no .no) (args1 (cZ (x:=fE x) rfl vL)) ∅ ⟨.no,rfl⟩ (λi ρ J ⟨o,e⟩=>?_) λρ h=>h;subst e;obtain⟨S,m⟩:∃S,(cM x)[i]?=ab S:=⟨_,cn J⟩;have v:=(g6 p).1 (j_ m);have lS:=DT v;have L:∀{O v6 v7:Sv},aC eB m7 i9 (bL (S8 ns x (.ro (.int i)) O v6 v7))=ab (xG x S):=λ{O v6 v7}=>cK (x:=fE x) (y:=.int i) rfl rfl (BI m);show⟨S8 ns x (.ro (.int i)) .no .no .no,rfl,?_⟩;show kH (S8 ns x (.ro (.int i)) .no .no .no) (oN (XH (b:=ag) (tnE (b:=ae) (nA (d:=.bl ae) (isi (d:=xG x S) L) rfl) rfl) (λ_=>XH (b:=ag) (nA (d:=.bl ag) (binI (x:=2) (y:=2) (cZ (x:=xG x S) L rfl) rfl rfl) rfl) (λ_=>tnE (b:=ae) (nA (d:=.bl ae) (dO (x:=τ S) (y:=τ S) (cK (x:=xG x S) (y:=.int 0) L rfl rfl) (cK (x:=.lst ((cM x).map τ)) (y:=.int i) rfl rfl ?_) (same_refl 6 _ (yU ∅))) rfl) rfl) λh=>by cases h) λh=>by cases h) rfl) ?_
  .rw [jF];show mT ?_;rw[c_,m];rfl
  .refine ⟨_,oN (tnE (b:=ae) (nA (d:=.bl ae) (dO (x:=τ (fX x S)) (y:=.int (⇑(fX x S):Int)) (tU m rfl rfl) (binI (x:=⇑x) (y:=1) (cZ (x:=aF x) rfl f9) rfl (by rw[fM];rfl)) (K25.RL (by rw[fM];lia))) rfl) rfl) rfl,.ri i,rfl⟩
 subst e;show bJ (S8 ns x o .no .no .no) (oN (nA (d:=.bl ag) (cK (x:=aB (fX x [])) (y:=aB (fX x [])) (cZ (x:=τ (fX x [])) (cK (x:=xG x []) (y:=.int 1) (cK (x:=fE x) (y:=.int ((0:Nat):Int)) rfl rfl (BI F)) rfl rfl) rfl) (cK (x:=.lst [.int 1]) (y:=aB (cg ⇑x 0)) rfl (cK (x:=.lst [.int 0]) (y:=.int ⇑x) rfl (cZ (x:=aF x) rfl f9) (rep0 ⇑x ∅)) ?_) (by rw[YJ,Zx rfl];rfl)) rfl) rfl) ?_
 .delta aB;rw[oX (by rw[bb,p_];show 1+⇑x<=_;lia),K3];rfl
 show bJ (S8 ns x o (.ro (n9 x)) .no .no) (fF (n9 x) (fG (x:=aF x) rfl (BH p q)) rfl) ?_;show bJ (S8 ns x o (.ro (n9 x)) (.ro (aB (hel x))) .no) (fF (aB (hel x)) ?_ rfl) ?_
 .have e5:aB (hel x)=.lst ((cM x).map λS=>D.int (bT S:Int)):=by delta aB hel;rw[dg];rfl
  rw[e5];show dZ ((cM x).map τ) rfl (by rw[bb];lia) (bM τ _ (cM x) λS m=>⟨[ab (τ S)],rfl,?_⟩);have v:=(g6 p).1 m;have lS:=DT v;show K6 (n:=⇑x) q (λa I=>(v.2 a I).1) (v.1.imp λh=>∅) ?_;show dZ (S.map D.int) rfl (by rw[bb];lia) (bM D.int _ S λa I=>⟨[ab (.int a)],rfl,DZ (v.2 a I).1.1 (by have:=(v.2 a I).1.2;lia) rfl⟩)
 show iQ (λρ=>∃v7,ρ=S8 ns x o (.ro (n9 x)) (.ro (aB (hel x))) v7) ?_ λρ ⟨v7,e⟩=>?_
 .refine qV ((aQ 1 (⇑(cM x)-1)).map D.int) (λi ρ=>∃v7,ρ=S8 ns x o (.ro (n9 x)) (.ro (aB (hel x))) v7) ?_ ⟨.no,rfl⟩ (λi d ρ K Y=>?_) λρ h=>h
  .rw [aEO (i:=1) (j:=(⇑(cM x):Int)) rfl (cZ (x:=fE x) rfl vL) ⋯ ∅];rw[show((⇑(cM x):Int)-1).toNat=⇑(cM x)-1 by lia]
  .obtain ⟨v7,rfl⟩:=Y;have J:i<⇑(cM x)-1:=by
    have:=(de.1 K).1
    rwa [bb,aJ] at this
   rw[c_,fJ J] at K;obtain⟨S,m⟩:∃S,(cM x)[i+1]?=ab S:=⟨_,cn ∅⟩;have U:S≠[]:=λe=>by
    subst e;have nd:=R5 (x:=x)
    cases e:cM x with
    |nil=>rw[e] at m;cases m
    |cons A t =>
     rw[e] at m F nd;rw[kg] at m;cases F;show(kq.1 nd).1 (j_ m)
   have ed:d=.int ((i+1:Nat):Int):=by cases K;congr 1;lia
   subst ed;show⟨S8 ns x o (.ro (n9 x)) (.ro (aB (hel x))) (.ro (.int ((i+1:Nat):Int))),rfl,_,oN (tnE (b:=ae) (nA (d:=.bl ae) (QW (x:=n9 x) (y:=aB (hel x)) (z:=fE x) (w:=.int ((i+1:Nat):Int)) rfl rfl rfl rfl (BK p q m U)) rfl) rfl) rfl,.ro (.int ((i+1:Nat):Int)),rfl⟩
 subst e;obtain⟨l,el⟩:=YI p;show iR (.bl ae) (dO (x:=τ (kL x)) (y:=τ (kL x)) (fG (x:=aF x) rfl (RG q (RP p q))) ?_ (same_refl 6 _ (yU (by rw[K25.nJ];lia)))) rfl;show cK (x:=xG x (aQ 0 ⇑x)) (y:=.int 1) (cK (x:=fE x) (y:=.int (-1)) rfl rfl ?_) rfl ?_
 .delta fE;rw[el,h_];show X0
 .rw [NL p];rfl
end
end K28
section
-- CHANGE: your row's module here,as the last of these rows
namespace L2
open PySem.Spec PyProof.Rows
abbrev Key:=Sum Int aj
noncomputable def yV:Key->ai->Bool
 |.inl k,v=>a0V k v
 |.inr x,v=>a0U x v
noncomputable def Vp(w:bg):Key->Int
 |.inl k=>hashInt k
 |.inr x=>hashStr w x
theorem cB:∀{k:Key} {v:ai},yV k v=ae->(∃i t,k=dq i/\v=oj i t)\/(∃x t,k=ki x/\v=Bm x t)
 |.inl i,v,h=>by obtain⟨t,e⟩:=Value.isInt_shape (k:=i) (v:=v) h;show .inl ⟨i,t,rfl,e⟩
 |.inr x,v,h=>by obtain⟨t,e⟩:=Value.isStrOf_shape (x:=x) (v:=v) h;show .inr ⟨x,t,rfl,e⟩
def NM(i:Int)(t:iz):yV (.inl i) (.int i t)=ae:=by simp[yV,a0V]
def NN(x:aj)(t:iz):yV (.inr x) (.str x t)=ae:=by simp[yV,a0U]
def aBt(a b:Int):Zv ((dq a:Key)=dq b)=(a == b):=by
 by_cases e:a=b
 .subst e;simp
 .have h:¬ (dq a:Key)=dq b:=λq=>e (uo q);rw[Zy h];show(beq_eq_false_iff_ne.mpr e).symm
def aBu(a b:aj):Zv ((ki a:Key)=ki b)=Zv (a=b):=by
 by_cases e:a=b
 .subst e;simp
 .have h:¬ (ki a:Key)=ki b:=λq=>e (Hq q);rw[Zy h,Zy e]
def aBv(a:Int)(b:aj):Zv ((dq a:Key)=ki b)=ag:=Zy (λq=>nomatch q)
def aBw(a:aj)(b:Int):Zv ((ki a:Key)=dq b)=ag:=Zy (λq=>nomatch q)
def aW(Ω:bh)(w:bg):PySem.KeyKind Ω w Key where
 is:=yV
 hash:=Vp w
 inj:=λv a b n l=>by
  rcases cB n with⟨i,t,rfl,rfl⟩|⟨x,t,rfl,rfl⟩
  .rcases cB l with⟨j,u,rfl,e⟩|⟨y,u,rfl,e⟩
   .injection e with e1 _;rw[e1]
   .exact nomatch e
  .rcases cB l with⟨j,u,rfl,e⟩|⟨y,u,rfl,e⟩
   .exact nomatch e
   .injection e with e1 _;rw[e1]
 byValue:=λk v h=>by rcases cB h with⟨i,t,rfl,rfl⟩|⟨x,t,rfl,rfl⟩<;>rfl
 pyHash:=λd h=>by
  rcases cB d with⟨i,t,rfl,rfl⟩|⟨x,t,rfl,rfl⟩
  .exact wpAny_pyHash_int h
  .exact wpAny_pyHash_str h
 eqBool:=λm d h=>by
  rcases cB m with⟨i,t,rfl,rfl⟩|⟨x,t,rfl,rfl⟩
  .rcases cB d with⟨j,u,rfl,rfl⟩|⟨y,u,rfl,rfl⟩
   .rw [aBt] at h;show a0p h
   .rw [aBv] at h;show a0Y i t y u _ _ _ _ h
  .rcases cB d with⟨j,u,rfl,rfl⟩|⟨y,u,rfl,rfl⟩
   .rw [aBw] at h;show a0X x t j u _ _ _ _ h
   .rw [aBu] at h;show wpAny_eqBool_str h
 «strs»:=λk x t v h=>by
  rcases cB h with⟨i,u,rfl,e⟩|⟨y,u,rfl,e⟩
  .exact nomatch e
  .injection e with e1 _;subst e1;cases v<;>rfl
def D0(Ω:bh)(w:bg)(i:Int)(t:iz):(aW Ω w).is (.inl i) (.int i t)=ae:=NM i t
def EA(Ω:bh)(w:bg)(x:aj)(t:iz):(aW Ω w).is (.inr x) (.str x t)=ae:=NN x t
abbrev N1:=List (Sum Key (List Key))
abbrev KX:=Sum Key N1
section
variable{Ω:bh}{w:bg}{K:Type}[dK:DecidableEq K](knd:KeyKind Ω w K)
noncomputable def oA(h:a_):Sum K (List K)->ai->Prop
 |.inl k,v=>knd.is k v=ae
 |.inr ks,v=>∃b,v=.ref b/\IsTupleKey knd h ks b
inductive gB (h:a_):List (Sum K (List K))->List ai->Prop
 |nil:gB h [] []
 |cons {k:Sum K (List K)} {v:ai} {ks:List (Sum K (List K))} {vs:Q0f}:oA knd h k v->gB h ks vs->gB h (k::ks) (v::vs)
def gM(h:a_)(ks:List (Sum K (List K)))(a:ah):Prop:=∃o items n,h.get? a=ab o/\o.cls=.type "tuple" /\o.data=.seq items n/\gB knd h ks items.toList
variable{knd}
theorem oA.inj{h:a_}{v:ai}:∀{x y:Sum K (List K)},oA knd h x v->oA knd h y v->x=y
 |.inl a,.inl b,hx,hy=>by rw[knd.inj _ _ _ hx hy]
 |.inl a,.inr b,hx,⟨q,e,_⟩=>by subst e;show Zw (knd.byValue _ _ hx) (by simp[carriedByValue])
 |.inr a,.inl b,⟨q,e,_⟩,hy=>by subst e;show Zw (knd.byValue _ _ hy) (by simp[carriedByValue])
 |.inr a,.inr b,⟨q,e,hx⟩,⟨r,f,hy⟩=>by subst e;injection f with f;subst f;rw[hx.inj hy]
theorem gB.inj{h:a_}{x:List (Sum K (List K))}{vs:Q0f}(d:gB knd h x vs):∀{y},gB knd h y vs->x=y:=by
 induction d with
 |nil=>intro y a;cases a;rfl
 |cons h1 _ ih =>
  intro y a
  cases a with
  |cons h2 t2=>rw[h1.inj h2,ih t2]
def gM.typeIs{s:ak}{ks:List (Sum K (List K))}{a:ah}(x:gM knd s.heap ks a):s.TypeIs (.ref a) "tuple":=let ⟨o,_,_,ho,hc,_⟩:=x;⟨o,ho,hc⟩
def gM.inj{h:a_}{a:ah}{x y:List (Sum K (List K))}(p:gM knd h x a)(m:gM knd h y a):x=y:=by obtain⟨o,z,n,ho,_,v,q⟩:=p;obtain⟨A,its',F,d,_,j,l⟩:=m;rw[ho] at d;cases d;rw[v] at j;cases j;show q.inj l
theorem gM.keeps{es ep}(x:gM knd h ks a)(ho:h.get? d=ab o)(l:o.data=.dict es ep)(m:r9 d h h'):gM knd h' ks a:=by
 obtain⟨q,items,n,p,F,y,j⟩:=x;have A:a≠d:=λz=>by subst z;rw[p] at ho;cases ho;rw[y] at l;cases l
 show⟨q,items,n,(m.2 a A).trans p,F,y,?_⟩;have go:∀{ks:List (Sum K (List K))} {vs:Q0f},gB knd h ks vs->gB knd h' ks vs:=by
  intro ks vs t
  induction t with
  |nil=>show .nil
  | @cons k v ks vs h1 _ ih =>
   show .cons ?_ ih
   cases k with
   |inl k=>show h1
   |inr k=>obtain⟨b,e,I⟩:=h1;show⟨b,e,I.keeps ho l m⟩
 show go j
noncomputable def pN(knd:KeyKind Ω w K):Sum K (List K)->Int
 |.inl k=>knd.hash k
 |.inr ks=>tupleKeyHash knd ks
noncomputable def j4:Sum K (List K)->Nat
 |.inl _=>1
 |.inr ks=>⇑ks+1
def vM(knd:KeyKind Ω w K)(ks:List (Sum K (List K))):Int:=reduceHash (a1l (ks.map (pN knd)))
def mZ(ks:List (Sum K (List K))):Nat:=(ks.map j4).sum+1
variable{s:ak}{A:bt}{E:Q0c}
theorem NO(d:A.units<di)(a:oA knd s.heap k v)(h:Q (pN knd k) {s with toks:=s.toks+j4 k}):ax (au Ω w) A (pyHash v) Q E s:=by
 cases k with
 |inl k=>show knd.pyHash a h
 |inr k =>
  obtain⟨b,e,j⟩:=a;subst e;show wpAny_pyHash_tuple d j h
def vN(x:IsTupleKey knd h ks b):∃items,h.IsTuple b items:=by obtain⟨o,items,n,ho,d,a,_⟩:=x;show⟨items,o,ho,d,n,a⟩
end
section
variable{P:bh}{w:bg}{A:bt}{E:Q0c}{s:ak}
theorem YK(j:A.units<di)(n:oA (aW P w) s.heap x u)(m:oA (aW P w) s.heap y v)(h:Q (Zv (x=y)) s):ax (au P w) A (eqBool u v) Q E s:=by
 cases x with
 |inl x =>
  cases y with
  |inl y =>
   show(aW P w).eqBool n m ?_;rw[show Zv (x=y)=Zv ((dq x:Sum Key (List Key))=dq y) by simp];show h
  |inr y =>
   obtain⟨b,e,d⟩:=m;subst e;obtain⟨o,d⟩:=vN d;rw[show Zv ((dq x:Sum Key (List Key))=ki y)=ag by simp] at h;rcases cB n with⟨i,t,rfl,rfl⟩|⟨i,t,rfl,rfl⟩
   .exact a3b i t d j P w E Q h
   .exact a24 i t d j P w E Q h
 |inr x =>
  obtain⟨a,e,l⟩:=n;subst e
  cases y with
  |inl y =>
   obtain⟨o,l⟩:=vN l;rw[show Zv ((ki x:Sum Key (List Key))=dq y)=ag by simp] at h;rcases cB m with⟨i,t,rfl,rfl⟩|⟨i,t,rfl,rfl⟩
   .exact a23 i t l j P w E Q h
   .exact a22 i t l j P w E Q h
  |inr y =>
   obtain⟨b,e,d⟩:=m;subst e;show wpAny_eqBool_tuple j l d ?_;rw[show Zv (x=y)=Zv ((ki x:Sum Key (List Key))=ki y) by simp];show h
theorem yW:∀(a:Q0f) (left:List (Sum Key (List Key))) (b:Array Int) (s:ak) (R:Array Int->ak->Prop),A.units<di->gB (aW P w) s.heap left a ->
  (∀d:Array Int,d.toList=b.toList++left.map (pN (aW P w))->R d {s with toks:=s.toks+(left.map j4).sum}) ->
  ax (au P w) A (forIn a b λx r=>do
   let r' <- pyHash x
   pure (qb (r.push r'))) R E s
 |[],left,b,s,R,hu,t,k=>by cases t;show az (k b (by simp))
 |v::a,left,b,s,R,hu,t,k=>by
  cases t with
  | @cons kk _ ks _ h1 h2 =>
   rw[oy];show ao (ao (NO hu h1 (az ?_)));show yW a ks _ _ _ hu h2 λd e=>?_;have:=k d (by rw[e];simp);simpa[Kd] using this
def NP{ks:List (Sum Key (List Key))}{a:ah}{Q:Int->ak->Prop}(q:A.units+1<di)(m:gM (aW P w) s.heap ks a)(h:Q (vM (aW P w) ks) {s with toks:=s.toks+mZ ks}):ax (au P w) A (pyHash (.ref a)) Q E s:=by
 have j:=m.typeIs;obtain⟨o,p,n,ho,_,x,v⟩:=m;have d:=F.slot_tuple_hash;delta pyHash pyHashByItsType
 wp_walk using wpAny_cRoomFor_or (.inr ∅),Hw j d.lookup,(wpAny_callSpecialIfBoundUnlessNone?_slot j d (jw d j F.entry_tuple_hash ?_ (F.args_tuple_hash_1 _)))
 rw[x];show az (az (ao ?_));rw[<- a2T];show yW p.toList ks #[] s _ q v λb y=>?_;dsimp only;rw[y,vq];delta vM reduceHash at h;show wpAny_ret_mkInt ?_;have I:s.toks+(ks.map j4).sum+1=s.toks+mZ ks:=by delta mZ;lia
 show ax (au P w) A (pyHashByItsType.reduced _) Q E {s with toks:=s.toks+(ks.map j4).sum+1};rw[I];delta pyHashByItsType.reduced;generalize a1l (ks.map (pN (aW P w)))=z at h ⊢;by_cases l:(Zv (-(2^63:Int)<=z)&&Zv (z<2^63))=ae
 .rw [Z_ l] at h ⊢;show az h
 .rw [Zz l] at h ⊢;show ao (je ?_);show az h
theorem eq_loop:∀(x y:List (Sum Key (List Key))) (xs ys:Q0f) (R:Option Fin×Unit->ak->Prop),A.units<di->gB (aW P w) s.heap x xs->gB (aW P w) s.heap y ys ->
  (x≠y->R (ab (.done (.ret (.bool ag))),()) s)->((x=y↔⇑xs=⇑ys)->R (af,()) s) ->
  ax (au P w) A (forIn (xs.zip ys) ((af,()):Option Fin×Unit) λp _=>do
   let c <- eqBool p.1 p.2
   if(!c)=ae then do
    let q <- ret (w_ ag)
    pure (a2I (ab q,()))
   else pure (qb (af,()))) R E s
 |[],y,xs,ys,R,hu,hx,hy,k1,k2=>by cases hx;show az (k2 ?_);cases hy<;>simp
 |kx::x,[],xs,ys,R,hu,hx,hy,k1,k2=>by cases hx;cases hy;show az (k2 (by simp))
 |kx::x,ky::y,xs,ys,R,hu,hx,hy,k1,k2=>by
  cases hx with
  | @cons _ u _ xs hx1 hx2 =>
   cases hy with
   | @cons _ v _ ys hy1 hy2 =>
    rw[Kf,oy];show ao (ao (YK hu hx1 hy1 ?_));by_cases a:kx=ky
    .subst a;rw[Zx rfl,Zz ⋯];show az (eq_loop x y xs ys R hu hx2 hy2 (λn=>k1 ↑n) λe=>k2 ?_);simpa using e
    .rw [Zy a,Z_ ⋯];show ao (az (az (az (k1 (by simp[a])))))
def YL{x y:List (Sum Key (List Key))}{a b:ah}{Q:Bool->ak->Prop}(U:A.units+1<di)(l:gM (aW P w) s.heap x a)(j:gM (aW P w) s.heap y b)(h:Q (Zv (x=y)) s):ax (au P w) A (eqBool (.ref a) (.ref b)) Q E s:=by
 have L:=l.typeIs;have ty:=j.typeIs;have O:=a03;by_cases d:a=b
 .subst d;rw[l.inj j,Zx rfl] at h;show Ir _ P w E Q h
 .obtain ⟨Z,xs,na,p,_,K,I⟩:=l;obtain⟨Y,ys,nb,o,_,J,v⟩:=j;delta eqBool;rw[Zz ↑d];have m:A.units<di:=∅
  apply i_;apply ao;show(wpAny_richCompare_same_room (op:=.Eq) L ty O (jw O L F.entry_tuple_eq ?_ (F.args_tuple_eq_2 _ _)) m);delta Builtin.«tuple.__eq__»
  wp_walk using Bb ty a0y,a0b p K,a0b o J
  show eq_loop x y xs.toList ys.toList _ U I v (λn=>?_) λe=>?_
  .rw [Zy n] at h;show az ⟨_,rfl,(λz=>nomatch z),mr h⟩
  .refine az ⟨_,rfl,(λz=>nomatch z),?_⟩;have X:(xs.size == ys.size)=Zv (x=y):=by
    by_cases q:x=y
    .rw [Zx q];simpa using e.1 q
    .rw [Zy q];simpa using λz=>q (e.2 z)
   show ax (au P w) A (truthOfDropped (.bool (xs.size == ys.size))) Q E s;rw[X];show mr h
theorem vO:∀(vs:Q0f) (R:Option Bool×Unit->ak->Prop),(∀v∈vs,∀Q:Bool->ak->Prop,Q ae s->ax (au P w) A (eqIsQuiet d v) Q E s)->R (af,()) s ->
  ax (au P w) A (forIn vs ((af,()):Option Bool×Unit) λy _=>do
   let c <- eqIsQuiet d y
   if(!c)=ae then pure (a2I (ab ag,()))
   else pure (qb (af,()))) R E s
 |[],R,hq,k=>az k
 |v::vs,R,hq,k=>by rw[oy];show ao (ao (hq v cz _ ?_));rw[Zz ⋯];show az (vO vs R (λu a=>hq u (fq _ a)) k)
theorem yX(j:s.TypeIs (ft a) "tuple")(ho:s.heap.get? a=ab o)(p:o.data=.seq xs n)(m:∀v∈xs.toList,∀Q:Bool->ak->Prop,Q ae s->ax (au P w) A (eqIsQuiet d v) Q E s)(h:Q ae s):
  ax (au P w) A (eqIsQuiet (d+1) (.ref a)) Q E s:=by
 have l:=a03;delta eqIsQuiet;show ao (Hw j l.lookup ?_);show ax (au P w) A (isInstance (.ref a) (.type "tuple") >>= _) _ _ s;show ao (Bb j a0y ?_);rw[Zz ⋯];dsimp only;show ao (n_ ho p (ao ?_));show ax _ _ (forIn xs _ _) _ _ s;rw[<- a2T];show vO xs.toList _ m (az h)
def HC{x:List (Sum Key (List Key))}{a:ah}{Q:Bool->ak->Prop}(z:gM (aW P w) s.heap x a)(h:Q ae s):ax (au P w) A (eqIsQuiet 8 (.ref a)) Q E s:=by
 have K:=z.typeIs;obtain⟨o,xs,n,ho,_,Y,X⟩:=z;show yX (d:=7) K ho Y ?_ h;have go:∀{ks:List (Sum Key (List Key))} {vs:Q0f},gB (aW P w) s.heap ks vs ->∀v∈vs,∀Q:Bool->ak->Prop,Q ae s->ax (au P w) A (eqIsQuiet 7 v) Q E s:=by
  intro ks vs t
  induction t with
  |nil=>intro v U;cases U
  | @cons k v ks vs h1 _ ih =>
   intro u m Q j;rcases bu.1 m with e|m
   .subst e
    cases k with
    |inl k =>
     rw[a0D _ ((aW P w).byValue _ _ h1)];show az j
    |inr k =>
     obtain⟨b,e,F⟩:=h1;subst e;have L:=F.typeIs;obtain⟨Z,I,n',p,_,y,q⟩:=F;show yX (d:=6) L p y (λJ l Q' O=>?_) j;rw[a0D _ (q.byValue J l)];show az O
   .exact ih u m Q j
 show go X
def iV(P:bh)(w:bg):HeapKind P w (List (Sum Key (List Key))) where
 is:=gM (aW P w)
 hash:=vM (aW P w)
 draws:=mZ
 room:=λA=>A.units+1<di
 inj:=λd a=>d.inj a
 keeps:=λx ho n m=>x.keeps ho n m
 pyHash:=λj l h=>NP j l h
 eqBool:=λj d a h=>YL j d a h
 quiet:=λl h=>HC l h
def nest_room(a:A.units+2<di):(iV P w).room A.in1:=a
end
inductive V where
 |non|bl (b:Bool)|int (i:Int)|str (x:aj)|NQ (b:Array UInt8)|flt (b:UInt64)|ref (a:ah)|ty (n:String)
 deriving DecidableEq
noncomputable def Ψ:V->ai->Prop
 |.non,u=>u=ik
 |.bl b,u=>u=w_ b
 |.int i,u=>∃t,u=oj i t
 |.str x,u=>∃t,u=Bm x t
 |.NQ b,u=>∃t,u=Value.bytes b t
 |.flt b,u=>∃t,u=a0W b t
 |.ref a,u=>u=ft a
 |.ty n,u=>u=jm n
abbrev θ:List V->List ai->Prop:=jo Ψ
def θ.length{xs:List V}{us:Q0f}(r:θ xs us):⇑xs=⇑us:=uz r
theorem θ.get:∀{xs:List V} {us:Q0f} {i:Nat} {x:V},θ xs us->xs[i]?=ab x ->∃u,us[i]?=ab u/\Ψ x u
 |_,_,_,_,.nil,e=>by simp at e
 |_,_,0,_,.cons r _,e=>by simp at e;subst e;show⟨_,rfl,r⟩
 |_,_,i+1,x,.cons _ t,e=>by obtain⟨u,a,h2⟩:=θ.get (i:=i) (x:=x) t ↑e;show⟨u,↑a,h2⟩
theorem θ.set{x:V}{u:ai}(r:Ψ x u):∀{xs:List V} {us:Q0f} (i:Nat),θ xs us->θ (xs.set i x) (us.set i u)
 |_,_,_,.nil=>.nil
 |_,_,0,.cons _ t=>.cons r t
 |_,_,i+1,.cons q t=>.cons q (θ.set r i t)
theorem θ.append:∀{xs ys:List V} {us ws:Q0f},θ xs us->θ ys ws->θ (xs++ys) (us++ws)
 |_,_,_,_,.nil,s=>s
 |_,_,_,_,.cons r t,s=>.cons r (θ.append t s)
theorem θ.take:∀{xs:List V} {us:Q0f} (n:Nat),θ xs us->θ (xs.take n) (us.take n)
 |_,_,0,_=>.nil
 |_,_,_+1,.nil=>.nil
 |_,_,n+1,.cons r t=>.cons r (θ.take n t)
theorem θ.drop:∀{xs:List V} {us:Q0f} (n:Nat),θ xs us->θ (xs.drop n) (us.drop n)
 |_,_,0,r=>r
 |_,_,_+1,.nil=>.nil
 |_,_,n+1,.cons _ t=>θ.drop n t
def l7:Option V->Option ai->Prop
 |some v,ab u=>Ψ v u
 |none,af=>True
 |_,_=>False
def KV{a:Type}:List (a×V)->List (a×ai)->Prop:=jo λ(p:a×V) (q:a×ai)=>p.1=q.1/\Ψ p.2 q.2
noncomputable def kV:Key->V
 |.inl i=>.int i
 |.inr x=>.str x
inductive HO where
 |lst (xs:List V)
 |tup (xs:List V)
 |dK (χ:List (Key×V))|dT (χ:List (List Key×V))
 |dX (o:ay) (χ:List (KX×V×V))
 |set (S:Int->Bool) (n:Nat)
 |ins (C dx:ah) (fs:List (aj×V))
 |own (x:ah)
 |xd (fs:List (aj×V))
 |met (f x:ah)
 |rng (lo hi:Int)
 |tW (o:ay) (u:HO)
 |NR (q:aj)
 |ext (φ:a_->Prop)
abbrev Hp:=ah->Option HO
def upd(H:Hp)(a:ah)(o:HO):Hp:=λb=>if b=a then ab o else H b
def aN{H:Hp}{a:ah}{o:HO}:upd H a o a=ab o:=by delta upd;rw[Z_ rfl]
def aR{H:Hp}{a b:ah}{o:HO}(h:b≠a):upd H a o b=H b:=by delta upd;rw[Zz h]
def Ha{H:Hp}{a b:ah}{o u:HO}(h:H a=ab o)(h':H b=ab u)(d:o≠u):a≠b:=by intro e;subst e;rw[h] at h';show d (dm h')
theorem aT{H:Hp}{a b:ah}{o:HO}(h:H a=ab o)(h':H b=af):a≠b:=by intro e;subst e;rw[h] at h';cases h'
def vP(H:Hp):Sum Key (List Key)->V->Prop
 |.inl k,v=>v=kV k
 |.inr ks,v=>∃b,v=.ref b/\H b=ab (.tup (ks.map kV))
def l8(H:Hp)(ks:N1)(a:ah):Prop:=∃vs,H a=ab (.tup vs)/\jo (vP H) ks vs
def xO(P:bh)(w:bg)(H:Hp)(o:ay)(χ:List (KX×V×V)):Prop:=o.ExactDict /\∃a d,o.data=.dict a d /\
 ((∃vs:List (Key×ai),jo (λ(p:KX×V×V) (q:Key×ai)=>p.1=.inl q.1/\p.2.1=kV q.1/\Ψ p.2.2 q.2) χ vs/\KeysOf (aW P w) a/\Pairs (aW P w) a.toList vs/\(vs.map (·.1)).Nodup) \/
  ∃xs:List (N1×ah×ai),jo (λ(p:KX×V×V) (q:N1×ah×ai)=>p.1=.inr q.1/\p.2.1=.ref q.2.1/\l8 H q.1 q.2.1/\Ψ p.2.2 q.2.2) χ xs/\a.toList=xs.map (entryOfKey (iV P w))/\(xs.map (·.1)).Nodup)
theorem Paired.Aj{α j:Type}{F G:α->j->Prop}:∀{h:List α} {d:List j},jo F h d->(∀a b,F a b->G a b)->jo G h d
 |_,_,.nil,_=>.nil
 |_,_,.cons r t,f=>.cons (f _ _ r) (Paired.Aj t f)
theorem l8.stay{H H':Hp}{ks:N1}{a:ah}(h:l8 H ks a)(d:∀b xs,H b=ab (.tup xs)->H' b=ab (.tup xs)):l8 H' ks a:=by
 obtain⟨vs,e,r⟩:=h;show⟨vs,d _ _ e,Paired.Aj r λk v q=>?_⟩
 cases k with
 |inl k=>show q
 |inr k=>obtain⟨b,e,q⟩:=q;show⟨b,e,d _ _ q⟩
def xO.stay{P:bh}{w:bg}{H H':Hp}{o:ay}{χ:List (KX×V×V)}(h:xO P w H o χ)(a:∀b xs,H b=ab (.tup xs)->H' b=ab (.tup xs)):xO P w H' o χ:=by
 obtain⟨x,j,l,e,h⟩:=h;show⟨x,j,l,e,?_⟩;rcases h with h|⟨xs,r,d,h2⟩
 .exact .inl h
 .exact .inr ⟨xs,Paired.Aj r λp q z=>⟨z.1,z.2.1,z.2.2.1.stay a,z.2.2.2⟩,d,h2⟩
def BL(h:a_)(a:ah):Prop:=∀o,h.get? a=ab o->o.dict=af
def BL.at{h h':a_}{a:ah}{o:ay}(n:BL h a)(e:h.get? a=ab o)(d:h'.get? a=ab o):BL h' a:=λu q=>by rw[d] at q;cases q;show n _ e
def BL.new(h:a_)(a:Array ai){n:Nat}:BL (h.push {cls:=.type "tuple",data:=.seq a n}) h.objs.size:=λu q=>by rw[d_ h rfl] at q;cases q;rfl
def BL.is(e:h.get? a=ab o)(d:o.dict=af):BL h a:=λu q=>by rw[e] at q;cases q;show d
abbrev BM(a:ay):HO:=.tW a (.ext λ_=>True)
def K7(H:Hp)(q:aj)(a:Array ai):Prop:=TriplesOk a.toList /\
 ∀j h,codeAmong j a.toList=ab h ->∃c d vs t,h=.ref c/\H c=ab (BM d)/\d.data=.fields vs/\vs[1]?=ab (.str q t)
theorem K7.stay{H H':Hp}{q:aj}{a:Array ai}(h:K7 H q a)(j:∀b o u,H b=ab (.tW o u)->H' b=ab (.tW o u)):K7 H' q a :=
 ⟨h.1,λd l e=>let ⟨c,oc,vs,t,e1,e2,e3⟩:=h.2 d l e;⟨c,oc,vs,t,e1,j _ _ _ e2,e3⟩⟩
section
variable(P:bh)(w:bg)
def cQ(H:Hp)(h:a_)(a:ah):HO->Prop
 |.lst xs=>⇑xs<=br /\∃(j:Q0f) (n:Nat),θ xs j/\h.get? a=ab {cls:=.type "list",data:=.seq j.toArray n}
 |.tup xs=>⇑xs<=br /\∃j:Q0f,θ xs j/\jg h a j.toArray/\BL h a
 |.dK χ=>⇑χ<=br/\(a == sysModules)=ag /\∃vs,KV χ vs/\h.DictOf (aW P w) a vs
 |.dT χ=>⇑χ<=br/\(a == sysModules)=ag /\∃xs:List (List Key×ah×ai),
   jo (λ(p:List Key×V) (q:List Key×ah×ai)=>p.1=q.1/\H q.2.1=ab (.tup (p.1.map kV))/\Ψ p.2 q.2.2) χ xs /\
   ∃o y z,h.get? a=ab o/\o.ExactDict/\o.data=.dict y z/\y.toList=xs.map (entryOfKey (tupleKind (aW P w)))/\(xs.map (·.1)).Nodup
 |.dX o χ=>⇑χ<=br/\(a == sysModules)=ag/\h.get? a=ab o/\xO P w H o χ
 |.set S n=>h.SetOf (intKind P w) a S n
 |.ins C dx fs=>H dx=ab (.own a)/\⇑fs<=1000/\dx≠a/\h.get? a=ab (instObj C dx) /\
   ∃d,h.Ns1 dx d/\(∀f,l7 (fs.lookup f) (d f))/\a0H d (fs.map (·.1))
 |.own _=>∃o,h.get? a=ab o
 |.xd fs=>∃d,h.Ns1 a d /\∀f,l7 (fs.lookup f) (d f)
 |.rng lo hi=>∃t u v,h.get? a=ab {cls:=.type "range",data:=.fields #[.int lo t,.int hi u,.int 1 v]}
 |.tW o u=>h.get? a=ab o/\cQ H h a u
 |.NR q=>∃l:Array ai,h.get? a=ab {cls:=.none,data:=.fields l}/\K7 H q l
 |.met f x=>h.get? a=ab (methodObj (.ref f) (.ref x))
 |.ext φ=>φ h/\(∃o,h.get? a=ab o) /\∀m h2:a_,φ m->(∀o,m.get? a=ab o->h2.get? a=ab o)->φ h2
def nE(H:Hp)(h:a_):Prop:=∀a o,H a=ab o->cQ P w H h a o
end
section
variable{P:bh}{w:bg}{H H':Hp}{h h':a_}{a:ah}{o:HO}
theorem cQ.lt(x:cQ P w H h a o):a<h.objs.size:=by
 cases o with
 |lst xs=>obtain⟨_,_,_,_,e⟩:=x;show cf e
 |tup xs=>obtain⟨_,_,_,p,_⟩:=x;show p.lt
 |dK χ=>obtain⟨_,_,_,_,o,_,_,e,_⟩:=x;show cf e
 |dT χ=>obtain⟨_,_,_,_,o,_,_,e,_⟩:=x;show cf e
 |dX ob χ=>obtain⟨_,_,e,_⟩:=x;show cf e
 |set S n=>obtain⟨o,_,_,_,e,_⟩:=x;show cf e
 |ins C dx fs=>obtain⟨_,_,_,e,_⟩:=x;show cf e
 |own y=>obtain⟨_,e⟩:=x;show cf e
 |xd fs=>obtain⟨_,⟨_,_,_,e,_⟩,_⟩:=x;show cf e
 |rng lo hi=>obtain⟨_,_,_,e⟩:=x;show cf e
 |tW ob u=>obtain⟨e,_⟩:=x;show cf e
 |NR q=>obtain⟨d,e,_⟩:=x;show cf e
 |met f y=>show cf (show h.get? a=ab _ from x)
 |ext φ=>obtain⟨_,⟨_,e⟩,_⟩:=x;show cf e
theorem Paired.Ai{α l:Type}{F G:α->l->Prop}:∀{j:List α} {d:List l},jo F j d->(∀a b,F a b->G a b)->jo G j d
 |_,_,.nil,_=>.nil
 |_,_,.cons r t,f=>.cons (f _ _ r) (Paired.Ai t f)
theorem cQ.stay(x:cQ P w H h a o)(k:∀b u,(b=a\/H b=ab (.own a))->h.get? b=ab u->h'.get? b=ab u)
  (ho:∀b,H b=ab (.own a)->H' b=ab (.own a)) (K:∀b xs,H b=ab (.tup xs)->H' b=ab (.tup xs)) (U:∀b o u,H b=ab (.tW o u)->H' b=ab (.tW o u):=by show λ_ _ _ q=>q):cQ P w H' h' a o:=by
 induction o with
 |lst xs=>obtain⟨z,A,n,r,e⟩:=x;show⟨z,A,n,r,k _ _ (.inl rfl) e⟩
 |tup xs=>obtain⟨z,A,r,⟨j,e,c⟩,nd⟩:=x;show⟨z,A,r,⟨j,k _ _ (.inl rfl) e,c⟩,nd.at e (k _ _ (.inl rfl) e)⟩
 |dK χ=>obtain⟨z,y,vs,r,j,l,m,e,c⟩:=x;show⟨z,y,vs,r,j,l,m,k _ _ (.inl rfl) e,c⟩
 |dT χ =>
  obtain⟨z,y,xs,r,j,l,m,e,c⟩:=x;show⟨z,y,xs,Paired.Ai r λp q z=>⟨z.1,K _ _ z.2.1,z.2.2⟩,j,l,m,k _ _ (.inl rfl) e,c⟩
 |dX j χ=>obtain⟨z,y,e,c⟩:=x;show⟨z,y,k _ _ (.inl rfl) e,c.stay K⟩
 |set S n=>obtain⟨j,l,m,t,e,c⟩:=x;show⟨j,l,m,t,k _ _ (.inl rfl) e,c⟩
 |ins C dx fs =>
  obtain⟨d,z,O,e,I,⟨F,l,m,X,c⟩,r⟩:=x;show⟨ho _ d,z,O,k _ _ (.inl rfl) e,I,⟨F,l,m,k _ _ (.inr d) X,c⟩,r⟩
 |own y=>obtain⟨j,e⟩:=x;show⟨j,k _ _ (.inl rfl) e⟩
 |xd fs=>obtain⟨I,⟨F,l,m,e,c⟩,r⟩:=x;show⟨I,⟨F,l,m,k _ _ (.inl rfl) e,c⟩,r⟩
 |rng lo hi=>obtain⟨t,u,v,e⟩:=x;show⟨t,u,v,k _ _ (.inl rfl) e⟩
 |tW j u ih=>obtain⟨e,q⟩:=x;show⟨k _ _ (.inl rfl) e,ih q⟩
 |NR q=>obtain⟨L,e,r⟩:=x;show⟨L,k a _ (.inl rfl) e,r.stay U⟩
 |met f y =>
  have e:h.get? a=ab (methodObj (.ref f) (.ref y)):=x;show h'.get? a=ab (methodObj (.ref f) (.ref y));show k a _ (.inl rfl) e
 |ext φ=>obtain⟨p,⟨o,e⟩,J⟩:=x;show⟨J _ _ p λo q=>k _ _ (.inl rfl) q,⟨o,k _ _ (.inl rfl) e⟩,J⟩
def nE.lt(x:nE P w H h)(e:H a=ab o):a<h.objs.size:=(x a o e).lt
theorem nE.fresh(x:nE P w H h)(e:h.objs.size<=a):H a=af:=by
 cases q:H a with
 |none=>rfl
 |some u=>show Zw (gu (x.lt q) e) (jr _)
def nE.kept(x:nE P w H h)(k:∀b u,h.get? b=ab u->h'.get? b=ab u):nE P w H h':=λa o e =>
 (x a o e).stay (λb u _ q=>k b u q) (λ_ q=>q) λ_ _ q=>q
def nE.laid(x:nE P w H h)(k:∀b u,h.get? b=ab u->h'.get? b=ab u)(l:h.objs.size<=a)(new:cQ P w (upd H a o) h' a o):nE P w (upd H a o) h':=λb u e=>by
 have d:=x.fresh l;by_cases j:b=a
 .subst j;rw[aN] at e;cases e;show new
 .rw [aR j] at e;show(x b u e).stay (λc v _ q=>k c v q) (λc q=>by rw[aR (aT q d)];show q) (λc xs q=>by rw[aR (aT q d)];show q) λc o u q=>by rw[aR (aT q d)];show q
end
def Rd(H:Hp)(a:ah)(u:HO):Prop:=H a=ab u \/∃o,H a=ab (.tW o u)
theorem Rd.ok{P:bh}{w:bg}{H:Hp}{h:a_}{a:ah}{u:HO}(r:Rd H a u)(x:nE P w H h):cQ P w H h a u:=by
 rcases r with r|⟨o,r⟩
 .exact x a u r
 .obtain ⟨_,q⟩:=x a _ r;show q
def Mut:Option HO->Prop
 |some (.lst _)=>True
 |some (.dK _)=>True
 |some (.dT _)=>True
 |some (.dX _ _)=>True
 |some (.set _ _)=>True
 |some (.ins _ _ _)=>True
 |some (.ext _)=>True
 |_=>False
section
variable{P:bh}{w:bg}{H:Hp}{h h':a_}{x e:ah}{o':HO}
theorem nE.write(ok:nE P w H h)(d:Mut (H x))(p:e=x\/H e=ab (.own x))(k:∀b u,b≠e->h.get? b=ab u->h'.get? b=ab u)(m:∃u,h'.get? e=ab u)
  (new:cQ P w (upd H x o') h' x o'):nE P w (upd H x o') h':=λb u q=>by
 have A:∀c y,H c=ab (.own y)->c≠x:=λc y r z=>by subst z;rw[r] at d;show d
 have I:∀c xs,H c=ab (.tup xs)->c≠x:=λc xs r z=>by subst z;rw[r] at d;show d
 by_cases l:b=x
 .subst l;rw[aN] at q;cases q;show new
 .rw [aR l] at q;by_cases a:b=e
  .have n:H b=ab (.own x):=by
    rcases p with z|z
    .exact Zw (a.trans z) l
    .rw [a];show z
   rw[q] at n;cases n;obtain⟨v,F⟩:=m;show⟨v,by rw[a];show F⟩
  .refine (ok b u q).stay (λc v j r=>k c v ?_ r) (λc r=>by rw[aR (A c b r)];show r) (λc xs r=>by rw[aR (I c xs r)];show r) λc o u r=>by rw[aR λz=>by subst z;rw[r] at d;show d];show r
   rcases j with rfl|j
   .exact a
   .rintro rfl;rcases p with z|z
    .exact A c b j z
    .rw [j] at z;cases z;show l rfl
end
structure Un (fs ex:List ah) (H H':Hp) (h h':a_):Prop where
 keep:∀b o,h.get? b=ab o->H b=af->b∉fs->b∉ex->h'.get? b=ab o
 slot:∀b o,h.get? b=ab o->H b=af->b∈fs->b∉ex ->∃sl,h'.get? b=ab {o with slots:=sl}
 free:∀b o,h.get? b=ab o->H b=af->b∉ex->H' b=af
 there:∀b o,h.get? b=ab o->b∉ex ->∃o',h'.get? b=ab o'
 tups:∀b xs,H b=ab (.tup xs)->H' b=ab (.tup xs)
 xP:∀b o u,H b=ab (.tW o u)->H' b=ab (.tW o u)
 vQ:∀b q,H b=ab (.NR q)->H' b=ab (.NR q)
section
variable{fs fs' ex ex':List ah}{H H1 H2:Hp}{h h1 h2 h':a_}{a x e:ah}{o:HO}
def Un.any(u:Un fs ex H H1 h h1){b:ah}{d:ay}(q:h.get? b=ab d)(n:H b=af)(j:b∉ex):∃m,h1.get? b=ab {d with slots:=m}:=by
 by_cases l:b∈fs
 .exact u.slot b d q n l j
 .exact ⟨d.slots,u.keep b d q n l j⟩
def Un.kept(k:∀b u,h.get? b=ab u->h'.get? b=ab u):Un fs ex H H h h' :=
 ⟨λb d q _ _ _=>k b d q,λb d q _ _ _=>⟨d.slots,k b d q⟩,λ_ _ _ n _=>n,λb d q _=>⟨d,k b d q⟩,λ_ _ q=>q,λ_ _ _ q=>q,λ_ j q=>q⟩
def Un.refl:Un fs ex H H h h:=Un.kept λ_ _ q=>q
theorem Un.laid(k:∀b u,h.get? b=ab u->h'.get? b=ab u)(j:h.objs.size<=a)(d:H a=af):Un fs ex H (upd H a o) h h' where
 keep:=λb u q _ _ _=>k b u q
 slot:=λb u q _ _ _=>⟨u.slots,k b u q⟩
 free:=λb u q n _=>by rw[aR (gp (gu (cf q) j))];show n
 there:=λb u q _=>⟨u,k b u q⟩
 tups:=λb xs q=>by rw[aR (aT q d)];show q
 xP:=λb u xs q=>by rw[aR (aT q d)];show q
 vQ:=λb l q=>by rw[aR (aT q d),q]
def Un.write(j:Mut (H x))(A:e=x\/H e=ab (.own x))(k:∀b u,b≠e->h.get? b=ab u->h'.get? b=ab u)(m:∃u,h'.get? e=ab u):Un fs ex H (upd H x o) h h':=by
 have p:∀b,H b=af->b≠x:=λb n z=>by subst z;rw[n] at j;show j
 have v:∀b,H b=af->b≠e:=λb n z=>by
  subst z;rcases A with r|r
  .exact p b n r
  .rw [n] at r;cases r
 have l:∀b u,H b=ab u->¬ Mut (ab u)->b≠x:=λb u q y z=>by subst z;rw[q] at j;show y j
 show⟨λb u q n _ _=>k b u (v b n) q,λb u q n _ _=>⟨u.slots,k b u (v b n) q⟩,λb u q n _=>by rw[aR (p b n)];show n,λb u q _=>?_,
  λb xs q=>by rw[aR (l b _ q λz=>z)];show q,λb u xs q=>by rw[aR (l b _ q λz=>z)];show q,λb F q=>by rw[aR (l b _ q λz=>z),q]⟩
 by_cases d:b=e
 .subst d;show m
 .exact ⟨u,k b u d q⟩
end
def trk(h:a_)(H:Hp):List ah:=(cj h.objs.size).filter λa=>(H a).isSome
def xQ(h:a_)(H:Hp):a_:=PySem.W.hideAll h (trk h H)
def NS(h:a_)(H:Hp):(xQ h H).objs.size=h.objs.size:=PySem.W.hideAll_size _ _
def SD(e:h.get? b=ab o)(n:H b=af):(xQ h H).get? b=ab o :=
 PySem.W.hideAll_get _ e λa=>by have q:(H b).isSome=ae:=(gi.mp a).2;rw[n] at q;simp at q
theorem YM(e:(xQ h H).get? b=ab o):h.get? b=ab o/\H b=af:=by
 have a:h.get? b=ab o:=PySem.W.of_hideAll (trk h H) e;show⟨a,?_⟩
 cases q:H b with
 |none=>rfl
 |some x =>
  have d:b∈trk h H:=gi.mpr ⟨k_.mpr (cf a),by simp[q]⟩;have z:(xQ h H).get? b=af:=PySem.W.hideAll_none (trk h H) d;rw[z] at e;cases e
structure Mod (K:aq) (mg:Q0d) (ω:a_):Prop where
 kin:K.In ω
 glob:ω.Ns iw mg
 blt:∃mb,ω.Ns builtinsNs mb /\∀x:aj,x ≠ "__name__"->mb x=bootBuiltins x
 nolimit:ω.NoLimit
 bm:∃bm ob,mg "__builtins__"=ab (.ref bm)/\bm≠builtinsNs/\ω.get? bm=ab ob/\ob.cls=.type "module" /\ob.dict=ab builtinsNs/\ob.data=.plain
def EB:List aj:=["going_of","count_of_chain","cut_paper","downsets","strictest_chains"]
def l9(x:aj):aj:=x++".<locals>.<lambda>"
def dE(K:aq):List (aj×ah×ah):=EB.filterMap λx=>(Be K x).map λp=>(x,p.1,p.2)
def YN(K:aq)(ω:a_)(H:Hp):Prop:=∀t∈dE K,CodeHd ω t.2.1 t.2.2/\H t.2.2=ab (.NR (l9 t.1))
structure Cx where
 Ω:bh
 w:bg
 K:aq
 mg:aj->Option ai
 ω:a_
 A:bt
 N:List aj
 s₀:ak
 H₀:Hp
 env:fv
 Γ:List fv
 stack:List fv
 ex:List ah
 fn:aj->Bool
 calm:Bool
 pn:List (ah×ay)
 xe:ai->ak->Prop
abbrev Zu(x:aj):Prop:=(x == ("__debug__":aj))=ag
abbrev Zt(x:aj):Prop:=(x == ("__classdict__":aj))=ag
abbrev Zq(X:Cx)(e:av)(l:List av):Prop:=ar (e::l) X.env=(ag,eval e X.env)::ar l X.env
abbrev Zp(X:Cx)(x:aj):Prop:=X.fn x=ae\/X.env.scope.names.lookup x=ab .local
abbrev Zo(X:Cx)(a:bo)(e:av):Prop:=((e_ a (ar [e] X.env)).all (λx=>!x.1)&&(backToKw a (qh [] X.env)).all (λx=>x.1.isSome) && Zv ([e].length+⇑([]:List jf)+(if([]:List jf).isEmpty then 0 else 1)<30))=ae
abbrev Zn(X:Cx)(i:av):Prop:=∀x,foldedSetIterable i X.env x=pure x
abbrev Si(X:Cx)(e:av)(x:aj)(p q:bo):Prop:=g_ e (ab (.Name x p)) q.line X.env=pure ag
abbrev H0(X:Cx)(x y:aj)(d a:bo):Prop:=(fw [.Name x d,.Name y a] X.env).map (·.2)=assign (.Name x d) X.env::(fw [.Name y a] X.env).map (·.2)
abbrev gV(X:Cx)(y:aj)(a:bo):Prop:=(fw [.Name y a] X.env).map (·.2)=assign (.Name y a) X.env::(fw [] X.env).map (·.2)
abbrev Q0h(X:Cx)(x y:aj)(d a:bo):Prop:=(fw [.Name x d,.Name y a] X.env).findIdx? (·.1)=af
abbrev Q0i(X:Cx)(x y:aj)(d a:bo):Prop:=⇑(fw [.Name x d,.Name y a] X.env)=2
abbrev Q0j(p q:bo):Prop:=(p.endLine == q.line)=ae
abbrev Q0k(X:Cx)(p:bo)(l:List av):Prop:=(e_ p (ar l X.env)).any (·.1)=ag
def frs(l:List fv):List ah:=l.filterMap (·.frame)
abbrev Cx.fs(X:Cx):List ah:=frs X.Γ
def xR(sc:gn)(x:aj):Prop:=sc.names.lookup x=ab .local\/sc.names.lookup x=ab .cell\/sc.names.lookup x=ab .free
def Loc(sc:gn)(x:aj):Prop:=sc.names.lookup x=ab .local\/sc.names.lookup x=ab .cell
def Look(env:fv)(h:a_)(m:Q0d)(x:aj)(u:ai):Prop :=
 (env.kindOf x=ab .local/\m x=ab u)\/((env.kindOf x=ab .cell\/env.kindOf x=ab .free) /\∃c,env.cells.lookup x=ab c/\h.IsCell c (ab u))
structure Cx.Ok (X:Cx):Prop where
 mod:Mod X.K X.mg X.ω
 kind:X.env.scope.kind=.function
 glob:X.env.globals=iw
 blt:X.env.builtins=builtinsNs
 above:↥X.s₀<=X.env.locals
 inj:∀x y c,X.env.cells.lookup x=ab c->X.env.cells.lookup y=ab c->x=y
 has:∀x,(X.env.kindOf x=ab .cell\/X.env.kindOf x=ab .free) ->∃c,X.env.cells.lookup x=ab c
 cab:∀x c,X.fn x=ae->X.env.cells.lookup x=ab c->↥X.s₀<=c
 hd:X.calm=ae->X.A.handled=af
 frames:X.A.frames=ab X.stack
 stk:X.stack=X.Γ\/(X.stack=X.env::X.Γ/\X.env.frame=ab X.env.locals)
 exf:∀b∈X.ex,b≠X.env.locals /\∀x c,X.env.cells.lookup x=ab c->c≠b
 bs:∀b o,X.ω.get? b=ab o->X.s₀.heap.get? b=ab o/\X.H₀ b=af
 WQ:X.ω.objs.size<=↥X.s₀
 SE:∀b o,X.ω.get? b=ab o->b∉X.ex
 YO:∀b∈X.ex,b∉X.fs
 vR:X.s₀.heap.FunFrames X.ω X.Γ
 frf:∀b∈X.fs,X.H₀ b=af
 tab:YN X.K X.ω X.H₀
structure Φ (X:Cx) (π:Q0b) (σ:List (Option V)) (H:Hp) (s:ak):Prop where
 ok:X.Ok
 os:s.os=X.s₀.os
 bare:pq s.gens
 ω:Un X.fs X.ex X.H₀ H X.s₀.heap s.heap
 loc:∃m,s.heap.Ns X.env.locals m /\∀(i:Nat) (x:aj) (v:V),X.N[i]?=ab x->σ[i]?=ab (ab v)->xR X.env.scope x ->∃u,Ψ v u/\Look X.env s.heap m x u
 cell:∀x c,X.env.cells.lookup x=ab c ->∃v,s.heap.IsCell c v
 free:H X.env.locals=af
 k8:∀x c,X.env.cells.lookup x=ab c->H c=af
 pin:∀p∈X.pn++π,s.heap.get? p.1=ab p.2/\H p.1=af/\p.1≠X.env.locals/\p.1∉X.fs /\∀v,p.2.data≠.cell v
 hok:nE X.Ω X.w H s.heap
 len:⇑σ=⇑X.N
variable{X:Cx}
section
variable{π:Q0b}{σ:List (Option V)}{H H':Hp}{s:ak}{h':a_}
def Cx.Ok.Vn(ok:X.Ok)(e:X.ω.get? b=ab o):b∉X.fs:=λa=>by have:=(ok.vR.mem a).1;rw[e] at this;cases this
def Φ.bs(I:Φ X π σ H s):∀b o,X.ω.get? b=ab o->s.heap.get? b=ab o/\H b=af:=λb o e =>
 ⟨I.ω.keep b o (I.ok.bs b o e).1 (I.ok.bs b o e).2 (I.ok.Vn e) (I.ok.SE b o e),I.ω.free b o (I.ok.bs b o e).1 (I.ok.bs b o e).2 (I.ok.SE b o e)⟩
def Φ.bk(I:Φ X π σ H s):∀b o,X.ω.get? b=ab o->s.heap.get? b=ab o:=λb o e=>(I.bs b o e).1
def Φ.mod(I:Φ X π σ H s):Mod X.K X.mg X.ω:=I.ok.mod
def Φ.tab(I:Φ X π σ H s):YN X.K X.ω H:=λt a=>⟨(I.ok.tab t a).1,I.ω.vQ _ _ (I.ok.tab t a).2⟩
def Φ.BN(I:Φ X π σ H s):X.K.In s.heap:=I.ok.mod.kin.keeps I.bk
def Φ.nolimit(I:Φ X π σ H s):s.heap.NoLimit:=I.ok.mod.nolimit.keeps I.bk
def Φ.fr(I:Φ X π σ H s):∃m,Fr X.ω X.env.locals s.heap m :=
 let ⟨m,hn,_⟩:=I.loc
 ⟨m,hn,I.bk,jb I.ok.WQ I.ok.above⟩
def Φ.lt(I:Φ X π σ H s):X.env.locals<↥s:=let ⟨_,hn,_⟩:=I.loc;hn.lt
def Φ.sz(I:Φ X π σ H s):↥X.s₀<=↥s:=jb I.ok.above (nj I.lt)
def Φ.Vm(I:Φ X π σ H s)(h:↥s<=a):a∉X.fs:=λd=>by obtain⟨_,o,ho,_⟩:=I.ok.vR.mem d;show Zw (gu (cf ho) (jb I.sz h)) (jr _)
def Φ.cne(I:Φ X π σ H s):∀x c,X.env.cells.lookup x=ab c->c≠X.env.locals:=λx c e z=>by obtain⟨v,o,ho,h⟩:=I.cell x c e;obtain⟨m,⟨j,l,n,a,d,_⟩,_⟩:=I.loc;rw[z,a] at ho;cases ho;rw[d] at h;cases h
def Φ.vR(I:Φ X π σ H s):s.heap.FunFrames X.ω X.Γ:=by
 have all:∀(l:List fv),(∀b∈frs l,b∈X.fs)->X.s₀.heap.FunFrames X.ω l->s.heap.FunFrames X.ω l:=by
  intro l
  induction l with
  |nil=>intro _ _;trivial
  |cons env r ih =>
   intro j p;obtain⟨q,⟨L,o,a,n,ho,v⟩,m⟩:=p;have h:L∈X.fs:=j L (by delta frs;rw[K_,a];show cz);obtain⟨x,e⟩:=I.ω.slot L o ho (I.ok.frf L h) h λz=>I.ok.YO L z h;show⟨q,⟨L,_,a,n,e,v⟩,ih (λb d=>j b (by delta frs;rw[K_,a];show fq _ d)) m⟩
 show all X.Γ (λ_ d=>d) I.ok.vR
def Φ.stack(I:Φ X π σ H s):s.heap.FunFrames X.ω X.stack:=by
 rcases I.ok.stk with e|⟨e,d⟩
 .rw [e];show I.vR
 .rw [e];obtain⟨m,a,_⟩:=I.loc;show .cons (by rw[I.ok.kind];decide) d a ?_ I.vR;show Heap.get?_none_of_le (jb I.ok.WQ I.ok.above)
def Φ.vS(I:Φ X π σ H s):∀b∈frs X.stack,b∈X.env.locals::X.fs:=λb a=>by
 rcases I.ok.stk with e|⟨e,d⟩
 .rw [e] at a;show fq _ a
 .rw [e] at a;delta frs at a;rw[K_,d] at a;show a
def Φ.BO(I:Φ X π σ H s):∀b∈frs X.stack,H b=af:=λb a=>by
 rcases bu.mp (I.vS b a) with e|a
 .rw [e];show I.free
 .obtain ⟨_,o,ho,_⟩:=I.ok.vR.mem a;show I.ω.free b o ho (I.ok.frf b a) λz=>I.ok.YO b z a
theorem Φ.step{g':Array GenState}{t':Nat}{d':Drawn}{ch:List ah}(I:Φ X π σ H s)
  (j:∀b∈ch,(b∈X.ex\/↥X.s₀<=b)/\b≠X.env.locals/\(∀x c,X.env.cells.lookup x=ab c->c≠b) /\∀p∈X.pn++π,p.1≠b)
  (keep:∀b o,b≠X.env.locals->b∉X.fs->b∉ch->s.heap.get? b=ab o->H b=af->h'.get? b=ab o)
  (slot:∀b o,b≠X.env.locals->b∈X.fs->b∉ch->s.heap.get? b=ab o->H b=af ->∃L,h'.get? b=ab {o with slots:=L}) (free:∀b o,b∉ch->s.heap.get? b=ab o->H b=af->H' b=af)
  (there:∀b o,b∉ch->s.heap.get? b=ab o ->∃F,h'.get? b=ab F)
  (tups:∀b xs,H b=ab (.tup xs)->H' b=ab (.tup xs)) (xP:∀b o u,H b=ab (.tW o u)->H' b=ab (.tW o u)) (vQ:∀b q,H b=ab (.NR q)->H' b=ab (.NR q))
  (ns:∀m,s.heap.Ns X.env.locals m->h'.Ns X.env.locals m) (U:nE X.Ω X.w H' h') (hg:pq g'):
  Φ X π σ H' {s with heap:=h',gens:=g',drawn:=d',toks:=t' }:=by
 have J:∀b o,X.s₀.heap.get? b=ab o->b≠X.env.locals:=λb o e=>gp (gu (cf e) I.ok.above);have y:∀b o,X.s₀.heap.get? b=ab o->b∉X.ex->b∉ch:=λb o e a A=>by
  rcases(j b A).1 with z|z
  .exact a z
  .exact Zw (gu (cf e) z) (jr _)
 have cellK:∀x c,X.env.cells.lookup x=ab c ->∀v,s.heap.IsCell c v->h'.IsCell c v:=λx c e v O=>by
  obtain⟨o,ho,Y⟩:=O;have h:c∉ch:=λz=>(j c z).2.2.1 x c e rfl;by_cases hc:c∈X.fs
  .obtain ⟨L,q⟩:=slot c o (I.cne x c e) hc h ho (I.k8 x c e);show⟨_,q,Y⟩
  .exact ⟨o,keep c o (I.cne x c e) hc h ho (I.k8 x c e),Y⟩
 show⟨I.ok,I.os,hg,⟨λb o e n A a=>?_,λb o e n A a=>?_,λb o e n a=>?_,λb o e a=>?_,λb xs e=>tups b xs (I.ω.tups b xs e),λb o xs e=>xP b o xs (I.ω.xP b o xs e),λb ps e=>vQ b ps (I.ω.vQ b ps e)⟩,?_,λx c e=>?_,?_,λx c e=>?_,λp hp=>?_,U,I.len⟩
 .exact keep b o (J b o e) A (y b o e a) (I.ω.keep b o e n A a) (I.ω.free b o e n a)
 .obtain ⟨L,e1⟩:=I.ω.slot b o e n A a;obtain⟨K,Z⟩:=slot b _ (J b o e) A (y b o e a) e1 (I.ω.free b o e n a);show⟨K,Z⟩
 .obtain ⟨F,e1⟩:=I.ω.there b o e a;show free b F (y b o e a) e1 (I.ω.free b o e n a)
 .obtain ⟨F,e1⟩:=I.ω.there b o e a;show there b F (y b o e a) e1
 .obtain ⟨m,hn,hl⟩:=I.loc;show⟨m,ns m hn,λi x v e1 Z e3=>?_⟩;obtain⟨u,r,l⟩:=hl i x v e1 Z e3;show⟨u,r,?_⟩;rcases l with l|⟨k,c,e,z⟩
  .exact .inl l
  .exact .inr ⟨k,c,e,cellK x c e _ z⟩
 .obtain ⟨v,z⟩:=I.cell x c e;show⟨v,cellK x c e v z⟩
 .obtain ⟨m,⟨o,_,_,ho,_⟩,_⟩:=I.loc;show free _ o (λz=>(j _ z).2.1 rfl) ho I.free
 .obtain ⟨v,o,ho,Y⟩:=I.cell x c e;show free c o (λz=>(j c z).2.2.1 x c e rfl) ho (I.k8 x c e)
 .obtain ⟨e,n,ne,nf,d⟩:=I.pin p hp;have h:p.1∉ch:=λz=>(j p.1 z).2.2.2 p hp rfl;show⟨keep p.1 p.2 ne nf h e n,free p.1 p.2 h e n,ne,nf,d⟩
def Φ.un{t':Nat}(I:Φ X π σ H s)(u:Un X.fs [] H H' s.heap h')(d:nE X.Ω X.w H' h'):Φ X π σ H' {s with heap:=h',toks:=t' }:=by
 obtain⟨m,⟨o,F,J,ho,r⟩,_⟩:=id I.loc;obtain⟨x,v⟩:=u.any ho I.free (by simp);show I.step (g':=s.gens) (d':=s.drawn) (ch:=[]) (λ_ z=>nomatch z) (λb o _ h _ e n=>u.keep b o e n h (by simp)) (λb o _ h _ e n=>u.slot b o e n h (by simp)) (λb o _ e n=>u.free b o e n (by simp)) (λb o _ e=>u.there b o e (by simp)) u.tups u.xP u.vQ (λA q=>by obtain⟨y,j,l,a,p⟩:=q;rw[ho] at a;cases a;show⟨_,j,l,v,p⟩) d I.bare
theorem Φ.call{g':Array GenState}{t':Nat}{d':Drawn}{ch:List ah}(I:Φ X π σ H s)(u:Un (frs X.stack) ch H H' s.heap h')(j:nE X.Ω X.w H' h')(F:pq g')
  (h:∀b∈ch,(b∈X.ex\/↥X.s₀<=b)/\b≠X.env.locals/\(∀x c,X.env.cells.lookup x=ab c->c≠b) /\∀p∈X.pn++π,p.1≠b):
  Φ X π σ H' {s with heap:=h',gens:=g',drawn:=d',toks:=t' }:=by
 obtain⟨m,⟨o,U,Y,ho,r⟩,_⟩:=id I.loc;obtain⟨K,l⟩:=u.any ho I.free λz=>(h _ z).2.1 rfl;show I.step (ch:=ch) h (λb o l J a e n=>u.keep b o e n (λz=>(bu.mp (I.vS b z)).elim l J) a) (λb o _ _ a e n=>u.any e n a) (λb o a e n=>u.free b o e n a) (λb o a e=>u.there b o e a) u.tups u.xP u.vQ (λO A=>by obtain⟨L,q,v,d,y⟩:=A;rw[ho] at d;cases d;show⟨_,q,v,l,y⟩) j F
theorem Φ.turned{t':Nat}{it:ah}(I:Φ X π σ H s)(k:∀b o,b≠it->s.heap.get? b=ab o->h'.get? b=ab o)(j:H it=af)(h:it≠X.env.locals)
  (F:it∈X.ex\/↥X.s₀<=it) (h2:∀x c,X.env.cells.lookup x=ab c->c≠it) (A:∀p∈X.pn++π,p.1≠it):Φ X π σ H {s with heap:=h',toks:=t' }:=by
 have d:∀b u,H b=ab u->b≠it:=λb u e z=>by rw[z,j] at e;cases e
 show I.step (g':=s.gens) (d':=s.drawn) (ch:=[it]) (λb y=>?_) (λb o _ _ a e _=>k b o (λz=>a (by simp[z])) e) (λb o _ _ a e _=>⟨o.slots,k b o (λz=>a (by simp[z])) e⟩) (λ_ _ _ _ n=>n)
  (λb o a e=>⟨o,k b o (λz=>a (by simp[z])) e⟩) (λ_ _ e=>e) (λ_ _ _ e=>e) (λb L e=>e) (λm l=>?_) (λb u e=>?_) I.bare
 .have e:b=it:=by simpa using y
  subst e;show⟨F,h,h2,A⟩
 .obtain ⟨o,J,K,ho,r⟩:=l;show⟨o,J,K,k _ o (fz h) ho,r⟩
 .refine (I.hok b u e).stay (λc v a q=>k c v ?_ q) (λ_ q=>q) λ_ _ q=>q;rcases a with z|z
  .rw [z];show d b u e
  .exact d c _ z
def Φ.tok(I:Φ X π σ H s)(t:Nat):Φ X π σ H {s with toks:=t}:=I.un (h':=s.heap) (t':=t) Un.refl I.hok
def Φ.kept(I:Φ X π σ H s)(k:∀b u,s.heap.get? b=ab u->h'.get? b=ab u):Φ X π σ H {s with heap:=h',toks:=t' }:=I.un (Un.kept k) (I.hok.kept k)
theorem Φ.laid{a:ah}{o:HO}{t':Nat}(I:Φ X π σ H s)(k:∀b u,s.heap.get? b=ab u->h'.get? b=ab u)(d:↥s<=a)(new:cQ X.Ω X.w (upd H a o) h' a o):
  Φ X π σ (upd H a o) {s with heap:=h',toks:=t' }:=I.un (Un.laid k d (I.hok.fresh d)) (I.hok.laid k d new)
theorem Φ.write(I:Φ X π σ H s)(d:Mut (H x))(h:e=x\/H e=ab (.own x))(k:∀b u,b≠e->s.heap.get? b=ab u->h'.get? b=ab u)(a:∃u,h'.get? e=ab u)
  (new:cQ X.Ω X.w (upd H x o) h' x o):Φ X π σ (upd H x o) {s with heap:=h',toks:=t' }:=I.un (Un.write d h k a) (I.hok.write d h k a new)
def Φ.weak(I:Φ X π σ H s)(a:⇑σ'=⇑σ)(w:∀(i:Nat) v,σ'[i]?=ab (ab v)->σ[i]?=ab (ab v)):Φ X π σ' H s :=
 ⟨I.ok,I.os,I.bare,I.ω,let ⟨m,hn,hl'⟩:=I.loc;⟨m,hn,λi x v e1 h d=>hl' i x v e1 (w i v h) d⟩,I.cell,I.free,I.k8,I.pin,I.hok,a.trans I.len⟩
def Φ.BP(I:Φ X π σ H s)(h:∀p∈SG,s.heap.get? p.1=ab p.2/\H p.1=af/\p.1≠X.env.locals/\p.1∉X.fs /\∀v,p.2.data≠.cell v):Φ X SG σ H s :=
 ⟨I.ok,I.os,I.bare,I.ω,I.loc,I.cell,I.free,I.k8,λp a=>(ie.mp a).elim (λz=>I.pin p (lh _ z)) (h p),I.hok,I.len⟩
def EC{N:Q0g}(hN:N.Nodup){i j:Nat}{x:aj}(a:N[i]?=ab x)(b:N[j]?=ab x):i=j:=by obtain⟨h,e1⟩:=de.mp a;obtain⟨h2,d⟩:=de.mp b;show(a2j hN).mp (e1.trans d.symm)
theorem yY{M:r6}{A:bt}{E:Q0c}{i:Nat}{x:aj}{v:V}{u:ai}{Q:Unit->ak->Prop}(I:Φ X π σ H s)(hN:X.N.Nodup)(hi:X.N[i]?=ab x)(J:Loc X.env.scope x)(r:Ψ v u)
  (h:∀s',Φ X π (σ.set i (ab v)) H s'->(∃a,r9 a s.heap s'.heap/\(a=X.env.locals\/X.env.cells.lookup x=ab a))->Q () s') (hf:Zp X x<|>9):ax M A (storeName X.env x u) Q E s:=by
 obtain⟨m,hn,hl⟩:=id I.loc;have hcls:(X.env.scope.kind == .class||(X.env.scope.kind == .module&&X.env.locals !=X.env.globals))=ag:=by rw[I.ok.kind];rfl
 have U:i<⇑σ:=by rw[I.len];show(de.mp hi).1
 have cne:=I.cne;have tracked:∀{a:ah} {h':a_},(∃o,s.heap.get? a=ab o/\H a=af)->r9 a s.heap h'->nE X.Ω X.w H h':=λ{a h'} ha l b ob e=>by
  obtain⟨_,_,K⟩:=ha;show(I.hok b ob e).stay (λc w' F q=>(l.2 c ?_).trans q) (λ_ q=>q) λ_ _ q=>q;rintro rfl;rcases F with rfl|F
  .rw [K] at e;cases e
  .rw [K] at F;cases F
 rcases J with O|O
 .refine wpAny_storeName_local O hn (λh' hn' l=>?_) hcls;obtain⟨oL,_,_,hoL,_⟩:=id hn;show h _ ⟨I.ok,I.os,I.bare,⟨λb o e n hb J=>?_,λb o e n hb J=>?_,I.ω.free,λb o e J=>?_,I.ω.tups,I.ω.xP,I.ω.vQ⟩,⟨_,hn',λj y v' e1 L e3=>?_⟩,λy c e=>?_,I.free,I.k8,λp hp=>?_,tracked ⟨oL,hoL,I.free⟩ l,↑I.len⟩ ⟨_,l,.inl rfl⟩
  .exact (l.2 b (gp (gu (cf e) I.ok.above))).trans (I.ω.keep b o e n hb J)
  .obtain ⟨sl,e1⟩:=I.ω.slot b o e n hb J;show⟨sl,(l.2 b (gp (gu (cf e) I.ok.above))).trans e1⟩
  .obtain ⟨o',e1⟩:=I.ω.there b o e J;show⟨o',(l.2 b (gp (gu (cf e) I.ok.above))).trans e1⟩
  .by_cases Y:j=i
   .subst Y;rw[hi] at e1;cases e1;rw[ox U] at L;cases L;show⟨u,r,.inl ⟨O,by simp⟩⟩
   .rw [kc (fz Y)] at L;obtain⟨u',r',q⟩:=hl j y v' e1 L e3;show⟨u',r',?_⟩;rcases q with⟨k,e⟩|⟨k,c,e,z⟩
    .refine .inl ⟨k,?_⟩;have:y≠x:=λe=>Y (EC hN e1 (e▸hi));simp[this,e]
    .exact .inr ⟨k,c,e,z.sameBut l (cne y c e)⟩
  .obtain ⟨w',z⟩:=I.cell y c e;show⟨w',z.sameBut l (cne y c e)⟩
  .obtain ⟨e,n,ne,nf,d⟩:=I.pin p hp;show⟨(l.2 p.1 ne).trans e,n,ne,nf,d⟩
 .have Z:X.fn x=ae:=by
   rcases hf with z|z
   .exact z
   .rw [z] at O;cases O
  obtain⟨c,F⟩:=I.ok.has x (.inl O);obtain⟨w',z⟩:=I.cell x c F;show wpAny_storeName_cell I.ok.kind O F z (λh' hc' l=>?_);obtain⟨oc,hoc,Vl⟩:=id z;show h {s with heap:=h' } ⟨I.ok,I.os,I.bare,⟨λb o e n hb J=>?_,λb o e n hb J=>?_,I.ω.free,λb o e J=>?_,I.ω.tups,I.ω.xP,I.ω.vQ⟩,⟨m,hn.sameBut l (fz (cne x c F)),λj y v' e1 L e3=>?_⟩,λy c' e=>?_,I.free,I.k8,λp hp=>?_,tracked ⟨oc,hoc,I.k8 x c F⟩ l,↑I.len⟩ ⟨c,l,.inr F⟩
  .exact (l.2 b (gp (gu (cf e) (I.ok.cab x c Z F)))).trans (I.ω.keep b o e n hb J)
  .obtain ⟨sl,e1⟩:=I.ω.slot b o e n hb J;show⟨sl,(l.2 b (gp (gu (cf e) (I.ok.cab x c Z F)))).trans e1⟩
  .obtain ⟨o',e1⟩:=I.ω.there b o e J;show⟨o',(l.2 b (gp (gu (cf e) (I.ok.cab x c Z F)))).trans e1⟩
  .by_cases Y:j=i
   .subst Y;rw[hi] at e1;cases e1;rw[ox U] at L;cases L;show⟨u,r,.inr ⟨.inl O,c,F,hc'⟩⟩
   .rw [kc (fz Y)] at L;obtain⟨u',r',q⟩:=hl j y v' e1 L e3;show⟨u',r',?_⟩;rcases q with q|⟨k,c',e,z'⟩
    .exact .inl q
    .refine .inr ⟨k,c',e,z'.sameBut l ?_⟩;rintro rfl;show Y (EC hN e1 (I.ok.inj _ _ _ e F▸hi))
  .by_cases hcc:c'=c
   .subst hcc;show⟨_,hc'⟩
   .obtain ⟨w2,z2⟩:=I.cell y c' e;show⟨w2,z2.sameBut l hcc⟩
  .obtain ⟨e,n,ne,nf,d⟩:=I.pin p hp;show⟨(l.2 p.1 ?_).trans e,n,ne,nf,d⟩;intro q;rw[q,hoc] at e;have q':oc=p.2:=dm e;show d w' (by rw[<- q'];show Vl)
theorem ED(I:Φ X π σ H s)(hN:X.N.Nodup)(d:X.N[i]?=ab x)(a:Loc X.env.scope x)(r:Ψ v u)
  (h:∀s',Φ X π (σ.set i (ab v)) H s'->Q () s') (j:Zp X x<|>9):ax M A (storeName X.env x u) Q E s :=
 yY I hN d a r (λs' l _=>h s' l) j
theorem Φ.call'(I:Φ X π σ H s)(ho:s'.os=s.os)(u:Un (frs X.stack) ch H H' s.heap s'.heap)(a:nE X.Ω X.w H' s'.heap)(j:pq s'.gens)
  (d:∀b∈ch,(b∈X.ex\/↥X.s₀<=b)/\b≠X.env.locals/\(∀x c,X.env.cells.lookup x=ab c->c≠b) /\∀p∈X.pn++π,p.1≠b):Φ X π σ H' s':=by
 obtain⟨h',g',d',t',h⟩:=s';have e:h=s.os:=ho;subst e;show I.call (g':=g') (t':=t') (d':=d') u a j d
end
abbrev XK:=ai->Option ah->Hp->Prop
abbrev St:=List (Option V)
abbrev VK:=V->Hp->Prop
abbrev TE:=St->Hp->VK->Prop
abbrev TT:=St->Hp->(Bool->Hp->Prop)->Prop
abbrev TA:=St->Hp->(List V->Hp->Prop)->Prop
structure Ends where
 nx:St->Hp->Prop
 rt:VK
 bk:St->Hp->Prop:=λ_ _=>False
 ct:St->Hp->Prop:=λ_ _=>False
abbrev TS:=Ends->St->Hp->Prop
inductive EP (X:Cx) (π:Q0b) (σ:St) (Q:VK) (u:ai) (s':ak):Prop
 |mk (v:V) (H':Hp) (I:Φ X π σ H' s') (r:Ψ v u) (q:Q v H'):EP X π σ Q u s'
inductive TP (X:Cx) (π:Q0b) (σ:St) (Q:Bool->Hp->Prop) (b:Bool) (s':ak):Prop
 |mk (H':Hp) (I:Φ X π σ H' s') (q:Q b H'):TP X π σ Q b s'
inductive AP (X:Cx) (π:Q0b) (σ:St) (Q:List V->Hp->Prop) (us:Q0f) (s':ak):Prop
 |mk (vs:List V) (H':Hp) (I:Φ X π σ H' s') (r:θ vs us) (q:Q vs H'):AP X π σ Q us s'
def SP(X:Cx)(π:Q0b)(D:Ends)(f:Flow)(s':ak):Prop :=
 match f with
 |.next=>∃a H',Φ X π a H' s'/\D.nx a H'
 |.brk=>∃a H',Φ X π a H' s'/\D.bk a H'
 |.cont=>∃a H',Φ X π a H' s'/\D.ct a H'
 |.ret u=>∃v a H',Φ X π a H' s'/\Ψ v u/\D.rt v H'
def PE(X:Cx)(e:av)(t:TE):Prop :=
 ∀(π:Q0b) (s:ak) (σ:St) (H:Hp) (Q:VK),Φ X π σ H s->t σ H Q->ax (au X.Ω X.w) X.A (eval e X.env) (EP X π σ Q) X.xe s
def PT(X:Cx)(e:av)(t:TT):Prop :=
 ∀(π:Q0b) (s:ak) (σ:St) (H:Hp) (Q:Bool->Hp->Prop),Φ X π σ H s->t σ H Q->ax (au X.Ω X.w) X.A (isTrue e X.env (eval e X.env)) (TP X π σ Q) X.xe s
def PW(X:Cx)(e:av)(t:TT):Prop :=
 ∀(whole:gr ai) (π:Q0b) (s:ak) (σ:St) (H:Hp) (Q:Bool->Hp->Prop),Φ X π σ H s->t σ H Q->ax (au X.Ω X.w) X.A (isTrue e X.env whole) (TP X π σ Q) X.xe s
def PW.pt(h:PW X e t):PT X e t:=h _
def PA(X:Cx)(d:List av)(t:TA):Prop :=
 ∀(a:bo) (π:Q0b) (s:ak) (σ:St) (H:Hp) (Q:List V->Hp->Prop),Φ X π σ H s->t σ H Q->ax (au X.Ω X.w) X.A (spliced (e_ a (ar d X.env))) (AP X π σ Q) X.xe s
def PS(X:Cx)(a:df)(t:TS):Prop :=
 ∀(π:Q0b) (s:ak) (σ:St) (H:Hp) (D:Ends),Φ X π σ H s->t D σ H->ax (au X.Ω X.w) X.A (exec a X.env) (SP X π D) X.xe s
def rE(X:Cx)(a:List df)(t:TS):Prop :=
 ∀(π:Q0b) (s:ak) (σ:St) (H:Hp) (D:Ends),Φ X π σ H s->t D σ H->ax (au X.Ω X.w) X.A (execs a X.env) (SP X π D) X.xe s
def dI{α:Type}{t:gr α}{Q Q':α->ak->Prop}{M:r6}{A:bt}{E:Q0c}{s:ak}(h:ax M A t Q E s)(d:∀a s,Q a s->Q' a s):ax M A t Q' E s:=jl h d λ_ _ x=>x
section
def sY(i:Nat):TE:=λσ H Q=>∃v,σ[i]?=ab (ab v)/\Q v H
def tC(v:V):TE:=λ_ H Q=>Q v H
def iW(hN:X.N[i]?=ab x)(p:xR X.env.scope x)(j:Zu x<|>1)(n:Zt x<|>1):PE X (.Name x ν) (sY i):=by
 intro π s σ H Q I h;obtain⟨v,e,h⟩:=h;obtain⟨m,q,z⟩:=I.loc;obtain⟨u,r,l⟩:=z i x v hN e p;have fin:EP X π σ Q u s:=⟨v,H,I,r,h⟩;rcases l with⟨d,y⟩|⟨d,c,o,a⟩
 .exact Hy (wpAny_loadName_local I.ok.kind d q y fin) j
 .rcases d with d|d
  .exact Hy (wpAny_loadName_cell I.ok.kind d o a fin) j
  .exact Hy (wpAny_loadName_free I.ok.kind d o a fin n) j
def aCA{i j ν}:PE X (.Constant (.int i) j ν) (tC (.int i)):=λ_ _ _ H _ I h=>wpAny_Constant_int ⟨.int i,H,I.tok _,⟨_,rfl⟩,h⟩
def aEd{b j ν}:PE X (.Constant (.bool b) j ν) (tC (.bl b)):=λ_ _ _ H _ I h=>Constant_bool ⟨.bl b,H,I,rfl,h⟩
def aCB{j ν}:PE X (.Constant .none j ν) (tC .non):=λ_ _ _ H _ I h=>Constant_none ⟨.non,H,I,rfl,h⟩
def aCC{x j ν}:PE X (.Constant (.str x) j ν) (tC (.str x)):=λ_ _ _ H _ I h=>Calls.Constant_str ⟨.str x,H,I.tok _,⟨_,rfl⟩,h⟩
def Gl(X:Cx)(x:aj):Prop:=X.env.kindOf x=ab .globalImplicit
theorem YQ(I:Φ X π σ H s)(d:Gl X x)(a:X.mg x=ab u)(h:Q u s)
  (j:Zu x<|>1):ax (au X.Ω X.w) X.A (eval (.Name x ν) X.env) Q E s :=
 a1h I.ok.kind d (Calls.loadGlobal_global (by rw[I.ok.glob];show I.mod.glob.keeps I.bk) a h) j
theorem iX(I:Φ X π σ H s)(l:Gl X x)(j:X.mg x=af)(a:bootBuiltins x=ab u)(h:Q u s)
  (d:x ≠ "__name__"<|>1) (m:Zu x<|>1):ax (au X.Ω X.w) X.A (eval (.Name x ν) X.env) Q E s:=by
 obtain⟨mb,n,h2⟩:=I.mod.blt;show a1h I.ok.kind l (Calls.loadGlobal_builtin (by rw[I.ok.glob];show I.mod.glob.keeps I.bk) j (by rw[I.ok.blt];show n.keeps I.bk) ((h2 x d).trans a) h) m
def YR(l:Gl X x)(j:X.mg x=af)(a:bootBuiltins x=ab u)(r:Ψ v u)(d:x ≠ "__name__"<|>1)(m:Zu x<|>1):PE X (.Name x ν) (tC v) :=
 λ_ _ _ H _ I h=>iX I l j a ⟨v,H,I,r,h⟩ d m
variable{a b:av}{ta tb:TE}{ν:bo}
def PC(X:Cx)(op:CmpOp)(a b:av)(t:TE):Prop :=
 ∀(π:Q0b) (s:ak) (σ:St) (H:Hp) (Q:VK),Φ X π σ H s->t σ H Q ->
  ax (au X.Ω X.w) X.A (eval a X.env) (λv h=>ax (au X.Ω X.w) X.A (eval b X.env) (λu d=>ax (au X.Ω X.w) X.A (compareOp op v u) (EP X π σ Q) X.xe d) X.xe h) X.xe s
def tB(t:TE):TT:=λσ H Q=>t σ H λx H1=>∃c,x=.bl c/\Q c H1
def aCD{op:CmpOp}{t:TE}(h:PC X op a b t)(j:behindInMarks op b=ag:=by first|show aEe _ ⋯ ⋯|rfl):PT X (.Compare a [op] [b] ν) (tB t):=by intro π s σ H Q I hw;show a0j (dI (h π s σ H _ I hw) λv n j=>dI j λu m h2=>dI h2 λc s3 ⟨x,H1,l,r1,q1⟩=>?_) j;obtain⟨d,rfl,q⟩:=q1;cases r1;show mr ⟨H1,l,q⟩
def aCE{e:av}{t:TE}(h:PE X e t)(j:(∀whole,isTrue e X.env whole=(do let v <- whole;standAt e.pos;holding [v] (truthy v)))<|>4):PT X e (tB t):=by intro π s σ H Q I hw;show a1z (dI (h π s σ H _ I hw) λv m ⟨x,H1,l,r1,q1⟩=>?_) (j _);obtain⟨d,rfl,q⟩:=q1;cases r1;show mr ⟨H1,l,q⟩
variable{tA tB':TT}{Θ:List av}
def AA(t u:TT):TT:=λσ H Q=>t σ H λc H1=>if c=ae then u σ H1 Q else Q ag H1
def MT(t u:TT):TT:=λσ H Q=>t σ H λc H1=>if c=ae then Q ae H1 else u σ H1 Q
def m8(t:TT):TT:=λσ H Q=>t σ H λc H1=>Q (!c) H1
theorem K8(d:PT X a tA):PW X (.BoolOp .And [a] ν) tA:=by
 intro j π s σ H Q I h;show isTrue_and (dI (d π s σ H Q I h) λc l e=>?_)
 cases c with
 |true=>show isTrue_and_nil e
 |false=>show e
theorem aCF(d:PT X a tA):PW X (.BoolOp .Or [a] ν) tA:=by
 intro j π s σ H Q I h;show isTrue_or (dI (d π s σ H Q I h) λc l e=>?_)
 cases c with
 |false=>show isTrue_or_nil e
 |true=>show e
theorem SH(n:PT X a tA)(m:PW X (.BoolOp .And (b::Θ) ν) tB'):PW X (.BoolOp .And (a::b::Θ) ν) (AA tA tB'):=by
 intro j π s σ H Q I h;show isTrue_and (dI (n π s σ H _ I h) λc l ⟨H1,d,q1⟩=>?_)
 cases c with
 |true=>show m j π l σ H1 Q d q1
 |false=>show⟨H1,d,q1⟩
theorem aEf(n:PT X a tA)(m:PW X (.BoolOp .Or (b::Θ) ν) tB'):PW X (.BoolOp .Or (a::b::Θ) ν) (MT tA tB'):=by
 intro j π s σ H Q I h;show isTrue_or (dI (n π s σ H _ I h) λc l ⟨H1,d,q1⟩=>?_)
 cases c with
 |true=>show⟨H1,d,q1⟩
 |false=>show m j π l σ H1 Q d q1
def aCG(d:PT X a tA):PT X (.UnaryOp .Not a ν) (m8 tA):=by intro π s σ H Q I h;show isTrue_not (dI (d π s σ H (λc H1=>Q (!c) H1) I h) λ_ _ ⟨H1,j,q⟩=>⟨H1,j,q⟩)
def aEg(ta tb:TE):TE:=λσ H Q=>ta σ H λx H1=>∃c,x=.bl c/\if c=ae then tb σ H1 Q else Q (.bl ag) H1
def aEh(ta:TE):TE:=λσ H Q=>ta σ H λx H1=>∃c,x=.bl c/\Q (.bl (!c)) H1
def aCH{op}(h:PE X a t):PE X (.BoolOp op [a] ν) t:=λπ s σ H Q I hw=>BoolOp_one (h π s σ H Q I hw)
theorem aCI(m:PE X a ta)(l:PE X (.BoolOp .And (b::Θ) ν) tb):PE X (.BoolOp .And (a::b::Θ) ν) (aEg ta tb):=by
 intro π s σ H Q I h;show BoolOp_and (dI (m π s σ H _ I h) λv j ⟨x,H1,d,r1,q1⟩=>?_);obtain⟨c,rfl,q1⟩:=q1;cases r1;show mr ?_
 cases c with
 |true=>show l π j σ H1 Q d q1
 |false=>show⟨.bl ag,H1,d,rfl,q1⟩
def aCJ(d:PE X a ta):PE X (.UnaryOp .Not a ν) (aEh ta):=by intro π s σ H Q I h;show UnaryOp_ (dI (d π s σ H _ I h) λv l ⟨x,H1,j,r1,q1⟩=>?_);obtain⟨c,rfl,q1⟩:=q1;cases r1;show not_of (mr ⟨.bl (!c),H1,j,rfl,q1⟩)
def Lv(t:TT)(ta tb:TE):TE:=λσ H Q=>t σ H λc H1=>if c=ae then ta σ H1 Q else tb σ H1 Q
theorem EE{c:av}(m:PT X c tA)(o:PE X a ta)(n:PE X b tb):PE X (.IfExp c a b ν) (Lv tA ta tb):=by
 intro π s σ H Q I h;show wpAny_IfExp (dI (m π s σ H _ I h) λd j ⟨H1,l,q1⟩=>?_)
 cases d with
 |true=>show o π j σ H1 Q l q1
 |false=>show n π j σ H1 Q l q1
end
def c7(K:aq)(H:Hp)(a:ah)(xs:List V):Prop :=
 Rd H a (.lst xs) \/
  ∃(o:ay) (d:Array ai) (n:Nat),K.lookup a=ab o/\o.cls=.type "list" /\o.dict=af/\o.data=.seq d n/\d.size<=br/\θ xs d.toList
def eJ(K:aq)(H:Hp)(a:ah)(xs:List V):Prop :=
 Rd H a (.tup xs) \/
  ∃(o:ay) (d:Array ai) (n:Nat),K.lookup a=ab o/\o.cls=.type "tuple" /\o.data=.seq d n/\d.size<=br/\θ xs d.toList
noncomputable def Vk:ai->Option V
 |.none=>ab .non
 |.bool b=>ab (.bl b)
 |.int i _=>ab (.int i)
 |.str x _=>ab (.str x)
 |.bytes b _=>ab (.NQ b)
 |.float b _=>ab (.flt b)
 |.ref a=>ab (.ref a)
 |.type n=>ab (.ty n)
 |_=>af
theorem Ψ.abs(r:Ψ x u):Vk u=ab x:=by
 cases x with
 |non=>cases r;rfl
 |bl _=>cases r;rfl
 |int _=>obtain⟨t,rfl⟩:=r;rfl
 |str _=>obtain⟨t,rfl⟩:=r;rfl
 |NQ _=>obtain⟨t,rfl⟩:=r;rfl
 |flt _=>obtain⟨t,rfl⟩:=r;rfl
 |ref _=>cases r;rfl
 |ty _=>cases r;rfl
def Ψ.inj{x y:V}{u:ai}(r:Ψ x u)(q:Ψ y u):x=y:=dm (r.abs.symm.trans q.abs)
theorem θ.inj:∀{xs ys:List V} {us:Q0f},θ xs us->θ ys us->xs=ys
 |_,_,_,.nil,.nil=>rfl
 |_,_,_,.cons r t,.cons r' t'=>by rw[r.inj r',θ.inj t t']
section
variable{π:Q0b}{σ:St}{H:Hp}{s:ak}{a:ah}{xs ys:List V}
def c7.of{K:aq}(h:H a=ab (.lst xs)):c7 K H a xs:=.inl (.inl h)
def eJ.of{K:aq}(h:H a=ab (.tup xs)):eJ K H a xs:=.inl (.inl h)
def Φ.list(I:Φ X π σ H s)(h:c7 X.K H a xs):∃d:Q0f,θ xs d/\PlainL s.heap a d.toArray/\⇑xs<=br:=by
 rcases h with h|⟨o,d,n,l,p,m,j,q,r⟩
 .obtain ⟨z,d,n,r,e⟩:=h.ok I.hok;show⟨d,r,⟨_,n,e,rfl,rfl,rfl⟩,z⟩
 .refine ⟨d.toList,r,⟨o,n,I.BN a o l,p,m,↑j⟩,?_⟩;have e:=⇑r;erw[iu] at e;lia
def Φ.tuple(I:Φ X π σ H s)(h:eJ X.K H a xs):∃d:Q0f,θ xs d/\jg s.heap a d.toArray/\⇑xs<=br:=by
 rcases h with h|⟨o,d,n,l,m,j,q,r⟩
 .obtain ⟨z,d,r,p,_⟩:=h.ok I.hok;show⟨d,r,p,z⟩
 .refine ⟨d.toList,r,⟨o,I.BN a o l,m,n,↑j⟩,?_⟩;have e:=⇑r;erw[iu] at e;lia
def Φ.d7(I:Φ X π σ H s)(h:c7 X.K H a xs)(h':c7 X.K H a ys):xs=ys:=by
 obtain⟨l,r,⟨o,n,e,_,_,d⟩,_⟩:=I.list h;obtain⟨its',m,⟨q,v,j,_,_,d'⟩,_⟩:=I.list h';rw[e] at j;cases j;rw[d] at d';injection d' with p _;have:l=its':=by simpa using congrArg a2P p
 subst this;show r.inj m
def Φ.gO(I:Φ X π σ H s)(h:eJ X.K H a xs)(h':eJ X.K H a ys):xs=ys:=by
 obtain⟨l,r,⟨o,e,_,n,d⟩,_⟩:=I.tuple h;obtain⟨its',m,⟨q,j,_,v,d'⟩,_⟩:=I.tuple h';rw[e] at j;cases j;rw[d] at d';injection d' with p _;have:l=its':=by simpa using congrArg a2P p
 subst this;show r.inj m
end
abbrev Cx.wish(X:Cx)(E:Q0c):Cx:={X with xe:=E}
abbrev Cx.EG(X:Cx):Cx:=X.wish λ_ _=>False
def Cx.Ok.wish{X:Cx}(ok:X.Ok)(E:Q0c):(X.wish E).Ok :=
 ⟨ok.mod,ok.kind,ok.glob,ok.blt,ok.above,ok.inj,ok.has,ok.cab,ok.hd,ok.frames,ok.stk,ok.exf,ok.bs,ok.WQ,ok.SE,ok.YO,ok.vR,ok.frf,ok.tab⟩
def Cx.Ok.mB{X:Cx}{E:Q0c}(ok:(X.wish E).Ok):X.Ok :=
 ⟨ok.mod,ok.kind,ok.glob,ok.blt,ok.above,ok.inj,ok.has,ok.cab,ok.hd,ok.frames,ok.stk,ok.exf,ok.bs,ok.WQ,ok.SE,ok.YO,ok.vR,ok.frf,ok.tab⟩
section
variable{π:Q0b}{σ:St}{H:Hp}{s:ak}{E:Q0c}
def Φ.wish(I:Φ X π σ H s)(E:Q0c):Φ (X.wish E) π σ H s:=⟨I.ok.wish E,I.os,I.bare,I.ω,I.loc,I.cell,I.free,I.k8,I.pin,I.hok,I.len⟩
def Φ.mB(I:Φ (X.wish E) π σ H s):Φ X π σ H s:=⟨I.ok.mB,I.os,I.bare,I.ω,I.loc,I.cell,I.free,I.k8,I.pin,I.hok,I.len⟩
theorem SP.mB{D:Ends}{f:Flow}{s':ak}(h:SP (X.wish E) π D f s'):SP X π D f s':=by
 cases f with
 |next=>obtain⟨a,H',I,q⟩:=h;show⟨a,H',I.mB,q⟩
 |brk=>obtain⟨a,H',I,q⟩:=h;show⟨a,H',I.mB,q⟩
 |cont=>obtain⟨a,H',I,q⟩:=h;show⟨a,H',I.mB,q⟩
 |ret u=>obtain⟨v,a,H',I,r,q⟩:=h;show⟨v,a,H',I.mB,r,q⟩
def rE.EG{a:List df}{t:TS}(h:rE X.EG a t):rE X a t:=λπ s σ H D I hw =>
 jl (h π s σ H D (I.wish _) hw) (λ_ _ q=>q.mB) λ_ _ z=>l_ z
variable{st:df}{Θ:List df}{t u:TS}{e:av}{te:TE}{ν:bo}
def aEi:TS:=λD σ H=>D.nx σ H
def vT(t u:TS):TS:=λD σ H=>t {D with nx:=u D} σ H
def YS:rE X [] aEi:=λ_ _ σ H _ I h=>Bc ⟨σ,H,I,h⟩
theorem pO(j:PS X st t)(h2:rE X Θ u):rE X (st::Θ) (vT t u):=by
 intro π s σ H D I h;show a0o (dI (j π s σ H {D with nx:=u D} I h) λf d q=>?_)
 cases f with
 |next =>
  obtain⟨a,H',l,q⟩:=q;show h2 π d a H' D l q
 |ret v=>show q
 |brk=>show q
 |cont=>show q
theorem BQ(a:PS X st t):rE X [st] t:=by
 intro π s σ H D I h;show a0o (dI (a π s σ H D I h) λf d q=>?_)
 cases f with
 |next=>show Bc q
 |ret v=>show q
 |brk=>show q
 |cont=>show q
def Φ.quiet(I:Φ X π σ H s):interactive X.env=ag:=by simp[interactive,I.ok.kind]
def aEj(te:TE):TS:=λD σ H=>te σ H λ_ H1=>D.nx σ H1
def K9(d:PE X e te)(a:g_ e af ν.line X.env=pure ag<|>0):PS X (.Expr e ν) (aEj te):=by intro π s σ H D I h;show wpAny_Expr_any (dI (d π s σ H _ I h) λv l ⟨x,H1,j,r1,q1⟩=>⟨σ,H1,j,q1⟩) I.quiet a
def Ag(te:TE):TS:=λD σ H=>te σ H D.rt
def HD(a:PE X e te):PS X (.Return (ab e) ν) (Ag te):=by intro π s σ H D I h;show wpAny_Return_some (dI (a π s σ H _ I h) λv j ⟨x,H1,d,r1,q1⟩=>⟨x,σ,H1,d,r1,q1⟩)
def Vj(c:TT)(t u:TS):TS:=λD σ H=>c σ H λb H1=>if b=ae then t D σ H1 else u D σ H1
theorem G_(m:PT X c tc)(o:rE X a t)(n:rE X b u):PS X (.If c a b ν) (Vj tc t u):=by
 intro π s σ H D I h;show wpAny_If (dI (m π s σ H _ I h) λd j ⟨H1,l,q1⟩=>?_)
 cases d with
 |true=>show o π j σ H1 D l q1
 |false=>show n π j σ H1 D l q1
end
abbrev TG:=V->St->Hp->(St->Hp->Prop)->Prop
abbrev TGs:=List V->St->Hp->(St->Hp->Prop)->Prop
def PG(X:Cx)(target:av)(t:TG):Prop :=
 ∀(π:Q0b) (s:ak) (σ:St) (H:Hp) (v:V) (u:ai) (Q:St->Hp->Prop),Φ X π σ H s->Ψ v u->t v σ H Q ->
  ax (au X.Ω X.w) X.A (assign target X.env u) (λ_ s'=>∃a H',Φ X π a H' s'/\Q a H') X.xe s
def PGs(X:Cx)(d:List av)(t:TGs):Prop :=
 ∀(π:Q0b) (s:ak) (σ:St) (H:Hp) (vs:List V) (us:Q0f) (Q:St->Hp->Prop),Φ X π σ H s->θ vs us->t vs σ H Q ->
  ax (au X.Ω X.w) X.A (assignInOrder ((fw d X.env).map (·.2)) us) (λ_ s'=>∃a H',Φ X π a H' s'/\Q a H') X.xe s
abbrev Fm:=V->V->V->Hp->(Hp->Prop)->Prop
def Fl(X:Cx)(t:Fm):Prop :=
 ∀(π:Q0b) (s:ak) (σ:St) (H:Hp) (o i v:V) (a d u:ai) (Q:Hp->Prop),Φ X π σ H s->Ψ o a->Ψ i d->Ψ v u->t o i v H Q ->
  ax (au X.Ω X.w) X.A (setItem a d u) (λ_ s'=>∃H',Φ X π σ H' s'/\Q H') X.xe s
section
variable{ν:bo}
def yZ(i:Nat):TG:=λv σ H Q=>Q (σ.set i (ab v)) H
def kO(hN:X.N.Nodup)(d:X.N[i]?=ab x)(a:Loc X.env.scope x)(j:Zp X x<|>9):PG X (.Name x ν) (yZ i):=by intro π s σ H v u Q I r h;show a0q (ED I hN d a r (λs' l=>⟨_,H,l,h⟩) j)
def Vi:TGs:=λvs σ H Q=>vs=[]/\Q σ H
def aEo(t:TG)(u:TGs):TGs:=λvs σ H Q=>∃v r,vs=v::r/\t v σ H λa H'=>u r a H' Q
def LA:PGs X [] Vi:=by intro π s σ H vs us Q I r h;obtain⟨e,h⟩:=h;subst e;cases r;show assignInOrder_nil ⟨σ,H,I,h⟩
theorem pP(l:PG X e t)(h2:PGs X es u)
  (j:((fw (e::es) X.env).map (·.2)=assign e X.env::(fw es X.env).map (·.2))<|>0):PGs X (e::es) (aEo t u):=by
 intro π s σ H vs us Q I r h;obtain⟨v,n,e1,h⟩:=h;subst e1
 cases r with
 |cons r rr =>
  rw[j];show assignInOrder_cons (dI (l π s σ H _ _ _ I r h) λ_ d ⟨a,H1,m,q1⟩=>?_);show h2 π d a H1 _ _ Q m rr q1
def Vh(K:aq)(n:Nat)(t:TGs):TG:=λv σ H Q=>∃a xs,v=.ref a/\eJ K H a xs/\⇑xs=n/\t xs σ H Q
theorem SI(y:X.calm=ae)(h:PGs X es t)
  (q:⇑(fw es X.env)=n<|>0) (d:(fw es X.env).findIdx? (·.1)=af<|>0):PG X (.Tuple es k ν) (Vh X.K n t):=by
 intro π s σ H v u Q I r hw;obtain⟨a,xs,e1,p,x,hw⟩:=hw;subst e1;cases r;obtain⟨A,j,m,F⟩:=I.tuple p;show assign_Tuple_tuple (I.ok.hd y) m (by simp[q,<- x,⇑j]) d λh' l=>?_;have z:Φ X π σ H {s with heap:=h' }:=I.kept (t':=s.toks) λb o e=>l b o (gp (cf e)) e;show h π _ σ H xs _ Q z ↑j hw
def Vg(a d:TE)(t:Fm):TG:=λv σ H Q=>a σ H λo H1=>d σ H1 λi j=>t o i v j λh=>Q σ h
theorem aCL(ho:PE X o to)(q:PE X i ti)(p:Fl X t)
  (z:∀v,assign (.Subscript o i ν) X.env v=(do
   let a <- holding [v] (eval o X.env)
   let d <- holding [v,a] (eval i X.env)
   standAt ν
   holding [v,a,d] (setItem a d v)
   release [v,a,d] []):=by intro _;rfl):PG X (.Subscript o i ν) (Vg to ti t):=by
 intro π s σ H v u Q I r h;rw[z];show ao (i_ (dI (ho π s σ H _ I h) λa l ⟨x,H1,J,r1,q1⟩=>?_));show ao (i_ (dI (q π l σ H1 _ J q1) λd j ⟨y,L,F,m,q2⟩=>?_));show ao (Hv (ao (i_ (dI (p π j σ L x y v a d u _ F r1 m r q2) λ_ s3 ⟨K,A,n⟩=>?_))));show wpAny_release ⟨σ,K,A,n⟩
def Af(te:TE)(g:TG):TS:=λD σ H=>te σ H λx H1=>g x σ H1 D.nx
def aCN(l:PE X e te)(j:PG X tg g)(d:swapsWithSole [tg] e ν.line X.env=pure ag<|>0)(hw:swappedStores [tg] e X.env=pure af<|>0)
  (m:(fw [tg] X.env).map (·.2)=[assign tg X.env]<|>0):PS X (.Assign [tg] e ν) (Af te g):=by
 intro π s σ H D I h;show wpAny_Assign_stores (dI (l π s σ H _ I h) λv a ⟨x,H1,n,r1,q1⟩=>?_) d hw;rw[m];show dI (j π a σ H1 x v _ n r1 q1) λ_ o q=>q
def oB(hN:X.N.Nodup)(j:X.N[i]?=ab x)(a:Loc X.env.scope x)(m:PE X e te)(d:Si X e x pos' ν<|>0)(l:Zp X x<|>9):
  PS X (.Assign [.Name x pos'] e ν) (Af te (yZ i)):=by
 intro π s σ H D I h;show wpAny_Assign_Name (dI (m π s σ H _ I h) λv q ⟨y,H1,o,r1,q1⟩=>?_) d;show ED o hN j a r1 (λp n=>⟨_,H1,n,q1⟩) l
def aCO(c:TT)(h:TS):TS:=λD σ H=>∃W:Nat->St->Hp->Prop,(∃m,W m σ H) /\∀m σ H,W m σ H ->
 c σ H λb H1=>if b=ae then ∃N:St->Hp->Prop,(∀a H',N a H' ->∃d,d<m/\W d a H')/\h {D with nx:=N,ct:=N,bk:=D.nx} σ H1 else D.nx σ H1
theorem SJ(y:uw (au X.Ω X.w) X.A X.env X.xe)(Y:PT X c tc)(Z:rE X body tb):PS X (.While c body [] ν) (aCO tc tb):=by
 intro π s σ H D I h;obtain⟨W,⟨U,K⟩,turn⟩:=h;show wpAny_While (codeAny_whileLoop (λn s'=>∃j H',Φ X π j H' s'/\W n j H') ?_ U ⟨σ,H,I,K⟩);rintro n O ⟨d,H1,I1,J⟩;show rf y (dI (Y π O d H1 _ I1 (turn n d H1 J)) λb L ⟨F,z,q2⟩=>?_)
 cases b with
 |true =>
  obtain⟨N,hN,q2⟩:=q2;rw[Z_ rfl];show rf y (dI (Z π L d F _ z q2) λf s3 m=>?_)
  cases f with
  |next =>
   obtain⟨a,l,x,n3⟩:=m;obtain⟨p,q,o⟩:=hN a l n3;show⟨p,q,a,l,x,o⟩
  |cont =>
   obtain⟨a,l,x,n3⟩:=m;obtain⟨p,q,o⟩:=hN a l n3;show⟨p,q,a,l,x,o⟩
  |brk=>show m
  |ret v=>show m
 |false =>
  rw[Zz bz];show Bc ⟨d,F,z,q2⟩
end
structure It where
 go:Nat->Hp->Prop
 yld:Nat->Hp->V->Hp->Prop
 stop:Nat->Hp->Prop
def nF(X:Cx)(π:Q0b)(H:Hp)(b:ah):Prop :=
 H b=af/\b≠X.env.locals/\b∉X.fs/\(b∈X.ex\/↥X.s₀<=b)/\(∀x c,X.env.cells.lookup x=ab c->c≠b) /\∀p∈X.pn++π,p.1≠b
theorem Φ.vU(I:Φ X π σ H s)(a:↥s<=b)(h:H' b=af):nF X π H' b:=by
 show⟨h,ni (gu I.lt a),I.Vm a,.inr (jb I.sz a),λx c e z=>?_,λp d z=>?_⟩
 .obtain ⟨v,q⟩:=I.cell x c e;show Zw (gu q.lt (by rw[z];show a)) (jr _)
 .exact Zw (gu (cf (I.pin p d).1) (by rw[z];show a)) (jr _)
structure Turn (P:bh) (w:bg) (K:aq) (tg:av) (J:It) (fp:List ah) (it:ah) (tn:Nat->a_->Prop):Prop where
 mem:it∈fp
 obj:∀i h,tn i h ->∀b∈fp,∃o,h.get? b=ab o /\∀v,o.data≠.cell v
 keep:∀i h h',tn i h->(∀b∈fp,∀o,h.get? b=ab o->h'.get? b=ab o)->tn i h'
 item:∀(X:Cx),X.Ω=P->X.w=w->X.K=K->X.calm=ae ->∀(i:Nat) (π:Q0b) (s:ak) (σ:St) (H:Hp) (E:Q0c),Φ X π σ H s->(∀b∈fp,nF X π H b)->tn i s.heap->J.go i H ->
  ax (au P w) X.A (pyNext (.ref it)) (λr s1=>∃u,r=ab u /\
   ax (au P w) X.A (letOwnedTupleGo tg (.ref it) u) (λ_ s2=>∃x H',Φ X π σ H' s2/\Ψ x u/\J.yld i H x H'/\tn (i+1) s2.heap /\∀b∈fp,H' b=af) E s1) E s
 done:∀(X:Cx),X.Ω=P->X.w=w->X.K=K->X.calm=ae ->∀(i:Nat) (π:Q0b) (s:ak) (σ:St) (H:Hp) (E:Q0c),Φ X π σ H s->(∀b∈fp,nF X π H b)->tn i s.heap->J.stop i H ->
  ax (au P w) X.A (pyNext (.ref it)) (λr s1=>r=af/\Φ X π σ H s1) E s
 self:∀(A:bt) (i:Nat) (s:ak) (Q:Q0c) (E:Q0c),tn i s.heap->Q (.ref it) s->ax (au P w) A (pyIter (.ref it)) Q E s
abbrev TI:=St->Hp->(It->Hp->Prop)->Prop
inductive PIE (X:Cx) (π:Q0b) (σ:St) (tg:av) (R:It->Hp->Prop) (itv:ai) (s2:ak):Prop
 |mk (it:ah) (fp:List ah) (tn:Nat->a_->Prop) (J:It) (H':Hp) (e:itv=.ref it) (I:Φ X π σ H' s2) (t:Turn X.Ω X.w X.K tg J fp it tn) (h0:tn 0 s2.heap) (hf:∀b∈fp,nF X π H' b) (r:R J H'):PIE X π σ tg R itv s2
def PI(X:Cx)(a iter:av)(wi:TI):Prop :=
 ∀(π:Q0b) (s:ak) (σ:St) (H:Hp) (R:It->Hp->Prop),Φ X π σ H s->wi σ H R ->
  ax (au X.Ω X.w) X.A (eval iter X.env) (λv d=>ax (au X.Ω X.w) X.A (pyIter v) (PIE X π σ a R) X.xe d) X.xe s
theorem SK(ho:s.heap.get? it=ab o)(l:o.cls=.type n)(j:o.data=.fields vs)
  (d:["enumerate","zip","dict_itemiterator","dict_reverseitemiterator","odict_iterator","itertools.zip_longest","itertools.pairwise"].contains n=ag) (a:Q () s):ax M A (letOwnedTupleGo tg (.ref it) u) Q E s:=by
 delta letOwnedTupleGo;cases tg<;>first
  |show az a
  | (cases u<;>first
    |show az a
    | (show ao (Ba ho ?_)
       rw[l,j];show ax M A (if(["enumerate","zip","dict_itemiterator","dict_reverseitemiterator","odict_iterator","itertools.zip_longest","itertools.pairwise"].contains n&&vs[0]? == ab (rawInt _))=ae then _ else _) Q E s;rw[Zz (by intro h;rw[d,ue] at h;cases h)];show az a))
def Itl(K:aq)(a:ah):It :=
 ⟨λi H=>∃xs x,c7 K H a xs/\xs[i]?=ab x,λi H x H'=>H'=H /\∀xs,c7 K H a xs->xs[i]?=ab x,λi H=>∃xs,c7 K H a xs/\⇑xs<=i⟩
def Itt(K:aq)(a:ah):It :=
 ⟨λi H=>∃xs x,eJ K H a xs/\xs[i]?=ab x,λi H x H'=>H'=H /\∀xs,eJ K H a xs->xs[i]?=ab x,λi H=>∃xs,eJ K H a xs/\⇑xs<=i⟩
def Itr(lo:Int)(n:Nat):It:=⟨λi _=>i<n,λi H x H'=>H'=H/\x=.int (lo+i),λi _=>n<=i⟩
theorem y4{P:bh}{w:bg}{K:aq}{tg:av}(a it:ah):Turn P w K tg (Itl K a) [it] it (λi h=>h.IsListIter it a i) where
 mem:=by simp
 obj:=λi h j b l=>by
  have e:b=it:=by simpa using l
  subst e;obtain⟨o,e,c,d⟩:=j;show⟨o,e,λv z=>by rw[d] at z;cases z⟩
 keep:=λi h h' j k=>j.at λo e=>k it (by simp) o e
 item:=by intro X J hw L hc i π s σ H E I q j F;subst J hw L;obtain⟨xs,x,n,A⟩:=F;obtain⟨ι,y,p,hz⟩:=I.list n;obtain⟨u,hu,ru⟩:=y.get A;obtain⟨f0,Z,f2,Y,U,O⟩:=q it (by simp);show wpAny_pyNext_list_item j p.isList (x:=u) ↑hu λh' m sb=>?_;have I1:Φ X π σ H {s with heap:=h' }:=I.turned (t':=s.toks) (λb o l e=>(sb.2 b l).trans e) f0 Z Y U O;obtain⟨o,e,c,d⟩:=id m;show⟨u,rfl,SK (s:={s with heap:=h' }) e c d ⋯ ⟨x,H,I1,ru,⟨rfl,λys hy=>by rw[I.d7 hy n];show A⟩,m,λb l=>(q b l).1⟩⟩
 done:=by intro X J hw L hc i π s σ H E I q j F;subst J hw L;obtain⟨xs,n,A⟩:=F;obtain⟨ι,y,p,hz⟩:=I.list n;obtain⟨f0,Z,f2,Y,U,O⟩:=q it (by simp);have hl:=⇑y;show wpAny_pyNext_list_end (I.ok.hd hc) j p.isList (by simp;lia) λh' eb=>⟨rfl,I.turned (t':=s.toks) (λb o l e=>eb b o l e) f0 Z Y U O⟩
 self:=λ_ _ _ _ _ j h=>wpAny_pyIter_listiter j h
theorem HE{P:bh}{w:bg}{K:aq}{tg:av}(a it:ah):Turn P w K tg (Itt K a) [it] it (λi h=>h.IsTupleIter it a i) where
 mem:=by simp
 obj:=λi h j b l=>by
  have e:b=it:=by simpa using l
  subst e;obtain⟨o,e,c,d⟩:=j;show⟨o,e,λv z=>by rw[d] at z;cases z⟩
 keep:=λi h h' j k=>j.at λo e=>k it (by simp) o e
 item:=by intro X L hw O hc i π s σ H E I q j J;subst L hw O;obtain⟨xs,x,n,F⟩:=J;obtain⟨y,A,p,hz⟩:=I.tuple n;obtain⟨u,hu,ru⟩:=A.get F;obtain⟨f0,f1,f2,Z,Y,U⟩:=q it (by simp);show wpAny_pyNext_tuple_item j (show s.heap.IsTuple a y.toArray from p) (x:=u) ↑hu λh' m sb=>?_;have I1:Φ X π σ H {s with heap:=h' }:=I.turned (t':=s.toks) (λb o l e=>(sb.2 b l).trans e) f0 f1 Z Y U;obtain⟨o,e,c,d⟩:=id m;show⟨u,rfl,SK (s:={s with heap:=h' }) e c d ⋯ ⟨x,H,I1,ru,⟨rfl,λys hy=>by rw[I.gO hy n];show F⟩,m,λb l=>(q b l).1⟩⟩
 done:=by intro X L hw O hc i π s σ H E I q j J;subst L hw O;obtain⟨xs,n,F⟩:=J;obtain⟨y,A,p,hz⟩:=I.tuple n;obtain⟨f0,f1,f2,Z,Y,U⟩:=q it (by simp);have hl:=⇑A;show wpAny_pyNext_tuple_end (I.ok.hd hc) j (show s.heap.IsTuple a y.toArray from p) (by simp;lia) λh' eb=>⟨rfl,I.turned (t':=s.toks) (λb o l e=>eb b o l e) f0 f1 Z Y U⟩
 self:=λ_ _ _ _ _ j h=>wpAny_pyIter_tupleiter j h
theorem HF{P:bh}{w:bg}{K:aq}{Y:av}(it:ah)(lo:Int)(n:Nat):Turn P w K Y (Itr lo n) [it] it (λi h=>a02 h it (lo+(i:Nat)*1) ((n:Int)-(i:Nat)) 1) where
 mem:=by simp
 obj:=λi h a b d=>by
  have e:b=it:=by simpa using d
  subst e;show⟨_,a,λv z=>by have U:Data.fields _=Data.cell v:=z;cases U⟩
 keep:=λi h h' a k=>k it (by simp) _ a
 item:=by intro X q hw x p i π s σ H E I l a m;subst q hw x;obtain⟨L,J,f2,F,A,y⟩:=l it (by simp);have W:=Walks.range (prog:=X.Ω) (w:=X.w) (I.ok.hd p) it lo 1 n;show W.item i s _ _ m a λv h' O hv j Z=>?_;obtain⟨t,rfl⟩:=hv;have I1:Φ X π σ H {s with heap:=h',toks:=O}:=I.turned (λb o d e=>Z b o ↑d e) L J F A y;show⟨_,rfl,SK (s:={s with heap:=h',toks:=O}) (n:="range_iterator") j rfl rfl ⋯ ⟨.int (lo+i),H,I1,⟨t,?_⟩,⟨rfl,rfl⟩,j,λb d=>(l b d).1⟩⟩;rw[Ld]
 done:=by intro X q hw x p i π s σ H E I l a m;subst q hw x;obtain⟨L,J,f2,F,A,y⟩:=l it (by simp);show wpAny_pyNext_range_end (I.ok.hd p) a (by have:n<=i:=m;lia) λh' eb=>⟨rfl,I.turned (t':=s.toks) (λb o d e=>eb b o d e) L J F A y⟩
 self:=λ_ _ _ _ _ a h=>wpAny_pyIter_rangeiter a h
section
variable{tg:av}
def SM(K:aq)(d:TE):TI:=λσ H R=>d σ H λx H1=>∃a,x=.ref a/\(∃xs,c7 K H1 a xs)/\R (Itl K a) H1
def YT{l:av}{n:TE}(z:PE X l n):PI X tg l (SM X.K n):=by
 intro π s σ H R I h;show dI (z π s σ H _ I h) λv d m=>?_;obtain⟨x,H1,j,r1,q1⟩:=m;obtain⟨a,e,⟨xs,y⟩,q⟩:=q1;subst e;cases r1;obtain⟨F,J,p,L⟩:=j.list y;show wt p.isList ?_;show⟨↥d,[↥d],_,_,H1,rfl,j.kept (t':=d.toks) λb o e=>cx _ e,y4 a _,⟨_,d_ _ rfl,rfl,rfl⟩,λb A=>?_,q⟩;have e:b=↥d:=by simpa using A
 subst e;show j.vU (bq _) (j.hok.fresh (bq _))
theorem EH{π:Q0b}{σ:St}{H:Hp}{s:ak}{R:It->Hp->Prop}{E:Q0c}{lo a:Int}{t u v:iz}{d:Nat}(I:Φ X π σ H s)(n:-(2^62)<=lo)(h2:lo<2^62)(m:-(2^62)<=a)(l:a<2^62)
  (q:R (Itr lo (a-lo).toNat) H):ax (au X.Ω X.w) X.A (pyIter (.ref ↥s)) (PIE X π σ tg R) E {s with heap:=s.heap.push {cls:=.type "range",data:=.fields #[.int lo t,.int a u,.int 1 v]},toks:=d}:=by
 show wpAny_pyIter_range (IsRange.new ..) (H_ n h2 m l) ?_;have h:Φ X π σ H {s with heap:=s.heap.push {cls:=.type "range",data:=.fields #[.int lo t,.int a u,.int 1 v]},toks:=d}:=I.kept λb o e=>cx _ e;show⟨(s.heap.push {cls:=.type "range",data:=.fields #[.int lo t,.int a u,.int 1 v]}).objs.size,[(s.heap.push {cls:=.type "range",data:=.fields #[.int lo t,.int a u,.int 1 v]}).objs.size],_,_,H,rfl,
  h.kept (t':=d) λb o e=>cx _ e,HF _ lo (a-lo).toNat,?_,λb j=>?_,q⟩
 .have e1:lo+((0:Nat):Int)*1=lo:=by simp
  have p:(((a-lo).toNat:Nat):Int)-((0:Nat):Int)=ve lo a 1:=by rw[Ie];split<;>lia
  show a02 _ _ (lo+((0:Nat):Int)*1) ((((a-lo).toNat:Nat):Int)-((0:Nat):Int)) 1;rw[e1,p];show d_ _ rfl
 .have e:b=(s.heap.push {cls:=.type "range",data:=.fields #[.int lo t,.int a u,.int 1 v]}).objs.size:=by simpa using j
  subst e;show h.vU (bq _) (h.hok.fresh (bq _))
def aEq(a:TA):TI:=λσ H R=>a σ H λvs H1=>∃j:Int,vs=[.int j] /\ -(2^62)<=j/\j<2^62/\R (Itr 0 j.toNat) H1
def aEr(a:TA):TI:=λσ H R=>a σ H λvs H1=>∃i j:Int,vs=[.int i,.int j]/\(-(2^62)<=i/\i<2^62 /\ -(2^62)<=j/\j<2^62)/\R (Itr i (j-i).toNat) H1
theorem NT{a:av}{l:TA}{p d:bo}(o:Gl X "range")(n:X.mg "range"=af)(v:PA X [a] l)(m:ar [a] X.env=[(ag,eval a X.env)]<|>0):PI X tg (.Call (.Name "range" p) [a] [] d) (aEq l):=by
 intro π s σ H R I h;show vh (iX I o n Jp (sx (dI (v d π s σ H _ I h) λus y ⟨vs,H1,x,r1,q1⟩=>?_) m rfl));obtain⟨j,e,q1,q2,q⟩:=q1;subst e
 cases r1 with
 |cons r rr =>
  cases rr;obtain⟨t,rfl⟩:=r;show a0E (EH x ∅ ∅ q1 q2 ↑q)
theorem NU(v:Gl X "range")(o:X.mg "range"=af)(x:PA X [a,b] ta)(n:ar [a,b] X.env=[(ag,eval a X.env),(ag,eval b X.env)]<|>0)(d:ar [b] X.env=[(ag,eval b X.env)]<|>0):
  PI X tg (.Call (.Name "range" p) [a,b] [] ν) (aEr ta):=by
 intro π s σ H R I h;show vh (iX I v o Jp (sx (dI (x ν π s σ H _ I h) λus z ⟨vs,H1,y,r1,q1⟩=>?_) (by rw[n,d]) (by rw[d];rfl)));obtain⟨i,j,e,⟨q1,q2,m,l⟩,q⟩:=q1;subst e
 cases r1 with
 |cons r rr =>
  cases rr with
  |cons r' rr =>
   cases rr;obtain⟨t,rfl⟩:=r;obtain⟨t',rfl⟩:=r';show call_range_2 (EH y q1 q2 m l q)
def Vf(wi:TI)(g:TG)(j:TS):TS:=λD σ H=>wi σ H λJ H1=>∃W:Nat->Nat->St->Hp->Prop,(∃m,W 0 m σ H1) /\∀i m σ H,W i m σ H ->
 (J.stop i H/\D.nx σ H)\/(J.go i H /\∃N:St->Hp->Prop,(∀a H',N a H' ->∃h,h<m/\W (i+1) h a H') /\∀x H',J.yld i H x H'->g x σ H' λd l=>j {D with nx:=N,ct:=N,bk:=D.nx} d l)
def vV(a:List ah)(h:a_):List (ah×ay):=a.filterMap λb=>(h.get? b).map λo=>(b,o)
def kP(a:b∈fp)(e:h.get? b=ab o):(b,o)∈vV fp h:=ya.mpr ⟨b,a,by rw[e];rfl⟩
theorem NV(a:p∈vV fp h):p.1∈fp/\h.get? p.1=ab p.2:=by
 obtain⟨b,d,e⟩:=ya.mp a
 cases q:h.get? b with
 |none=>rw[q] at e;cases e
 |some o =>
  rw[q] at e;have j:(b,o)=p:=dm e;subst j;show⟨d,q⟩
def Φ.pinned(I:Φ X π σ H s)(l:∀b∈fp,nF X π H b)(ho:∀b∈fp,∃o,s.heap.get? b=ab o /\∀v,o.data≠.cell v):Φ X (π++vV fp s.heap) σ H s :=
 I.BP λp j=>(ie.mp j).elim (λz=>I.pin p (ir _ z)) λz=>by obtain⟨a,e⟩:=NV z;obtain⟨q,n,m,_⟩:=l p.1 a;obtain⟨o,h,d⟩:=ho p.1 a;rw[e] at h;cases h;show⟨e,q,n,m,d⟩
def Φ.gZ(I:Φ X (π++pl) σ H s):Φ X π σ H s:=I.BP λp a=>I.pin p (ir _ (lh _ a))
theorem aCP(U:uw (au X.Ω X.w) X.A X.env X.xe)(hc:X.calm=ae)(hi:PI X tg iter wi)(hg:PG X tg g)(q:rE X body tb)
  (hs:Zn X iter<|>4):PS X (.For tg iter body [] ν) (Vf wi g tb):=by
 intro π s σ H D I h;show wpAny_For (dI (hi π s σ H _ I h) λv s1 h1=>dI h1 λitv s2 h2=>?_) hs;obtain⟨it,Z,tn,J,H2,e,I2,T,st2,f2,W,⟨m0,w0⟩,turn⟩:=h2;subst e
 -- what stays ae of the iterator's objects through the loop
 have p:∀{H':Hp},(∀b∈Z,H' b=af) ->∀b∈Z,nF X π H' b:=λhn b q=>⟨hn b q,(f2 b q).2⟩;show codeAny_forLoop_any (λn s'=>∃i l H',Φ X π l H' s'/\tn i s'.heap/\(∀b∈Z,H' b=af)/\W i n l H') ?_ m0 ⟨0,σ,H2,I2,st2,λb q=>(f2 b q).1,w0⟩;rintro n s3 ⟨i,j,H3,I3,L,Y,w3⟩;rcases turn i n j H3 w3 with⟨stop,qn⟩|⟨go,N,hN,step⟩
 .refine rf U (dI (T.done X rfl rfl rfl hc i π s3 j H3 X.xe I3 (p Y) L stop) λr s4 ⟨hr,I4⟩=>?_);subst hr;show Bc ⟨j,H3,I4,qn⟩
 .refine rf U (dI (T.item X rfl rfl rfl hc i π s3 j H3 X.xe I3 (p Y) L go) λr s4 ⟨u,hr,h4⟩=>?_);subst hr;show rf U (dI h4 λ_ s5 ⟨x,H5,I5,r5,y5,K,fr5⟩=>?_);have I5':=I5.pinned (p fr5) (T.obj _ _ K);show rf U (dI (hg _ s5 j H5 x u _ I5' r5 (step x H5 y5)) λ_ s6 ⟨σ6,H6,I6,q6⟩=>?_);show rf U (dI (q _ s6 σ6 H6 _ I6 q6) λf s7 F=>?_);have again:∀{a:St} {z:Hp},Φ X (π++vV Z s5.heap) a z s7->N a z ->∃m,m<n /\∃i l H',Φ X π l H' s7/\tn i s7.heap/\(∀b∈Z,H' b=af)/\W i m l H':=λ{a z} y O=>by obtain⟨m',hm,w7⟩:=hN a z O;show⟨m',hm,i+1,a,z,y.gZ,T.keep _ _ _ K λb q o e=>(y.pin (b,o) (ir _ (ir _ (kP q e)))).1,λb q=>?_,w7⟩;obtain⟨o,e,d⟩:=T.obj _ _ K b q;show(y.pin (b,o) (ir _ (ir _ (kP q e)))).2.1
  cases f with
  |next=>obtain⟨a,z,y,O⟩:=F;show again y O
  |cont=>obtain⟨a,z,y,O⟩:=F;show again y O
  |brk=>obtain⟨a,z,y,F⟩:=F;show⟨a,z,y.gZ,F⟩
  |ret v=>obtain⟨x7,a,z,y,r7,F⟩:=F;show⟨x7,a,z,y.gZ,r7,F⟩
end
abbrev R2:=V->V->Hp->VK->Prop
def iA(X:Cx)(f:ai->ai->gr ai)(r:R2):Prop :=
 ∀(π:Q0b) (s:ak) (σ:St) (H:Hp) (x y:V) (v u:ai) (Q:VK),Φ X π σ H s->Ψ x v->Ψ y u->r x y H Q ->
  ax (au X.Ω X.w) X.A (f v u) (EP X π σ Q) X.xe s
def UnR(X:Cx)(f:ai->gr ai)(r:V->Hp->VK->Prop):Prop :=
 ∀(π:Q0b) (s:ak) (σ:St) (H:Hp) (x:V) (v:ai) (Q:VK),Φ X π σ H s->Ψ x v->r x H Q ->
  ax (au X.Ω X.w) X.A (f v) (EP X π σ Q) X.xe s
def eX(X:Cx)(f:ai)(r:List V->Hp->VK->Prop):Prop :=
 ∀(π:Q0b) (s:ak) (σ:St) (H:Hp) (xs:List V) (us:Q0f) (Q:VK),Φ X π σ H s->θ xs us->r xs H Q ->
  ax (au X.Ω X.w) X.A (call f us) (EP X π σ Q) X.xe s
def Ve(X:Cx)(r:V->Hp->(Bool->Hp->Prop)->Prop):Prop :=
 ∀(π:Q0b) (s:ak) (σ:St) (H:Hp) (x:V) (v:ai) (Q:Bool->Hp->Prop),Φ X π σ H s->Ψ x v->r x H Q ->
  ax (au X.Ω X.w) X.A (truthy v) (TP X π σ Q) X.xe s
def uj(r:R2)(d a:TE):TE:=λσ H Q=>d σ H λx H1=>a σ H1 λy h=>r x y h Q
def Lq(r:V->Hp->VK->Prop)(a:TE):TE:=λσ H Q=>a σ H λx H1=>r x H1 Q
def rI(C:Int->Int->Prop)(g:Int->Int->V):R2:=λx y H Q=>∃i j,x=.int i/\y=.int j/\C i j/\Q (g i j) H
def NW(g:Int->Int->V):R2:=λx y H Q=>∃i j,x=.int i/\y=.int j/\Q (g i j) H
def rU(g:Int->V):V->Hp->VK->Prop:=λx H Q=>∃i,x=.int i/\Q (g i) H
section
variable{a b c:av}{ta tb tc:TE}{ν:bo}
theorem Ae(J:PE X a ta)(F:PE X b tb){π:Q0b}{s:ak}{σ:St}{H:Hp}{R:V->V->Hp->Prop}(I:Φ X π σ H s)
  (h:ta σ H λx H1=>tb σ H1 λy d=>R x y d) {Q:Q0c} {f:ai->ai->gr ai}
  (z:∀v u m x y d,Φ X π σ d m->Ψ x v->Ψ y u->R x y d->ax (au X.Ω X.w) X.A (f v u) Q X.xe m):
  ax (au X.Ω X.w) X.A (eval a X.env) (λv l=>ax (au X.Ω X.w) X.A (eval b X.env) (λu j=>ax (au X.Ω X.w) X.A (f v u) Q X.xe j) X.xe l) X.xe s:=by
 show dI (J π s σ H _ I h) λv p o=>?_;obtain⟨x,H1,L,r1,q1⟩:=o;show dI (F π p σ H1 _ L q1) λu m n=>?_;obtain⟨y,d,K,q,q2⟩:=n;show z v u m x y d K r1 q q2
def SN{op:Operator}{r:R2}(ho:iA X (binaryOp op) r)(n:PE X a ta)(m:PE X b tb):PE X (.BinOp a op b ν) (uj r ta tb):=by intro π s σ H Q I h;show wpAny_BinOp (Ae n m I h λv u d x y p o l j q=>ho π d σ p x y v u Q o l j q)
def aEv(ho:UnR X (unaryOp op) r)(j:PE X a ta):PE X (.UnaryOp op a ν) (Lq r ta):=by intro π s σ H Q I h;show UnaryOp_ (dI (j π s σ H _ I h) λv d ⟨x,H1,l,r1,q1⟩=>ho π d σ H1 x v Q l r1 q1)
theorem opI{f:ai->ai->gr ai}{C:Int->Int->Prop}{g:Int->Int->Int}
  (rule:∀(i j:Int) (t u:iz) (s:ak) (Q:Q0c) (E:Q0c),C i j->Q (.int (g i j) s.toks) {s with toks:=s.toks+1}->ax (au X.Ω X.w) X.A (f (.int i t) (.int j u)) Q E s):
  iA X f (rI C λi j=>.int (g i j)):=by
 intro π s σ H x y v u Q I l d h;obtain⟨i,j,rfl,rfl,m,q⟩:=h;obtain⟨t,rfl⟩:=l;obtain⟨t',rfl⟩:=d;show rule i j t t' s _ _ m ⟨.int (g i j),H,I.tok _,⟨_,rfl⟩,q⟩
theorem Fj{f:ai->ai->gr ai}{g:Int->Int->Int}
  (rule:∀(i j:Int) (t u:iz) (s:ak) (Q:Q0c) (E:Q0c),Q (.int (g i j) s.toks) {s with toks:=s.toks+1}->ax (au X.Ω X.w) X.A (f (.int i t) (.int j u)) Q E s):
  iA X f (NW λi j=>.int (g i j)):=by
 intro π s σ H x y v u Q I l d h;obtain⟨i,j,rfl,rfl,q⟩:=h;obtain⟨t,rfl⟩:=l;obtain⟨t',rfl⟩:=d;show rule i j t t' s _ _ ⟨.int (g i j),H,I.tok _,⟨_,rfl⟩,q⟩
theorem YU{f:ai->ai->gr ai}{g:Int->Int->Bool}
  (rule:∀(i j:Int) (t u:iz) (s:ak) (Q:Q0c) (E:Q0c),Q (.bool (g i j)) s->ax (au X.Ω X.w) X.A (f (.int i t) (.int j u)) Q E s):
  iA X f (NW λi j=>.bl (g i j)):=by
 intro π s σ H x y v u Q I l d h;obtain⟨i,j,rfl,rfl,q⟩:=h;obtain⟨t,rfl⟩:=l;obtain⟨t',rfl⟩:=d;show rule i j t t' s _ _ ⟨.bl (g i j),H,I,rfl,q⟩
def Fi(i j:Int):Prop:=0<j/\j<1073741824
def Ad(i j:Int):Prop:=0<=j/\j<=1000000/\i.natAbs<2^64
def YV(i j:Int):Prop:=(-(2^64)<i/\i<2^64)\/(-(2^64)<j/\j<2^64)
def YV.ok{i j:Int}(h:YV i j):xf i j:=by
 rcases h with⟨d,h2⟩|⟨d,h2⟩
 .exact .of_left (a0A d h2)
 .exact .of_right (a0A d h2)
def HG(k:Nat):(0:Int)<=2^k:=by rw[two_pow_cast];show Int.natCast_nonneg _
def aCS:iA X (binaryOp .Add) (NW λi j=>.int (i+j)):=Fj λ_ _ _ _ _ _ _ q=>add_int q
def aCT:iA X (binaryOp .Sub) (NW λi j=>.int (i-j)):=Fj λ_ _ _ _ _ _ _ q=>sub_int q
def YW:iA X (binaryOp .FloorDiv) (rI Fi λi j=>.int (i/j)):=opI λi j _ _ _ _ _ d q=>by have h:(0:Int)<j:=d.1;have h2:j<1073741824:=d.2;show floordiv_int ∅ (by rw[a2F i ∅];show q) (.inl (PyProof.noPylong_small ∅))
def aCU:iA X (binaryOp .Mod) (rI (λ_ j=>0<j) λi j=>.int (i%j)):=opI λi j _ _ _ _ _ d q=>by have h:(0:Int)<j:=d;show mod_int' ∅ (by rw[Int.fmod_eq_emod_of_nonneg i ∅];show q)
def aCV:iA X (binaryOp .Pow) (rI Ad λi j=>.int (i^j.toNat)):=opI λ_ _ _ _ _ _ _ d q=>pow_int_small d.1 d.2.1 d.2.2 q
def aCW:iA X (binaryOp .LShift) (rI Ad λi j=>.int (i*2^j.toNat)):=opI λ_ _ _ _ _ _ _ d q=>lshift_int_small d.1 d.2.1 d.2.2 q
def aCX:iA X (binaryOp .RShift) (rI (λ_ j=>0<=j) λi j=>.int (i/2^j.toNat)):=opI λi j _ _ _ _ _ d q =>
 rshift_int d (by rw[a2F i (HG _)];show q)
theorem unI{f:ai->gr ai}{g:Int->Int}
  (rule:∀(i:Int) (t:iz) (s:ak) (Q:Q0c) (E:Q0c),Q (.int (g i) s.toks) {s with toks:=s.toks+1}->ax (au X.Ω X.w) X.A (f (.int i t)) Q E s):
  UnR X f (rU λi=>.int (g i)):=by
 intro π s σ H x v Q I d h;obtain⟨i,rfl,q⟩:=h;obtain⟨t,rfl⟩:=d;show rule i t s _ _ ⟨.int (g i),H,I.tok _,⟨_,rfl⟩,q⟩
def aCY:UnR X (unaryOp .USub) (rU λi=>.int (-i)):=unI λ_ _ _ _ _ q=>neg_int q
end
noncomputable def Ac:V->V->Bool
 |.non,.non=>ae | .non,.int _=>ae | .int _,.non=>ae | .non,.bl _=>ae | .bl _,.non=>ae | .non,.str _=>ae | .str _,.non=>ae
 |.int _,.int _=>ae | .bl _,.bl _=>ae | .str _,.str _=>ae | .NQ _,.NQ _=>ae
 |.int _,.str _=>ae | .str _,.int _=>ae | .bl _,.str _=>ae | .str _,.bl _=>ae
 |_,_=>ag
def Dm:R2:=λx y H Q=>Ac x y=ae/\Q (.bl (Zv (x=y))) H
def Dl:R2:=λx y H Q=>Ac x y=ae/\Q (.bl (!Zv (x=y))) H
def BR:Zv (V.int i=V.int j)=(i == j):=by rw[jk];simp
def HH:Zv (V.bl i=V.bl j)=(i == j):=by rw[jk];simp
def BS:Zv (V.str i=V.str j)=(i == j):=by rw[jk];simp
def LB:Zv (V.NQ i=V.NQ j)=(i.toList == j.toList):=by rw[jk];cases i;cases j;simp
section
variable{a b c:av}{ta tb tc:TE}{ν:bo}
def bU(I:Φ X π σ H s)(q:Q (.bl k) H)(e:k=k'):EP X π σ Q (.bool k') s:=by subst e;show⟨.bl k,H,I,rfl,q⟩
theorem Gz:iA X (compareOp .Eq) Dm:=by
 intro π s σ H x y v u Q I m d h;obtain⟨l,q⟩:=h
 cases x with
 |non =>
  cases m
  cases y with
  |non=>cases d;show a3v (bU I q (by simp))
  |bl j=>cases d;show a3x (bU I q (by simp))
  |int j=>obtain⟨t',rfl⟩:=d;show a3w (bU I q (by simp))
  |str j=>obtain⟨t',rfl⟩:=d;show a3u (bU I q (by simp))
  |_=>show Zw (show ag=ae from l) bz
 |bl i =>
  cases m
  cases y with
  |non=>cases d;show a3z (bU I q (by simp))
  |bl j=>cases d;show eq_bool (bU I q HH)
  |str j=>obtain⟨t',rfl⟩:=d;show a3H (bU I q (by simp))
  |_=>show Zw (show ag=ae from l) bz
 |int i =>
  obtain⟨t,rfl⟩:=m
  cases y with
  |non=>cases d;show a3y (bU I q (by simp))
  |int j=>obtain⟨t',rfl⟩:=d;show eq_int (bU I q BR)
  |str j=>obtain⟨t',rfl⟩:=d;show a3G (bU I q (by simp))
  |_=>show Zw (show ag=ae from l) bz
 |str i =>
  obtain⟨t,rfl⟩:=m
  cases y with
  |non=>cases d;show a3t (bU I q (by simp))
  |bl j=>cases d;show a3F (bU I q (by simp))
  |int j=>obtain⟨t',rfl⟩:=d;show a3E (bU I q (by simp))
  |str j=>obtain⟨t',rfl⟩:=d;show eq_str (bU I q BS)
  |_=>show Zw (show ag=ae from l) bz
 |NQ i =>
  obtain⟨t,rfl⟩:=m
  cases y with
  |NQ j=>obtain⟨t',rfl⟩:=d;show PySem.W.eq_bytes (bU I q LB)
  |_=>show Zw (show ag=ae from l) bz
 |_=>cases y<;>show Zw (show ag=ae from l) bz
theorem Gy:iA X (compareOp .NotEq) Dl:=by
 intro π s σ H x y v u Q I m d h;obtain⟨l,q⟩:=h
 cases x with
 |non =>
  cases m
  cases y with
  |non=>cases d;show a3o (bU I q (by simp))
  |bl j=>cases d;show a3q (bU I q (by simp))
  |int j=>obtain⟨t',rfl⟩:=d;show a3p (bU I q (by simp))
  |str j=>obtain⟨t',rfl⟩:=d;show a3n (bU I q (by simp))
  |_=>show Zw (show ag=ae from l) bz
 |bl i =>
  cases m
  cases y with
  |non=>cases d;show a3s (bU I q (by simp))
  |bl j=>cases d;show ne_bool (bU I q (congrArg not HH))
  |str j=>obtain⟨t',rfl⟩:=d;show a3D (bU I q (by simp))
  |_=>show Zw (show ag=ae from l) bz
 |int i =>
  obtain⟨t,rfl⟩:=m
  cases y with
  |non=>cases d;show a3r (bU I q (by simp))
  |int j=>obtain⟨t',rfl⟩:=d;show ne_int (bU I q (congrArg not BR))
  |str j=>obtain⟨t',rfl⟩:=d;show a3C (bU I q (by simp))
  |_=>show Zw (show ag=ae from l) bz
 |str i =>
  obtain⟨t,rfl⟩:=m
  cases y with
  |non=>cases d;show a3m (bU I q (by simp))
  |bl j=>cases d;show a3B (bU I q (by simp))
  |int j=>obtain⟨t',rfl⟩:=d;show a3A (bU I q (by simp))
  |str j=>obtain⟨t',rfl⟩:=d;show ne_str (bU I q (congrArg not BS))
  |_=>show Zw (show ag=ae from l) bz
 |NQ i =>
  obtain⟨t,rfl⟩:=m
  cases y with
  |NQ j=>obtain⟨t',rfl⟩:=d;show PySem.W.ne_bytes (bU I q (congrArg not LB))
  |_=>show Zw (show ag=ae from l) bz
 |_=>cases y<;>show Zw (show ag=ae from l) bz
def Gx:iA X (compareOp .Lt) (NW λi j=>.bl (Zv (i<j))):=YU λ_ _ _ _ _ _ _ q=>Cd q
def aEy:iA X (compareOp .LtE) (NW λi j=>.bl (Zv (i<=j))):=YU λ_ _ _ _ _ _ _ q=>le_int q
def Gw:iA X (compareOp .Gt) (NW λi j=>.bl (Zv (j<i))):=YU λ_ _ _ _ _ _ _ q=>gt_int q
def aEz:iA X (compareOp .GtE) (NW λi j=>.bl (Zv (j<=i))):=YU λ_ _ _ _ _ _ _ q=>ge_int q
def SQ:iA X (compareOp .Is) (λx y H Q=>y=.non/\Q (.bl (Zv (x=.non))) H):=by
 intro π s σ H x y v u Q I d j h;obtain⟨rfl,q⟩:=h;cases j;show is_none_gen (bU I q ?_);cases x<;>first
  | (cases d;rfl)
  | (obtain⟨t,rfl⟩:=d;rfl)
def iA.or(h:iA X f r)(h':iA X f r'):iA X f (λx y H Q=>r x y H Q\/r' x y H Q):=by
 intro π s σ H x y v u Q I j d q;rcases q with q|q
 .exact h π s σ H x y v u Q I j d q
 .exact h' π s σ H x y v u Q I j d q
def g7(b:av)(h:op≠.In<|>1)(h2:op≠.NotIn<|>1):behindInMarks op b=ag:=by
 have e1:(op == CmpOp.In)=ag:=by cases op<;>first|rfl|show Zw rfl h
 have d:(op == CmpOp.NotIn)=ag:=by cases op<;>first|rfl|show Zw rfl h2
 cases b<;>simp[behindInMarks,e1,d]
def YX{op:CmpOp}{r:R2}(ho:iA X (compareOp op) r)(o:PE X a ta)(n:PE X b tb)(m:behindInMarks op b=ag):PE X (.Compare a [op] [b] ν) (uj r ta tb):=by intro π s σ H Q I h;show wpAny_Compare1 (Ae o n I h λv u d x y z p l j q=>ho π d σ z x y v u Q p l j q) m
def LC(t:TE):TT:=λσ H Q=>t σ H λx H'=>∃k,x=.bl k/\Q k H'
def YY(ho:iA X (compareOp op) r)(q:PE X a ta)(p:PE X b tb)(o:behindInMarks op b=ag):PT X (.Compare a [op] [b] ν) (LC (uj r ta tb)):=by
 intro π s σ H Q I h;show a0j (dI (q π s σ H _ I h) λv j ⟨x,H1,J,r1,q1⟩=>dI (p π j σ H1 _ J q1) λu d ⟨y,L,F,m,q2⟩ =>
  dI (ho π d σ L x y v u _ F r1 m q2) λc s3 ⟨z,K,A,l,k,e,n⟩=>?_) o
 subst e;cases l;show mr ⟨K,A,n⟩
def SR(r j:R2)(ta tb tc:TE):TE:=λσ H Q=>ta σ H λx H1=>tb σ H1 λy m=>r x y m λz d=>∃k,z=.bl k /\
 (if k=ae then tc σ d λh l=>j y h l Q else Q (.bl ag) d)
theorem SS(ho:iA X (compareOp op) r)(j:iA X (compareOp op') r')(ha:PE X a ta)(Z:PE X b tb)(Y:PE X c tc)
  (U:lastMarks [op,op'] [b,c]=ag<|>5):PE X (.Compare a [op,op'] [b,c] ν) (SR r r' ta tb tc):=by
 intro π s σ H Q I h;show Compare_chain (dI (ha π s σ H _ I h) λv J ⟨x,H1,I1,r1,q1⟩=>chain_link (dI (Z π J σ H1 _ I1 q1) λu F ⟨y,H2,I2,l,q2⟩ =>
  dI (ho π F σ H2 x y v u _ I2 r1 l q2) λd s3 ⟨z,o,n,L,k,e,m⟩=>?_)) U
 subst e;cases L;show mr ?_
 cases k with
 |false=>show ite_ff ⟨.bl ag,o,n,rfl,m⟩
 |true=>show ite_tt (chain_last (dI (Y π s3 σ o _ n m) λq A ⟨p,H4,I4,K,O⟩=>j π A σ H4 y p u q Q I4 l K O))
def Fh(K:aq)(x:V)(H:Hp)(k:Bool):Prop :=
 match x with
 |.non=>k=ag
 |.bl b=>k=b
 |.int i=>k=(i !=0)
 |.str y=>⇑y<=br/\k=((⇑y:Int) !=0)
 |.NQ y=>y.size<=br/\k=((y.size:Int) !=0)
 |.ref p=>(∃xs,c7 K H p xs/\k=!xs.isEmpty)\/(∃xs,eJ K H p xs/\k=!xs.isEmpty) \/∃χ,H p=ab (.dK χ)/\k=!χ.isEmpty
 |_=>False
def HI{d:Type}{χ:List (d×V)}{vs:List (d×ai)}(r:KV χ vs):(!vs.isEmpty)=!χ.isEmpty:=by cases r<;>rfl
def kQ{xs:List V}{d:Q0f}(r:θ xs d):(!d.toArray.isEmpty)=!xs.isEmpty:=by cases r<;>simp
def vW:(br:Nat)<2^63:=by rw[gm];decide
theorem aC0:Ve X (λx H Q=>∃k,Fh X.K x H k/\Q k H):=by
 intro π s σ H x v Q I j h;obtain⟨k,e,q⟩:=h;have L:=vW;have J:br=16777216:=gm
 cases x with
 |non =>
  cases j;have d:k=ag:=e;subst d;show truthy_none ⟨H,I,q⟩
 |bl b =>
  cases j;have d:k=b:=e;subst d;show mr ⟨H,I,q⟩
 |int i =>
  obtain⟨t,rfl⟩:=j;have d:k=(i !=0):=e;subst d;show PySem.P.truthy_int ⟨H,I,q⟩
 |str y =>
  obtain⟨t,rfl⟩:=j;obtain⟨A,d⟩:⇑y<=br/\k=((⇑y:Int) !=0):=e;subst d;show PySem.P.truthy_str ∅ ⟨H,I.tok _,q⟩
 |NQ y =>
  obtain⟨t,rfl⟩:=j;obtain⟨A,d⟩:y.size<=br/\k=((y.size:Int) !=0):=e;subst d;show PySem.W.truthy_bytes ∅ ⟨H,I.tok _,q⟩
 |ref p =>
  cases j;have d:(∃xs,c7 X.K H p xs/\k=!xs.isEmpty)\/(∃xs,eJ X.K H p xs/\k=!xs.isEmpty) \/∃χ,H p=ab (.dK χ)/\k=!χ.isEmpty:=e;rcases d with⟨xs,l,d⟩|⟨xs,l,d⟩|⟨χ,l,d⟩
  .subst d;obtain⟨z,r,n,o⟩:=I.list l;have hlen:=⇑r;show a0c n.isList (by erw[cu];lia) ⟨H,I.tok _,by rw[kQ r];show q⟩
  .subst d;obtain⟨z,r,n,o⟩:=I.tuple l;have hlen:=⇑r;show a1r n (by erw[cu];lia) ⟨H,I.tok _,by rw[kQ r];show q⟩
  .subst d;obtain⟨o,F,vs,r,m⟩:⇑χ<=br/\(p == sysModules)=ag /\∃vs,KV χ vs/\s.heap.DictOf (aW X.Ω X.w) p vs:=I.hok p _ l;have hlen:⇑χ=⇑vs:=uz r;show wpAny_truthy_dict F m ∅ ⟨H,I.tok _,by rw[HI r];show q⟩
 |_=>show(show False from e).elim
theorem SU(l:PE X a ta)(j:∀whole,isTrue a X.env whole=(do let v <- whole;standAt a.pos;holding [v] (truthy v))):
  PT X a (λσ H Q=>ta σ H λx H'=>∃k,Fh X.K x H' k/\Q k H'):=by
 intro π s σ H Q I h;show a1z (dI (l π s σ H _ I h) λv d ⟨x,H1,m,r1,q1⟩=>aC0 π d σ H1 x v Q m r1 q1) (j _)
def HJ:iA X (binaryOp .Add) (λx y H Q=>∃i j,x=.str i/\y=.str j/\⇑i+⇑j<=br/\Q (.str (i++j)) H):=by intro π s σ H x y v u Q I l d h;obtain⟨i,j,rfl,rfl,m,q⟩:=h;obtain⟨t,rfl⟩:=l;obtain⟨t',rfl⟩:=d;show add_str (λt' n=>⟨.str (i++j),H,I.tok _,⟨_,rfl⟩,q⟩) m
theorem vals1(r:θ [x] us):∃u,us=[u]/\Ψ x u:=by
 cases r with
 |cons r1 r2=>cases r2;show⟨_,rfl,r1⟩
theorem vals2(r:θ [x,y] us):∃u d,us=[u,d]/\Ψ x u/\Ψ y d:=by
 cases r with
 |cons r1 r2 =>
  cases r2 with
  |cons r3 r4=>cases r4;show⟨_,_,rfl,r1,r3⟩
end
structure Ah (h:a_) (x dx C:ah) (mA:Q0d):Prop where
 obj:h.get? x=ab (instObj C dx)
 ns:h.Ns1 dx mA
 ne:dx≠x
def NX{h:a_}{p:ah}{l:Q0d}(n:h.Ns1 p l):∃j,h.get? p=ab j /\∀name,lookIn name j=ab (l name):=by
 obtain⟨o,m,J,ho,F,A,_,x⟩:=n;show⟨o,ho,λname=>?_⟩;have e:=x name;delta nsFind findBy at e;rw[<- Array.find?_toList] at e;delta lookIn;rw[F];dsimp only;split
 .rename_i y q;rw[q] at e;show congrArg ab e
 .rename_i q;rw[q] at e;have a:m.toList.any (·.refKey)=ag:=by rw[a2x];intro y v;obtain⟨z,t,d⟩:=A y (Array.mem_toList_iff.mp v);simp[a3I,d]
  have I:¬ m.toList.any (·.refKey)=ae:=by rw[a];show bz
  rw[Zz I];show congrArg ab e
def Ah.look(I:Ah h x dx C mA):∃a,PySem.W.InstAt h x (instObj C dx) C (ab a) /\∀name,lookIn name a=ab (mA name) :=
 let ⟨a,ho,hl⟩:=NX I.ns
 ⟨a,⟨I.obj,rfl,rfl,ho⟩,hl⟩
theorem l7.some_of(r:l7 (ab v) o):∃u,o=ab u/\Ψ v u:=by
 cases o with
 |none=>show(show False from r).elim
 |some u=>show⟨u,rfl,r⟩
section
variable{P:bh}{w:bg}{H H':Hp}{h h':a_}{a C dx:ah}{fs fs':List (aj×V)}
def YZ(l:nE P w H h)(e:H a=ab (.ins C dx fs)):∃j,Ah h a dx C j/\(∀f,l7 (fs.lookup f) (j f))/\a0H j (fs.map (·.1))/\⇑fs<=1000/\H dx=ab (.own a):=by obtain⟨d,z,o,m,j,n,r,q⟩:=(show cQ P w H h a (.ins C dx fs) from l a _ e);show⟨j,⟨m,n,o⟩,r,q,z,d⟩
end
structure Cls (K:aq) (C:ah):Prop where
 pg:a0J K C Str.empty=ae
 hd:PySem.W.hasDictIn K C=ae
 po:PySem.W.plainOver K C=ae
 sa:a0O K (.ref C) "__setattr__"=ab (ab (.builtin "object.__setattr__"))
def Cls.get{K:aq}{C:ah}(c:Cls K C)(f:aj):a0J K C f=ae:=c.pg
section
variable{π:Q0b}{σ:St}{H:Hp}{s:ak}{A:bt}{E:Q0c}{Q:Q0c}{c:ai}{b:Bool}
inductive pQ (K:aq) (H:Hp):V->ai->Prop where
 |non:pQ K H .non (.type "NoneType")
 |bl (x:Bool):pQ K H (.bl x) (.type "bool")
 |int (i:Int):pQ K H (.int i) (.type "int")
 |str (x:aj):pQ K H (.str x) (.type "str")
 |flt (x:UInt64):pQ K H (.flt x) (.type "float")
 |lst {a:ah} {xs:List V} (e:H a=ab (.lst xs)):pQ K H (.ref a) (.type "list")
 |tW {a:ah} {o:ay} {xs:List V} (e:H a=ab (.tW o (.lst xs))):pQ K H (.ref a) (.type "list")
 |tup {a:ah} {xs:List V} (e:H a=ab (.tup xs)):pQ K H (.ref a) (.type "tuple")
 |dK {a:ah} {χ:List (Key×V)} (e:H a=ab (.dK χ)):pQ K H (.ref a) (.type "dict")
 |dT {a:ah} {χ:List (List Key×V)} (e:H a=ab (.dT χ)):pQ K H (.ref a) (.type "dict")
 |ins {a C dx:ah} {fs:List (aj×V)} (e:H a=ab (.ins C dx fs)) (cl:Cls K C) (ha:a0O K (.ref C) "__class__"=ab (ab (.builtin "object.__class__")))
   (hn:PySem.W.specialIn K (.builtin "object.__class__") "__get__"=ab (ab (.builtin "getset_descriptor.__get__"))) (htk:PySem.W.takesIn K (.builtin "object.__class__")=ab ae)
   (hm:PySem.W.mroIn K C (.type "object")=ab ae):pQ K H (.ref a) (.ref C)
theorem NY(I:Φ X π σ H s)(d:Ψ x u)(ty:pQ X.K H x t)(e:kitOne X.K t c=ab b)(h:∀l,Q (.bool b) {s with toks:=l}):
  ax (au X.Ω X.w) A (call (.builtin "isinstance") [u,c]) Q E s:=by
 cases ty with
 |non=>cases (show u=ik from d);show ku PySem.W.kitx_none I.BN ma e (λz=>nomatch z) h
 |bl y=>cases (show u=w_ y from d);show ku PySem.W.kitx_bool I.BN ma e (λz=>nomatch z) h
 |int i=>obtain⟨t,q⟩:=(show ∃t,u=oj i t from d);cases q;show ku PySem.W.kitx_int I.BN ma e (λz=>nomatch z) h
 |str y=>obtain⟨t,q⟩:=(show ∃t,u=Bm y t from d);cases q;show ku PySem.W.kitx_str I.BN ma e (λz=>nomatch z) h
 |flt y=>obtain⟨t,q⟩:=(show ∃t,u=a0W y t from d);cases q;show ku PySem.W.kitx_float I.BN ma e (λz=>nomatch z) h
 | @lst a xs ea =>
  cases (show u=ft a from d);obtain⟨_,_,n,_,j⟩:=(show cQ X.Ω X.w H s.heap a (.lst xs) from I.hok a _ ea);show ku Il I.BN ⟨_,j,rfl⟩ e (λz=>nomatch z) h
 | @tW a ob xs ea =>
  cases (show u=ft a from d);obtain⟨_,_,_,n,_,j⟩:=(show cQ X.Ω X.w H s.heap a (.tW ob (.lst xs)) from I.hok a _ ea);show ku Il I.BN ⟨_,j,rfl⟩ e (λz=>nomatch z) h
 | @tup a xs ea =>
  cases (show u=ft a from d);obtain⟨_,_,_,p,_⟩:=(show cQ X.Ω X.w H s.heap a (.tup xs) from I.hok a _ ea);obtain⟨o,j,h2,_⟩:=p;show ku a0L I.BN ⟨o,j,h2⟩ e (λz=>nomatch z) h
 | @dK a χ ea =>
  cases (show u=ft a from d);obtain⟨_,_,vs,_,p⟩:=(show cQ X.Ω X.w H s.heap a (.dK χ) from I.hok a _ ea);obtain⟨o,m,v,j,h2,_⟩:=p;show ku a0M I.BN ⟨o,j,h2.1⟩ e (λz=>nomatch z) h
 | @dT a χ ea =>
  cases (show u=ft a from d);obtain⟨_,_,xs,_,o,m,v,j,h2,_⟩:=(show cQ X.Ω X.w H s.heap a (.dT χ) from I.hok a _ ea);show ku a0M I.BN ⟨o,j,h2.1⟩ e (λz=>nomatch z) h
 | @ins a C dx fs ea cl ha hn htk hm =>
  cases (show u=ft a from d);obtain⟨L,O,_⟩:=YZ I.hok ea;obtain⟨F,J,_⟩:=O.look;show ku (PySem.W.kitx_own (cl.get _) cl.hd ha hn htk hm) I.BN J e (λz=>nomatch z) h
end
structure d8 (k:Nat) (A:bt):Prop where
 hd:A.handled=af
 dp:A.depth+3*k+5<recursionLimit
 un:A.units+16*k+200<di
def d8.mono(r:d8 k A)(h:j<=k):d8 j A:=⟨r.hd,by have:=r.dp;lia,by have:=r.un;lia⟩
def d8.deeper(r:d8 (k+1) A)(env:fv):d8 k (A.deeper env) :=
 ⟨r.hd,by have:=r.dp;show A.depth+1+3*k+5<_;lia,by have:=r.un;show A.units+3+16*k+200<_;lia⟩
def d8.depth(r:d8 k A):A.depth<recursionLimit:=by have:=r.dp;lia
def d8.units(r:d8 k A):A.units+64<di:=by have:=r.un;lia
def Y0:TA:=λ_ H Q=>Q [] H
def rX(a:TE)(tr:TA):TA:=λσ H Q=>a σ H λx H1=>tr σ H1 λxs d=>Q (x::xs) d
section
variable{e:av}{es:List av}{te:TE}{t:TA}{ν:bo}
def kR:PA X [] Y0:=λ_ _ _ _ H Q I h=>Calls.spliced_nil ⟨[],H,I,.nil,h⟩
def fC(n:PE X e te)(m:PA X es t)(l:Zq X e es<|>0):PA X (e::es) (rX te t):=by intro ν π s σ H Q I h;rw[l];show ax _ _ (spliced ((ag,eval e X.env)::e_ ν (ar es X.env))) _ _ s;show Calls.spliced_cons (dI (n π s σ H _ I h) λu d ⟨x,H1,p,r1,q1⟩=>?_);show dI (m ν π d σ H1 _ p q1) λus v a=>by obtain⟨xs,q,o,j,q2⟩:=a;show⟨x::xs,q,o,.cons r1 j,q2⟩
def Vd(t:TA):TE:=λσ H Q=>t σ H λxs H1=>⇑xs<=br /\∀p,H1 p=af->Q (.ref p) (upd H1 p (.tup xs))
def Vc(t:TA):TE:=λσ H Q=>t σ H λxs H1=>⇑xs<=br /\∀p,H1 p=af->Q (.ref p) (upd H1 p (.lst xs))
def aC2{x1}(h:PA X es t):PE X (.Tuple es x1 ν) (Vd t):=by intro π s σ H Q I j;show wpAny_Tuple_spliced (dI (h ν π s σ H _ I j) λus a ⟨xs,H1,d,r,z,q⟩=>⟨by rw[<- ⇑r];show z,?_⟩);have l:H1 ↥a=af:=d.hok.fresh (bq _);show⟨.ref ↥a,upd H1 ↥a (.tup xs),d.laid (t':=a.toks) (λb u e=>cx _ e) (bq _) ?_,rfl,q _ l⟩;show⟨z,us,r,⟨_,d_ _ rfl,rfl,_,rfl⟩,BL.new _ _⟩
def aC3(h:PA X es t):PE X (.List es ν) (Vc t):=by intro π s σ H Q I j;show wpAny_List_spliced (dI (h ν π s σ H _ I j) λus a ⟨xs,H1,d,r,z,q⟩=>⟨by rw[<- ⇑r];show z,?_⟩);have l:H1 ↥a=af:=d.hok.fresh (bq _);show⟨.ref ↥a,upd H1 ↥a (.lst xs),d.laid (t':=a.toks) (λb u e=>cx _ e) (bq _) ?_,rfl,q _ l⟩;show⟨z,us,0,r,d_ _ rfl⟩
end
abbrev Sp:=List V->Hp->VK->XK->Prop
abbrev LD:=List fv->Hp->ak->XK->ai->ak->Prop
structure Y1 (P:bh) (w:bg) (K:aq) (mg:Q0d) (ω:a_) (A:bt) (Γ:List fv) (s:ak) (H:Hp):Prop where
 frames:A.frames=ab Γ
 mod:Mod K mg ω
 bs:∀b o,ω.get? b=ab o->s.heap.get? b=ab o/\H b=af
 WQ:ω.objs.size<=↥s
 vR:s.heap.FunFrames ω Γ
 frf:∀b∈frs Γ,H b=af
 hok:nE P w H s.heap
 bare:pq s.gens
 tab:YN K ω H
def CE(Γ:List fv)(P:bh)(w:bg)(H:Hp)(s:ak)(Q:VK)(u:ai)(s':ak):Prop :=
 ∃v H',s'.os=s.os/\pq s'.gens/\Un (frs Γ) [] H H' s.heap s'.heap/\nE P w H' s'.heap/\Ψ v u/\Q v H'
def CR(CX:LD)(Γ:List fv)(P:bh)(w:bg)(H:Hp)(s:ak)(Q:VK)(E:XK)(r:Bn)(s':ak):Prop :=
 match r with
 |.ok (.ret u)=>CE Γ P w H s Q u s'
 |.ok _=>False
 |.error e=>CX Γ H s E e s'
structure jN (P:bh) (w:bg) (K:aq) (mg:Q0d) (ω:a_) (CX:LD) (k:Nat) (f:ah) (fd:gw) (ps:Q0g) (sp:Sp):Prop where
 len:∀vs H Q E,sp vs H Q E->⇑vs=⇑ps
 run:∀(A:bt) (Γ:List fv) (s:ak) (H:Hp) (args:Args) (us:Q0f) (vs:List V) (Q:VK) (E:XK),d8 k A->Y1 P w K mg ω A Γ s H->vf s fd args (ps.zip us)->θ vs us->sp vs H Q E ->
  oh (au P w) A (.call (.ref f) args) (CR CX Γ P w H s Q E) s
theorem jN.mono{P:bh}{w:bg}{K:aq}{mg:Q0d}{ω:a_}{CX:LD}{j k:Nat}{f:ah}{fd:gw}{a:Q0g}{sp:Sp}(F:jN P w K mg ω CX j f fd a sp)(h:j<=k):
  jN P w K mg ω CX k f fd a sp:=⟨F.len,λA Γ s H args us vs Q E d=>F.run A Γ s H args us vs Q E (d.mono h)⟩
section
variable{π:Q0b}{σ:St}{H:Hp}{s s':ak}
def Φ.env0(I:Φ X π σ H s):Y1 X.Ω X.w X.K X.mg X.ω X.A X.stack s H :=
 ⟨I.ok.frames,I.ok.mod,I.bs,jb I.ok.WQ I.sz,I.stack,I.BO,I.hok,I.bare,I.tab⟩
def Φ.after(I:Φ X π σ H s)(h:CE X.stack X.Ω X.w H s Q u s'):EP X π σ Q u s':=by obtain⟨v,H',l,bare,un,j,r,q⟩:=h;obtain⟨m,g,d,t,a⟩:=s';obtain rfl:a=s.os:=l;show⟨v,H',I.call (h':=m) (g':=g) (d':=d) (t':=t) (ch:=[]) un j bare (λb z=>Zw z (by simp)),r,q⟩
end
def LF(sp:Sp)(a:List V)(E:XK)(t:TA):TE:=λσ H Q=>t σ H λvs H1=>sp (vs++a) H1 Q E
def Binds(K:aq)(fd:gw)(a:Q0g)(ds:Q0f):Prop :=
 ∀(s:ak) (us:Q0f),K.In s.heap->⇑(us++ds)=⇑a->vf s fd ⟨us,[]⟩ (a.zip (us++ds))
def Binds.all{K:aq}{fd:gw}{a:Q0g}(h:∀us:Q0f,⇑us=⇑a->bindArgs fd ⟨us,[]⟩=pure (a.zip us)):Binds K fd a []:=λs us _ d=>by rw[lr] at d ⊢;show .of_eq (h us d)
def Passes(CX:LD)(X:Cx)(E:XK):Prop:=∀(π:Q0b) (σ:St) (H:Hp) (s:ak) (e:ai) (s':ak),Φ X π σ H s->CX X.stack H s E e s'->X.xe e s'
section
variable{CX:LD}{k:Nat}{f C:ah}{fd:gw}{ps:Q0g}{sp:Sp}{dvs:List V}{ds:Q0f}{E:XK}{x m:aj}{p ν apos:bo}{e o:av}{es:List av}{ta:TE}{t:TA}
theorem aC4(F:jN X.Ω X.w X.K X.mg X.ω CX k f fd ps sp)(l:d8 k X.A)(v:Binds X.K fd ps ds)(q:θ dvs ds)(j:Passes CX X E)
  (I:Φ X π σ H s) (r:θ vs us) (h:sp (vs++dvs) H Q E):ax (au X.Ω X.w) X.A (call (.ref f) us) (EP X π σ Q) X.xe s:=by
 have d:θ (vs++dvs) (us++ds):=r.append q;have n:⇑(us++ds)=⇑ps:=by rw[<- ⇑d];show F.len _ _ _ _ h
 show wpAny_call (Ii (F.run X.A X.stack s H ⟨us,[]⟩ (us++ds) (vs++dvs) Q E l I.env0 (v s us I.BN n) d h) λr s' a=>?_)
 cases r with
 |error e=>show j π σ H s e s' I a
 |ok fl =>
  cases fl with
  |ret u=>show I.after a
  |next=>show l_ a
  |brk=>show l_ a
  |cont=>show l_ a
theorem m4(F:jN X.Ω X.w X.K X.mg X.ω CX k f fd ps sp)(n:d8 k X.A)(z:Gl X x)(v:X.mg x=ab (.ref f))(y:keepIn X.K (.ref f)=ae)(O:Binds X.K fd ps ds)(L:θ dvs ds)(l:Passes CX X E)
  (U:PA X (e::es) t) (d:Zu x<|>1) (J:Zq X e es<|>0) (a:Q0k X ν es<|>0):
  PE X (.Call (.Name x p) (e::es) [] ν) (LF sp dvs E t):=by
 intro π s σ H Q I h;show wx (YQ I z v ?_ d);show PySem.W.callWith_K (h₀:=X.ω) I.ok.mod.kin y (dI (U ν π s σ H _ I h) λus Y ⟨vs,H1,j,r,q⟩=>⟨j.BN,?_⟩) J a;show aC4 F n O L l j r q
end
structure dR (N P:Q0g) (sc:gn):Prop where
 kind:sc.kind=.function
 co:sc.isCoroutine=ag
 gen:sc.isGenerator=ag
 nd:N.Nodup
 pre:N.take ⇑P=P
 par:∀x∈P,sc.names.lookup x=ab .local\/sc.names.lookup x=ab .cell
 aC5:∀y∈sc.names,y.2≠.free
theorem y6{kindOf:aj->Option jy}{x:aj}:∀{binds:List (aj×ai)} {m:Q0d},(∀v,(x,v)∉binds)->bindL kindOf binds m x=m x
 |[],_,_=>rfl
 | (n,v)::r,m,h=>by
  delta bindL;rw[y6 λw hw=>h w (fq _ hw)];split
  .have:x≠n:=by rintro rfl;show h v cz
   simp[this]
  .rfl
theorem y9{kindOf:aj->Option jy}{x:aj}:∀{binds:List (aj×ai)} {m:Q0d},(∀v,(x,v)∉binds)->bindC kindOf binds m x=m x
 |[],_,_=>rfl
 | (n,v)::r,m,h=>by
  delta bindC;rw[y9 λw hw=>h w (fq _ hw)];split
  .rfl
  .have:x≠n:=by rintro rfl;show h v cz
   simp[this]
theorem zA{kindOf:aj->Option jy}{x:aj}{v:ai}:∀{P:Q0g} {vs:Q0f} {i:Nat} {m:Q0d},P.Nodup->P[i]?=ab x->vs[i]?=ab v->kindOf x=ab .local ->
  bindL kindOf (P.zip vs) m x=ab v
 |[],_,_,_,_,h,_,_=>by simp at h
 |_::_,[],_,_,_,_,h,_=>by simp at h
 |p::P,w::vs,0,m,nd,h1,h2,hk=>by simp at h1 h2;subst h1;subst h2;show bindL kindOf ((p,w)::P.zip vs) m p=_;delta bindL;rw[y6 λv a=>(kq.mp nd).1 (tm a).1,Z_ hk];simp
 |p::P,w::vs,i+1,m,nd,h1,h2,hk=>by show bindL kindOf ((p,w)::P.zip vs) m x=_;delta bindL;show zA (i:=i) (kq.mp nd).2 ↑h1 ↑h2 hk
theorem zB{kindOf:aj->Option jy}{x:aj}{v:ai}:∀{P:Q0g} {vs:Q0f} {i:Nat} {m:Q0d},P.Nodup->P[i]?=ab x->vs[i]?=ab v->kindOf x≠ab .local ->
  bindC kindOf (P.zip vs) m x=ab v
 |[],_,_,_,_,h,_,_=>by simp at h
 |_::_,[],_,_,_,_,h,_=>by simp at h
 |p::P,w::vs,0,m,nd,h1,h2,hk=>by simp at h1 h2;subst h1;subst h2;show bindC kindOf ((p,w)::P.zip vs) m p=_;delta bindC;rw[y9 λv a=>(kq.mp nd).1 (tm a).1,Zz hk];simp
 |p::P,w::vs,i+1,m,nd,h1,h2,hk=>by show bindC kindOf ((p,w)::P.zip vs) m x=_;delta bindC;show zB (i:=i) (kq.mp nd).2 ↑h1 ↑h2 hk
def start(N:Q0g)(vs:List V):St:=vs.map ab++cg (⇑N-⇑vs) af
def lB(CX:LD)(P:bh)(w:bg)(K:aq)(mg:Q0d)(ω:a_)(N:Q0g)(qual:aj)(scope:gn)(f:ah)(cd:ai)(A:bt)(Γ:List fv)(s:ak)(H:Hp)(E:XK):Cx where
 Ω:=P
 w:=w
 K:=K
 mg:=mg
 ω:=ω
 A:=A.deeper (envOfC qual scope ↥s f cd)
 N:=N
 s₀:=s
 H₀:=H
 env:=envOfC qual scope ↥s f cd
 Γ:=Γ
 stack:=envOfC qual scope ↥s f cd::Γ
 ex:=[]
 calm:=ae
 fn:=λ_=>ae
 pn:=[]
 xe:=λe s'=>ax (au P w) (A.deeper (envOfC qual scope ↥s f cd)) (leaving (envOfC qual scope ↥s f cd) e) (λ_ a=>CX Γ H s E e a) (λd a=>CX Γ H s E d a) s'
def EI{sc:gn}{n:Nat}{x:aj}(h:sc.names.lookup x=ab .cell):∃c,(cellsFrom n sc.names []).lookup x=ab c:=by have q:=a0P sc.names n [] (.inl h);show a1J.mp q
theorem NZ{CX:LD}{P:bh}{w:bg}{K:aq}{mg:Q0d}{ω:a_}{N d:Q0g}{qual:aj}{scope:gn}{f:ah}{cd:ai}{A:bt}{Γ:List fv}{s J:ak}{H:Hp}{E:XK}{us:Q0f}{vs:List V}
  (S:dR N d scope) (Y:A.handled=af) (e0:Y1 P w K mg ω A Γ s H) (hl:⇑vs=⇑d) (r:θ vs us)
  (x:InCallC s ↥s (bindL (envOfC qual scope ↥s f cd).kindOf (d.zip us) λ_=>af) (cellsFrom (↥s+1) scope.names []) (bindC (envOfC qual scope ↥s f cd).kindOf (d.zip us) λ_=>af) J):
  Φ (lB CX P w K mg ω N qual scope f cd A Γ s H E) [] (start N vs) H J:=by
 have X:⇑d<=⇑N:=by have:=congrArg vv S.pre;rw[js] at this;lia
 obtain⟨I,tk,rfl,O⟩:=x.done;have j:∀b:ah,b∉(lB CX P w K mg ω N qual scope f cd A Γ s H E).ex:=λb z=>Zw (show b∈([]:List ah) from z) (by simp);show⟨⟨e0.mod,S.kind,rfl,rfl,bq _,λy z c I h2=>?_,λy l=>?_,λy c _ h=>?_,λ_=>Y,a1p e0.frames,.inr ⟨rfl,rfl⟩,λb z=>Zw z (j b),e0.bs,e0.WQ,λb _ _=>j b,λb z=>Zw z (j b),e0.vR,e0.frf,e0.tab⟩,
  rfl,e0.bare,Un.kept O,⟨_,x.toInCall.ns,λi y v I h2 h3=>?_⟩,λy c h=>⟨_,x.cell y c h⟩,e0.hok.fresh (bq _),λy c h=>?_,λp o=>Zw (show p∈([]:Q0b) from o) (by simp),e0.hok.kept O,?_⟩
 .exact a0x x.apart (mf I) (mf h2)
 .have l:scope.names.lookup y=ab .cell\/scope.names.lookup y=ab .free:=l;rcases l with l|l
  .exact EI l
  .exact Zw rfl (S.aC5 _ (mf l))
 .exact nj (x.above y c (mf h))
 .have F:i<⇑vs:=by
   delta start at h2;by_cases F:i<⇑vs
   .exact F
   .rw [ji ↑F] at h2;rw[mi] at h2;split at h2<;>cases h2
  have Z:vs[i]?=ab v:=by
   delta start at h2;rw[kh ↑F,c_] at h2
   cases e:vs[i]? with
   |none=>rw[e] at h2;cases h2
   |some a=>rw[e] at h2;cases h2;rfl
  obtain⟨u,L,U⟩:=r.get Z;have o:d[i]?=ab y:=by rw[<- S.pre,Kx ∅];show I
  have m:d.Nodup:=by rw[<- S.pre];show S.nd.sublist (a18 _ _)
  show⟨u,U,?_⟩;rcases S.par y (j_ o) with k|k
  .exact .inl ⟨k,zA m o L k⟩
  .obtain ⟨c,e⟩:=EI (n:=↥s+1) k;show .inr ⟨.inl k,c,e,?_⟩;have q:=x.cell y c e;rw[zB m o L (by show scope.names.lookup y≠_;rw[k];decide)] at q;show q
 .exact e0.hok.fresh (nj (x.above y c (mf h)))
 .delta start;show _=⇑N;rw[gk,bb,p_];lia
theorem Gv{CX:LD}{P:bh}{w:bg}{K:aq}{mg:Q0d}{ω:a_}{k:Nat}{f:ah}{name qual:aj}{params:B_}{body:List df}{scope:gn}{X kV doc pm a ct oc:ai}{Y Z:Option ah}
  {F:Array (Option ai)} {N p:Q0g} {sp:Sp} (lk:K.lookup f=ab ⟨oc,Z,.func (fnOf name qual params body scope X kV doc pm Y a ct),F⟩) (O:codeIn K a qual=ae) (S:dR N p scope)
  (len:∀vs H Q E,sp vs H Q E->⇑vs=⇑p)
  (j:∀(A:bt) (Γ:List fv) (s:ak) (H:Hp) (vs:List V) (Q:VK) (E:XK),d8 k (A.deeper (envOfC qual scope ↥s f a))->sp vs H Q E ->
   ∃t,rE (lB CX P w K mg ω N qual scope f a A Γ s H E) body t/\t {nx:=λ_ H'=>Q .non H',rt:=Q} (start N vs) H):
  jN P w K mg ω CX (k+1) f (fnOf name qual params body scope X kV doc pm Y a ct) p sp:=by
 show⟨len,λA Γ s H args us vs Q E L e0 hb r m=>?_⟩;have hl:=len _ _ _ _ m;have KX:K.In s.heap:=e0.mod.kin.keeps λb o e=>(e0.bs b o e).1;have lim:s.heap.NoLimit:=e0.mod.nolimit.keeps λb o e=>(e0.bs b o e).1;have h:∀y∈p.zip us,scope.names.lookup y.1=ab .local\/(scope.names.lookup y.1=ab .cell/\((cellsFrom (↥s+1) scope.names []).lookup y.1).isSome=ae):=λ⟨n,v⟩ hy=>by
  rcases S.par n (tm hy).1 with q|q
  .exact .inl q
  .exact .inr ⟨q,a0P _ _ _ (.inl q)⟩
 show codeAny_call_function L.depth (KX _ _ lk) rfl S.co S.gen rfl (PySem.W.codeRec_of KX O) (hb _ _ _ _ ?_);show wpAny_newFunctionEnv_cells S.kind h λenv he U x=>?_;subst he;show⟨lim.keeps x.toInCall.keep,codeAny_func ?_⟩;obtain⟨t,ht,hq⟩:=j A Γ s H vs Q E (L.deeper _) m;have I:Φ (lB CX P w K mg ω N qual scope f a A Γ s H E) [] (start N vs) H U:=NZ S L.hd e0 hl r x;show jl (ht [] U (start N vs) H _ I hq) (λfl s' l=>?_) λe s' l=>l;have fin:∀{d:St} {H':Hp} {v:V} {u:ai},Φ (lB CX P w K mg ω N qual scope f a A Γ s H E) [] d H' s'->Ψ v u->Q v H'->CE Γ P w H s Q u s' :=
  λ{d H' v u} J z q=>⟨v,H',J.os,J.bare,J.ω,J.hok,z,q⟩
 cases fl with
 |ret u =>
  obtain⟨v,d,H',J,z,q⟩:=l;show fin J z q
 |next =>
  obtain⟨d,H',J,q⟩:=l;show fin (v:=V.non) (u:=ik) J rfl q
 |brk =>
  obtain⟨_,_,_,q⟩:=l;show l_ q
 |cont =>
  obtain⟨_,_,_,q⟩:=l;show l_ q
section
variable{x:aj}{p ν:bo}{e:av}{es:List av}{t:TA}{id T:String}{r:List V->Hp->VK->Prop}
def wa(r:List V->Hp->VK->Prop)(t:TA):TE:=λσ H Q=>t σ H λvs H1=>r vs H1 Q
def mC(v:eX X (.builtin id) r)(o:Gl X x)(n:X.mg x=af)(l:bootBuiltins x=ab (.builtin id))(y:PA X (e::es) t)(m:x ≠ "__name__"<|>1)(d:Zu x<|>1)
  (q:Zq X e es<|>0) (a:Q0k X ν es<|>0):PE X (.Call (.Name x p) (e::es) [] ν) (wa r t):=by
 intro π s σ H Q I h;show wx (iX I o n l ?_ m d);show a3R (dI (y ν π s σ H _ I h) λus j ⟨vs,H1,z,r1,q1⟩=>v π j σ H1 vs us Q z r1 q1) q a
def m5(v:eX X (.type T) r)(o:Gl X x)(n:X.mg x=af)(l:bootBuiltins x=ab (.type T))(y:PA X (e::es) t)(m:x ≠ "__name__"<|>1)(d:Zu x<|>1)
  (q:Zq X e es<|>0) (a:Q0k X ν es<|>0):PE X (.Call (.Name x p) (e::es) [] ν) (wa r t):=by
 intro π s σ H Q I h;show wx (iX I o n l ?_ m d);show sx (dI (y ν π s σ H _ I h) λus j ⟨vs,H1,z,r1,q1⟩=>v π j σ H1 vs us Q z r1 q1) q a
end
end L2
namespace HT
open PyProof.Rows
section
open PySem.SeqAt

open PySem.MeetsSeq PySem.MeetsSeq2 PySem.MeetsSeq3
end
section
variable{Ω:bh}{w:bg}{A:bt}{E:Q0c}{s:ak}
theorem Y2(y:jg s.heap t vs.toArray)(z:jg s.heap b ws.toArray)(o:vs≠[])
  (F:ws=[]->Q (.ref t) s) (h2:ws≠[]->Q (.ref ↥s) {s with heap:=s.heap.push {cls:=.type "tuple",data:=.seq (vs++ws).toArray} })
  (hsz:⇑vs+⇑ws<=br):ax (au Ω w) A (binaryOp .Add (.ref t) (.ref b)) Q E s:=by
 obtain⟨⟨cls,v,data,l⟩,ho,q,n,p⟩:=id y;obtain⟨⟨x,j,data2,d⟩,a,h,m,hd2⟩:=id z;simp only at q p h hd2;subst q p h hd2;have e:vs.toArray++ws.toArray=(vs++ws).toArray:=by simp
 by_cases hw:ws=[]
 .exact Ih ⟨_,ho,rfl⟩ ⟨_,a,rfl⟩ Ig Ia I_ Jc (Jg _ _)
   (tuple_addW1 t b vs.toArray ws.toArray n m v j l d ↑o (by simp[hw])) ⟨ho,a,F hw⟩
 .refine Ih ⟨_,ho,rfl⟩ ⟨_,a,rfl⟩ Ig Ia I_ Jc (Jg _ _)
   (tuple_addW2 t b vs.toArray ws.toArray n m v j l d ↑o ↑hw (by rw[cu,cu];show hsz)) ⟨ho,a,?_⟩
  rw[e];show h2 hw
noncomputable def fZ(n d:Nat):Option Int->Nat
 |none=>d
 |some v=>if v<0 then(v+(n:Int)).toNat else min v.toNat n
theorem aC6(n d:Nat)(h:d<=n)(o:Option Int):fZ n d o<=n:=by
 cases o with
 |none=>show h
 |some v =>
  show(if v<0 then(v+(n:Int)).toNat else min v.toNat n)<=n;by_cases a:v<0
  .rw [Z_ a];lia
  .rw [Zz a];show Nat.min_le_right _ _
def LG(v:Int)(n d:Nat):(if v<0 then max (v+(n:Int)) 0 else min v (n:Int))=((fZ n d (ab v):Nat):Int):=by
 show(if v<0 then max (v+(n:Int)) 0 else min v (n:Int))=(((if v<0 then(v+(n:Int)).toNat else min v.toNat n):Nat):Int);by_cases a:v<0
 .erw[Z_ a];lia
 .erw[Zz a];lia
def HK(lo a:Option Int)(n:Nat):Jk lo a 1 (n:Int)=(((fZ n 0 lo:Nat):Int),((fZ n n a:Nat):Int)):=by
 have d:¬ ((1:Int)<0):=∅
 delta Jk;erw[d,if_false];show a1H ?_ ?_
 .cases lo with
  |none=>rfl
  |some v=>show LG v n 0
 .cases a with
  |none=>rfl
  |some v=>show LG v n n
def HL(i j:Nat):By (i:Int) (j:Int) 1=j-i:=by
 delta By;have a:(1:Int)>0:=∅
 erw[a,if_true,Int.ediv_one];split<;>lia
theorem vX(p:om v o)(h:Q o s):ax (au Ω w) A (a3M v) Q E s:=by
 cases p with
 |none=>show a1x h
 |int i t=>show slicePart_int h
theorem j5{o:ah}{m l:ai}{lo d:Option Int}{n:Nat}{Q:Int×Int×Nat->ak->Prop}(v:s.heap.IsSliceOf o m l .none)(q:om m lo)(p:om l d)
  (h:Q (((fZ n 0 lo:Nat):Int),1,fZ n n d-fZ n 0 lo) s):ax (au Ω w) A (a1m (.ref o) (pure (n:Int))) Q E s:=by
 obtain⟨z,a,y,j⟩:=id v;delta a1m a3N;show ao (ao (jv a j (x:=m) rfl (ao (jv a j (x:=l) rfl (ao (jv a j (x:=.none) rfl (az ?_)))))));show ao (a1x ?_);show ax _ _ (if((1:Int) == 0)=ae then _ else _) _ _ s;rw[Zz ⋯];show ao (vX q (ao (vX p (ao (az ?_)))));show ax _ _ (match Jk lo d 1 (n:Int) with|(lo,d)=>pure (lo,(1:Int),By lo d 1)) _ _ s;rw[HK lo d n];show ax _ _ (pure (((fZ n 0 lo:Nat):Int),(1:Int),By ((fZ n 0 lo:Nat):Int) ((fZ n n d:Nat):Int) 1)) _ _ s;rw[HL];show az h
def SV(xs:Array ai)(i k:Nat):((cj k).filterMap λ(m:Nat)=>xs[((i:Int)+(m:Int)*1).toNat]?).toArray=((xs.toList.drop i).take k).toArray:=by
 have e:(λ(m:Nat)=>xs[((i:Int)+(m:Int)*1).toNat]?)=λm=>xs[i+m]?:=by
  funext m
  have:((i:Int)+(m:Int)*1).toNat=i+m:=∅
  rw[this]
 rw[e];have:=pick_run xs i k;rw[List.filterMap_map] at this;have a:((λx=>xs[x]?)∘λx=>i+x)=λm=>xs[i+m]?:=rfl;rw[a] at this;rw[this]
theorem pR{t l:ah}{items:Array ai}{x v:ai}{lo a:Option Int}{Q:Q0c}(d:jg s.heap t items)(y:s.heap.IsSliceOf l x v .none)(F:om x lo)(z:om v a)
  (hw:¬ (fZ items.size 0 lo=0/\fZ items.size items.size a=items.size))
  (h:Q (.ref ↥s) {s with heap:=s.heap.push {cls:=.type "tuple",data:=.seq ((items.toList.drop (fZ items.size 0 lo)).take (fZ items.size items.size a-fZ items.size 0 lo)).toArray} })
  (hsz:items.size<=br):ax (au Ω w) A (getItem (.ref t) (.ref l)) Q E s:=by
 have j:sizeOk (.seq ((items.toList.drop (fZ items.size 0 lo)).take (fZ items.size items.size a-fZ items.size 0 lo)).toArray):=by show((items.toList.drop (fZ items.size 0 lo)).take (fZ items.size items.size a-fZ items.size 0 lo)).toArray.size<=br;rw[cu,js,tu,iu];lia
 have L:fZ items.size items.size a<=items.size:=aC6 _ _ (bq _) a;obtain⟨I,n,p,J⟩:=id y;have K:s.TypeIs (.ref l) "slice":=⟨I,n,p⟩;delta getItem
 try with_reducible show i_ ?_
 first|show ao (az ?_)|skip
 show ao (a0h d.typeIs ⋯ ?_);show ao (pf (name:=jn "__getitem__") d.typeIs si
  (jw si d.typeIs a1B ?_ (a1G _ _)))
 show ax _ _ (a1k (.ref t) >>= _) _ _ s;show ao (a1q d ?_);show ao (Ax K ?_);rw[Z_ ⋯];show ao (j5 y F z ?_);have o:¬ ((((fZ items.size 0 lo:Nat):Int) == 0&&(1:Int) == 1&&(fZ items.size items.size a-fZ items.size 0 lo) == items.size)=ae):=by intro q;rw[ij,ij] at q;have q1:((fZ items.size 0 lo:Nat):Int)=0:=eq_of_beq q.1.1;have q2:fZ items.size items.size a-fZ items.size 0 lo=items.size:=eq_of_beq q.2;show hw ⟨∅,∅⟩
 show ax _ _ (if(((fZ items.size 0 lo:Nat):Int) == 0&&(1:Int) == 1&&(fZ items.size items.size a-fZ items.size 0 lo) == items.size)=ae then _ else _) _ _ s;rw[Zz o,SV]
 first
  |show ao (m:=Bw _) (wu (az ⟨_,rfl,az h⟩) j)
  |show ao (m:=Bw _) (wu (ao (az (az ⟨_,rfl,az h⟩))) j)
  |show ao (ao (m:=Bw _) (wu (az (az ⟨_,rfl,az h⟩)) j))
  |show ao (ao (m:=Bw _) (wu (az ⟨_,rfl,az h⟩) j))
end
end HT
namespace L2
open PySem.Spec PyProof.Rows
abbrev TO:=St->Hp->(Option Int->Hp->Prop)->Prop
def PO(X:Cx)(e:Option av)(t:TO):Prop :=
 ∀(π:Q0b) (s:ak) (σ:St) (H:Hp) (Q:Option Int->Hp->Prop),Φ X π σ H s->t σ H Q ->
  ax (au X.Ω X.w) X.A (evalPart e X.env) (λu s'=>∃o H',Φ X π σ H' s'/\om u o/\Q o H') X.xe s
def Y3:TO:=λ_ H Q=>Q af H
def aFB(t:TE):TO:=λσ H Q=>t σ H λx H1=>∃i,x=.int i/\Q (ab i) H1
theorem intsAre_of:∀{us:Q0f},θ (ns.map V.int) us->ng us ns:=by
 induction ns with
 |nil=>intro us r;rw[nq] at r;cases r;show .nil
 |cons n ns ih =>
  intro us r;rw[bx] at r
  cases r with
  |cons r1 r2 =>
   obtain⟨t,e⟩:=r1;subst e;show .cons n t (ih r2)
variable{X:Cx}
section
variable{e:av}{te:TE}{lo hi:Option av}{tl th:TO}{ν p2:bo}
def Y4:PO X af Y3:=by intro π s σ H Q I h;rw[a0C];show az ⟨af,H,I,.none,h⟩
def Y5(h:PE X e te):PO X (ab e) (aFB te):=by intro π s σ H Q I hw;rw[evalPart_some];show dI (h π s σ H _ I hw) λu j a=>?_;obtain⟨x,H1,d,r1,q1⟩:=a;obtain⟨i,rfl,q⟩:=q1;obtain⟨t,rfl⟩:=r1;show⟨ab i,H1,d,.int i t,q⟩
def SlR(X:Cx)(r:V->Option Int->Option Int->Hp->VK->Prop):Prop :=
 ∀(π:Q0b) (s:ak) (σ:St) (H:Hp) (x:V) (v d a:ai) (lo hi:Option Int) (h:ah) (Q:VK),Φ X π σ H s->Ψ x v->s.heap.IsSliceOf h d a .none->om d lo->om a hi->r x lo hi H Q ->
  ∃T id,typeLookup (.type T) "__getitem__"=pure (ab (.builtin id))/\s.TypeIs v T/\ax (au X.Ω X.w) X.A (getItem v (.ref h)) (EP X π σ Q) X.xe s
def SlR.or(h:SlR X r)(h':SlR X r'):SlR X (λx lo hi H Q=>r x lo hi H Q\/r' x lo hi H Q):=by
 intro π s σ H x v d a lo hi j Q I l o n m q;rcases q with q|q
 .exact h π s σ H x v d a lo hi j Q I l o n m q
 .exact h' π s σ H x v d a lo hi j Q I l o n m q
def Lu(r:V->Option Int->Option Int->Hp->VK->Prop)(te:TE)(tl th:TO):TE:=λσ H Q=>te σ H λx H1=>tl σ H1 λl d=>th σ d λu a=>r x l u a Q
def SW(J:SlR X r)(O:PE X e te)(K:PO X lo tl)(z:PO X hi th):PE X (.Subscript e (.Slice lo hi af p2) ν) (Lu r te tl th):=by intro π s σ H Q I h;show Jt (dI (O π s σ H _ I h) λv n ⟨x,H1,I1,r1,q1⟩=>?_);show wpAny_Slice (dI (K π n σ H1 _ I1 q1) λd m ⟨l,H2,I2,y,q2⟩=>dI (z π m σ H2 _ I2 q2) λa s3 ⟨u,j,Z,p,o⟩=>?_);rw[a0C];show az ?_;have Y:Φ X π σ j {s3 with heap:=s3.heap.push {cls:=.type "slice",data:=.fields #[d,a,.none]} }:=Z.kept (t':=s3.toks) λb ob q=>cx _ q;obtain⟨T,id,U,F,L⟩:=J π {s3 with heap:=s3.heap.push {cls:=.type "slice",data:=.fields #[d,a,.none]} } σ j x v d a l u ↥s3 Q Y r1 (a3k ..) y p o;show ax (au X.Ω X.w) X.A (subscriptTail e (.Slice lo hi af p2) v (.ref ↥s3)) (EP X π σ Q) X.xe {s3 with heap:=s3.heap.push {cls:=.type "slice",data:=.fields #[d,a,.none]} };show tail_any (ops:=[.ref ↥s3,v]) F U L (by with_unfolding_all rfl)
def EJ(xs:List V)(lo hi:Option Int):List V:=(xs.drop (HT.fZ ⇑xs 0 lo)).take (HT.fZ ⇑xs ⇑xs hi-HT.fZ ⇑xs 0 lo)
def rY(xs:List V)(lo hi:Option Int):⇑(EJ xs lo hi)<=⇑xs:=by delta EJ;rw[js,tu];lia
def Vb(K:aq):V->Option Int->Option Int->Hp->VK->Prop:=λx lo hi H Q=>∃a xs,x=.ref a/\eJ K H a xs /\
 ¬ (HT.fZ ⇑xs 0 lo=0/\HT.fZ ⇑xs ⇑xs hi=⇑xs) /\∀p,H p=af->Q (.ref p) (upd H p (.tup (EJ xs lo hi)))
def aC7:SlR X (Vb X.K):=by
 intro π s σ H x v F A lo hi J Q I m z p n h;obtain⟨a,xs,rfl,y,hw,q⟩:=h;cases m;obtain⟨l,r,j,d⟩:=I.tuple y;have hlen:l.toArray.size=⇑xs:=by rw[cu];show r.length.symm
 show⟨"tuple",_,si.lookup,j.typeIs,?_⟩;show HT.pR j z p n (by rw[hlen];show hw) ?_ (by rw[hlen];show d);rw[hlen];show⟨.ref ↥s,_,I.laid (t':=s.toks) (o:=.tup (EJ xs lo hi)) (λb L q=>cx _ q) (bq _) ?_,rfl,q _ (I.hok.fresh (bq _))⟩;show⟨jb (rY xs lo hi) d,_,(r.drop (HT.fZ ⇑xs 0 lo)).take (HT.fZ ⇑xs ⇑xs hi-HT.fZ ⇑xs 0 lo),Ju _ _,BL.new _ _⟩
def aFC(K:aq):R2:=λx y H Q=>∃a b xs ys,x=.ref a/\y=.ref b/\eJ K H a xs/\eJ K H b ys/\xs≠[]/\⇑xs+⇑ys<=br /\
 (ys=[]->Q (.ref a) H)/\(ys≠[] ->∀p,H p=af->Q (.ref p) (upd H p (.tup (xs++ys))))
theorem θ.BU(r:θ xs us):us=[]↔xs=[]:=by
 cases r with
 |nil=>simp
 |cons _ _=>simp
def Y6:iA X (binaryOp .Add) (aFC X.K):=by intro π s σ H x y v u Q I n m h;obtain⟨a,b,xs,ys,rfl,rfl,F,A,p,l,q1,q2⟩:=h;cases n;cases m;obtain⟨J,r1,p1,_⟩:=I.tuple F;obtain⟨j,d,p2,_⟩:=I.tuple A;show HT.Y2 p1 p2 (λz=>p (r1.BU.mp z)) (λz=>⟨.ref a,H,I,rfl,q1 (d.BU.mp z)⟩) (λz=>?_) (by rw[<- ⇑r1,<- ⇑d];show l);show⟨.ref ↥s,_,I.laid (t':=s.toks) (o:=.tup (xs++ys)) (λb L q=>cx _ q) (bq _) ?_,rfl,q2 (λw=>z (d.BU.mpr w)) _ (I.hok.fresh (bq _))⟩;show⟨by rw[gk];show l,_,r1.append d,Ju _ _,BL.new _ _⟩
end
def N0(n:Nat)(i:Int):Option Nat:=if 0<=i then(if i<n then ab i.toNat else af) else if -(n:Int)<=i then ab (i+n).toNat else af
def sZ{α:Type}(xs:List α)(i:Int):Option α:=(N0 ⇑xs i).bind λj=>xs[j]?
def BV(h:N0 n i=ab j):seqIndex? i n=ab j/\j<n /\ -(n:Int)<=i/\i<n:=by
 delta N0 at h;by_cases d:0<=i
 .rw [Z_ d] at h;by_cases a:i<n
  .rw [Z_ a] at h;have e:i.toNat=j:=dm h;show⟨by rw[Ib d a,e],∅,∅,a⟩
  .rw [Zz a] at h;cases h
 .rw [Zz d] at h;by_cases a:-(n:Int)<=i
  .rw [Z_ a] at h;have e:(i+n).toNat=j:=dm h;show⟨by rw[Ic ∅ a,e],∅,a,∅⟩
  .rw [Zz a] at h;cases h
theorem LI{α:Type}{xs:List α}{i:Int}{v:α}(h:sZ xs i=ab v):∃j,seqIndex? i ⇑xs=ab j/\xs[j]?=ab v/\j<⇑xs /\ -(⇑xs:Int)<=i/\i<⇑xs:=by
 delta sZ at h
 cases e:N0 ⇑xs i with
 |none=>rw[e] at h;cases h
 |some j =>
  rw[e] at h;obtain⟨l,h2,d,a⟩:=BV e;show⟨j,l,h,h2,d,a⟩
def BW(b:av):Prop:=∀o i,subscripted b ag o i=operate [o,i] (getItem o i)
def IxR(X:Cx)(r:R2):Prop :=
 ∀(value slice:av) (π:Q0b) (s:ak) (σ:St) (H:Hp) (x y:V) (v u:ai) (Q:VK),Φ X π σ H s->Ψ x v->Ψ y u->r x y H Q ->
  subscripted slice ag v u=operate [v,u] (getItem v u)->ax (au X.Ω X.w) X.A (subscriptTail value slice v u) (EP X π σ Q) X.xe s
def MtR(X:Cx)(id:String)(r:V->List V->Hp->VK->Prop):Prop :=
 ∀(π:Q0b) (s:ak) (σ:St) (H:Hp) (x:V) (xs:List V) (v:ai) (us:Q0f) (Q:VK),Φ X π σ H s->Ψ x v->θ xs us->r x xs H Q ->
  ax (au X.Ω X.w) X.A (call (.builtin id) (v::us)) (EP X π σ Q) X.xe s
section
variable{a b:av}{ta tb:TE}{ν:bo}
def IxR.or(h:IxR X r)(h':IxR X r'):IxR X (λx y H Q=>r x y H Q\/r' x y H Q):=by
 intro value slice π s σ H x y v u Q I j d q l;rcases q with q|q
 .exact h value slice π s σ H x y v u Q I j d q l
 .exact h' value slice π s σ H x y v u Q I j d q l
def aFD(n:IxR X r)(p:PE X a ta)(o:PE X b tb)(m:BW b):PE X (.Subscript a b ν) (uj r ta tb):=by intro π s σ H Q I h;show Jt (Ae p o I h λv u d x y A z l j q=>n a b π d σ A x y v u Q z l j q (m _ _))
def Fg(K:aq):R2:=λx y H Q=>∃p xs i v,x=.ref p/\y=.int i/\c7 K H p xs/\sZ xs i=ab v/\Q v H
def Ff(K:aq):R2:=λx y H Q=>∃p xs i v,x=.ref p/\y=.int i/\eJ K H p xs/\sZ xs i=ab v/\Q v H
def Y7:IxR X (Fg X.K):=by
 intro value slice π s σ H x y v u Q I L J h n;obtain⟨p,xs,i,z,rfl,rfl,O,Y,q⟩:=h;cases L;obtain⟨t,rfl⟩:=J;obtain⟨F,r,l,hz⟩:=I.list O;obtain⟨j,d,h2,h3,h4,Z⟩:=LI Y;obtain⟨w,A,HM⟩:=r.get h2;have U:=⇑r;have hn:=vW;have fin:EP X π σ Q w s:=⟨z,H,I,HM,q⟩;by_cases o:0<=i
 .have m:i.toNat=j:=by rw[Ib o Z] at d;show dm d
  show item_listR l.isList o ∅ (by rw[m];simpa using A) fin n
 .have m:(i+(F.toArray.size:Int)).toNat=j:=by rw[Ic ∅ h4] at d;rw[cu,<- U];show dm d
  show a1s (x:=w) l.isList.typeIs a0u.lookup
   (wpAny_getItem_list_neg (Q:=λr s'=>r=w/\EP X π σ Q r s') l.isList ∅ (by rw[cu]<;>lia) ∅ (by rw[m];simpa using A) ⟨rfl,fin⟩) n
def aC9:IxR X (Ff X.K):=by
 intro value slice π s σ H x y v u Q I m l h n;obtain⟨p,xs,i,z,rfl,rfl,o,F,q⟩:=h;cases m;obtain⟨t,rfl⟩:=l;obtain⟨U,r,d,Y⟩:=I.tuple o;obtain⟨j,J,h2,h3,h4,h5⟩:=LI F;obtain⟨w,L,O⟩:=r.get h2;have A:=⇑r;have Z:=vW;have fin:EP X π σ Q w s:=⟨z,H,I,O,q⟩;show a1s (x:=w) d.typeIs si.lookup
  (getItem_tuple (j:=j) (Q:=λr s'=>r=w/\EP X π σ Q r s') d ∅ ∅ (by rw[cu,<- A];show J) ↑L ⟨rfl,fin⟩) n
def HN(d:Q0f)(n j:Nat)(u:ai):fu (·.setIfInBounds j u) {cls:=.type "list",data:=.seq d.toArray n}={cls:=.type "list",data:=.seq (d.set j u).toArray n}:=by simp[fu]
theorem Φ.lst{π:Q0b}{σ:St}{H:Hp}{s:ak}{p:ah}{xs:List V}(I:Φ X π σ H s)(h:H p=ab (.lst xs)):
  ∃(d:Q0f) (n:Nat),θ xs d/\s.heap.get? p=ab {cls:=.type "list",data:=.seq d.toArray n}/\⇑xs<=br:=by
 obtain⟨z,d,n,r,e⟩:=I.hok p _ h;show⟨d,n,r,e,z⟩
theorem Φ.aCa{π:Q0b}{σ:St}{H:Hp}{s:ak}{p:ah}{xs ys:List V}{j its':Q0f}{n d:Nat}{f:ay->ay}(I:Φ X π σ H s)(h:H p=ab (.lst xs))
  (ho:s.heap.get? p=ab {cls:=.type "list",data:=.seq j.toArray n}) (l:f {cls:=.type "list",data:=.seq j.toArray n}={cls:=.type "list",data:=.seq its'.toArray d }) (r:θ ys its') (m:⇑ys<=br) (t:Nat):
  Φ X π σ (upd H p (.lst ys)) {s with heap:=s.heap.update p f,toks:=t}:=by
 have e:(s.heap.update p f).get? p=ab {cls:=.type "list",data:=.seq its'.toArray d }:=by rw[u_ f ho (by rw[l]<;>rfl),l]
 show I.write (x:=p) (e:=p) (by rw[h];trivial) (.inl rfl) (λb u o q=>(Bs _ _ (fz o)).trans q) ⟨_,e⟩ ?_;show⟨m,its',d,r,e⟩
def aFG:V->V->V->Hp->(Hp->Prop)->Prop:=λo i v H Q=>∃p xs k j,o=.ref p/\i=.int k/\H p=ab (.lst xs)/\N0 ⇑xs k=ab j/\Q (upd H p (.lst (xs.set j v)))
def set_list:Fl X aFG:=by
 intro π s σ H o i v U Y u Q I ro ri K h;obtain⟨p,xs,k,j,rfl,rfl,y,O,q⟩:=h;cases ro;obtain⟨t,rfl⟩:=ri;obtain⟨x,n,r,ho,L⟩:=I.lst y;obtain⟨d,h2,A,z⟩:=BV O;have l:=⇑r;have Z:=vW;have J:Φ X π σ (upd H p (.lst (xs.set j v))) {s with heap:=s.heap.update p (fu (·.setIfInBounds j u))} :=
  I.aCa y ho (HN x n j u) (r.set K j) (by rw[kb];show L) s.toks
 by_cases F:0<=k
 .have m:k.toNat=j:=by rw[Ib F z] at d;show dm d
  show PySem.W.ki_setAt ho F ∅ (by rw[cu,<- l];show z) (by rw[m];show⟨_,J,q⟩)
 .have m:(k+(x.toArray.size:Int)).toNat=j:=by rw[Ic ∅ A] at d;rw[cu,<- l];show dm d
  show PySem.W.ki_setBack ho ∅ (by rw[cu,<- l];show A) ∅ (by rw[m];show⟨_,J,q⟩)
def BX(lo d:Option Int)(n:Nat):(sliceBounds lo d af n).1=((HT.fZ n 0 lo:Nat):Int)/\(sliceBounds lo d af n).2.1=((HT.fZ n n d:Nat):Int)/\(sliceBounds lo d af n).2.2=1:=by
 show⟨?_,?_,rfl⟩
 .cases lo with
  |none=>simp[sliceBounds,HT.fZ]
  |some i =>
   erw[sliceBounds,HT.fZ,a1K,show(1:Int)>0 by decide,if_true];by_cases h:i<0
   .erw[h,if_true]<;>lia
   .erw[h,if_false]<;>lia
 .cases d with
  |none=>simp[sliceBounds,HT.fZ]
  |some i =>
   erw[sliceBounds,HT.fZ,a1K,show(1:Int)>0 by decide,if_true];by_cases h:i<0
   .erw[h,if_true]<;>lia
   .erw[h,if_false]<;>lia
def xS(d:Q0f)(lo h:Option Int):slicePick d.toArray lo h af=((d.drop (HT.fZ ⇑d 0 lo)).take (HT.fZ ⇑d ⇑d h-HT.fZ ⇑d 0 lo)).toArray:=by obtain⟨l,h2,j⟩:=BX lo h d.toArray.size;delta slicePick;rw[l,h2,j];erw[sliceRange_one,pick_run,cu]<;>rfl
def Va(K:aq):V->Option Int->Option Int->Hp->VK->Prop:=λx lo d H Q=>∃a xs,x=.ref a/\c7 K H a xs /\∀p,H p=af->Q (.ref p) (upd H p (.lst (EJ xs lo d)))
theorem Y8:SlR X (Va X.K):=by intro π s σ H x v J F lo d L Q I l z n m h;obtain⟨a,xs,rfl,y,q⟩:=h;cases l;obtain⟨A,r,j,p⟩:=I.list y;have hlen:=⇑r;show⟨"list",_,a0u.lookup,j.isList.typeIs,?_⟩;show wpAny_getItem_list_slice j.isList z n m .none (by simp) ?_ (by rw[cu]<;>lia);rw[xS,<- hlen];show⟨.ref ↥s,_,I.laid (t':=s.toks) (o:=.lst (EJ xs lo d)) (λb O q=>cx _ q) (bq _) ?_,rfl,q _ (I.hok.fresh (bq _))⟩;show⟨jb (rY xs lo d) p,_,0,(r.drop (HT.fZ ⇑xs 0 lo)).take (HT.fZ ⇑xs ⇑xs d-HT.fZ ⇑xs 0 lo),d_ _ rfl⟩
noncomputable def pS:V->Bool
 |.non=>ae
 |.bl _=>ae
 |.int _=>ae
 |.str _=>ae
 |_=>ag
noncomputable def eqV:V->V->Bool
 |.non,.non=>ae
 |.bl a,.bl b=>a == b
 |.bl a,.int b=>(if a then 1 else 0) == b
 |.int a,.bl b=>a == (if b then 1 else 0)
 |.int a,.int b=>a == b
 |.str a,.str b=>a == b
 |_,_=>ag
theorem aCb(h:Ψ y u)(d:Ψ x v)(l:pS y=ae)(j:pS x=ae):xa A s u v (eqV y x):=by
 cases y with
 |non =>
  cases h
  cases x with
  |non=>cases d;show Ir _
  |bl b=>cases d;show a3a b
  |int b=>obtain⟨t,rfl⟩:=d;show a29 b t
  |str b=>obtain⟨t,rfl⟩:=d;show a28 b t
  |_=>show Zw (show ag=ae from j) bz
 |bl a =>
  cases h
  cases x with
  |non=>cases d;show a3f a
  |bl b=>cases d;show a3h a b
  |int b=>obtain⟨t,rfl⟩:=d;show a3g a b t
  |str b=>obtain⟨t,rfl⟩:=d;show a3e a b t
  |_=>show Zw (show ag=ae from j) bz
 |int a =>
  obtain⟨t',rfl⟩:=h
  cases x with
  |non=>cases d;show a3c a t'
  |bl b=>cases d;show a3d a t' b
  |int b=>obtain⟨t,rfl⟩:=d;show uv a t' b t
  |str b=>obtain⟨t,rfl⟩:=d;show a0Y a t' b t
  |_=>show Zw (show ag=ae from j) bz
 |str a =>
  obtain⟨t',rfl⟩:=h
  cases x with
  |non=>cases d;show a26 a t'
  |bl b=>cases d;show a27 a t' b
  |int b=>obtain⟨t,rfl⟩:=d;show a0X a t' b t
  |str b=>obtain⟨t,rfl⟩:=d;show a25 a t' b t
  |_=>show Zw (show ag=ae from j) bz
 |_=>show Zw (show ag=ae from l) bz
def HP(x:V)(u:ai):Bool:=match u with
 |.none=>eqV .non x
 |.bool b=>eqV (.bl b) x
 |.int i _=>eqV (.int i) x
 |.str z _=>eqV (.str z) x
 |_=>ag
theorem SX(r:Ψ y u)(f:pS y=ae):HP x u=eqV y x:=by
 cases y with
 |non=>cases r;rfl
 |bl b=>cases r;rfl
 |int i=>obtain⟨t,rfl⟩:=r;rfl
 |str z=>obtain⟨t,rfl⟩:=r;rfl
 |_=>show Zw (show ag=ae from f) bz
theorem pT:∀{xs:List V} {us:Q0f},θ xs us->xs.all pS=ae->us.any (HP x)=xs.any λy=>eqV y x
 |_,_,.nil,_=>rfl
 |y::xs,u::us,.cons r t,f=>by rw[vz,ij] at f;rw[mj,mj,SX r f.1,pT t f.2]
theorem mD(h:Ψ x v)(j:pS x=ae):∀{xs:List V} {us:Q0f},θ xs us->xs.all pS=ae ->∀u∈us,xa A s u v (HP x u)
 |_,_,.nil,_=>λu d=>by cases d
 |y::xs,u::us,.cons r t,f=>λl d=>by
  rw[vz,ij] at f;rcases bu.mp d with rfl|d
  .rw [SX r f.1];show aCb r h f.1 j
  .exact mD h j t f.2 l d
def inV(x:V)(xs:List V):Bool:=xs.any λy=>eqV y x
def yp(K:aq)(neg:Bool):R2:=λx y H Q=>∃p xs,y=.ref p/\(c7 K H p xs\/eJ K H p xs)/\pS x=ae/\xs.all pS=ae/\Q (.bl (if neg then !inV x xs else inV x xs)) H
def zC:iA X (compareOp .In) (yp X.K ag):=by
 intro π s σ H x y v u Q I m o h;obtain⟨p,xs,rfl,j,n,fs,q⟩:=h;cases o;rcases j with j|j
 .obtain ⟨d,r,l,z⟩:=I.list j;show SeqAt.in_listAt (HP x) l.isList (λw hw=>mD m n r fs w ↑hw) ⟨.bl _,H,I,rfl,?_⟩;rw[show d.toArray.any (HP x)=d.any (HP x) by simp,pT r fs];show q
 .obtain ⟨d,r,l,z⟩:=I.tuple j;show SeqAt.in_tupleAt (HP x) l (λw hw=>mD m n r fs w ↑hw) ⟨.bl _,H,I,rfl,?_⟩;rw[show d.toArray.any (HP x)=d.any (HP x) by simp,pT r fs];show q
def BY:iA X (compareOp .NotIn) (yp X.K ae):=by
 intro π s σ H x y v u Q I m o h;obtain⟨p,xs,rfl,j,n,fs,q⟩:=h;cases o;rcases j with j|j
 .obtain ⟨d,r,l,z⟩:=I.list j;show SeqAt.notIn_listAt (HP x) l.isList (λw hw=>mD m n r fs w ↑hw) ⟨.bl _,H,I,rfl,?_⟩;rw[show d.toArray.any (HP x)=d.any (HP x) by simp,pT r fs];show q
 .obtain ⟨d,r,l,z⟩:=I.tuple j;show SeqAt.notIn_tupleAt (HP x) l (λw hw=>mD m n r fs w ↑hw) ⟨.bl _,H,I,rfl,?_⟩;rw[show d.toArray.any (HP x)=d.any (HP x) by simp,pT r fs];show q
def BZ:eX X (.builtin "len") (λxs H Q=>∃p ys,xs=[.ref p]/\(c7 X.K H p ys\/eJ X.K H p ys)/\Q (.int ⇑ys) H):=by
 intro π s σ H xs us Q I r h;obtain⟨p,ys,rfl,d,q⟩:=h;obtain⟨u,rfl,n⟩:=vals1 r;cases n;have v:=vW;rcases d with d|d
 .obtain ⟨m,j,l,o⟩:=I.list d;have hlen:=⇑j;show Calls.call_len_list l.isList (by erw[cu]<;>lia) ⟨.int ⇑ys,H,I.tok _,⟨s.toks+1,by rw[cu,hlen]⟩,q⟩
 .obtain ⟨m,j,l,o⟩:=I.tuple d;have hlen:=⇑j;show len_tuple l (by erw[cu]<;>lia) ⟨.int ⇑ys,H,I.tok _,⟨s.toks+1,by rw[cu,hlen]⟩,q⟩
def B0:eX X (.type "list") (λxs H Q=>∃p ys,xs=[.ref p]/\(c7 X.K H p ys\/eJ X.K H p ys) /\∀l,H l=af->Q (.ref l) (upd H l (.lst ys))):=by
 intro π s σ H xs us Q I r h;obtain⟨p,ys,rfl,y,q⟩:=h;obtain⟨u,rfl,L⟩:=vals1 r;cases L;have fin:∀(d:Q0f),θ ys d->⇑ys<=br ->∀(h':a_) (m:Nat),(∀b J,s.heap.get? b=ab J->h'.get? b=ab J) ->
   h'.get? ↥s=ab {cls:=.type "list",dict:=af,data:=.seq d.toArray m,slots:=#[]}->EP X π σ Q (.ref ↥s) {s with heap:=h' }:=λd j x h' m v e =>
  ⟨.ref ↥s,_,I.laid (t':=s.toks) v (bq _) (show cQ X.Ω X.w _ h' _ (.lst ys) from⟨x,d,m,j,e⟩),rfl,q _ (I.hok.fresh (bq _))⟩
 rcases y with y|y
 .obtain ⟨d,j,z,x⟩:=I.list y;have hlen:=⇑j;obtain⟨o,ho,F,n,A⟩:=z.isList;show a0F p (.inl rfl) ho F A (λh' m v e=>fin d j x h' m v e) (by erw[cu]<;>lia)
 .obtain ⟨d,j,z,x⟩:=I.tuple y;have hlen:=⇑j;obtain⟨o,ho,F,n,A⟩:=z;show a0F p (.inr rfl) ho F A (λh' m v e=>fin d j x h' m v e) (by erw[cu]<;>lia)
theorem xT:eX X (.type "tuple") (λxs H Q=>∃p ys,xs=[.ref p]/\((c7 X.K H p ys /\∀l,H l=af->Q (.ref l) (upd H l (.tup ys)))\/(eJ X.K H p ys/\Q (.ref p) H))):=by
 intro π s σ H xs us Q I r h;obtain⟨p,ys,rfl,h⟩:=h;obtain⟨u,rfl,y⟩:=vals1 r;cases y;rcases h with⟨n,q⟩|⟨n,q⟩
 .obtain ⟨d,j,m,v⟩:=I.list n;have hlen:=⇑j;show call_tuple_list m.isList (λh' z=>?_) (by erw[cu]<;>lia);have x:Φ X π σ H {s with heap:=h' }:=I.kept (t':=s.toks) z;have A:Φ X π σ (upd H h'.objs.size (.tup ys)) {s with heap:=h'.push {cls:=.type "tuple",data:=.seq d.toArray} } :=
   x.laid (t':=s.toks) (λb o e=>cx _ e) (bq _) (show cQ X.Ω X.w _ _ _ (.tup ys) from⟨v,d,j,Ju _ _,BL.new _ _⟩)
  show⟨.ref h'.objs.size,_,A,rfl,q _ (x.hok.fresh (bq _))⟩
 .obtain ⟨d,j,m,v⟩:=I.tuple n;show call_tuple_same m ⟨.ref p,H,I,rfl,q⟩
def tyV(K:aq)(T:String)(x:V)(H:Hp):Prop:=match x with
 |.str _=>T="str"
 |.int _=>T="int"
 |.ref p=>(T="list" /\∃xs,c7 K H p xs)\/(T="tuple" /\∃o,K.lookup p=ab o/\o.cls=.type "tuple" /\o.dict=af) \/
   (T="dict" /\((∃χ,H p=ab (.dK χ)) \/∃χ,H p=ab (.dT χ)))\/(T="set" /\∃S n,H p=ab (.set S n))\/(T="tuple" /\∃xs,H p=ab (.tup xs))
 |_=>False
theorem aCc(I:Φ X π σ H s)(r:Ψ x v)(ty:tyV X.K T x H):
  s.TypeIs v T /\∀a,v=.ref a ->∃m,s.heap.get? a=ab m/\m.dict=af:=by
 cases x with
 |str z =>
  obtain⟨t,rfl⟩:=r;cases (show T="str" from ty);show⟨typeIs_str s z t,λ_ e=>nomatch e⟩
 |int i =>
  obtain⟨t,rfl⟩:=r;cases (show T="int" from ty);show⟨Hz s i t,λ_ e=>nomatch e⟩
 |ref p =>
  cases r;rcases ty with⟨rfl,xs,q⟩|⟨rfl,o,d,y,j⟩|⟨rfl,d⟩|⟨rfl,S,n,d⟩|⟨rfl,xs,d⟩
  .obtain ⟨A,_,l,_⟩:=I.list q;show⟨l.isList.typeIs,λa e=>?_⟩;cases e;obtain⟨o,n,e,c,j,_⟩:=l;show⟨o,e,j⟩
  .refine ⟨⟨o,I.BN p o d,y⟩,λa e=>?_⟩;cases e;show⟨o,I.BN _ o d,j⟩
  .have z:∃o,s.heap.get? p=ab o/\o.ExactDict:=by
    rcases d with⟨χ,d⟩|⟨χ,d⟩
    .obtain ⟨_,_,_,_,o,_,_,e,ex,_⟩:=I.hok p _ d;show⟨o,e,ex⟩
    .obtain ⟨_,_,_,_,o,_,_,e,ex,_⟩:=I.hok p _ d;show⟨o,e,ex⟩
   obtain⟨o,e,ex⟩:=z;show⟨⟨o,e,ex.1⟩,λa h=>?_⟩;cases h;show⟨o,e,ex.2.1⟩
  .obtain ⟨o,_,_,_,e,ex,_⟩:=I.hok p _ d;show⟨⟨o,e,ex.1⟩,λa h=>?_⟩;cases h;show⟨o,e,ex.2.1⟩
  .obtain ⟨_,_,_,⟨o,e,c,_⟩,nd⟩:=I.hok p _ d;show⟨⟨o,e,c⟩,λa h=>?_⟩;cases h;show⟨o,e,nd _ e⟩
 |_=>show l_ ty
def Dk(K:aq)(T:String)(r:V->List V->Hp->VK->Prop)(d:TE)(t:TA):TE:=λσ H Q=>d σ H λx H1=>tyV K T x H1/\t σ H1 λxs h=>r x xs h Q
variable{o e:av}{es:List av}{to:TE}{t:TA}{name:aj}{apos cpos:bo}{T id:String}{r:V->List V->Hp->VK->Prop}
theorem aFH(F:PlainAttrs T)(slot:Slot T name id)(m:typeOf (.builtin id)=pure (.type "method_descriptor"))(L:MtR X id r)(ho:PE X o to)(O:PA X (e::es) t)
  (j:attributeBase o name X.env (eval o X.env)=eval o X.env<|>0)
  (l:((e_ cpos (ar (e::es) X.env)).all (λx=>!x.1)&&(backToKw cpos (qh [] X.env)).all (λx=>x.1.isSome)
   && Zv (⇑(e::es)+⇑([]:List jf)+(if([]:List jf).isEmpty then 0 else 1)<30))=ae:=by rfl)
  (d:Q0j apos cpos<|>0) (J:Zq X e es<|>0) (hplain:Q0k X cpos es<|>0):
  PE X (.Call (.Attribute o name apos) (e::es) [] cpos) (Dk X.K T r to t):=by
 intro π s σ H Q I h;show wpAny_Call_method_late j l d rfl (dI (ho π s σ H _ I h) λv z ⟨x,H1,q,r1,ty,q1⟩=>?_);obtain⟨U,h2⟩:=aCc q r1 ty;show⟨T,id,F,slot,m,U,h2,?_⟩;have p:=O cpos π z σ H1 _ q q1;rw[J] at p ⊢;show Calls.callWith_builtin (by show(ag||(e_ cpos (ar es X.env)).any (·.1))=ag;rw[hplain]<;>rfl) (Calls.evalArgs_plain ?_);show dI p λus y n=>by obtain⟨vs,Z,Y,A,q2⟩:=n;show L π y σ Z x vs v us Q Y r1 A q2
end
def MtM(X:Cx)(id:String)(r:V->List V->Hp->VK->Prop):Prop :=
 ∀(π:Q0b) (s:ak) (σ:St) (H:Hp) (x:V) (xs:List V) (v:ai) (us:Q0f) (Q:VK),Φ X π σ H s->Ψ x v->θ xs us->r x xs H Q ->
  ax (au X.Ω X.w) X.A (call (.builtin id) (v::us)) (EP X π σ Q) X.xe s
theorem θ.one:∀{x:V} {us:Q0f},θ [x] us ->∃u,us=[u]/\Ψ x u
 |_,_,.cons r .nil=>⟨_,rfl,r⟩
theorem θ.eraseIdx:∀{xs:List V} {us:Q0f} (i:Nat),θ xs us->θ (xs.eraseIdx i) (us.eraseIdx i)
 |_,_,_,.nil=>.nil
 |_,_,0,.cons _ t=>t
 |_,_,i+1,.cons r t=>.cons r (θ.eraseIdx i t)
theorem θ.rep(h:θ xs us):∀k:Nat,θ (cg k xs).flatten (cg k us).flatten
 |0=>.nil
 |k+1=>by rw[ko,ko,tw,tw];show θ.append h (θ.rep h k)
theorem zD{α:Type}:∀(l:List α) (i:Nat),⇑(l.eraseIdx i)<=⇑l
 |[],_=>bq _
 |_::_,0=>qm _
 |_::r,i+1=>Nat.succ_le_succ (zD r i)
theorem foldl_rep(d:Q0f):∀(k:Nat) (a:Q0f),
  Kz (λx1 h=>x1++h) a.toArray (cg k d.toArray)=(a++(cg k d).flatten).toArray
 |0,a=>by simp
 |k+1,a=>by
  have e:a.toArray++d.toArray=(a++d).toArray:=by simp
  have j:(a++d)++(cg k d).flatten=a++(cg (k+1) d).flatten:=by rw[ko,tw,Cu]
  rw[<- j,<- foldl_rep d k (a++d),<- e,ko,lp]
section
variable{π:Q0b}{σ:St}{H:Hp}{s:ak}{l b:ah}{xs ys zs:List V}
theorem Φ.Ab{a its':Q0f}{n:Nat}{f:Array ai->Array ai}{t':Nat}(I:Φ X π σ H s)(p:H l=ab (.lst xs))
  (e:s.heap.get? l=ab {cls:=.type "list",data:=.seq a.toArray n}) (m:f a.toArray=its'.toArray) (h:θ ys its') (d:⇑ys<=br):
  Φ X π σ (upd H l (.lst ys)) {s with heap:=s.heap.update l (fu f),toks:=t' }:=by
 have q:=a3j e f;rw[m] at q;show I.write (x:=l) (e:=l) (by rw[p];show trivial) (.inl rfl) (λv u o j=>(Bs s.heap (fu f) (fz o)).trans j) ⟨_,q⟩ ?_;show⟨d,its',_,h,q⟩
theorem Φ.Fe(I:Φ X π σ H s)(d:θ ys ι)(a:⇑ys<=br):
  Φ X π σ (upd H ↥s (.lst ys)) {s with heap:=s.heap.push {cls:=.type "list",data:=.seq ι.toArray},toks:=t' } :=
 I.laid (λ_ _ q=>cx _ q) (bq _) ⟨a,ι,0,d,d_ _ rfl⟩
def Φ.fresh(I:Φ X π σ H s):H ↥s=af:=I.hok.fresh (bq _)
def Φ.vY(I:Φ X π σ H s)(d:H l=ab (.lst xs)):⇑xs<=br /\∃(a:Q0f) (n:Nat),θ xs a/\⇑xs=⇑a/\s.heap.get? l=ab {cls:=.type "list",data:=.seq a.toArray n}:=by obtain⟨z,a,n,r,e⟩:=I.hok l _ d;show⟨z,a,n,r,⇑r,e⟩
def EK{n:Nat}(h:n<=br):Bz n=ag:=by delta Bz;show Zy ∅
def LJ:V->List V->Hp->VK->Prop:=λx vs H Q=>∃l xs y,x=.ref l/\vs=[y]/\H l=ab (.lst xs)/\⇑xs<br/\Q .non (upd H l (.lst (xs++[y])))
def zE:MtM X "list.append" LJ:=by intro π s σ H x vs v us Q I j m h;obtain⟨l,xs,y,rfl,rfl,d,p,q⟩:=h;cases j;obtain⟨u,rfl,o⟩:=m.one;obtain⟨z,a,n,r,A,e⟩:=I.vY d;show wy a06 ⟨_,e,rfl⟩ F.entry_list_append (F.args_list_append_2 _ _) (PySem.list_append l a.toArray n u (by rw[cu];lia)) ⟨e,?_⟩;show⟨.non,_,I.Ab (its':=a++[u]) d e (by simp) (r.append (.cons o .nil)) ?_,rfl,q⟩;rw[gk,Ku];lia
def LK:V->List V->Hp->VK->Prop:=λx vs H Q=>∃l b xs zs,x=.ref l/\vs=[.ref b]/\H l=ab (.lst xs)/\H b=ab (.lst zs)/\⇑xs+⇑zs<=br/\Q .non (upd H l (.lst (xs++zs)))
def N2:MtM X "list.extend" LK:=by
 intro π s σ H x vs v us Q I m o h;obtain⟨l,b,xs,zs,rfl,rfl,j,K,Y,q⟩:=h;cases m;obtain⟨u,rfl,p⟩:=o.one;cases p;obtain⟨z,d,n,r,Z,e⟩:=I.vY j;obtain⟨U,a,A,y,J,L⟩:=I.vY K;have hsz:d.toArray.size+a.toArray.size<=br:=by rw[cu,cu];lia
 have O:¬ (!d.toArray.isEmpty&&Bz (d.toArray.size+a.toArray.size))=ae:=by rw[EK hsz,Bool.and_false];show bz
 show wy a05 ⟨_,e,rfl⟩ F.entry_list_extend (F.args_list_extend_2 _ _)
  (a3P l d.toArray n b a.toArray A O (by rw[cu];lia) ∅) ⟨e,L,?_⟩
 show⟨.non,_,I.Ab (its':=d++a) j e (by simp) (r.append y) ?_,rfl,q⟩;rw[gk];lia
def S3:V->List V->Hp->VK->Prop:=λx vs H Q=>∃l xs i k y,x=.ref l/\vs=[.int i]/\H l=ab (.lst xs) /\ -(2^63)<=i/\i<2^63/\seqIndex? i ⇑xs=ab k/\xs[k]?=ab y/\Q y (upd H l (.lst (xs.eraseIdx k)))
def S4:MtM X "list.pop" S3:=by
 intro π s σ H x vs v us Q I j m h;obtain⟨l,xs,i,k,y,rfl,rfl,d,K,h2,J,p,q⟩:=h;cases j;obtain⟨u,rfl,o⟩:=m.one;obtain⟨t,rfl⟩:=o;obtain⟨z,a,n,r,A,e⟩:=I.vY d;obtain⟨w,hw,L⟩:=r.get p;show wy a04 ⟨_,e,rfl⟩ F.entry_list_pop (F.args_list_pop_2 _ _)
  (a3i l a.toArray n i t k w (a0B K h2) (by rw[cu,<- A];show J) (by rw[<- ug];show hw) (by rw[cu];lia)) ⟨e,?_⟩
 show⟨y,_,I.Ab (its':=a.eraseIdx k) d e ?_ (r.eraseIdx k) ?_,L,q⟩
 .show a.toArray.eraseIdxIfInBounds k=(a.eraseIdx k).toArray;rw[List.eraseIdxIfInBounds_toArray]
 .have:=zD xs k;lia
def Fd:R2:=λx y H Q=>∃l b xs zs,x=.ref l/\y=.ref b/\H l=ab (.lst xs)/\H b=ab (.lst zs)/\⇑xs+⇑zs<=br /\∀p,H p=af->Q (.ref p) (upd H p (.lst (xs++zs)))
def S5:iA X (binaryOp .Add) Fd:=by
 intro π s σ H x y v u Q I m j h;obtain⟨l,b,xs,zs,rfl,rfl,A,F,U,q⟩:=h;cases m;cases j;obtain⟨z,d,n,r,Y,e⟩:=I.vY A;obtain⟨L,a,O,o,p,K⟩:=I.vY F;show PySem.P.add_list e K ?_ (by rw[cu,cu];lia);have J:d.toArray++a.toArray=(d++a).toArray:=by simp
 rw[J];show⟨.ref _,_,I.Fe (t':=s.toks) (r.append o) (by rw[gk];lia),rfl,q _ I.fresh⟩
def Vy:R2:=λx y H Q=>∃l k xs,x=.ref l/\y=.int k/\H l=ab (.lst xs) /\ -(2^63)<=k/\k<2^63/\⇑xs*k.toNat<=br /\
 ∀p,H p=af->Q (.ref p) (upd H p (.lst (cg k.toNat xs).flatten))
theorem len_rep{α:Type}(xs:List α)(k:Nat):⇑(cg k xs).flatten=k*⇑xs:=by
 induction k with
 |zero=>simp
 |succ k ih=>rw[ko,tw,gk,ih,xm,a14]
def aCe:iA X (binaryOp .Mult) Vy:=by
 intro π s σ H x y v u Q I L K h;obtain⟨l,k,xs,rfl,rfl,Y,Z,h2,J,q⟩:=h;cases L;obtain⟨t,rfl⟩:=K;obtain⟨z,d,n,r,O,e⟩:=I.vY Y;have hlen:d.toArray.size*k.toNat<=br:=by rw[cu,<- O];show J
 have p:¬ d.toArray.size*k.toNat>(2^63-1)/8:=by
  have:(br:Nat)<=(2^63-1)/8:=by decide
  lia
 have o:¬ (!Builtin.List.listFitsIndex k)=ae:=by rw[a0B Z h2];show bz
 have SY:¬ Bz (d.toArray.size*k.toNat)=ae:=by rw[EK hlen];show bz
 have j:Kz (λx1 A=>x1++A) #[] (cg (if d.toArray.isEmpty=ae then 0 else k.toNat) d.toArray)=(cg k.toNat d).flatten.toArray:=by
  have f0:∀m:Nat,Kz (λx1 A=>x1++A) #[] (cg m d.toArray)=(cg m d).flatten.toArray:=λm=>by have:=foldl_rep d m [];rw[vq] at this;show this
  rw[f0]
  cases d with
  |nil=>simp
  |cons a r'=>rw[Zz (by simp)]
 show wpAny_binaryOp_repeat_ref (T:="list") (U:="int") ⋯ ⟨_,e,rfl⟩ (λs'=>Hz s' k t) noFill_list_mul F.fills_int_mul a07 repeat_list F.slot_int_index.lookup
  (wy a07 (Hz s k t) F.entry_int_rmul (F.args_int_rmul_2 _ _) (int___rmul___int_list k t l d.toArray n)
   ⟨e,rfl,⟨_,e,rfl⟩,wy F.slot_list_mul ⟨_,e,rfl⟩ F.entry_list_mul (F.args_list_mul_2 _ _) (a3Q l d.toArray n k t o p SY) ⟨e,?_⟩⟩)
 rw[j];show⟨.ref _,_,I.Fe (t':=s.toks) (r.rep k.toNat) (by rw[len_rep,Nat.mul_comm];show J),rfl,q _ I.fresh⟩
end
section
variable{Ω:bh}{w:bg}{A:bt}{E:Q0c}{s:ak}
set_option maxRecDepth 100000 in
end
end L2
namespace LM
open PySem.W PySem.Calls PyProof.Rows
theorem tE:∀(ns:Q0e) (vs:Q0f),WellAll P h vs (ns.map a0R)->ng vs ns:=by
 intro ns
 induction ns with
 |nil =>
  intro vs w;rw[nq] at w;cases w;show .nil
 |cons n ns ih =>
  intro vs w;rw[bx] at w
  cases w with
  |cons a b =>
   cases a;show .cons _ _ (ih _ b)
theorem N3{l:uu}{n:Nat}(z:l.most=ab n){P:Params}{h:a_}{args:List WData}{vals:Q0f}
  (j:l.row.toRowW.claim.pre args=ae) (p:WellAll P h vals args):
  ∃a vs ns,vals=[ft a]/\args=[WData.list (ns.map a0R)]/\h.get? a=ab {cls:=.type "list",data:=.seq vs.toArray}/\ng vs ns/\⇑ns<=n:=by
 have v:WShape.hasAll [] args [.list .int]=ae:=(pre_splitW j).1;have x:l.pre.holds [] {args:=args}=ae:=(pre_splitW j).2;obtain⟨d,r,rfl,F,h2⟩:=hasAllW_cons v;obtain rfl:=hasAllW_nil h2;obtain⟨xs,rfl,A⟩:=hasW_list F;obtain⟨ns,rfl⟩:=items_int A;have hlen:⇑ns<=n:=by
  delta OpenLaw.pre at x;have o:(WTm.not (.lt (.lit (.int (n:Int))) (.len (.arg 0)))).holds [] {args:=[.list (ns.map .int)]}=ae:=by have o:=(holds_andW x).1;rw[z] at o;show o
  have m:=condW_of o (w_not (w_lt w_lit (w_len_list (w_arg rfl))));rw[bb] at m;show Nat.le_of_not_lt λq=>?_;have y:(n:Int)<((⇑ns:Nat):Int):=∅
  first
   | (rw[Zx y] at m;show Zw m ⋯)
   | (simp at m;lia)
 cases p with
 |cons w1 w2 =>
  cases w2
  cases w1 with
  |list ho hall=>show⟨_,_,ns,rfl,rfl,ho,tE ns _ hall,hlen⟩
def N4(l:uu)(args:List WData):l.row.toRowW.claim.post args (.bool ae) args=ae :=
 postW_of (r:=l.row.toRowW) (X:=(ae == ae))
  (show a0Q [] (.bool ae) .bool=ae by first|rfl|decide|simp[a0Q,WShape.arms,WShape.armsAll])
  (show(WTm.eq .res (.lit (.bool ae))).value [] {args:=args,res:=ab (.bool ae),after:=args}=ab (.bool (ae == ae)) from w_eq_bool (w_res rfl) w_lit) rfl
theorem EL{l:uu}{n:Nat}{q:bh}{loose:Q0g}{I:(aj->Option ai)->a_->Prop}{YP:bg->a_->Prop}{d:DefRec}
  (L:l.most=ab n) (y:d.params.defaults=[])
  (call:∀(w:bg) (s₀ h:ak) (mg mb:Q0d) (p:ah) (o:ay) (pm cd doc:ai) (a:ah) (vs:Q0f) (ns:Q0e),
   Ground q loose [] I w s₀ mg mb h.heap->YP w h.heap ->
   h.heap.get? p=ab o->o.data=.func (docDef d.name d.params d.body d.scope pm cd doc)->h.heap.CodeRec cd d.name->mg d.name=ab (.ref p) ->
   h.heap.get? a=ab {cls:=.type "list",data:=.seq vs.toArray}->ng vs ns->⇑ns<=n->h.gens=#[] ->
   oh (au l.prog w) callerA (.call (.ref p) ⟨[.ref a],[]⟩) (λr s'=>r=.ok (.ret (.bool ae))/\OldK h.heap s'.heap/\s'.os=h.os/\pq s'.gens) h):
  Iq q loose I YP l.row.toRowW d [] (λf vs=>Ik f vs):=by
 intro w s₀ h mg mb G Y p o pm cd doc dV kV ho Z z F x X args vals as j A J v U;obtain rfl:dV=.none:=Dflts.none F y;obtain rfl:kV=.none:=Dflts.noKw F;obtain⟨a,vs,ns,rfl,rfl,m,hints,hlen⟩:=N3 L j v;show enter_call (Ii (call w s₀ h mg mb p o pm cd doc a vs ns G Y ho (fd_plain Z) z x m hints hlen X) λr s' K=>?_);obtain⟨rfl,h2,h3,h4⟩:=K;show⟨.inl ⟨.bool ae,.bool ae,[],rfl,λ_=>rfl,.bool ae,N4 l _,λ_=>⟨Cz,λ_ O=>(nomatch O)⟩⟩,h2,h3,h4⟩
section
variable{Ω:bh}{w:bg}{A:bt}{E:Q0c}{s:ak}{K:aq}
def B1(h:a_):a_:={h with objs:=#[]}
theorem vZ(h:a_)(b:ah):(B1 h).get? b=af:=by
 cases e:(B1 h).get? b with
 |none=>rfl
 |some o=>show Zw (cf e) (Nat.not_lt_zero _)
def ledger(h:a_)(L d:ah):List (ah×ay):=(cj h.objs.size).filterMap λa=>if a=L\/a=d then af else(h.get? a).map λo=>(a,o)
def kT:(a,o)∈ledger h L d↔a≠L/\a≠d/\h.get? a=ab o:=by
 delta ledger;rw[ya]
 constructor
 .rintro ⟨b,_,e⟩;split at e
  .cases e
  .rename_i hb;obtain⟨n,ho,m⟩:=jz.mp e;cases m;show⟨λq=>hb (.inl q),λq=>hb (.inr q),ho⟩
 .rintro ⟨l,j,ho⟩;show⟨a,k_.mpr (cf ho),?_⟩;rw[Zz (show ¬ (a=L\/a=d) from λq=>q.elim l j),ho]<;>rfl
def aCf(n:h.Ns L m):Fr (B1 h) L h m :=
 ⟨n,λb o e=>(by rw[vZ] at e;cases e),ic _⟩
end
end LM
namespace L2
open PySem.Spec PyProof.Rows
theorem fU:∀{vs:Q0f} {ns:Q0e},ng vs ns->θ (ns.map V.int) vs
 |_,_,.nil=>.nil
 |_,_,.cons n t h=>.cons ⟨t,rfl⟩ (fU h)
def Only(H:Hp):Prop:=∀b,H b=af\/(∃o xs,H b=ab (.tW o (.lst xs))) \/∃q,H b=ab (.NR q)
structure TabsOk (K:aq) (q:bh):Prop where
 nd:((dE K).map (·.2.2)).Nodup
 rc:∀t∈dE K,∃e,(recsOf q).find? (λe=>e.name == t.1)=ab e
theorem HQ{K:aq}{t:aj×ah×ah}(h:t∈dE K):Be K t.1=ab (t.2.1,t.2.2):=by
 obtain⟨x,_,e⟩:=ya.mp h
 cases q:Be K x with
 |none=>rw[q] at e;cases e
 |some p=>rw[q] at e;cases e;show q
def HR(K:aq)(a:ah)(u:Option HO):Hp:=λb=>if b=a then u else((dE K).find? λt=>t.2.2 == b).map λt=>.NR (l9 t.1)
theorem N5{l:List (aj×ah×ah)}(nd:(l.map (·.2.2)).Nodup){t:aj×ah×ah}(h:t∈l):l.find? (λu=>u.2.2 == t.2.2)=ab t:=by
 induction l with
 |nil=>cases h
 |cons u l ih =>
  rw[bx,kq] at nd;rw[jj];by_cases e:(u.2.2 == t.2.2)=ae
  .rw [e];rcases bu.1 h with z|z
   .rw [z]
   .exact Zw (gx.2 ⟨t,z,(eq_of_beq e).symm⟩) nd.1
  .rw [Lh] at e;rw[e];rcases bu.1 h with z|z
   .rw [z,beq_self_eq_true] at e;cases e
   .exact ih nd.2 z
theorem S6{P:bh}{w:bg}{K:aq}{mg mb:Q0d}{CX:LD}{k:Nat}{fa a:ah}{fd:gw}{x:aj}{sp:Sp}{j:ak}{vs:Q0f}{ns:Q0e}
  (KX:K.In j.heap) (hns:j.heap.Ns iw mg) (U:j.heap.Ns builtinsNs mb) (hbb:∀x:aj,x ≠ "__name__"->mb x=bootBuiltins x) (hlim:j.heap.NoLimit)
  (hbm:∃bm L,mg "__builtins__"=ab (.ref bm)/\bm≠builtinsNs/\j.heap.get? bm=ab L/\L.cls=.type "module" /\L.dict=ab builtinsNs/\L.data=.plain)
  (J:∀t∈dE K,CodeHd j.heap t.2.1 t.2.2/\j.heap.get? t.2.2=ab (tabObj #[])) (hnd:((dE K).map (·.2.2)).Nodup) (hnt:noTabs K=ae) (hg:j.gens=#[])
  (Z:j.heap.get? a=ab {cls:=.type "list",data:=.seq vs.toArray}) (hi:ng vs ns) (hl:⇑ns<=br) (hr:d8 k callerA)
  (F:∀ω:a_,K.In ω->ω.Ns iw mg->jN P w K mg ω CX k fa fd [x] sp) (X:∀(s:ak) (u:ai),vf s fd ⟨[u],[]⟩ [(x,u)])
  (hsp:∀H:Hp,Only H->c7 K H a (ns.map V.int)->sp [.ref a] H (λv _=>v=.bl ae) λ_ _ _=>False)
  (yw:∀H e s',CX [] H j (λ_ _ _=>False) e s'->False):
  oh (au P w) callerA (.call (.ref fa) ⟨[.ref a],[]⟩) (λr s'=>r=.ok (.ret (.bool ae))/\OldK j.heap s'.heap/\s'.os=j.os/\pq s'.gens) j:=by
 have rv:=fU hi;have lenV:=⇑hi;have neA:∀t∈dE K,t.2.2≠a:=λt l z=>by have e:=(J t l).2;rw[z,Z] at e;cases e
 -- a tracked address: the script or a table
 have core:∀u:Option HO,(u=af \/∃o xs,u=ab (.tW o (.lst xs)))->c7 K (HR K a u) a (ns.map V.int)->(∀v,u=ab v->cQ P w (HR K a u) j.heap a v)->(u≠af->K.lookup a=af) ->
   oh (au P w) callerA (.call (.ref fa) ⟨[.ref a],[]⟩) (λr s'=>r=.ok (.ret (.bool ae))/\OldK j.heap s'.heap/\s'.os=j.os/\pq s'.gens) j:=by
  intro u hu hS Fc hK;obtain⟨H,eH⟩:∃H,HR K a u=H:=⟨_,rfl⟩;have sQ:∀t∈dE K,H t.2.2=ab (.NR (l9 t.1)):=λt l=>by rw[<- eH];delta HR;rw[Zz (neA t l),N5 hnd l];rfl
  have Y:∀b,H b=af\/(b=a/\H b=u/\u≠af) \/∃t∈dE K,t.2.2=b/\H b=ab (.NR (l9 t.1)):=λb=>by
   by_cases U:b=a
   .cases hu2:u with
    |none=>left;rw[<- eH];delta HR;rw[Z_ U,hu2]
    |some v=>right;left;show⟨U,?_,by simp⟩;rw[<- eH];delta HR;rw[Z_ U,hu2]
   .cases q:(dE K).find? λt=>t.2.2 == b with
    |none=>left;rw[<- eH];delta HR;rw[Zz U,q];rfl
    |some t =>
     have e1:t.2.2=b:=eq_of_beq (List.find?_some (p:=λt:aj×ah×ah=>t.2.2 == b) q);have A:=List.mem_of_find?_eq_some q;show .inr (.inr ⟨t,A,e1,by rw[<- e1];show sQ t A⟩)
  rw[eH] at hS Fc;have hO:Only H:=λb=>by
   rcases Y b with z|⟨_,z,_⟩|⟨t,_,_,z⟩
   .exact .inl z
   .rcases hu with y|⟨o,xs,y⟩
    .exact .inl (z.trans y)
    .exact .inr (.inl ⟨o,xs,z.trans y⟩)
   .exact .inr (.inr ⟨_,z⟩)
  have hok:nE P w H j.heap:=λb v e=>by
   rcases Y b with z|⟨rfl,z,_⟩|⟨t,l,rfl,z⟩
   .rw [z] at e;cases e
   .exact Fc v (by rw[<- z];show e)
   .rw [z] at e;cases e;show⟨#[],(J t l).2,trivial,λν cv e=>by cases e⟩
  -- an object that is neither the script nor a table is not tracked
  have S7:∀{b:ah} {o:ay},j.heap.get? b=ab o->o.cls≠.none->(∀ys n,o.data≠.seq ys n)->H b=af:=λ{b o} e hc hs=>by
   rcases Y b with z|⟨rfl,_,_⟩|⟨t,l,rfl,z⟩
   .exact z
   .rw [Z] at e;cases e;show Zw rfl (hs _ _)
   .rw [(J t l).2] at e;cases e;show Zw rfl hc
  have nsN:∀{b:ah} {o:ay} {es:Array xj} {ep:Nat},j.heap.get? b=ab o->o.data=.dict es ep->H b=af:=λ{b o es ep} e d=>by
   rcases Y b with z|⟨rfl,_,_⟩|⟨t,l,rfl,z⟩
   .exact z
   .rw [Z] at e;cases e;cases d
   .rw [(J t l).2] at e;cases e;cases d
  have tX:∀{b:ah} {o:ay},j.heap.get? b=ab o->H b=af->(xQ j.heap H).get? b=ab o:=λe n=>SD e n;have I:∀{b:ah} {m:Q0d},j.heap.Ns b m->(xQ j.heap H).Ns b m:=λ{b m} ⟨o,es,ep,e,d,r⟩=>⟨o,es,ep,tX e (nsN e d),d,r⟩;have Dx:K.In (xQ j.heap H):=λb o e=>tX (KX b o e) (by
   rcases Y b with z|⟨rfl,_,z⟩|⟨t,l,rfl,z⟩
   .exact z
   .rw [hK z] at e;cases e
   .have A:=KX _ o e;rw[(J t l).2] at A;cases A;have h2:=jd.mp hnt (t.2.2,tabObj #[]) (PySem.W.mem_of_lookupK e);show Zw (show ag=ae from h2) bz)
  have hM:Mod K mg (xQ j.heap H):=⟨Dx,I hns,⟨mb,I U,hbb⟩,let ⟨mc,h1,h2⟩:=hlim;⟨mc,I h1,h2⟩,
   let ⟨bm,L,b1,b2,b3,b4,b5,b6⟩:=hbm;⟨bm,L,b1,b2,tX b3 (S7 b3 (by rw[b4];nofun) λys n z=>by rw[b6] at z;cases z),b4,b5,b6⟩⟩
  have Vx:YN K (xQ j.heap H) H:=λt l=>by obtain⟨o,vs',file,tf,flags,tg,inF,text,tt,e1,r1,r2,r3⟩:=(J t l).1;show⟨⟨o,vs',file,tf,flags,tg,inF,text,tt,tX e1 (S7 e1 (by rw[r1];nofun) λys n z=>by rw[r2] at z;cases z),r1,r2,r3⟩,sQ t l⟩
  have e0:Y1 P w K mg (xQ j.heap H) callerA [] j H:=⟨rfl,hM,λb o e=>YM e,p0 (NS _ _),trivial,λb U=>Zw (show b∈([]:List ah) from U) (by simp),hok,.of_eq hg,Vx⟩;show Ii ((F _ Dx (I hns)).run callerA [] j H ⟨[.ref a],[]⟩ [.ref a] [.ref a] _ _ hr e0 (X j (.ref a)) (.cons rfl .nil) (hsp H hO hS)) λr s' h=>?_
  cases r with
  |error e=>show(yw H e s' h).elim
  |ok fl =>
   cases fl with
   |next=>show l_ h
   |brk=>show l_ h
   |cont=>show l_ h
   |ret v =>
    obtain⟨y,H',os,bare,un,O,r',q⟩:=h;have q':y=.bl ae:=q;subst q';obtain rfl:v=w_ ae:=r';have old:∀b o,j.heap.get? b=ab o->asItWas j.heap s'.heap b o /\∃o',s'.heap.get? b=ab o':=λb o e=>by
     rcases Y b with z|⟨rfl,z,hne⟩|⟨t,l,rfl,z⟩
     .have k:=un.keep b o e z (by intro z;show Zw (show b∈([]:List ah) from z) (by simp)) (by simp);show⟨.inl k,o,k⟩
     .rcases hu with y|⟨L,xs,y⟩
      .exact Zw y hne
      .have z1:=z.trans y;have z2:=un.xP b L _ z1;obtain⟨e1,_⟩:=hok b _ z1;obtain⟨A,_⟩:=O b _ z2;rw[e] at e1;cases e1;show⟨.inl A,o,A⟩
     .obtain ⟨ps,A,_⟩:=O _ _ (un.vQ _ _ z);have e1:=(J t l).2;rw[e] at e1;cases e1;show⟨.inr (.inl ⟨((J t l).1.tab (J t l).2).isCodeTable,rfl,#[],ps,rfl,by rw[A,a2X]⟩),_,A⟩
    show⟨rfl,⟨λb o e=>(old b o e).1,λb o e=>(old b o e).2⟩,os,bare⟩
 cases hk:K.lookup a with
 |some o =>
  -- the script is one of the module's own objects
  have e:=KX a o hk;rw[Z] at e;cases e;show core af (.inl rfl) (.inr ⟨_,vs.toArray,_,hk,rfl,rfl,rfl,by rw[cu,lenV];show hl,↑rv⟩) (λv z=>by cases z) λz=>Zw rfl z
 |none =>
  show core (ab (.tW {cls:=.type "list",data:=.seq vs.toArray} (.lst (ns.map V.int)))) (.inr ⟨_,_,rfl⟩) (.inl (.inr ⟨{cls:=.type "list",data:=.seq vs.toArray},Z_ rfl⟩)) (λv z=>?_) λ_=>hk;cases z;show⟨Z,by rw[bb];show hl,vs,_,rv,Z⟩
abbrev KOf{K:aq}{h:a_}(_:K.In h):aq:=K
theorem Y9{l:uu}{n k:Nat}{q:bh}{loose:Q0g}{XP:(aj->Option ai)->a_->Prop}{YP:bg->a_->Prop}{d:DefRec}{K:Params->aq}{CX:bg->LD}{sp:bg->Sp}{x:aj}
  (Z:l.most=ab n) (A:n<=br) (J:d.params.defaults=[]) (X:d8 k callerA)
  (hY:∀(w:bg) (h:a_),YP w h->(K w.params).In h)
  (L:∀w:bg,TabsOk (K w.params) q) (z:∀w:bg,noTabs (K w.params)=ae)
  (F:∀(w:bg) (mg:Q0d) (p:ah) (h:a_),(K w.params).In h->h.Ns iw mg->mg d.name=ab (.ref p) ->
   ∃fd:gw,(∀(s:ak) (u:ai),vf s fd ⟨[u],[]⟩ [(x,u)]) /\
    ∀ω:a_,(K w.params).In ω->ω.Ns iw mg->jN l.prog w (K w.params) mg ω (CX w) k p fd [x] (sp w))
  (y:∀(w:bg) (H:Hp) (a:ah) (ns:Q0e),⇑ns<=n->Only H->c7 (K w.params) H a (ns.map V.int)->sp w [.ref a] H (λv _=>v=.bl ae) λ_ _ _=>False)
  (U:∀(w:bg) (H:Hp) (s:ak) (e:ai) (s':ak),CX w [] H s (λ_ _ _=>False) e s'->False):
  Iq q loose XP YP l.row.toRowW d [] (λf vs=>Ik f vs):=by
 show LM.EL Z J λw s₀ j mg mb p o pm cd doc a vs ns G Y ho hd hcd I m hints hlen hg=>?_;have KX:=hY w _ Y;obtain⟨fd,hb,hF⟩:=F w mg p _ KX G.T.g I;have hT:∀t∈dE (K w.params),CodeHd j.heap t.2.1 t.2.2/\j.heap.get? t.2.2=ab (tabObj #[]):=λt O=>by obtain⟨e,he⟩:=(L w).rc t O;show PySem.W.tab_of G.T KX he (HQ O)
 show S6 KX G.T.g G.T.b G.T.builtins G.T.nolimit G.T.bmain hT (L w).nd (z w) hg m hints (jb hlen A) X hF hb (λH hO hS=>y w H a ns hlen hO hS) λH e s'=>U w H j e s'
noncomputable def pU(s:df):B_:=match s with
 |.FunctionDef _ a _ _ _ _ _ _ _ _=>a
 |_=>{posonlyargs:=[],args:=[],vararg:=af,kwonlyargs:=[],kw_defaults:=[],kwarg:=af,defaults:=[]}
noncomputable def dF(s:df):List df:=match s with
 |.FunctionDef _ _ b _ _ _ _ _ _ _=>b
 |_=>[]
noncomputable def aL(s:df):gn:=match s with
 |.FunctionDef _ _ _ _ _ _ sc _ _ _=>sc
 |_=>{kind:=.function,names:=[],isGenerator:=ag,isCoroutine:=ag}
abbrev iB:LD:=λ_ _ _ _ _ _=>False
abbrev E0:XK:=λ_ _ _=>False
def zF:Passes iB X E0:=λ_ _ _ _ _ _ _ h=>h.elim
structure WR (K:aq) (x qual:aj) (st:df) (f:ah) (fd:gw):Prop where
 ex:∃(oc:ai) (od:Option ah) (kV doc pm:ai) (an:Option ah) (cdv ct:ai) (osl:Array (Option ai)),
  fd=fnOf x qual (pU st) (dF st) (aL st) .none kV doc pm an cdv ct/\K.lookup f=ab ⟨oc,od,.func fd,osl⟩/\codeIn K cdv qual=ae
 kp:keepIn K (.ref f)=ae
section
variable{P:bh}{w:bg}{K:aq}{mg:Q0d}{ω:a_}
theorem WR.ok{x qual:aj}{j:df}{f:ah}{fd:gw}{N l:Q0g}{k:Nat}{sp:Sp}(F:WR K x qual j f fd)(S:dR N l (aL j))(len:∀vs H Q E,sp vs H Q E->⇑vs=⇑l)
  (d:∀(a:ai) (A:bt) (Γ:List fv) (s:ak) (H:Hp) (vs:List V) (Q:VK) (E:XK),d8 k (A.deeper (envOfC qual (aL j) ↥s f a))->sp vs H Q E ->
   ∃t,rE (lB iB P w K mg ω N qual (aL j) f a A Γ s H E).EG (dF j) t/\t {nx:=λ_ H'=>Q .non H',rt:=Q} (start N vs) H):jN P w K mg ω iB (k+1) f fd l sp:=by
 obtain⟨z,y,kV,doc,pm,I,a,ct,o,rfl,p,n⟩:=F.ex;show Gv p n S len λA Γ s H vs Q E v m=>?_;obtain⟨t,h,q⟩:=d a A Γ s H vs Q E v m;show⟨t,h.EG,q⟩
theorem aCg{x qual:aj}{d:df}{f:ah}{n:ai}{m j:Option ah}{h:Array (Option ai)}{kV doc pm a ct:ai}(l:K.lookup f=ab ⟨n,m,.func (fnOf x qual (pU d) (dF d) (aL d) .none kV doc pm j a ct),h⟩)
  (c:codeIn K a qual=ae) (k:keepIn K (.ref f)=ae):WR K x qual d f (fnOf x qual (pU d) (dF d) (aL d) .none kV doc pm j a ct):=⟨⟨n,m,kV,doc,pm,j,a,ct,h,rfl,l,c⟩,k⟩
end
def ξ(H H':Hp):Prop:=∀b o,H b=ab o->H' b=ab o
def ξ.refl(H:Hp):ξ H H:=λ_ _ h=>h
def ξ.trans{H H1 d:Hp}(a:ξ H H1)(b:ξ H1 d):ξ H d:=λc o h=>b c o (a c o h)
theorem ξ.free{H H':Hp}(e:ξ H H'){l:ah}(h:H' l=af):H l=af:=by
 cases q:H l with
 |none=>rfl
 |some o =>
  rw[e l o q] at h;cases h
section
variable{κ:Type}[DecidableEq κ]
def lC(χ:List (κ×V))(k:κ):Option V:=(χ.find? λa=>Zv (a.1=k)).map (·.2)
def putK(χ:List (κ×V))(k:κ)(v:V):List (κ×V) :=
 if(χ.any λa=>Zv (a.1=k))=ae then χ.map (λa=>if a.1=k then(a.1,v) else a) else χ++[(k,v)]
def wB{p:κ×V}{r:List (κ×V)}{k:κ}(e:p.1=k):lC (p::r) k=ab p.2:=by simp[lC,jj,e]
def wD{p:κ×V}{r:List (κ×V)}{k:κ}(e:¬ p.1=k):lC (p::r) k=lC r k:=by simp[lC,jj,e]
theorem wF(k:κ):∀χ:List (κ×V),(χ.any λa=>Zv (a.1=k))=(lC χ k).isSome
 |[]=>rfl
 |p::r=>by
  rw[mj];by_cases e:p.1=k
  .erw[wB e,Zx e,a2L,Option.isSome_some]
  .rw [wD e,Zy e,a2M];show wF k r
def rZ(χ:List (κ×V))(k:κ)(v:V):⇑(putK χ k v)<=⇑χ+1:=by
 delta putK;split
 .rw [bb];lia
 .rw [gk,eg,lj];lia
def TB{χ:List (κ×V)}{k:κ}(v:V)(h:lC χ k=af):putK χ k v=χ++[(k,v)]:=by delta putK;rw[wF,h];show Zz ⋯
theorem l7.m6(r:l7 o u):o.isSome=u.isSome:=by
 cases o with
 |none=>cases u with
  |none=>rfl
  |some _=>show(show False from r).elim
 |some _=>cases u with
  |none=>show(show False from r).elim
  |some _=>rfl
theorem l7.getD{o:Option V}{u:Option ai}{d:V}{d':ai}(r:l7 o u)(rd:Ψ d d'):Ψ (o.getD d) (u.getD d'):=by
 cases o with
 |none=>cases u with
  |none=>show rd
  |some _=>show(show False from r).elim
 |some _=>cases u with
  |none=>show(show False from r).elim
  |some _=>show r
theorem KV.val{χ:List (κ×V)}{vs:List (κ×ai)}(r:KV χ vs)(k:κ):l7 (lC χ k) (valueAt vs k):=by
 delta KV at r
 induction r with
 |nil=>show ma
 | @cons p q ps qs h t ih =>
  obtain⟨d,h2⟩:=h;by_cases e:p.1=k
  .have a:q.1=k:=d.symm.trans e;have b:valueAt (q::qs) k=ab q.2:=by simp[valueAt,jj,a]
   rw[wB e,b];show h2
  .have a:¬ q.1=k:=λz=>e (d.trans z);have b:valueAt (q::qs) k=valueAt qs k:=by simp[valueAt,jj,a]
   rw[wD e,b];show ih
theorem KV.any{χ:List (κ×V)}{vs:List (κ×ai)}(r:KV χ vs)(k:κ):(χ.any λa=>Zv (a.1=k))=vs.any λa=>Zv (a.1=k):=by
 delta KV at r
 induction r with
 |nil=>rfl
 |cons h t ih=>rw[mj,mj,ih,h.1]
theorem KV.repl(r:KV χ vs)(k:κ)(j:Ψ y u):
  KV (χ.map λa=>if a.1=k then(a.1,y) else a) (vs.map λa=>if a.1=k then(a.1,u) else a):=by
 delta KV at r ⊢
 induction r with
 |nil=>show .nil
 | @cons p q ps qs h t ih =>
  rw[bx,bx];show .cons ?_ ih;obtain⟨d,h2⟩:=h;by_cases e:p.1=k
  .rw [Z_ e,Z_ (d.symm.trans e)];show⟨d,j⟩
  .rw [Zz e,Zz (λz=>e (d.trans z))];show⟨d,h2⟩
def KV.put(r:KV χ vs)(k:κ)(a:Ψ y u):KV (putK χ k y) (stored vs k u):=by
 delta putK stored;rw[r.any k];by_cases e:(vs.any λd=>Zv (d.1=k))=ae
 .rw [Z_ e,Z_ e];show r.repl k a
 .rw [Zz e,Zz e];show Bo r ⟨rfl,a⟩
def KV.length{χ:List (κ×V)}{vs:List (κ×ai)}(r:KV χ vs):⇑χ=⇑vs:=uz r
end
theorem sA(r:Ψ (kV k) u):(aW P w).is k u=ae:=by
 cases k with
 |inl i=>obtain⟨t,e⟩:=(show ∃t,u=oj i t from r);subst e;show D0 P w i t
 |inr x=>obtain⟨t,e⟩:=(show ∃t,u=Bm x t from r);subst e;show EA P w x t
theorem zG:∀{ks:List Key} {us:Q0f},θ (ks.map kV) us->ItemsAre (aW P w) ks us
 |[],_,r=>by rw[nq] at r;cases r;show .nil
 |k::ks,_,r=>by
  rw[bx] at r
  cases r with
  |cons h t=>show .cons (sA h) (zG t)
abbrev KT(H:Hp):List (List Key×V)->List (List Key×ah×ai)->Prop:=jo λp q=>p.1=q.1/\H q.2.1=ab (.tup (p.1.map kV))/\Ψ p.2 q.2.2
theorem KT.val{H:Hp}{χ:List (List Key×V)}{xs:List (List Key×ah×ai)}(r:KT H χ xs)(k:List Key):l7 (lC χ k) ((atKey xs k).map (·.2)):=by
 induction r with
 |nil=>show ma
 | @cons p q ps qs h t ih =>
  obtain⟨d,_,h2⟩:=h;by_cases e:p.1=k
  .have a:q.1=k:=d.symm.trans e;have b:atKey (q::qs) k=ab q.2:=by simp[atKey,jj,a]
   rw[wB e,b];show h2
  .have a:¬ q.1=k:=λz=>e (d.trans z);have b:atKey (q::qs) k=atKey qs k:=by simp[atKey,jj,a]
   rw[wD e,b];show ih
theorem KT.repl(r:KT H χ xs)(k:List Key)(j:Ψ y u):
  KT H (χ.map λd=>if d.1=k then(d.1,y) else d) (xs.map (putAt k u)):=by
 induction r with
 |nil=>show .nil
 | @cons p q ps qs h t ih =>
  rw[bx,bx];show .cons ?_ ih;obtain⟨a,h2,l⟩:=h;delta putAt;by_cases e:p.1=k
  .rw [Z_ e,Z_ (a.symm.trans e)];show⟨a,h2,j⟩
  .rw [Zz e,Zz (λz=>e (a.trans z))];show⟨a,h2,l⟩
theorem KT.put(r:KT H χ xs)(k:List Key)(h:H b=ab (.tup (k.map kV)))(a:Ψ y u):
  KT H (putK χ k y) (storedH xs k b u):=by
 have e:(χ.any λd=>Zv (d.1=k))=(atKey xs k).isSome:=by rw[wF,(r.val k).m6,xl]
 delta putK storedH;rw[e];by_cases q:(atKey xs k).isSome=ae
 .rw [Z_ q,Z_ q];show r.repl k a
 .rw [Zz q,Zz q];show Bo r ⟨rfl,h,a⟩
def KT.keeps(r:KT H χ xs)(a:∀b ys,H b=ab (.tup ys)->H' b=ab (.tup ys)):KT H' χ xs :=
 Paired.Ai r λ_ _ z=>⟨z.1,a _ _ z.2.1,z.2.2⟩
section
variable{P:bh}{w:bg}{H:Hp}{h:a_}{a:ah}
def Gu(ok:nE P w H h)(e:Rd H a u):cQ P w H h a u:=e.ok ok
def TC(ok:nE P w H h)(e:Rd H a (.dK χ)):⇑χ<=br/\(a == sysModules)=ag /\∃vs,KV χ vs/\h.DictOf (aW P w) a vs :=
 show cQ P w H h a (.dK χ) from Gu ok e
def aFL(ok:nE P w H h)(e:H a=ab (.dK χ)):⇑χ<=br/\(a == sysModules)=ag /\∃vs,KV χ vs/\h.DictOf (aW P w) a vs:=TC ok (.inl e)
def B2(ok:nE P w H h)(e:H a=ab (.tup (ks.map kV))):(tupleKind (aW P w)).is h ks a:=by obtain⟨_,d,r,⟨o,l,h2,n,j⟩,_⟩:=(show cQ P w H h a (.tup (ks.map kV)) from ok a _ e);show⟨o,d.toArray,n,l,h2,j,by simpa using zG r⟩
theorem TH(ok:nE P w H h)(e:Rd H a (.dT χ)):⇑χ<=br/\(a == sysModules)=ag /\
  ∃xs,KT H χ xs/\h.DictOfH (tupleKind (aW P w)) a xs:=by
 obtain⟨z,y,xs,r,o,F,I,A,h2,v,n,j⟩:=(show cQ P w H h a (.dT χ) from Gu ok e);show⟨z,y,xs,r,o,F,I,A,h2,v,n,λx d=>?_,j⟩;have all:∀{l:List (List Key×V)} {m:List (List Key×ah×ai)},KT H l m ->∀x∈m,(tupleKind (aW P w)).is h x.1 x.2.1:=by
  intro l m q
  induction q with
  |nil=>intro x d;show nomatch d
  | @cons p q ps qs hq t ih =>
   intro x d;rcases bu.mp d with e|d
   .subst e;show B2 ok (by rw[<- hq.1];show hq.2.1)
   .exact ih x d
 show all r x d
theorem aFM(ok:nE P w H h)(e:H a=ab (.dT χ)):⇑χ<=br/\(a == sysModules)=ag /\
  ∃xs,KT H χ xs/\h.DictOfH (tupleKind (aW P w)) a xs:=TH ok (.inl e)
end
def N6(H:Hp)(a:ah)(y:V)(r:Option V):Prop :=
 (∃χ k,Rd H a (.dK χ)/\y=kV k/\r=lC χ k) \/∃χ k b,Rd H a (.dT χ)/\y=.ref b/\H b=ab (.tup (k.map kV))/\r=lC χ k
def TJ(H:Hp)(a:ah)(y v:V)(H':Hp):Prop :=
 (∃χ k,H a=ab (.dK χ)/\y=kV k/\⇑χ<br/\H'=upd H a (.dK (putK χ k v))) \/
 ∃χ k b,H a=ab (.dT χ)/\y=.ref b/\H b=ab (.tup (k.map kV))/\⇑χ<br/\H'=upd H a (.dT (putK χ k v))
def N6.k{H:Hp}{a:ah}{χ:List (Key×V)}{k:Key}(e:H a=ab (.dK χ)):N6 H a (kV k) (lC χ k):=.inl ⟨χ,k,.inl e,rfl,rfl⟩
def TJ.k{H:Hp}{a:ah}{χ:List (Key×V)}{k:Key}{v:V}(e:H a=ab (.dK χ))(d:⇑χ<br):TJ H a (kV k) v (upd H a (.dK (putK χ k v))):=.inl ⟨χ,k,e,rfl,d,rfl⟩
variable{X:Cx}
section
variable{π:Q0b}{σ:St}{H:Hp}{s:ak}{a:ah}{y v:V}{u r:ai}{o:Option V}{A:bt}{E:Q0c}
def Φ.big(I:Φ X π σ H s):sysModules<↥s:=by have h:iw<↥s:=(I.mod.glob.keeps I.bk).lt;show xo ⋯ h
theorem N7(F:A.units+1<di)(I:Φ X π σ H s)(g:N6 H a y (ab v))(x:Ψ y u)(h:∀d s',Φ X π σ H s'->Ψ v d->Q d s'):
  ax (au X.Ω X.w) A (getItem (.ref a) u) Q E s:=by
 rcases g with⟨χ,k,e,m,l⟩|⟨χ,k,b,e,m,L,l⟩
 .subst m;obtain⟨z,K,vs,rel,n⟩:=TC I.hok e;obtain⟨d,hw,q⟩:=l7.some_of (v:=v) (o:=valueAt vs k) (by rw[l];show rel.val k);show a0l (sA x) n.mapOf hw (h d _ (I.tok _) q)
 .subst m;cases (show u=ft b from x);obtain⟨z,K,xs,rel,n⟩:=TH I.hok e;obtain⟨d,hw,q⟩:=l7.some_of (v:=v) (o:=(atKey xs k).map (·.2)) (by rw[l];show rel.val k);obtain⟨p,J,j⟩:=jz.mp hw;show a0m (a0t F) (B2 I.hok L) n J ?_;rw[j];show h d _ (I.tok _) q
theorem tY(I:Φ X π σ H s)(d:Mut (H a))(h:r9 a s.heap h')(j:∃q,h'.get? a=ab q)(new:cQ X.Ω X.w (upd H a ob) h' a ob):
  Φ X π σ (upd H a ob) {s with heap:=h',toks:=t' } :=
 I.write (x:=a) (e:=a) d (.inl rfl) (λb q l z=>(h.2 b l).trans z) j new
theorem aCh(z:⇑χ<=br)(d:(a == sysModules)=ag)(rel:KV χ vs)(h:h'.DictOf (aW P w) a vs):
  cQ P w H' h' a (.dK χ):=⟨z,d,vs,rel,h⟩
theorem N8(Z:A.units+1<di)(I:Φ X π σ H s)(g:TJ H a y v H')(L:Ψ y u)(O:Ψ v r)(h:∀s',Φ X π σ H' s'->Q () s'):
  ax (au X.Ω X.w) A (setItem (.ref a) u r) Q E s:=by
 rcases g with⟨χ,k,e,F,l,J⟩|⟨χ,k,b,e,F,Y,l,J⟩
 .subst F J;obtain⟨z,x,vs,rel,K⟩:=aFL I.hok e;have m:⇑vs<=br:=by rw[<- ⇑rel];show z
  have p:⇑(putK χ k v)<=br:=by have:=rZ χ k v;lia
  show a0e (hsz:=m) (sA L) K λh' d n=>h _ ?_;have he:∃q,h'.get? a=ab q:=let ⟨q,_,_,j,_⟩:=d;⟨q,j⟩;show tY I (by rw[e];show ma) n he (aCh p x (rel.put k O) d)
 .subst F J;cases (show u=ft b from L);obtain⟨z,x,xs,rel,K⟩:=aFM I.hok e;have m:⇑xs<=br:=by rw[<- uz rel];show z
  have p:⇑(putK χ k v)<=br:=by have:=rZ χ k v;lia
  show a0f (hsz:=m) (a0t Z) (B2 I.hok Y) K λh' d n=>h _ ?_;obtain⟨q,es,ep,j,h2,h3,h4,_,h5⟩:=d;show tY I (by rw[e];show ma) n ⟨q,j⟩ ⟨p,x,_,(rel.put k Y O).keeps λc ys U=>?_,q,es,ep,j,h2,h3,h4,h5⟩;rw[aR (Ha U e (λz=>nomatch z))];show U
end
def HS(i:av):Prop:=∀a d,subscripted i ag a d=operate [a,d] (getItem a d)
theorem LN{Ω:bh}{w:bg}{A:bt}{E:Q0c}{s:ak}{env:fv}{value slice:av}{q:bo}{T id:String}{Q:Q0c}
  (y:typeLookup (.type T) "__getitem__"=pure (ab (.builtin id))) (v:HS slice)
  (h:ax (au Ω w) A (eval value env) (λo l=>ax (au Ω w) A (eval slice env) (λi a=>a.TypeIs o T/\ax (au Ω w) A (getItem o i) Q E a) E l) E s):
  ax (au Ω w) A (eval (.Subscript value slice q) env) Q E s:=by
 show Jt (jl h (λo l n=>jl n (λi a d=>?_) λ_ _ x=>x) λ_ _ x=>x);obtain⟨p,d⟩:=d;delta subscriptTail;show ao ?_;rw[getitemInPython_of_ne p.not_modules];show ao (Hw p y ?_);have fin:ax (au Ω w) A (subscripted slice ag o i) (λr j=>ax (au Ω w) A (letTemporaryGo value o r >>= λ_=>pure r) Q E j) E a:=by rw[v o i];show wpAny_operating (jl d (λr j m=>ao (wpAny_letTemporaryGo (az m))) λ_ _ x=>x)
 first
  |show az (ao fin)
  |show ao (az (ao fin))
  |show ao fin
def EM(I:Φ X π σ H s)(g:N6 H a y o):s.TypeIs (.ref a) "dict":=by
 rcases g with⟨χ,k,e,_,_⟩|⟨χ,k,b,e,_,_,_⟩
 .obtain ⟨_,_,vs,_,d⟩:=TC I.hok e;show d.typeIs
 .obtain ⟨_,_,xs,_,d⟩:=TH I.hok e;show d.typeIs
def Zm(h ty:TE):TE:=λσ H Q=>h σ H λx H1=>ty σ H1 λy d=>∃a v,x=.ref a/\N6 d a y (ab v)/\Q v d
def Zl(j ty h:TE):TS:=λD σ H=>h σ H λv H1=>j σ H1 λx m=>ty σ m λy l=>∃a d,x=.ref a/\TJ l a y v d/\D.nx σ d
section
variable{o i e value:av}{ν pos' tpos:bo}{td ty tv:TE}
def ZA(n:X.A.units+1<di)(ho:PE X o td)(q:PE X i ty)(p:HS i):PE X (.Subscript o i ν) (Zm td ty):=by intro π s σ H Q I h;show LN a09.lookup p (dI (ho π s σ H _ I h) λu j ⟨x,H1,F,m,q1⟩=>dI (q π j σ H1 _ F q1) λU O ⟨y,K,d,l,a,v,ex,g,q2⟩=>?_);subst ex;obtain rfl:u=ft a:=m;show⟨EM d g,N7 n d g l λL s3 z J=>⟨v,K,z,J,q2⟩⟩
theorem ZC(z:X.A.units+1<di)(ho:PE X o td)(J:PE X i ty)(q:PE X value tv)(F:g_ value (ab (.Subscript o i pos')) ν.line X.env=pure ag):
  PS X (.Assign [.Subscript o i pos'] value ν) (Zl td ty tv):=by
 intro π s σ H D I h;show a0s (dI (q π s σ H _ I h) λr j ⟨v,H1,U,n,q1⟩=>dI (ho π j σ H1 _ U q1) λu d ⟨x,Z,O,m,q2⟩=>dI (J π d σ Z _ O q2) λiv s3 ⟨y,H3,L,l,a,Y,ex,g,p⟩=>?_) F;subst ex;obtain rfl:u=ft a:=m;show N8 z L g l n λs4 K=>⟨σ,Y,K,p⟩
end
def TK(h:a_)(a:sysModules<h.objs.size):cQ P w H (h.push {cls:=.type "dict",data:=.dict #[]}) h.objs.size (.dK []) :=
 ⟨ic _,beq_eq_false_iff_ne.mpr (fz (gp a)),[],.nil,a3l h⟩
def aCi:TE:=λ_ H Q=>∀p,H p=af->Q (.ref p) (upd H p (.dK []))
section
variable{ν:bo}
def TL:PE X (.Dict [] [] ν) aCi:=λπ s σ H Q I h =>
 a0r ⟨.ref ↥s,_,I.laid (a:=↥s) (o:=.dK []) (t':=s.toks) (λ_ _ q=>cx _ q) (bq _) (TK s.heap I.big),rfl,h _ (I.hok.fresh (bq _))⟩
end
end L2
end
namespace L3
open L2
def Scr(K:aq)(H:Hp)(a:ah)(ns:Q0e):Prop:=(∃o,H a=ab (.tW o (.lst (ns.map V.int))))\/c7 K (λ_=>af) a (ns.map V.int)
def Rw(S:ah->Prop)(H:Hp)(xs:Q0a)(p:ah):Prop:=∃as:List ah,H p=ab (.lst (as.map V.ref))/\as.Nodup/\(∀a∈as,S a)/\as.map H=xs.map λx=>ab (.lst (x.map V.int))
mutual
noncomputable def Dn(K:aq)(S:ah->Prop)(H:Hp):D->V->Prop
 |.non,v=>v=.non
 |.bl b,v=>v=.bl b
 |.int i,v=>v=.int i
 |.str x,v=>v=.str x
 |.tup ds,v=>∃a xs,v=.ref a/\H a=ab (.tup xs)/\aM K S H ds xs
 |.lst ds,v=>∃a xs,v=.ref a/\H a=ab (.lst xs)/\S a/\aM K S H ds xs
 |.k6 ns,v=>∃a,v=.ref a/\Scr K H a ns
 |.i8 ks ds,v=>∃a xs,v=.ref a/\H a=ab (.dK (ks.zip xs))/\S a/\⇑ks=⇑xs/\aM K S H ds xs
 |.a8 q ks ds,v=>∃a o χ,v=.ref a/\H a=ab (.dX o χ)/\S a/\(χ.map (·.1)=ks/\q a o)/\aM K S H ds (χ.map (·.2.2))
 |.exc _ a,v=>v=.ref a
 |.rws xs,v=>∃a,v=.ref a/\S a/\Rw S H xs a
noncomputable def aM(K:aq)(S:ah->Prop)(H:Hp):List D->List V->Prop
 |[],xs=>xs=[]
 |d::ds,xs=>∃v r,xs=v::r/\Dn K S H d v/\aM K S H ds r
end
structure Fits (K:aq) (S S':ah->Prop) (H H':Hp):Prop where
 t:∀a xs,H a=ab (.tup xs)->H' a=ab (.tup xs)
 s:∀a ns,Scr K H a ns->Scr K H' a ns
 l:∀a xs,H a=ab (.lst xs)->S a->H' a=ab (.lst xs)/\S' a
 d:∀a xs,H a=ab (.dK xs)->S a->H' a=ab (.dK xs)/\S' a
 e:∀a o xs,H a=ab (.dX o xs)->S a->H' a=ab (.dX o xs)/\S' a
section
variable{K:aq}{S S':ah->Prop}{H H':Hp}
def Rw.fits(f:Fits K S S' H H')(v:∀ys,H p=ab (.lst ys)->H' p=ab (.lst ys))(h:Rw S H xs p):Rw S' H' xs p:=by
 obtain⟨as,y,h2,q,o⟩:=h;have m:⇑as=⇑xs:=by have:=congrArg vv o;simpa using this
 have j:∀i (d:i<⇑as),H as[i]=ab (.lst ((xs[i]'(m▸d)).map V.int)):=λi d=>by have:=congrArg (λl=>l[i]?) o;simpa[d,m▸d] using this
 show⟨as,v _ y,h2,λa n=>?_,a2q ↑m λi d x=>?_⟩
 .obtain ⟨i,d,rfl⟩:=qq n;show(f.l _ _ (j i d) (q _ n)).2
 .rw [bb] at d;rw[a2i,a2i];show(f.l _ _ (j i d) (q _ (yb d))).1
mutual
theorem Dn.fits(f:Fits K S S' H H'):∀(d:D) (v:V),Dn K S H d v->Dn K S' H' d v
 |.non,v,h=>by simpa only[Dn] using h
 |.bl b,v,h=>by simpa only[Dn] using h
 |.int i,v,h=>by simpa only[Dn] using h
 |.str x,v,h=>by simpa only[Dn] using h
 |.tup ds,v,h=>by symm at h ⊢;obtain⟨a,xs,e,q,r⟩:=h;show⟨a,xs,e,f.t a xs q,aM.fits f ds xs r⟩
 |.lst ds,v,h=>by symm at h ⊢;obtain⟨a,xs,e,q,s,r⟩:=h;obtain⟨j,s'⟩:=f.l a xs q s;show⟨a,xs,e,j,s',aM.fits f ds xs r⟩
 |.k6 ns,v,h=>by symm at h ⊢;obtain⟨a,e,q⟩:=h;show⟨a,e,f.s a ns q⟩
 |.i8 ks ds,v,h=>by symm at h ⊢;obtain⟨a,xs,e,q,s,l,r⟩:=h;obtain⟨j,s'⟩:=f.d a _ q s;show⟨a,xs,e,j,s',l,aM.fits f ds xs r⟩
 |.a8 _ ks ds,v,h=>by symm at h ⊢;obtain⟨a,o,χ,e,q,s,l,r⟩:=h;obtain⟨j,s'⟩:=f.e a _ _ q s;show⟨a,o,χ,e,j,s',l,aM.fits f ds _ r⟩
 |.exc _ _,v,h=>by simpa only[Dn] using h
 |.rws xs,v,h=>by symm at h ⊢;obtain⟨a,e,s,r⟩:=h;obtain⟨as,m,h2⟩:=r;show⟨a,e,(f.l a _ m s).2,Rw.fits f (λys e1=>(f.l a ys e1 s).1) ⟨as,m,h2⟩⟩
theorem aM.fits(f:Fits K S S' H H'):∀(ds:List D) (xs:List V),aM K S H ds xs->aM K S' H' ds xs
 |[],xs,h=>by simpa only[aM] using h
 |d::ds,xs,h=>by erw[aM] at h ⊢;obtain⟨v,r,e,a,h2⟩:=h;show⟨v,r,e,Dn.fits f d v a,aM.fits f ds r h2⟩
end
mutual
theorem Dn.N9:∀(d:D) (v:V),d.CP=ae->Dn K S H d v->Dn K S' H d v
 |.non,v,_,h=>by simpa only[Dn] using h
 |.bl b,v,_,h=>by simpa only[Dn] using h
 |.int i,v,_,h=>by simpa only[Dn] using h
 |.str x,v,_,h=>by simpa only[Dn] using h
 |.tup ds,v,hi,h=>by symm at h ⊢;obtain⟨a,xs,e,q,r⟩:=h;show⟨a,xs,e,q,aM.N9 ds xs (by simpa only[D.CP] using hi) r⟩
 |.lst _,v,hi,h=>by erw[D.CP] at hi;cases hi
 |.k6 ns,v,_,h=>by simpa only[Dn] using h
 |.i8 _ _,v,hi,h=>by erw[D.CP] at hi;cases hi
 |.a8 _ _ _,v,hi,h=>by erw[D.CP] at hi;cases hi
 |.exc _ _,v,_,h=>by simpa only[Dn] using h
 |.rws _,v,hi,h=>by erw[D.CP] at hi;cases hi
theorem aM.N9:∀(ds:List D) (xs:List V),lD ds=ae->aM K S H ds xs->aM K S' H ds xs
 |[],xs,_,h=>by simpa only[aM] using h
 |d::ds,xs,hi,h=>by erw[lD,ij] at hi;erw[aM] at h ⊢;obtain⟨v,r,e,a,h2⟩:=h;show⟨v,r,e,Dn.N9 d v hi.1 a,aM.N9 ds r hi.2 h2⟩
end
def Dn.CP(a:d.CP=ae)(h:Dn K S H d v):Dn K S' H d v:=Dn.N9 d v a h
def aM.CP(a:lD ds=ae)(h:aM K S H ds xs):aM K S' H ds xs:=aM.N9 ds xs a h
def c7.some(h:c7 K (λ_=>af) a xs):c7 K H a xs:=by
 rcases h with(h|⟨o,h⟩)|h
 .cases h
 .cases h
 .exact .inr h
def Scr.sq(h:Scr K H a ns):c7 K H a (ns.map V.int):=by
 rcases h with⟨o,h⟩|h
 .exact .inl (.inr ⟨o,h⟩)
 .exact c7.some h
def Wr(H:Hp)(p:ah):Prop:=(∃xs,H p=ab (.lst xs))\/(∃xs,H p=ab (.dK xs)) \/∃o xs,H p=ab (.dX o xs)
def Wr.tup(w:Wr H p)(h:H a=ab (.tup xs)):upd H p o a=ab (.tup xs):=by
 rw[aR]
 .exact h
 .intro e;subst e;rcases w with⟨ys,w⟩|⟨ys,w⟩|⟨_,ys,w⟩<;>rw[h] at w<;>cases w
def Wr.k6(w:Wr H p)(h:Scr K H a ns):Scr K (upd H p o) a ns:=by
 rcases h with⟨d,h⟩|h
 .refine .inl ⟨d,?_⟩;rw[aR]
  .exact h
  .intro e;subst e;rcases w with⟨ys,w⟩|⟨ys,w⟩|⟨_,ys,w⟩<;>rw[h] at w<;>cases w
 .exact .inr h
def Fits.same(e:ξ H H'):Fits K S S H H' :=
 ⟨λa xs h=>e _ _ h,λa ns h=>h.elim (λ⟨o,h⟩=>.inl ⟨o,e _ _ h⟩) .inr,λa xs h s=>⟨e _ _ h,s⟩,λa xs h s=>⟨e _ _ h,s⟩,λa _ xs h s=>⟨e _ _ h,s⟩⟩
def Fits.mono(m:∀a,S a->S' a):Fits K S S' H H :=
 ⟨λ_ _ h=>h,λ_ _ h=>h,λa _ h s=>⟨h,m a s⟩,λa _ h s=>⟨h,m a s⟩,λa _ _ h s=>⟨h,m a s⟩⟩
def Fits.fresh(d:H p=af):Fits K S (λa=>S a/\a≠p) H H :=
 ⟨λ_ _ h=>h,λ_ _ h=>h,λa _ h s=>⟨h,s,aT h d⟩,λa _ h s=>⟨h,s,aT h d⟩,λa _ _ h s=>⟨h,s,aT h d⟩⟩
def Fits.upd(w:Wr H p)(j:¬ S p):Fits K S S H (upd H p o):=by have d:∀a,S a->a≠p:=λa s e=>j (e▸s);show⟨λa xs h=>w.tup h,λa ns h=>w.k6 h,λa xs h s=>⟨by rw[aR (d a s)];show h,s⟩,λa xs h s=>⟨by rw[aR (d a s)];show h,s⟩,λa _ xs h s=>⟨by rw[aR (d a s)];show h,s⟩⟩
def Fits.trans(a:Fits K S S' H H')(b:Fits K S' S'' H' H''):Fits K S S'' H H'' :=
 ⟨λx xs h=>b.t x xs (a.t x xs h),λx ns h=>b.s x ns (a.s x ns h),λx xs h s=>let ⟨h1,s1⟩:=a.l x xs h s;b.l x xs h1 s1,λx xs h s=>let ⟨h1,s1⟩:=a.d x xs h s;b.d x xs h1 s1,λx o xs h s=>let ⟨h1,s1⟩:=a.e x o xs h s;b.e x o xs h1 s1⟩
def aH(a:H p=af):ξ H (upd H p o):=λb u h=>by rw[aR (aT h a)];show h
theorem aM.len:∀{ds:List D} {xs:List V},aM K S H ds xs->⇑ds=⇑xs
 |[],xs,h=>by erw[aM] at h;subst h;rfl
 |d::ds,xs,h=>by erw[aM] at h;obtain⟨v,r,e,_,h2⟩:=h;subst e;simp[aM.len h2]
theorem aM.get:∀{ds:List D} {xs:List V} {i:Nat} {d:D},aM K S H ds xs->ds[i]?=ab d ->∃v,xs[i]?=ab v/\Dn K S H d v
 |[],xs,i,d,h,e=>by simp at e
 |d::ds,xs,i,d',h,e=>by
  erw[aM] at h;obtain⟨v,r,e1,a,h2⟩:=h;subst e1
  cases i with
  |zero=>simp at e;subst e;show⟨v,by simp,a⟩
  |succ i =>
   obtain⟨u,j,q⟩:=aM.get (i:=i) (d:=d') h2 ↑e;show⟨u,↑j,q⟩
def aM.nil:aM K S H [] []:=by erw[aM]
def aM.cons(h:Dn K S H d v)(t:aM K S H ds xs):aM K S H (d::ds) (v::xs):=by erw[aM];show⟨v,xs,rfl,h,t⟩
def aM.aY(h:aM K S H (d::ds) xs):∃v r,xs=v::r/\Dn K S H d v/\aM K S H ds r:=by simpa only[aM] using h
theorem aM.append:∀{ds a:List D} {xs ys:List V},aM K S H ds xs->aM K S H a ys->aM K S H (ds++a) (xs++ys)
 |[],a,xs,ys,h,g=>by erw[aM] at h;subst h;show g
 |d::ds,a,xs,ys,h,g=>by obtain⟨v,r,e,j,h2⟩:=h.aY;subst e;show aM.cons j (aM.append h2 g)
def aM.one(h:Dn K S H d v):aM K S H [d] [v]:=aM.cons h aM.nil
theorem aM.take:∀{ds:List D} {xs:List V} (n:Nat),aM K S H ds xs->aM K S H (ds.take n) (xs.take n)
 |_,_,0,_=>by simp[aM.nil]
 |[],xs,n+1,h=>by erw[aM] at h;subst h;simp[aM.nil]
 |d::ds,xs,n+1,h=>by obtain⟨v,r,e,a,h2⟩:=h.aY;subst e;simpa using aM.cons a (aM.take n h2)
theorem aM.drop:∀{ds:List D} {xs:List V} (n:Nat),aM K S H ds xs->aM K S H (ds.drop n) (xs.drop n)
 |_,_,0,h=>by simpa using h
 |[],xs,n+1,h=>by erw[aM] at h;subst h;simp[aM.nil]
 |d::ds,xs,n+1,h=>by obtain⟨v,r,e,a,h2⟩:=h.aY;subst e;simpa using aM.drop n h2
theorem aM.set:∀{ds:List D} {xs:List V} {d:D} {v:V} (n:Nat),Dn K S H d v->aM K S H ds xs->aM K S H (ds.set n d) (xs.set n v)
 |[],xs,d,v,n,h,g=>by erw[aM] at g;subst g;simp[aM.nil]
 |d::ds,xs,d',v',n,h,g=>by
  obtain⟨v,r,e,a,h2⟩:=g.aY;subst e
  cases n with
  |zero=>show aM.cons h h2
  |succ n=>show aM.cons a (aM.set n h h2)
theorem aM.erase:∀{ds:List D} {xs:List V} (n:Nat),aM K S H ds xs->aM K S H (ds.eraseIdx n) (xs.eraseIdx n)
 |[],xs,n,g=>by erw[aM] at g;subst g;simp[aM.nil]
 |d::ds,xs,n,g=>by
  obtain⟨v,r,e,a,h2⟩:=g.aY;subst e
  cases n with
  |zero=>show h2
  |succ n=>show aM.cons a (aM.erase n h2)
theorem aM.ints:∀{ns:Q0e} {xs:List V},aM K S H (ns.map D.int) xs↔xs=ns.map V.int
 |[],xs=>by simp[aM]
 |n::ns,xs=>by
  rw[bx,bx]
  constructor
  .intro h;obtain⟨v,r,e,a,h2⟩:=h.aY;symm at a;rw[e,a,aM.ints.mp h2]
  .intro e;rw[e];show aM.cons (by symm) (aM.ints.mpr rfl)
end
def Sl(K:aq)(S:ah->Prop)(H:Hp)(ρ:cN)(σ:St):Prop:=∀(i:Nat) (d:D),ρ[i]?=ab (ab d) ->∃v,σ[i]?=ab (ab v)/\Dn K S H d v
theorem Sl.fits{K:aq}{S S':ah->Prop}{H H':Hp}{ρ:cN}{σ:St}(f:Fits K S S' H H')(h:Sl K S H ρ σ):Sl K S' H' ρ σ:=λi d e =>
 let ⟨v,e1,q⟩:=h i d e;⟨v,e1,Dn.fits f d v q⟩
def tF(K:aq)(S:ah->Prop)(H:Hp)(d:D)(p:ah):Prop :=
 match d with
 |.lst ds=>∃xs,H p=ab (.lst xs)/\aM K S H ds xs
 |.i8 ks ds=>∃xs,H p=ab (.dK (ks.zip xs))/\⇑ks=⇑xs/\aM K S H ds xs
 |.a8 q ks ds=>∃o χ,H p=ab (.dX o χ)/\(χ.map (·.1)=ks/\q p o)/\aM K S H ds (χ.map (·.2.2))
 |.rws xs=>Rw S H xs p
 |_=>False
def SO(S:ah->Prop)(w:Nat->ah)(ρ:bC):ah->Prop:=λa=>S a /\∀(i:Nat) (d:D),ρ[i]?=ab (Sv.ow d)->a≠w i
structure ST (K:aq) (H₀:Hp) (S:ah->Prop) (w:Nat->ah) (σ:St) (H:Hp) (ρ:bC) (G:List (D×V)):Prop where
 fc:∀a,H₀ a=af->S a
 sm:ξ H₀ H
 own:∀(i:Nat) (d:D),ρ[i]?=ab (Sv.ow d)->σ[i]?=ab (ab (.ref (w i)))/\H₀ (w i)=af/\tF K (SO S w ρ) H d (w i)
 inj:∀(i j:Nat) (d e:D),ρ[i]?=ab (Sv.ow d)->ρ[j]?=ab (Sv.ow e)->w i=w j->i=j
 ro:∀(i:Nat) (d:D),ρ[i]?=ab (Sv.ro d) ->∃v,σ[i]?=ab (ab v)/\Dn K (SO S w ρ) H d v
 gh:∀g∈G,Dn K (SO S w ρ) H g.1 g.2
 rw:∀(i:Nat) (xs:Q0a),ρ[i]?=ab (Sv.ow (.rws xs)) ->∀ys,H (w i)=ab (.lst ys) ->∀a,V.ref a∈ys->H₀ a=af
section
variable{K:aq}{H₀ H H':Hp}{S S':ah->Prop}{w:Nat->ah}{σ:St}{ρ:bC}{G:List (D×V)}
theorem tF.wr(h:tF K S H d p):Wr H p:=by
 cases d with
 |lst ds=>obtain⟨xs,e,_⟩:=h;show .inl ⟨_,e⟩
 |i8 ks ds=>obtain⟨xs,e,_⟩:=h;show .inr (.inl ⟨_,e⟩)
 |a8 q0 ks ds=>obtain⟨o,χ,e,_⟩:=h;show .inr (.inr ⟨_,_,e⟩)
 |rws xs=>obtain⟨_,e,_⟩:=h;show .inl ⟨_,e⟩
 |_=>show l_ h
theorem tF.dn{d:D}{p:ah}(h:tF K S H d p)(j:S' p)(m:∀a,S a->S' a):Dn K S' H d (.ref p):=by
 cases d with
 |lst ds=>obtain⟨xs,e,q⟩:=h;symm;show⟨p,xs,rfl,e,j,aM.fits (.mono m) ds xs q⟩
 |i8 ks ds=>obtain⟨xs,e,l,q⟩:=h;symm;show⟨p,xs,rfl,e,j,l,aM.fits (.mono m) ds xs q⟩
 |a8 q0 ks ds=>obtain⟨o,χ,e,l,q⟩:=h;symm;show⟨p,o,χ,rfl,e,j,l,aM.fits (.mono m) ds _ q⟩
 |rws xs=>symm;show⟨p,rfl,j,Rw.fits (.mono (K:=K) m) (λ_ e=>e) h⟩
 |_=>show l_ h
theorem tF.fits{d:D}{p:ah}(f:Fits K S S' H H')(a:∀o,H p=ab o->H' p=ab o)(h:tF K S H d p):tF K S' H' d p:=by
 cases d with
 |lst ds=>obtain⟨xs,e,q⟩:=h;show⟨xs,a _ e,aM.fits f ds xs q⟩
 |i8 ks ds=>obtain⟨xs,e,l,q⟩:=h;show⟨xs,a _ e,l,aM.fits f ds xs q⟩
 |a8 q0 ks ds=>obtain⟨o,χ,e,l,q⟩:=h;show⟨o,χ,a _ e,l,aM.fits f ds _ q⟩
 |rws xs=>show Rw.fits f (λ_ e=>a _ e) h
 |_=>show l_ h
def ST.rwN(h:ST K H₀ S w σ H ρ G)(q:ρ[i]?=ab (Sv.ow (.rws xs)))(j:∀o,H (w i)=ab o->H' (w i)=ab o):∀ys,H' (w i)=ab (.lst ys) ->∀a,V.ref a∈ys->H₀ a=af:=λys d=>by obtain⟨as,e,_⟩:=(h.own i _ q).2.2;rw[j _ e] at d;cases d;show h.rw i xs q _ e
def ST.TN(h:ST K H₀ S w σ H ρ G):∀a,H a=af->S a:=λa e=>h.fc a (h.sm.free e)
def ST.GG(h:ST K H₀ S w σ H ρ G):∀a,H a=af->SO S w ρ a:=λa e=>⟨h.TN a e,λi d q z=>by have wr:=(h.own i d q).2.2.wr;subst z;rcases wr with⟨xs,k⟩|⟨xs,k⟩|⟨_,xs,k⟩<;>rw[e] at k<;>cases k⟩
theorem xU{i:Nat}{d:D}(h:(bL ρ)[i]?=ab (ab d)):ρ[i]?=ab (Sv.ro d)\/ρ[i]?=ab (Sv.ow d):=by
 delta bL at h;rw[c_] at h
 cases e:ρ[i]? with
 |none=>rw[e] at h;cases h
 |some s =>
  rw[e] at h
  cases s with
  |no=>cases h
  |ro d'=>cases h;show .inl rfl
  |ow d'=>cases h;show .inr rfl
theorem B3{i:Nat}{d:D}(h:(gI ρ)[i]?=ab (ab d)):ρ[i]?=ab (Sv.ro d):=by
 delta gI at h;rw[c_] at h
 cases e:ρ[i]? with
 |none=>rw[e] at h;cases h
 |some s =>
  rw[e] at h
  cases s with
  |no=>cases h
  |ro d'=>cases h;rfl
  |ow d'=>cases h
def ST.all(h:ST K H₀ S w σ H ρ G):Sl K S H (bL ρ) σ:=λi d e=>by
 rcases xU e with e|e
 .obtain ⟨v,e1,q⟩:=h.ro i d e;show⟨v,e1,Dn.fits (.mono λ_ z=>z.1) d v q⟩
 .obtain ⟨e1,a,q⟩:=h.own i d e;show⟨_,e1,q.dn (h.fc _ a) λ_ z=>z.1⟩
def ST.rd(h:ST K H₀ S w σ H ρ G):Sl K (SO S w ρ) H (gI ρ) σ:=λi d e=>h.ro i d (B3 e)
def ST.same(h:ST K H₀ S w σ H ρ G)(e:ξ H H'):ST K H₀ S w σ H' ρ G :=
 ⟨h.fc,h.sm.trans e,λi d q=>let ⟨a,b,c⟩:=h.own i d q;⟨a,b,c.fits (.same e) λo z=>e _ o z⟩,h.inj,λi d q=>let ⟨v,a,b⟩:=h.ro i d q;⟨v,a,Dn.fits (.same e) d v b⟩,λg j=>Dn.fits (.same e) _ _ (h.gh g j),λi xs q=>h.rwN q λo z=>e _ o z⟩
def SO.mono{h:bC}(hw:∀(i:Nat) (d:D),h[i]?=ab (Sv.ow d) ->∃e,ρ[i]?=ab (Sv.ow e)):∀a,SO S w ρ a->SO S w h a:=λa j=>by obtain⟨s,n⟩:=j;show⟨s,λi d e=>let ⟨d',e'⟩:=hw i d e;n i d' e'⟩
def get_set{α:Type}{l:List α}{i j:Nat}{x y:α}(h:(l.set i x)[j]?=ab y):(j=i/\y=x/\i<⇑l)\/(j≠i/\l[j]?=ab y):=by
 by_cases e:j=i
 .subst e;by_cases a:j<⇑l
  .rw [ox a] at h;show .inl ⟨rfl,(dm h).symm,a⟩
  .rw [ig (by simp;lia)] at h;cases h
 .rw [kc (fz e)] at h;show .inr ⟨e,h⟩
theorem ST.kU{i:Nat}{d:D}{v:V}(h:ST K H₀ S w σ H ρ G)(y:i<⇑σ)(q:Dn K (SO S w ρ) H d v):ST K H₀ S w (σ.set i (ab v)) H (ρ.set i (.ro d)) G:=by
 have hw:∀(j:Nat) (e:D),(ρ.set i (.ro d))[j]?=ab (Sv.ow e)->j≠i/\ρ[j]?=ab (Sv.ow e):=λj e l=>by
  rcases get_set l with⟨_,z,_⟩|z
  .cases z
  .exact z
 have m:∀a,SO S w ρ a->SO S w (ρ.set i (.ro d)) a:=SO.mono λj e l=>⟨e,(hw j e l).2⟩;show⟨h.fc,h.sm,λj e l=>?_,λj k d' p F h2=>h.inj j k d' p (hw j d' F).2 (hw k p h2).2,λj e l=>?_,λg A=>Dn.fits (.mono m) _ _ (h.gh g A),λj xs x=>h.rw j xs (hw j _ x).2⟩
 .obtain ⟨n,o⟩:=hw j e l;obtain⟨a,b,c⟩:=h.own j e o;show⟨by rw[kc (fz n)];show a,b,c.fits (.mono m) λ_ z=>z⟩
 .rcases get_set l with⟨n,z,_⟩|⟨n,z⟩
  .cases z;subst n;show⟨v,ox y,Dn.fits (.mono m) d v q⟩
  .obtain ⟨u,a,b⟩:=h.ro j e z;show⟨u,by rw[kc (fz n)];show a,Dn.fits (.mono m) e u b⟩
noncomputable def freeze(ρ:bC)(i:Nat):bC:=match ρ[i]? with
 |some (.ow d)=>ρ.set i (.ro d)
 |_=>ρ
theorem ST.frozen{i:Nat}(h:ST K H₀ S w σ H ρ G):ST K H₀ S w σ H (freeze ρ i) G:=by
 delta freeze
 cases e:ρ[i]? with
 |none=>show h
 |some s =>
  cases s with
  |no=>show h
  |ro d=>show h
  |ow d =>
   dsimp only;obtain⟨a,b,c⟩:=h.own i d e;have J:i<⇑σ:=(de.mp a).1;have hw:∀(j:Nat) (e:D),(ρ.set i (.ro d))[j]?=ab (Sv.ow e)->j≠i/\ρ[j]?=ab (Sv.ow e):=λj e p=>by
    rcases get_set p with⟨_,z,_⟩|z
    .cases z
    .exact z
   have m:∀a,SO S w ρ a->SO S w (ρ.set i (.ro d)) a:=SO.mono λj e p=>⟨e,(hw j e p).2⟩;show⟨h.fc,h.sm,λj f o=>?_,λj k d' v F h2=>h.inj j k d' v (hw j d' F).2 (hw k v h2).2,λj f o=>?_,λg A=>Dn.fits (.mono m) _ _ (h.gh g A),λj xs x=>h.rw j xs (hw j _ x).2⟩
   .obtain ⟨a,b,c⟩:=h.own j f (hw j f o).2;show⟨a,b,c.fits (.mono m) λ_ z=>z⟩
   .rcases get_set o with⟨q,z,_⟩|⟨q,z⟩
    .cases z;subst q;show⟨_,a,c.dn ⟨h.fc _ b,λk I y z=>?_⟩ m⟩;obtain⟨n,l⟩:=hw k I y;show n (h.inj _ _ _ _ e l z).symm
    .obtain ⟨u,a,b⟩:=h.ro j f z;show⟨u,a,Dn.fits (.mono m) f u b⟩
theorem ST.HU{i:Nat}{d:D}{p:ah}(h:ST K H₀ S w σ H ρ G)(X:i<⇑σ)(e:ξ H H')(A:H p=af)(q:tF K (λa=>SO S w ρ a/\a≠p) H' d p)
  (U:(∀xs,d=.rws xs ->∀ys,H' p=ab (.lst ys) ->∀a,V.ref a∈ys->H₀ a=af)<|>10):
  ST K H₀ S (λj=>if j=i then p else w j) (σ.set i (ab (.ref p))) H' (ρ.set i (.ow d)) G:=by
 have h0:H₀ p=af:=h.sm.free A;have hw:∀(j:Nat) (e:D),j≠i->(ρ.set i (.ow d))[j]?=ab (Sv.ow e)->ρ[j]?=ab (Sv.ow e):=λj e l Z=>by
  rcases get_set Z with⟨z,_,_⟩|⟨_,z⟩
  .exact Zw z l
  .exact z
 have m:∀a,(SO S w ρ a/\a≠p)->SO S (λj=>if j=i then p else w j) (ρ.set i (.ow d)) a:=λa ⟨⟨s,n⟩,O⟩=>⟨s,λj f v=>by
  show a≠(if j=i then p else w j);by_cases l:j=i
  .rw [Z_ l];show O
  .rw [Zz l];show n j f (hw j f l v)⟩
 have F:Fits K (SO S w ρ) (SO S (λj=>if j=i then p else w j) (ρ.set i (.ow d))) H H':=((Fits.fresh A).trans (.mono m)).trans (.same e);have I:∀(j:Nat) (f:D),ρ[j]?=ab (Sv.ow f)->w j≠p:=λj f v z=>by have wr:=(h.own j f v).2.2.wr;rw[z] at wr;rcases wr with⟨xs,k⟩|⟨xs,k⟩|⟨_,xs,k⟩<;>rw[A] at k<;>cases k
 show⟨h.fc,h.sm.trans e,λj f v=>?_,λj k d' y L h2 z=>?_,λj f v=>?_,λg Y=>Dn.fits F _ _ (h.gh g Y),λj xs J=>?_⟩
 rotate_right
 .show ∀ys,H' (if j=i then p else w j)=ab (.lst ys)->_;by_cases l:j=i
  .subst l;rw[Z_ rfl];rcases get_set J with⟨_,z,_⟩|⟨z,_⟩
   .exact U xs (Sv.ow.inj z).symm
   .exact Zw rfl z
  .rw [Zz l];show h.rwN (hw j _ l J) λo z=>e _ o z
 .by_cases l:j=i
  .subst l;rcases get_set v with⟨_,z,_⟩|⟨z,_⟩
   .cases z;rw[Z_ rfl];show⟨ox X,h0,q.fits (.mono m) λ_ z=>z⟩
   .exact Zw rfl z
  .rw [Zz l];obtain⟨a,b,c⟩:=h.own j f (hw j f l v);show⟨by rw[kc (fz l)];show a,b,c.fits F λo z=>e _ o z⟩
 .have z:(if j=i then p else w j)=(if k=i then p else w k):=z;by_cases l:j=i
  .by_cases x:k=i
   .rw [l,x]
   .rw [Z_ l,Zz x] at z;show Zw z.symm (I k y (hw k y x h2))
  .by_cases x:k=i
   .rw [Zz l,Z_ x] at z;show Zw z (I j d' (hw j d' l L))
   .rw [Zz l,Zz x] at z;show h.inj j k d' y (hw j d' l L) (hw k y x h2) z
 .rcases get_set v with⟨_,z,_⟩|⟨l,z⟩
  .cases z
  .obtain ⟨u,a,b⟩:=h.ro j f z;show⟨u,by rw[kc (fz l)];show a,Dn.fits F f u b⟩
def ST.write{i:Nat}{d d':D}{o:HO}(h:ST K H₀ S w σ H ρ G)(e:ρ[i]?=ab (Sv.ow d))(q:tF K (SO S w ρ) (upd H (w i) o) d' (w i))(U:(∀xs,d'≠.rws xs)<|>10):ST K H₀ S w σ (upd H (w i) o) (ρ.set i (.ow d')) G:=by
 obtain⟨a0,I,Z⟩:=h.own i d e;have v:SO S w (ρ.set i (.ow d'))=SO S w ρ:=by
  funext a
  show propext ⟨λ⟨s,n⟩=>⟨s,λj f m=>?_⟩,λ⟨s,n⟩=>⟨s,λj f m=>?_⟩⟩
  .by_cases l:j=i
   .subst l;show n j d' (by rw[ox (de.mp e).1])
   .exact n j f (by rw[kc (fz l)];show m)
  .by_cases l:j=i
   .subst l;show n j d e
   .exact n j f (by rw[kc (fz l)] at m;show m)
 have L:¬ SO S w ρ (w i):=λ⟨_,n⟩=>n i d e rfl;have F:Fits K (SO S w ρ) (SO S w ρ) H (upd H (w i) o):=.upd Z.wr L;show⟨h.fc,λb u A=>?_,λj f m=>?_,λj k d1 e1 Y h2 z=>?_,λj f m=>?_,λg X=>by rw[v];show Dn.fits F _ _ (h.gh g X),λj xs O=>?_⟩
 rotate_right
 .rcases get_set O with⟨_,z,_⟩|⟨l,z⟩
  .exact Zw (Sv.ow.inj z).symm (U xs)
  .exact h.rwN z λJ p=>by rw[aR λy=>l (h.inj _ _ _ _ z e y)];show p
 .rw [aR (aT A I)];show h.sm b u A
 .rw [v];rcases get_set m with⟨l,z,_⟩|⟨l,z⟩
  .cases z;subst l;show⟨a0,I,q⟩
  .obtain ⟨a,b,c⟩:=h.own j f z;show⟨a,b,c.fits F λJ p=>by rw[aR λy=>l (h.inj _ _ _ _ z e y)];show p⟩
 .have g1:∃x,ρ[j]?=ab (Sv.ow x):=by
   rcases get_set Y with⟨l,_,_⟩|⟨_,z⟩
   .subst l;show⟨d,e⟩
   .exact ⟨_,z⟩
  have g2:∃x,ρ[k]?=ab (Sv.ow x):=by
   rcases get_set h2 with⟨l,_,_⟩|⟨_,z⟩
   .subst l;show⟨d,e⟩
   .exact ⟨_,z⟩
  obtain⟨_,g1⟩:=g1;obtain⟨_,g2⟩:=g2;show h.inj j k _ _ g1 g2 z
 .rw [v];rcases get_set m with⟨_,z,_⟩|⟨l,z⟩
  .cases z
  .obtain ⟨u,a,b⟩:=h.ro j f z;show⟨u,a,Dn.fits F f u b⟩
def ST.ghost(h:ST K H₀ S w σ H ρ G)(a:∀g∈G',Dn K (SO S w ρ) H g.1 g.2):ST K H₀ S w σ H ρ G':=⟨h.fc,h.sm,h.own,h.inj,h.ro,a,h.rw⟩
end
open PySem.Spec PyProof.Rows
abbrev WE:=cN->(D->Prop)->Prop
abbrev WT:=cN->(Bool->Prop)->Prop
abbrev WA:=cN->(List D->Prop)->Prop
inductive lift (K:aq) (t:WE) (σ:L2.St) (H:Hp) (Q:VK):Prop
 |mk (S:ah->Prop) (ρ:cN) (Q3:D->Prop) (h1:(∀a,H a=af->S a)) (h2:Sl K S H ρ σ) (h3:t ρ Q3) (h4:∀v H' d,ξ H H'->Dn K S H' d v->Q3 d->Q v H'):lift K t σ H Q
inductive liftT (K:aq) (t:WT) (σ:L2.St) (H:Hp) (Q:(Bool->Hp->Prop)):Prop
 |mk (S:ah->Prop) (ρ:cN) (Q3:Bool->Prop) (h1:(∀a,H a=af->S a)) (h2:Sl K S H ρ σ) (h3:t ρ Q3) (h4:∀b H',ξ H H'->Q3 b->Q b H'):liftT K t σ H Q
inductive LO (K:aq) (t:WA) (σ:L2.St) (H:Hp) (Q:(List V->Hp->Prop)):Prop
 |mk (S:ah->Prop) (ρ:cN) (Q3:List D->Prop) (h1:(∀a,H a=af->S a)) (h2:Sl K S H ρ σ) (h3:t ρ Q3) (h4:∀vs H' ds,ξ H H'->aM K S H' ds vs->Q3 ds->Q vs H'):LO K t σ H Q
inductive LP (K:aq) (t:WE) (σ:L2.St) (H:Hp) (Q:VK):Prop
 |mk (S:ah->Prop) (ρ:cN) (Q3:D->Prop) (h1:(∀a,H a=af->S a)) (h2:Sl K S H ρ σ) (h3:t ρ Q3) (h4:∀p xs H' ds,H p=af->H' p=ab (.lst xs)->ξ H H'->aM K (λa=>S a/\a≠p) H' ds xs->Q3 (.lst ds)->Q (.ref p) H'):LP K t σ H Q
def cC(X:Cx)(e:av)(t:WE):Prop:=PE X e (lift X.K t)
def EN(X:Cx)(e:av)(t:WE):Prop:=PE X e (LP X.K t)
def wH(X:Cx)(e:av)(t:WT):Prop:=PT X e (liftT X.K t)
def tZ(X:Cx)(a:List av)(t:WA):Prop:=PA X a (LO X.K t)
variable{X:Cx}
section
def imp(h:PE X e t)(f:∀σ H Q,t' σ H Q->t σ H Q):PE X e t':=λπ s σ H Q I q=>h π s σ H Q I (f σ H Q q)
def TQ(h:PT X e t)(f:∀σ H Q,t' σ H Q->t σ H Q):PT X e t':=λπ s σ H Q I q=>h π s σ H Q I (f σ H Q q)
def TR(h:PA X e t)(f:∀σ H Q,t' σ H Q->t σ H Q):PA X e t':=λa π s σ H Q I q=>h a π s σ H Q I (f σ H Q q)
def bD{H H':Hp}{S:ah->Prop}(d:∀a,H a=af->S a)(s:ξ H H'):∀a,H' a=af->S a:=λa e=>d a (s.free e)
theorem EN.pe(h:EN X e t):cC X e t:=imp h λσ H Q a=>by obtain⟨S,ρ,Q3,j,l,m,k⟩:=a;show⟨S,ρ,Q3,j,l,m,λp xs H' ds n d s dn q=>k _ H' _ s (by symm;show⟨p,xs,rfl,d,j p n,aM.fits (.mono λ_ z=>z.1) ds xs dn⟩) q⟩
noncomputable def ZD(i:Nat):WE:=λρ Q=>match ρ[i]? with
 |some (ab d)=>Q d
 |_=>False
def wC(d:D):WE:=λ_ Q=>Q d
def TU{K:aq}{i:Nat}{σ:L2.St}{H:Hp}{Q:VK}(h:lift K (ZD i) σ H Q):sY i σ H Q:=by
 obtain⟨S,ρ,Q3,l,j,a,k⟩:=h;delta ZD at a;split at a
 .rename_i d e;obtain⟨v,e1,q⟩:=j i d e;show⟨v,e1,k v H d (ξ.refl H) q a⟩
 .exact a.elim
def x3(i:Nat)(hN:X.N[i]?=ab x<|>0)(d:xR X.env.scope x<|>3)(h:Zu x<|>1)
  (a:Zt x<|>1):cC X (.Name x ν) (ZD i):=imp (iW hN d h a) λ_ _ _=>TU
def B4{K:aq}{d:D}{v:V}{σ:L2.St}{H:Hp}{Q:VK}(j:∀S H,Dn K S H d v)(h:lift K (wC d) σ H Q):tC v σ H Q:=by obtain⟨S,ρ,Q3,m,l,a,k⟩:=h;show k v H d (ξ.refl H) (j S H) a
def i3{j ν}:cC X (.Constant (.int i) j ν) (wC (.int i)):=imp aCA λ_ _ _=>B4 (λ_ _=>by symm)
def b3{j ν}:cC X (.Constant (.bool b) j ν) (wC (.bl b)):=imp aEd λ_ _ _=>B4 (λ_ _=>by symm)
def n3{j ν}:cC X (.Constant .none j ν) (wC .non):=imp aCB λ_ _ _=>B4 (λ_ _=>by symm)
def s3{j ν}:cC X (.Constant (.str x) j ν) (wC (.str x)):=imp aCC λ_ _ _=>B4 (λ_ _=>by symm)
abbrev F2:=D->D->(D->Prop)->Prop
def gC(f:F2)(d a:WE):WE:=λρ Q=>d ρ λx=>a ρ λy=>f x y Q
def O3(K:aq)(r:R2)(f:F2):Prop:=∀(S:ah->Prop) (H:Hp) (x y:V) (j h:D) (Q3:D->Prop) (Q:VK),(∀a,H a=af->S a)->Dn K S H j x->Dn K S H h y->f j h Q3 ->
 (∀v H' d,ξ H H'->Dn K S H' d v->Q3 d->Q v H')->r x y H Q
def pV{K:aq}{r:R2}{f:F2}{p o:WE}{σ:L2.St}{H:Hp}{Q:VK}(A:O3 K r f)(h:lift K (gC f p o) σ H Q):uj r (lift K p) (lift K o) σ H Q:=by obtain⟨S,ρ,Q3,l,q,z,k⟩:=h;show⟨S,ρ,_,l,q,z,λv H1 d a I q1=>?_⟩;show⟨S,ρ,_,bD l a,Sl.fits (.same a) q,q1,λu J F j n q2=>?_⟩;show A S J v u d F Q3 Q (bD l (a.trans j)) (Dn.fits (.same j) _ _ I) n q2 λx H' d' s' m y=>k x H' d' ((a.trans j).trans s') m y
theorem WU(ho:iA X (binaryOp op) r)(j:O3 X.K r f)(h:cC X a ta)(d:cC X b tb):cC X (.BinOp a op b ν) (gC f ta tb) :=
 imp (SN ho h d) λ_ _ _=>pV j
def OA(C:Int->Int->Prop)(g:Int->Int->D):F2
 |.int i,.int j,Q=>C i j/\Q (g i j)
 |_,_,_=>False
theorem mE{K:aq}{C:Int->Int->Prop}{g:Int->Int->Int}:O3 K (rI C λi j=>.int (g i j)) (OA C λi j=>.int (g i j)):=by
 intro S H x y m l Q3 Q n h d a k;cases m<;>cases l<;>try show a.elim
 symm at h d;show⟨_,_,h,d,a.1,k _ H _ (ξ.refl H) (by symm) a.2⟩
noncomputable def wJ(g:Int->Int->D):F2
 |.int i,.int j,Q=>Q (g i j)
 |_,_,_=>False
def ZE{K:aq}{g:Int->Int->Int}:O3 K (NW λi j=>.int (g i j)) (wJ λi j=>.int (g i j)):=by
 intro S H x y m l Q3 Q n d a h k;cases m<;>cases l<;>try show h.elim
 symm at d a;show⟨_,_,d,a,k _ H _ (ξ.refl H) (by symm) h⟩
def Vw:F2:=wJ λi j=>.int (i-j)
def Vv:F2:=OA (λ_ j=>0<j) λi j=>.int (i%j)
def Vu:F2:=OA Fi λi j=>.int (i/j)
def Vt:F2:=OA Ad λi j=>.int (i^j.toNat)
section
variable{a b:av}{ν:bo}{ta tb:WE}
def U_(h:cC X a ta)(d:cC X b tb):cC X (.BinOp a .Sub b ν) (gC Vw ta tb):=WU aCT ZE h d
def Uz(h:cC X a ta)(d:cC X b tb):cC X (.BinOp a .Mod b ν) (gC Vv ta tb):=WU aCU mE h d
def Uy(h:cC X a ta)(d:cC X b tb):cC X (.BinOp a .FloorDiv b ν) (gC Vu ta tb):=WU YW mE h d
def Ux(h:cC X a ta)(d:cC X b tb):cC X (.BinOp a .Pow b ν) (gC Vt ta tb):=WU aCV mE h d
end
def Gs(K:aq):R2:=λx y H Q=>∃a b xs ys,x=.ref a/\y=.ref b/\eJ K H a xs/\eJ K H b ys/\⇑xs+⇑ys<=br /\
 (xs=[]->Q (.ref b) H)/\(xs≠[]->ys=[]->Q (.ref a) H)/\(xs≠[]->ys≠[] ->∀p,H p=af->Q (.ref p) (upd H p (.tup (xs++ys))))
theorem TV{Ω:bh}{w:bg}{A:bt}{E:Q0c}{s:ak}{t b:ah}{ws:Q0f}{Q:Q0c}(v:jg s.heap t #[])(x:jg s.heap b ws.toArray)
  (y:Q (.ref b) s):ax (au Ω w) A (binaryOp .Add (.ref t) (.ref b)) Q E s:=by
 obtain⟨⟨cls,z,data,p⟩,ho,m,n,l⟩:=id v;obtain⟨⟨o,j,data2,h⟩,a,d,q,hd2⟩:=id x;simp only at m l d hd2;subst m l d hd2;show Ih ⟨_,ho,rfl⟩ ⟨_,a,rfl⟩ Ig Ia I_ Jc (Jg _ _)
   (tuple_addW0 t b #[] ws.toArray n q z j p h (by simp)) ⟨ho,a,y⟩
theorem TX:iA X (binaryOp .Add) (Gs X.K):=by
 intro π s σ H x y v u Q I l j h;obtain⟨a,b,xs,ys,rfl,rfl,o,n,q,p,q1,q2⟩:=h;by_cases d:xs=[]
 .cases l;cases j;subst d;obtain⟨z,r1,p1,_⟩:=I.tuple o;obtain⟨m,A,p2,_⟩:=I.tuple n;cases r1;show TV p1 p2 ⟨.ref b,H,I,rfl,p rfl⟩
 .exact Y6 π s σ H _ _ v u Q I l j ⟨a,b,xs,ys,rfl,rfl,o,n,d,q,q1 d,q2 d⟩
noncomputable def Aa:F2
 |.int i,.int j,Q=>Q (.int (i+j))
 |.lst a,.lst b,Q=>⇑a+⇑b<=br/\Q (.lst (a++b))
 |.tup a,.tup b,Q=>⇑a+⇑b<=br/\Q (.tup (a++b))
 |.str a,.str b,Q=>⇑a+⇑b<=br/\Q (.str (a++b))
 |_,_,_=>False
def Fb(K:aq):R2:=λx y H Q=>(NW λi j=>.int (i+j)) x y H Q\/(Fd x y H Q\/(Gs K x y H Q \/∃i j,x=.str i/\y=.str j/\⇑i+⇑j<=br/\Q (.str (i++j)) H))
theorem aCk{K:aq}:O3 K (Fb K) Aa:=by
 intro S H x y J v Q3 Q I l h d k
 cases J with
 |int i =>
  cases v with
  |int j=>symm at l h;show .inl ⟨_,_,l,h,k _ H _ (ξ.refl H) (by symm) d⟩
  |_=>show d.elim
 |str i =>
  cases v with
  |str j=>symm at l h;show .inr (.inr (.inr ⟨_,_,l,h,d.1,k _ H _ (ξ.refl H) (by symm) d.2⟩))
  |_=>show d.elim
 |lst ds =>
  cases v with
  |lst es =>
   symm at l h;obtain⟨a,xs,rfl,A,O,n⟩:=l;obtain⟨b,ys,rfl,z,L,m⟩:=h;show .inr (.inl ⟨a,b,xs,ys,rfl,rfl,A,z,by rw[<- n.len,<- m.len];show d.1,λp o=>k _ _ _ (aH o) ?_ d.2⟩);symm;show⟨p,_,rfl,aN,I p o,aM.fits (.same (aH o)) _ _ (n.append m)⟩
  |_=>show d.elim
 |tup ds =>
  cases v with
  |tup es =>
   symm at l h;obtain⟨a,xs,rfl,A,n⟩:=l;obtain⟨b,ys,rfl,z,m⟩:=h;show .inr (.inr (.inl ⟨a,b,xs,ys,rfl,rfl,eJ.of A,eJ.of z,by rw[<- n.len,<- m.len];show d.1,λe=>?_,λ_ e=>?_,λ_ _ p o=>?_⟩))
   .subst e;have F:ds=[]:=qp.mp n.len;subst F;show k _ H _ (ξ.refl H) (by symm;show⟨b,ys,rfl,z,m⟩) d.2
   .subst e;have F:es=[]:=qp.mp m.len;subst F;have q:=d.2;rw[lr] at q;show k _ H _ (ξ.refl H) (by symm;show⟨a,xs,rfl,A,n⟩) q
   .refine k _ _ _ (aH o) ?_ d.2;symm;show⟨p,_,rfl,aN,aM.fits (.same (aH o)) _ _ (n.append m)⟩
  |_=>show d.elim
 |_=>cases v<;>show d.elim
def ZF:iA X (binaryOp .Add) (Fb X.K):=iA.or aCS (iA.or S5 (iA.or TX HJ))
theorem Uw(h:cC X a ta)(d:cC X b tb):cC X (.BinOp a .Add b ν) (gC Aa ta tb):=WU ZF aCk h d
noncomputable def E_:F2
 |.lst a,.lst b,Q=>⇑a+⇑b<=br/\Q (.lst (a++b))
 |_,_,_=>False
def Zk{a b:av}{L:bo}{z y:WE}(q:cC X a z)(o:cC X b y):EN X (.BinOp a .Add b L) (gC E_ z y):=imp (SN S5 q o) λσ H Q h=>by
 obtain⟨S,ρ,Q3,F,A,O,k⟩:=h;show⟨S,ρ,_,F,A,O,λv H1 d m K q1=>?_⟩;show⟨S,ρ,_,bD F m,Sl.fits (.same m) A,q1,λu H2 U l j q2=>?_⟩;cases d<;>cases U<;>try show q2.elim
 symm at K j;obtain⟨a,xs,rfl,q,Z,J⟩:=K;obtain⟨b,ys,rfl,o,Y,I⟩:=j;have x:=aM.fits (.same l) _ _ J;show⟨a,b,xs,ys,rfl,rfl,l _ _ q,o,by rw[<- J.len,<- I.len];show q2.1,λp n=>k p _ _ _ ((m.trans l).free n) aN ((m.trans l).trans (aH n)) ?_ q2.2⟩;show aM.fits ((Fits.fresh n).trans (.same (aH n))) _ _ (x.append I)
def Uv:WA:=λ_ Q=>Q []
def Zj(a:WE)(t:WA):WA:=λρ Q=>a ρ λd=>t ρ λds=>Q (d::ds)
def Uu:tZ X [] Uv:=TR kR λσ H Q a=>by obtain⟨S,ρ,Q3,j,h,d,k⟩:=a;show k [] H [] (ξ.refl H) aM.nil d
def Zi{e:av}{h:List av}{te:WE}{t:WA}(q:cC X e te)(p:tZ X h t)(o:Zq X e h<|>0):tZ X (e::h) (Zj te t) :=
 TR (fC q p o) λσ H Q z=>by obtain⟨S,ρ,Q3,m,j,n,k⟩:=z;show⟨S,ρ,_,m,j,n,λv H1 d a y q1=>?_⟩;show⟨S,ρ,_,bD m a,Sl.fits (.same a) j,q1,λus A ds l x q2=>?_⟩;show k _ A _ (a.trans l) (aM.cons (Dn.fits (.same l) _ _ y) x) q2
def Us(t:WA):WE:=λρ Q=>t ρ λds=>⇑ds<=br/\Q (.tup ds)
def Ur(t:WA):WE:=λρ Q=>t ρ λds=>⇑ds<=br/\Q (.lst ds)
def Uq{x1}(h:tZ X es t):cC X (.Tuple es x1 ν) (Us t):=imp (aC2 h) λσ H Q o=>by obtain⟨S,ρ,Q3,n,j,m,k⟩:=o;show⟨S,ρ,_,n,j,m,λvs H1 ds l d q1=>⟨by rw[<- d.len];show q1.1,λp a=>k _ _ _ (l.trans (aH a)) ?_ q1.2⟩⟩;symm;show⟨p,_,rfl,aN,aM.fits (.same (aH a)) _ _ d⟩
def Um(h:tZ X es t):EN X (.List es ν) (Ur t):=imp (aC3 h) λσ H Q o=>by obtain⟨S,ρ,Q3,n,l,m,k⟩:=o;show⟨S,ρ,_,n,l,m,λvs H1 ds d j q1=>⟨by rw[<- j.len];show q1.1,λp a=>k p vs _ ds (d.free a) aN (d.trans (aH a)) ?_ q1.2⟩⟩;show aM.fits ((Fits.fresh a).trans (.same (aH a))) _ _ j
end
section
noncomputable def mF(t:WE):WT:=λρ Q=>t ρ λd=>match d with
 |.bl b=>Q b
 |_=>False
theorem OB{K:aq}{t:WE}{σ:L2.St}{H:Hp}{Q:Bool->Hp->Prop}(h:liftT K (mF t) σ H Q):LC (lift K t) σ H Q:=by
 obtain⟨S,ρ,Q3,n,j,m,k⟩:=h;show⟨S,ρ,_,n,j,m,λv H1 d l a q1=>?_⟩
 cases d with
 |bl b=>symm at a;show⟨b,a,k b H1 l q1⟩
 |_=>show q1.elim
def HV(f:∀σ H Q,t' σ H Q->t σ H Q)(h:LC t' σ H Q):LC t σ H Q:=f σ H _ h
def OC(ho:iA X (compareOp op) r)(l:O3 X.K r f)(j:cC X a ta)(h:cC X b tb)(d:behindInMarks op b=ag):cC X (.Compare a [op] [b] ν) (gC f ta tb) :=
 imp (YX ho j h d) λ_ _ _=>pV l
def pW(ho:iA X (compareOp op) r)(m:O3 X.K r f)(l:cC X a ta)(j:cC X b tb)(d:behindInMarks op b=ag):wH X (.Compare a [op] [b] ν) (mF (gC f ta tb)) :=
 TQ (YY ho l j d) λ_ _ _ h=>HV (λ_ _ _=>pV m) (OB h)
theorem rG{K:aq}{g:Int->Int->Bool}:O3 K (NW λi j=>.bl (g i j)) (wJ λi j=>.bl (g i j)):=by
 intro S H x y m l Q3 Q n d a h k;cases m<;>cases l<;>try show h.elim
 symm at d a;show⟨_,_,d,a,k _ H _ (ξ.refl H) (by symm) h⟩
noncomputable def TY:D->D->Bool
 |.non,.non=>ae | .non,.int _=>ae | .int _,.non=>ae | .non,.bl _=>ae | .bl _,.non=>ae | .non,.str _=>ae | .str _,.non=>ae
 |.int _,.int _=>ae | .bl _,.bl _=>ae | .str _,.str _=>ae | .int _,.str _=>ae | .str _,.int _=>ae | .bl _,.str _=>ae | .str _,.bl _=>ae
 |_,_=>ag
noncomputable def eqS:D->D->Bool
 |.non,.non=>ae
 |.int i,.int j=>Zv (i=j)
 |.bl i,.bl j=>Zv (i=j)
 |.str i,.str j=>Zv (i=j)
 |_,_=>ag
def ZG:F2:=λx y Q=>TY x y=ae/\Q (.bl (eqS x y))
def ZH:F2:=λx y Q=>TY x y=ae/\Q (.bl (!eqS x y))
def LQ{K:aq}{S:ah->Prop}{H:Hp}{x y:V}{d a:D}(l:Dn K S H d x)(j:Dn K S H a y)(h:TY d a=ae):Ac x y=ae/\Zv (x=y)=eqS d a:=by
 cases d<;>first
  | (show Zw (show ag=ae from h) bz)
  |skip
 all_goals (cases a<;>first
  | (show Zw (show ag=ae from h) bz)
  | (symm at l j;subst l;subst j;show⟨rfl,by first|show BR|show HH|show BS|show Zy (λh=>by cases h)|show Zx rfl⟩))
def TZ{K:aq}:O3 K Dm ZG:=by intro S H x y n m Q3 Q l h d a k;obtain⟨j,h2⟩:=LQ h d a.1;show⟨j,k _ H _ (ξ.refl H) (by symm;rw[h2]) a.2⟩
theorem T2{K:aq}:O3 K Dl ZH:=by intro S H x y n m Q3 Q l h d a k;obtain⟨j,h2⟩:=LQ h d a.1;show⟨j,k _ H _ (ξ.refl H) (by symm;rw[h2]) a.2⟩
noncomputable def allI:List D->Bool
 |[]=>ae
 |.int _::r=>allI r
 |_::_=>ag
noncomputable def xV(i:Int):List D->Bool
 |[]=>ag
 |.int j::r=>j == i||xV i r
 |_::r=>xV i r
theorem zH:∀ns:Q0e,allI (ns.map D.int)=ae
 |[]=>rfl
 |n::ns=>by rw[bx];show zH ns
theorem zJ(i:Int):∀ns:Q0e,xV i (ns.map D.int)=ns.contains i
 |[]=>rfl
 |n::ns=>by rw[bx,xV,zJ i ns,List.contains_cons];congr 1;show Bool.beq_comm
theorem B5:∀{ds:List D},allI ds=ae ->∃ns:Q0e,ds=ns.map D.int
 |[],_=>⟨[],rfl⟩
 |.int n::r,h=>by obtain⟨ns,e⟩:=B5 (ds:=r) h;show⟨n::ns,by rw[e];rfl⟩
 |.non::r,h=>Zw (show ag=ae from h) bz
 |.bl _::r,h=>Zw (show ag=ae from h) bz
 |.str _::r,h=>Zw (show ag=ae from h) bz
 |.tup _::r,h=>Zw (show ag=ae from h) bz
 |.lst _::r,h=>Zw (show ag=ae from h) bz
 |.k6 _::r,h=>Zw (show ag=ae from h) bz
 |.i8 _ _::r,h=>Zw (show ag=ae from h) bz
 |.a8 _ _ _::r,h=>Zw (show ag=ae from h) bz
def inF(neg:Bool):F2
 |.int i,.tup ds,Q=>allI ds=ae/\Q (.bl (if neg then !xV i ds else xV i ds))
 |.int i,.lst ds,Q=>allI ds=ae/\Q (.bl (if neg then !xV i ds else xV i ds))
 |_,_,_=>False
theorem wK(i:Int):∀ns:Q0e,inV (.int i) (ns.map V.int)=xV i (ns.map D.int)
 |[]=>rfl
 |n::ns=>by have e:=wK i ns;delta inV at e ⊢;rw[bx,bx,mj,xV,e];rfl
theorem rH:∀ns:Q0e,(ns.map V.int).all pS=ae
 |[]=>rfl
 |n::ns=>by rw[bx,vz,rH ns];rfl
theorem T4{K:aq}{neg:Bool}:O3 K (yp K neg) (inF neg):=by
 intro S H x y p o Q3 Q q n d h k
 cases p with
 |int i =>
  symm at n;subst n
  cases o with
  |tup ds =>
   symm at d;obtain⟨a,xs,rfl,j,m⟩:=d;obtain⟨l,h2⟩:=h;obtain⟨ns,rfl⟩:=B5 l;have e:=aM.ints.mp m;subst e;show⟨a,_,rfl,.inr (eJ.of j),rfl,rH ns,k _ H _ (ξ.refl H) ?_ h2⟩;symm;rw[wK]
  |lst ds =>
   symm at d;obtain⟨a,xs,rfl,j,_,m⟩:=d;obtain⟨l,h2⟩:=h;obtain⟨ns,rfl⟩:=B5 l;have e:=aM.ints.mp m;subst e;show⟨a,_,rfl,.inl (c7.of j),rfl,rH ns,k _ H _ (ξ.refl H) ?_ h2⟩;symm;rw[wK]
  |_=>show h.elim
 |_=>cases o<;>show h.elim
section
variable{a b:av}{ν:bo}{ta tb:WE}
def ltF:F2:=wJ λi j=>.bl (Zv (i<j))
def gtF:F2:=wJ λi j=>.bl (Zv (i>j))
def geF:F2:=wJ λi j=>.bl (Zv (i >= j))
def gt3(h:cC X a ta)(d:cC X b tb):cC X (.Compare a [.Gt] [b] ν) (gC gtF ta tb):=OC Gw rG h d (g7 _)
def Uk(h:cC X a ta)(d:cC X b tb):cC X (.Compare a [.Eq] [b] ν) (gC ZG ta tb):=OC Gz TZ h d (g7 _)
def Uj(h:cC X a ta)(d:cC X b tb):cC X (.Compare a [.NotEq] [b] ν) (gC ZH ta tb):=OC Gy T2 h d (g7 _)
def in3(j:cC X a ta)(h:cC X b tb)(d:behindInMarks .In b=ag<|>5):cC X (.Compare a [.In] [b] ν) (gC (inF ag) ta tb):=OC zC T4 j h d
def Ui(h:cC X a ta)(d:cC X b tb):wH X (.Compare a [.Lt] [b] ν) (mF (gC ltF ta tb)):=pW Gx rG h d (g7 _)
def Uh(h:cC X a ta)(d:cC X b tb):wH X (.Compare a [.Gt] [b] ν) (mF (gC gtF ta tb)):=pW Gw rG h d (g7 _)
def Ug(h:cC X a ta)(d:cC X b tb):wH X (.Compare a [.GtE] [b] ν) (mF (gC geF ta tb)):=pW aEz rG h d (g7 _)
def Zh(h:cC X a ta)(d:cC X b tb):wH X (.Compare a [.Eq] [b] ν) (mF (gC ZG ta tb)):=pW Gz TZ h d (g7 _)
def Zg(h:cC X a ta)(d:cC X b tb):wH X (.Compare a [.NotEq] [b] ν) (mF (gC ZH ta tb)):=pW Gy T2 h d (g7 _)
def Ue(j:cC X a ta)(h:cC X b tb)(d:behindInMarks .In b=ag<|>5):wH X (.Compare a [.In] [b] ν) (mF (gC (inF ag) ta tb)):=pW zC T4 j h d
def Zf(j:cC X a ta)(h:cC X b tb)(d:behindInMarks .NotIn b=ag<|>5):wH X (.Compare a [.NotIn] [b] ν) (mF (gC (inF ae) ta tb)):=pW BY T4 j h d
end
noncomputable def isD:D->Bool
 |.non=>ae
 |_=>ag
def ZI:F2:=λx y Q=>isD y=ae/\Q (.bl (isD x))
def T5{K:aq}:O3 K (λx y H Q=>y=.non/\Q (.bl (Zv (x=.non))) H) ZI:=by
 intro S H x y n m Q3 Q o d h j k;obtain⟨l,h2⟩:=j;cases m<;>try show Zw (show ag=ae from l) bz
 symm at h;show⟨h,k _ H _ (ξ.refl H) ?_ h2⟩;cases n<;>symm at d ⊢
 all_goals first
  | (subst d;simp[isD])
  | (obtain⟨a,xs,rfl,_⟩:=d;simp[isD])
  | (obtain⟨a,_,xs,rfl,_⟩:=d;simp[isD])
  | (obtain⟨a,rfl,_⟩:=d;simp[isD])
def Ze(h:cC X a ta)(d:cC X b tb):wH X (.Compare a [.Is] [b] ν) (mF (gC ZI ta tb)):=pW SQ T5 h d (g7 _)
def Ud(h:cC X a ta)(d:cC X b tb):cC X (.Compare a [.Is] [b] ν) (gC ZI ta tb):=OC SQ T5 h d (g7 _)
def Zd(t:WT):WT:=λρ Q=>t ρ λb=>Q (!b)
def Zc(t u:WT):WT:=λρ Q=>t ρ λb=>if b=ae then u ρ Q else Q ag
def Uc(t u:WT):WT:=λρ Q=>t ρ λb=>if b=ae then Q ae else u ρ Q
def QA(X:Cx)(e:av)(t:WT):Prop:=PW X e (liftT X.K t)
def z_(h:PW X e t)(f:∀σ H Q,t' σ H Q->t σ H Q):PW X e t':=λa π s σ H Q I q=>h a π s σ H Q I (f σ H Q q)
section
variable{a b:av}{Θ:List av}{ν:bo}{ta tb:WT}
def QA.pt(h:QA X e t):wH X e t:=PW.pt h
def aF0(l:wH X a ta):wH X (.UnaryOp .Not a ν) (Zd ta):=TQ (aCG l) λσ H Q n=>by obtain⟨S,ρ,Q3,m,d,j,k⟩:=n;show⟨S,ρ,_,m,d,j,λb H1 h q1=>k (!b) H1 h q1⟩
def Tr(d:wH X a ta):QA X (.BoolOp .And [a] ν) ta:=K8 d
def or1(d:wH X a ta):QA X (.BoolOp .Or [a] ν) ta:=aCF d
theorem aF1(o:wH X a ta)(n:QA X (.BoolOp .And (b::Θ) ν) tb):QA X (.BoolOp .And (a::b::Θ) ν) (Zc ta tb):=z_ (SH o n) λσ H Q q=>by
 obtain⟨S,ρ,Q3,j,h,m,k⟩:=q;show⟨S,ρ,_,j,h,m,λc H1 d q1=>?_⟩
 cases c with
 |true=>rw[Z_ rfl] at q1 ⊢;show⟨S,ρ,Q3,bD j d,Sl.fits (.same d) h,q1,λp v l q2=>k p v (d.trans l) q2⟩
 |false=>rw[Zz bz] at q1 ⊢;show k ag H1 d q1
theorem Tp(o:wH X a ta)(n:QA X (.BoolOp .Or (b::Θ) ν) tb):QA X (.BoolOp .Or (a::b::Θ) ν) (Uc ta tb):=z_ (aEf o n) λσ H Q q=>by
 obtain⟨S,ρ,Q3,j,h,m,k⟩:=q;show⟨S,ρ,_,j,h,m,λc H1 d q1=>?_⟩
 cases c with
 |false=>rw[Zz bz] at q1 ⊢;show⟨S,ρ,Q3,bD j d,Sl.fits (.same d) h,q1,λp v l q2=>k p v (d.trans l) q2⟩
 |true=>rw[Z_ rfl] at q1 ⊢;show k ae H1 d q1
end
noncomputable def Tn(d a:WE):WE:=λρ Q=>d ρ λx=>match x with
 |.bl ae=>a ρ Q
 |.bl ag=>Q (.bl ag)
 |_=>False
noncomputable def Tj(a:WE):WE:=λρ Q=>a ρ λx=>match x with
 |.bl b=>Q (.bl (!b))
 |_=>False
def Lp(t:WT)(d a:WE):WE:=λρ Q=>t ρ λb=>if b=ae then d ρ Q else a ρ Q
section
variable{a b c:av}{Θ:List av}{ν:bo}{ta tb:WE}{tc:WT}
def Ti{op}(d:cC X a ta):cC X (.BoolOp op [a] ν) ta:=aCH d
theorem Th(x:cC X a ta)(q:cC X (.BoolOp .And (b::Θ) ν) tb):cC X (.BoolOp .And (a::b::Θ) ν) (Tn ta tb):=imp (aCI x q) λσ H Q z=>by
 obtain⟨S,ρ,Q3,l,j,p,k⟩:=z;show⟨S,ρ,_,l,j,p,λv H1 d h m q1=>?_⟩
 cases d with
 |bl c =>
  symm at m;show⟨c,m,?_⟩
  cases c with
  |true=>rw[Z_ rfl];show⟨S,ρ,Q3,bD l h,Sl.fits (.same h) j,q1,λn A d' o y q2=>k n A d' (h.trans o) y q2⟩
  |false=>rw[Zz bz];show k _ H1 (.bl ag) h (by symm) q1
 |_=>show q1.elim
theorem Tf(n:cC X a ta):cC X (.UnaryOp .Not a ν) (Tj ta):=imp (aCJ n) λσ H Q p=>by
 obtain⟨S,ρ,Q3,o,j,m,k⟩:=p;show⟨S,ρ,_,o,j,m,λv H1 d l h q1=>?_⟩
 cases d with
 |bl c=>symm at h;show⟨c,h,k _ H1 (.bl (!c)) l (by symm) q1⟩
 |_=>show q1.elim
theorem if3(q:wH X c tc)(x:cC X a ta)(v:cC X b tb):cC X (.IfExp c a b ν) (Lp tc ta tb):=imp (EE q x v) λσ H Q y=>by
 obtain⟨S,ρ,Q3,m,j,p,k⟩:=y;show⟨S,ρ,_,m,j,p,λc H1 d q1=>?_⟩
 cases c with
 |true=>rw[Z_ rfl] at q1 ⊢;show⟨S,ρ,Q3,bD m d,Sl.fits (.same d) j,q1,λh o d' l n q2=>k h o d' (d.trans l) n q2⟩
 |false=>rw[Zz bz] at q1 ⊢;show⟨S,ρ,Q3,bD m d,Sl.fits (.same d) j,q1,λh o d' l n q2=>k h o d' (d.trans l) n q2⟩
noncomputable def Tc(ta:WE):WE:=λρ Q=>ta ρ λx=>match x with
 |.int i=>Q (.int (-i))
 |_=>False
theorem Tb(n:cC X a ta):cC X (.UnaryOp .USub a ν) (Tc ta):=imp (aEv aCY n) λσ H Q p=>by
 obtain⟨S,ρ,Q3,o,j,m,k⟩:=p;show⟨S,ρ,_,o,j,m,λv H1 d l h q1=>?_⟩
 cases d with
 |int i=>symm at h;show⟨i,h,k _ H1 (.int (-i)) l (by symm) q1⟩
 |_=>show q1.elim
end
noncomputable def HW(f g:F2)(h d a:WE):WE:=λρ Q=>h ρ λx=>d ρ λy=>f x y λz=>match z with
 |.bl ae=>a ρ λu=>g y u Q
 |.bl ag=>Q (.bl ag)
 |_=>False
theorem HX{K:aq}{r F:R2}{f g:F2}{A y x:WE}{σ:L2.St}{H:Hp}{Q:VK}(Z:O3 K r f)(h2:O3 K F g)(h:lift K (HW f g A y x) σ H Q):SR r F (lift K A) (lift K y) (lift K x) σ H Q:=by
 obtain⟨S,ρ,Q3,l,n,Y,k⟩:=h;show⟨S,ρ,_,l,n,Y,λv H1 d a d1 q1=>?_⟩;show⟨S,ρ,_,bD l a,Sl.fits (.same a) n,q1,λu H2 e j e1 q2=>?_⟩;show Z S H2 v u d e _ _ (bD l (a.trans j)) (Dn.fits (.same j) _ _ d1) e1 q2 λz H3 dz s3 m p=>?_
 cases dz with
 |bl c =>
  symm at m;show⟨c,m,?_⟩
  cases c with
  |false=>rw[Zz bz];show k _ H3 (.bl ag) ((a.trans j).trans s3) (by symm) p
  |true =>
   rw[Z_ rfl];show⟨S,ρ,_,bD l ((a.trans j).trans s3),Sl.fits (.same ((a.trans j).trans s3)) n,p,λI H4 dw o q U=>?_⟩;show h2 S H4 u I e dw Q3 Q (bD l (((a.trans j).trans s3).trans o)) (Dn.fits (.same (s3.trans o)) _ _ e1) q U λJ H5 d' L d5 O=>k J H5 d' ((((a.trans j).trans s3).trans o).trans L) d5 O
 |_=>show p.elim
theorem aCm(ho:iA X (compareOp op) r)(d:iA X (compareOp op') r')(n:O3 X.K r f)(h2:O3 X.K r' g)(m:cC X a ta)(l:cC X b tb)(j:cC X c tc)
  (h:lastMarks [op,op'] [b,c]=ag<|>5):cC X (.Compare a [op,op'] [b,c] ν) (HW f g ta tb tc):=imp (SS ho d m l j h) λ_ _ _=>HX n h2
noncomputable def ixF:F2
 |.lst ds,.int i,Q=>(match sZ ds i with|some d=>Q d|none=>False)
 |.tup ds,.int i,Q=>(match sZ ds i with|some d=>Q d|none=>False)
 |.k6 ns,.int i,Q=>(match sZ ns i with|some n=>Q (.int n)|none=>False)
 |_,_,_=>False
theorem aM.at{K:aq}{S:ah->Prop}{H:Hp}{ds:List D}{xs:List V}{i:Int}{d:D}(h:aM K S H ds xs)(e:sZ ds i=ab d):∃v,sZ xs i=ab v/\Dn K S H d v:=by
 delta sZ at e ⊢;rw[<- h.len]
 cases q:N0 ⇑ds i with
 |none=>rw[q] at e;cases e
 |some j =>
  rw[q] at e;obtain⟨v,e1,dn⟩:=h.get (i:=j) (d:=d) e;show⟨v,e1,dn⟩
theorem ZJ{α a:Type}(f:α->a)(xs:List α)(i:Int):sZ (xs.map f) i=(sZ xs i).map f:=by
 delta sZ;rw[bb]
 cases N0 ⇑xs i with
 |none=>rfl
 |some j=>simp
theorem aF2{K:aq}:O3 K (λx y H Q=>Fg K x y H Q\/Ff K x y H Q) ixF:=by
 intro S H x y z o Q3 Q F l j h k
 cases z with
 |lst ds =>
  cases o with
  |int i =>
   symm at l j;obtain⟨a,xs,rfl,m,A,q⟩:=l;have h:(match sZ ds i with|some d=>Q3 d|none=>False):=h
   cases e:sZ ds i with
   |none=>rw[e] at h;show h.elim
   |some d =>
    rw[e] at h;obtain⟨v,e1,p⟩:=q.at e;show .inl ⟨a,xs,i,v,rfl,j,c7.of m,e1,k v H d (ξ.refl H) p h⟩
  |_=>show h.elim
 |tup ds =>
  cases o with
  |int i =>
   symm at l j;obtain⟨a,xs,rfl,m,q⟩:=l;have h:(match sZ ds i with|some d=>Q3 d|none=>False):=h
   cases e:sZ ds i with
   |none=>rw[e] at h;show h.elim
   |some d =>
    rw[e] at h;obtain⟨v,e1,p⟩:=q.at e;show .inr ⟨a,xs,i,v,rfl,j,(eJ.of m),e1,k v H d (ξ.refl H) p h⟩
  |_=>show h.elim
 |k6 ns =>
  cases o with
  |int i =>
   symm at l j;obtain⟨a,rfl,m⟩:=l;have h:(match sZ ns i with|some n=>Q3 (.int n)|none=>False):=h
   cases e:sZ ns i with
   |none=>rw[e] at h;show h.elim
   |some n =>
    rw[e] at h;show .inl ⟨a,_,i,.int n,rfl,j,m.sq,by rw[ZJ,e];rfl,k _ H (.int n) (ξ.refl H) (by symm) h⟩
  |_=>show h.elim
 |_=>cases o<;>show h.elim
def ix3(j:cC X a ta)(h:cC X b tb)(d:BW b<|>8):cC X (.Subscript a b ν) (gC ixF ta tb) :=
 imp (aFD (Y7.or aC9) j h d) λ_ _ _=>pV aF2
abbrev F1:=List D->(D->Prop)->Prop
def OD(f:F1)(t:WA):WE:=λρ Q=>t ρ λds=>f ds Q
def C3(K:aq)(r:List V->Hp->VK->Prop)(f:F1):Prop:=∀(S:ah->Prop) (H:Hp) (xs:List V) (ds:List D) (Q3:D->Prop) (Q:VK),(∀a,H a=af->S a)->aM K S H ds xs->f ds Q3 ->
 (∀v H' d,ξ H H'->Dn K S H' d v->Q3 d->Q v H')->r xs H Q
def C3F(K:aq)(r:List V->Hp->VK->Prop)(f:F1):Prop:=∀(S:ah->Prop) (H:Hp) (xs:List V) (ds:List D) (Q3:D->Prop) (Q:VK),(∀a,H a=af->S a)->aM K S H ds xs->f ds Q3 ->
 (∀p ys H' d,H p=af->H' p=ab (.lst ys)->ξ H H'->aM K (λa=>S a/\a≠p) H' d ys->Q3 (.lst d)->Q (.ref p) H')->r xs H Q
def LR{K:aq}{r:List V->Hp->VK->Prop}{f:F1}{t:WA}{σ:L2.St}{H:Hp}{Q:VK}(o:C3 K r f)(h:lift K (OD f t) σ H Q):wa r (LO K t) σ H Q:=by obtain⟨S,ρ,Q3,j,l,n,k⟩:=h;show⟨S,ρ,_,j,l,n,λvs H1 ds a p q1=>?_⟩;show o S H1 vs ds Q3 Q (bD j a) p q1 λv H' d s' d' m=>k v H' d (a.trans s') d' m
def EO{K:aq}{r:List V->Hp->VK->Prop}{f:F1}{t:WA}{σ:L2.St}{H:Hp}{Q:VK}(q:C3F K r f)(h:LP K (OD f t) σ H Q):wa r (LO K t) σ H Q:=by obtain⟨S,ρ,Q3,j,l,n,k⟩:=h;show⟨S,ρ,_,j,l,n,λvs H1 ds a x q1=>?_⟩;show q S H1 vs ds Q3 Q (bD j a) x q1 λp ys H' v o d s' d' m=>k p ys H' v (a.free o) d (a.trans s') d' m
def wL{x:aj}{p j:bo}{e:av}{a:List av}{t:WA}{id:String}{r:List V->Hp->VK->Prop}{f:F1}(v:eX X (.builtin id) r)(z:C3 X.K r f)(l:bootBuiltins x=ab (.builtin id))(o:Gl X x)(n:X.mg x=af)(y:tZ X (e::a) t)(m:x ≠ "__name__"<|>1)(h:Zu x<|>1)
  (q:Zq X e a<|>0) (d:Q0k X j a<|>0):cC X (.Call (.Name x p) (e::a) [] j) (OD f t) :=
 imp (mC v o n l y m h q d) λ_ _ _=>LR z
def B6{x:aj}{p j:bo}{e:av}{a:List av}{t:WA}{id:String}{r:List V->Hp->VK->Prop}{f:F1}(v:eX X (.builtin id) r)(z:C3F X.K r f)(l:bootBuiltins x=ab (.builtin id))(o:Gl X x)(n:X.mg x=af)(y:tZ X (e::a) t)(m:x ≠ "__name__"<|>1)(h:Zu x<|>1)
  (q:Zq X e a<|>0) (d:Q0k X j a<|>0):EN X (.Call (.Name x p) (e::a) [] j) (OD f t) :=
 imp (mC v o n l y m h q d) λ_ _ _=>EO z
def ZK(o:eX X (.type T) r)(v:C3 X.K r f)(h:bootBuiltins x=ab (.type T))(m:Gl X x)(l:X.mg x=af)(q:tZ X (e::es) t)(j:x ≠ "__name__"<|>1)(d:Zu x<|>1)
  (n:Zq X e es<|>0) (a:Q0k X ν es<|>0):cC X (.Call (.Name x p) (e::es) [] ν) (OD f t) :=
 imp (m5 o m l h q j d n a) λ_ _ _=>LR v
theorem T6(o:eX X (.type T) r)(v:C3F X.K r f)(h:bootBuiltins x=ab (.type T))(m:Gl X x)(l:X.mg x=af)(q:tZ X (e::es) t)(j:x ≠ "__name__"<|>1)(d:Zu x<|>1)
  (n:Zq X e es<|>0) (a:Q0k X ν es<|>0):EN X (.Call (.Name x p) (e::es) [] ν) (OD f t) :=
 imp (m5 o m l h q j d n a) λ_ _ _=>EO v
noncomputable def B7:F1
 |[.lst ds],Q=>Q (.int ⇑ds)
 |[.tup ds],Q=>Q (.int ⇑ds)
 |[.k6 ns],Q=>Q (.int ⇑ns)
 |_,_=>False
theorem aCn{K:aq}:C3 K (λxs H Q=>∃p ys,xs=[.ref p]/\(c7 K H p ys\/eJ K H p ys)/\Q (.int ⇑ys) H) B7:=by
 intro S H xs ds Q3 Q o l h k
 match ds,h with
 |[.lst es],h =>
  obtain⟨v,r,rfl,d,h2⟩:=l.aY;erw[aM] at h2;subst h2;symm at d;obtain⟨a,ys,rfl,j,n,m⟩:=d;show⟨a,ys,rfl,.inl (c7.of j),k _ H _ (ξ.refl H) (by symm;rw[m.len]) h⟩
 |[.tup es],h =>
  obtain⟨v,r,rfl,d,h2⟩:=l.aY;erw[aM] at h2;subst h2;symm at d;obtain⟨a,ys,rfl,j,m⟩:=d;show⟨a,ys,rfl,.inr (eJ.of j),k _ H _ (ξ.refl H) (by symm;rw[m.len]) h⟩
 |[.k6 ns],h =>
  obtain⟨v,r,rfl,d,h2⟩:=l.aY;erw[aM] at h2;subst h2;symm at d;obtain⟨a,rfl,j⟩:=d;show⟨a,_,rfl,.inl j.sq,k _ H _ (ξ.refl H) (by symm;rw[bb]) h⟩
theorem S_(a:X.mg "len"=af)(j:tZ X [e] t)(d:Gl X "len"<|>0)
  (h:Zq X e []<|>0):cC X (.Call (.Name "len" p) [e] [] ν) (OD B7 t):=wL BZ aCn PySem.boot_len d a j ⋯ ⋯ h (by rfl)
noncomputable def HY:F1
 |[.lst ds],Q=>Q (.tup ds)
 |[.tup ds],Q=>Q (.tup ds)
 |_,_=>False
theorem T7{K:aq}:C3 K (λxs H Q=>∃p ys,xs=[.ref p]/\((c7 K H p ys /\∀l,H l=af->Q (.ref l) (upd H l (.tup ys)))\/(eJ K H p ys/\Q (.ref p) H))) HY:=by
 intro S H xs ds Q3 Q y o h k
 match ds,h with
 |[.lst es],h =>
  obtain⟨v,r,rfl,d,h2⟩:=o.aY;erw[aM] at h2;subst h2;symm at d;obtain⟨a,ys,rfl,j,x,q⟩:=d;show⟨a,ys,rfl,.inl ⟨c7.of j,λl n=>k _ _ _ (aH n) ?_ h⟩⟩;symm;show⟨l,ys,rfl,aN,aM.fits (.same (aH n)) _ _ q⟩
 |[.tup es],h =>
  obtain⟨v,r,rfl,d,h2⟩:=o.aY;erw[aM] at h2;subst h2;have m:=d;symm at d;obtain⟨a,ys,rfl,j,q⟩:=d;show⟨a,ys,rfl,.inr ⟨(eJ.of j),k _ H _ (ξ.refl H) m h⟩⟩
theorem aCo(d:X.mg "tuple"=af)(a:bootBuiltins "tuple"=ab (.type "tuple"))(l:tZ X [e] t)(h:Gl X "tuple"<|>0)
  (j:Zq X e []<|>0):cC X (.Call (.Name "tuple" p) [e] [] ν) (OD HY t):=ZK xT T7 a h d l ⋯ ⋯ j (by rfl)
noncomputable def T8:F1
 |[.lst ds],Q=>Q (.lst ds)
 |[.tup ds],Q=>Q (.lst ds)
 |_,_=>False
theorem ZL{K:aq}:C3F K (λxs H Q=>∃p ys,xs=[.ref p]/\(c7 K H p ys\/eJ K H p ys) /\∀l,H l=af->Q (.ref l) (upd H l (.lst ys))) T8:=by
 intro S H xs ds Q3 Q x o h k
 match ds,h with
 |[.lst es],h =>
  obtain⟨v,r,rfl,j,h2⟩:=o.aY;erw[aM] at h2;subst h2;symm at j;obtain⟨a,ys,rfl,m,q,n⟩:=j;show⟨a,ys,rfl,.inl (c7.of m),λl d=>k l ys _ es d aN (aH d) (aM.fits ((Fits.fresh d).trans (.same (aH d))) _ _ n) h⟩
 |[.tup es],h =>
  obtain⟨v,r,rfl,j,h2⟩:=o.aY;erw[aM] at h2;subst h2;symm at j;obtain⟨a,ys,rfl,m,n⟩:=j;show⟨a,ys,rfl,.inr (eJ.of m),λl d=>k l ys _ es d aN (aH d) (aM.fits ((Fits.fresh d).trans (.same (aH d))) _ _ n) h⟩
def aF3(d:X.mg "list"=af)(a:bootBuiltins "list"=ab (.type "list"))(l:tZ X [e] t)(h:Gl X "list"<|>0)
  (j:Zq X e []<|>0):EN X (.Call (.Name "list" p) [e] [] ν) (OD T8 t):=T6 B0 ZL a h d l ⋯ ⋯ j (by rfl)
abbrev Spec:=List D->(D->Prop)->Prop
def sp3(K:aq)(R:Spec):Sp:=λvs H Q _=>∃(S:ah->Prop) (ds:List D) (Q3:D->Prop),(∀a,H a=af->S a)/\aM K S H ds vs/\R ds Q3 /\∀v H' d,ξ H H'->Dn K S H' d v->Q3 d->Q v H'
theorem aF4(F:jN X.Ω X.w X.K X.mg X.ω iB k f fd ps (sp3 X.K R))(q:d8 k X.A)(y:X.mg x=ab (.ref f))(z:keepIn X.K (.ref f)=ae)(L:Binds X.K fd ps [])
  (O:tZ X (e::es) t) (I:Gl X x<|>0) (h:Zu x<|>1) (J:Zq X e es<|>0) (a:Q0k X ν es<|>0):
  cC X (.Call (.Name x p) (e::es) [] ν) (OD R t):=imp (m4 F q I y z L .nil zF O h J a) λσ H Q Y=>by
 obtain⟨S,ρ,Q3,l,m,o,k⟩:=Y;show⟨S,ρ,_,l,m,o,λvs H1 ds j U q1=>?_⟩;show sp3 X.K R (vs++[]) H1 Q E0;rw[lr];show⟨S,ds,Q3,bD l j,U,q1,λv H' d s' d' n=>k v H' d (j.trans s') d' n⟩
end
structure DE where
 nx:bC->Prop
 rt:D->Prop
 bk:bC->Prop:=λ_=>False
 ct:bC->Prop:=λ_=>False
 ex:aj->Prop:=λ_=>False
abbrev WS:=DE->bC->Prop
structure aCp (X:Cx) (π:Q0b) (H:Hp) (s:ak) (e:ah) (cls a0:ai) (P:List ah):Prop where
 mem:e∈P
 free:∀q∈P,H q=af
 new:∀q∈P,X.s₀.heap.get? q=af
 fld:∀q∈P,∃o vs,s.heap.get? q=ab o/\o.data=.fields vs
 pin:∀q∈P,∀p∈X.pn++π,p.1≠q
 tr:(∃oe vs,s.heap.get? e=ab oe/\oe.cls=cls/\oe.data=.fields vs/\vs[1]?=ab .none/\vs[0]?=ab a0) \/
  (∃oe vs T oT ts,s.heap.get? e=ab oe/\(oe.cls=cls/\vs[0]?=ab a0)/\oe.data=.fields vs/\vs[1]?=ab (.ref T)/\T∈P/\T≠e/\s.heap.get? T=ab oT/\oT.data=.fields ts/\ts[3]?=ab .none)
def XC(X:Cx)(c:aj)(H:Hp):Prop:=∃C:ah,X.mg c=ab (.ref C) /\∀(π:Q0b) (σ:L2.St) (s:ak) (e:ah) (a:ai) (P:List ah),Φ X π σ H s->aCp X π H s e (.ref C) a P->X.xe (.ref e) s
structure aCq (K:aq) (xc:aj->Hp->Prop) (n:Nat) (H₀:Hp) (S:ah->Prop) (G:List (D×V)) (E:DE) (B:Ends):Prop where
 nx:∀w σ H ρ,⇑σ=n->ST K H₀ S w σ H ρ G->E.nx ρ->B.nx σ H
 rt:∀v H d,ξ H₀ H->Dn K S H d v->E.rt d->B.rt v H
 bk:∀w σ H ρ,⇑σ=n->ST K H₀ S w σ H ρ G->E.bk ρ->B.bk σ H
 ct:∀w σ H ρ,⇑σ=n->ST K H₀ S w σ H ρ G->E.ct ρ->B.ct σ H
 ex:∀c H,ξ H₀ H->E.ex c->xc c H
inductive iY (K:aq) (xc:aj->Hp->Prop) (n:Nat) (t:WS) (B:Ends) (σ:L2.St) (H:Hp):Prop
 |mk (H₀:Hp) (S:ah->Prop) (w:Nat->ah) (ρ:bC) (G:List (D×V)) (E:DE) (h1:⇑σ=n) (h2:ST K H₀ S w σ H ρ G) (h3:t E ρ) (h4:aCq K xc n H₀ S G E B):iY K xc n t B σ H
def ER(X:Cx)(a:df)(t:WS):Prop:=PS X a (iY X.K (XC X) ⇑X.N t)
def tG(X:Cx)(a:List df)(t:WS):Prop:=rE X a (iY X.K (XC X) ⇑X.N t)
section
def j6{e:df}{t t':TS}(h:PS X e t)(f:∀B σ H,t' B σ H->t B σ H):PS X e t':=λπ s σ H B I q=>h π s σ H B I (f B σ H q)
def ES(h:rE X e t)(f:∀B σ H,t' B σ H->t B σ H):rE X e t':=λπ s σ H B I q=>h π s σ H B I (f B σ H q)
def aF5:WS:=λE ρ=>E.nx ρ
def zz(t u:WS):WS:=λE ρ=>t {E with nx:=u E} ρ
def Sz:tG X [] aF5:=ES YS λB σ H j=>by obtain⟨H₀,S,w,ρ,G,E,h,a,d,ok⟩:=j;show ok.nx w σ H ρ h a d
def Sx{l:df}{j:List df}{t u:WS}(x:ER X l t)(h2:tG X j u):tG X (l::j) (zz t u):=ES (pO x h2) λB σ H y=>by obtain⟨H₀,S,w,ρ,G,E,v,o,p,ok⟩:=y;show⟨H₀,S,w,ρ,G,{E with nx:=u E},v,o,p,⟨λn m H' a h d q=>⟨H₀,S,n,a,G,E,h,d,q,ok⟩,ok.rt,ok.bk,ok.ct,ok.ex⟩⟩
def aF6{a:df}{t:WS}(d:ER X a t):tG X [a] t:=ES (BQ d) λ_ _ _ h=>h
def Su(t:WE):WS:=λE ρ=>t (bL ρ) E.rt
def Ss(h:cC X e t):ER X (.Return (ab e) ν) (Su t):=j6 (HD h) λB σ H m=>by obtain⟨H₀,S,w,ρ,G,E,n,a,l,ok⟩:=m;show⟨S,bL ρ,E.rt,a.TN,a.all,l,λv H' d s' d' j=>ok.rt v H' d (a.sm.trans s') d' j⟩
def Ub(c:WT)(t u:WS):WS:=λE ρ=>c (bL ρ) λb=>if b=ae then t E ρ else u E ρ
theorem Ua(n:wH X c tc)(p:tG X a t)(o:tG X b u):ER X (.If c a b ν) (Ub tc t u):=j6 (G_ n p o) λB σ H q=>by
 obtain⟨H₀,S,w,ρ,G,E,l,h,m,ok⟩:=q;show⟨S,bL ρ,_,h.TN,h.all,m,λd H1 j q1=>?_⟩
 cases d with
 |true=>rw[Z_ rfl] at q1 ⊢;show⟨H₀,S,w,ρ,G,E,l,h.same j,q1,ok⟩
 |false=>rw[Zz bz] at q1 ⊢;show⟨H₀,S,w,ρ,G,E,l,h.same j,q1,ok⟩
def zy(i:Nat)(t:WE):WS:=λE ρ=>t (gI ρ) λd=>E.nx (ρ.set i (.ro d))
def TM(i:Nat)(t:WE):WS:=λE ρ=>t (gI ρ) λd=>E.nx (ρ.set i (.ow d))
section
variable{i:Nat}{x:aj}{e:av}{t:WE}{ν pos':bo}
def iZ{N:Q0g}{i:Nat}{x:aj}(h:N[i]?=ab x):i<⇑N:=(de.mp h).1
def Tz(hN:X.N.Nodup)(q:cC X e t)(j:X.N[i]?=ab x<|>0)(m:Loc X.env.scope x<|>2)(o:Si X e x pos' ν<|>0)(p:Zp X x<|>2):
  ER X (.Assign [.Name x pos'] e ν) (zy i t):=j6 (oB hN j m q o p) λB σ H y=>by
 obtain⟨H₀,S,w,ρ,G,E,h,a,n,ok⟩:=y;show⟨_,gI ρ,_,a.GG,a.rd,n,λv H' d s' d' l=>ok.nx w _ H' _ (by rw[kb];show h) ((a.same s').kU (by rw[h];show iZ j) d') l⟩
def Tw(hN:X.N.Nodup)(z:EN X e t)(l:X.N[i]?=ab x<|>0)(n:Loc X.env.scope x<|>2)(q:Si X e x pos' ν<|>0)(y:Zp X x<|>2):
  ER X (.Assign [.Name x pos'] e ν) (TM i t):=j6 (oB hN l n z q y) λB σ H A=>by
 obtain⟨H₀,S,w,ρ,G,E,j,a,o,ok⟩:=A;show⟨_,gI ρ,_,a.GG,a.rd,o,λp xs H' ds v h s' d' m=>ok.nx _ _ H' _ (by rw[kb];show j) (a.HU (d:=.lst ds) (by rw[j];show iZ l) s' v ⟨xs,h,d'⟩) m⟩
end
def jO(N:Q0g)(ds:List D):bC:=ds.map Sv.ro++cg (⇑N-⇑ds) Sv.no
def ET{K:aq}{H:Hp}{S:ah->Prop}{N:Q0g}{ds:List D}{vs:List V}(x:∀a,H a=af->S a)(h:aM K S H ds vs):ST K H S (λ_=>0) (L2.start N vs) H (jO N ds) []:=by
 have no:∀(i:Nat) (d:D),(jO N ds)[i]?≠ab (Sv.ow d):=λi d e=>by
  delta jO at e;by_cases l:i<⇑ds
  .rw [kh ↑l,c_] at e
   cases q:ds[i]? with
   |none=>rw[q] at e;cases e
   |some a=>rw[q] at e;cases e
  .rw [ji ↑l,mi] at e;split at e<;>cases e
 have m:∀a,S a->SO S (λ_=>0) (jO N ds) a:=λa s=>⟨s,λi d e=>Zw e (no i d)⟩;show⟨x,ξ.refl H,λi d e=>Zw e (no i d),λi j d e p=>Zw p (no i d),λi d e=>?_,λg o=>(nomatch o),λi _ e=>Zw e (no i _)⟩;delta jO at e;by_cases l:i<⇑ds
 .rw [kh ↑l,c_] at e
  cases q:ds[i]? with
  |none=>rw[q] at e;cases e
  |some a =>
   rw[q] at e;cases e;obtain⟨v,e1,y⟩:=h.get q;show⟨v,?_,Dn.fits (.mono m) _ _ y⟩;delta L2.start;have n:i<⇑vs:=(de.mp e1).1;rw[kh ↑n,c_,e1];rfl
 .rw [ji ↑l,mi] at e;split at e<;>cases e
theorem Tu{P:bh}{w:bg}{K:aq}{mg:Q0d}{ω:a_}{x qual:aj}{l:df}{f:ah}{fd:gw}{N m:Q0g}{k:Nat}{R:Spec}(F:WR K x qual l f fd)(S:dR N m (aL l))(len:∀ds Q,R ds Q->⇑ds=⇑m)
  (j:∀(a:ai) (A:bt) (Γ:List fv) (s:ak) (H:Hp) (E:XK),d8 k (A.deeper (envOfC qual (aL l) ↥s f a)) ->
   ∃t:WS,tG (lB iB P w K mg ω N qual (aL l) f a A Γ s H E).EG (dF l) t /\∀ds Q,R ds Q->t {nx:=λ_=>Q .non,rt:=Q} (jO N ds)):jN P w K mg ω iB (k+1) f fd m (sp3 K R):=by
 show F.ok S (λvs H Q E h=>?_) λa A Γ s H vs Q E J h=>?_
 .obtain ⟨S',ds,Q3,p,dn,r,_⟩:=h;rw[<- dn.len];show len ds Q3 r
 .obtain ⟨t,I,L⟩:=j a A Γ s H E J;obtain⟨S',ds,Q3,p,dn,r,o⟩:=h;show⟨_,I,H,S',λ_=>0,jO N ds,[],{nx:=λ_=>Q3 .non,rt:=Q3},?_,ET p dn,L ds Q3 r,⟨λU y H' z _ n q=>?_,λv H' d s' d' q=>o v H' d s' d' q,λ_ _ _ _ _ _ q=>q,λ_ _ _ _ _ _ q=>q,λ_ _ _ q=>q.elim⟩⟩
  .have Z:=len ds Q3 r;have O:=dn.len;have Y:⇑m<=⇑N:=by have:=congrArg vv S.pre;rw[js] at this;lia
   delta L2.start;show _=⇑N;rw[gk,bb,p_];lia
  .exact o .non H' .non n.sm (by symm) q
end
abbrev WX:=bC->(bC->D->Prop)->Prop
inductive LS (K:aq) (n:Nat) (t:WX) (σ:L2.St) (H:Hp) (Q:VK):Prop
 |mk (H₀:Hp) (S:ah->Prop) (w:Nat->ah) (ρ:bC) (G:List (D×V)) (Q3:bC->D->Prop) (h1:⇑σ=n) (h2:ST K H₀ S w σ H ρ G) (h3:t ρ Q3) (h4:∀w' v H' ρ' d,ST K H₀ S w' σ H' ρ' G->Dn K (SO S w' ρ') H' d v->Q3 ρ' d->Q v H'):LS K n t σ H Q
def GH(X:Cx)(e:av)(t:WX):Prop:=PE X e (LS X.K ⇑X.N t)
def aF7(t:WE):WX:=λρ Q=>t (bL ρ) λd=>d.CP=ae/\Q ρ d
def aCt(t:WE):WX:=λρ Q=>t (gI ρ) λd=>Q ρ d
section
def px3(h:cC X e t):GH X e (aF7 t):=imp h λσ H Q m=>by obtain⟨H₀,S,w,ρ,G,Q3,n,a,l,k⟩:=m;show⟨S,bL ρ,_,a.TN,a.all,l,λv H' d s' d' j=>k w v H' ρ d (a.same s') (Dn.CP j.1 d') j.2⟩
def Sq(h:cC X e t):GH X e (aCt t):=imp h λσ H Q m=>by obtain⟨H₀,S,w,ρ,G,Q3,n,a,l,k⟩:=m;show⟨_,gI ρ,_,a.GG,a.rd,l,λv H' d s' d' j=>k w v H' ρ d (a.same s') d' j⟩
def aF8(t:WX):WS:=λE ρ=>t ρ λa _=>E.nx a
theorem aF9(q:GH X e t)(p:g_ e af ν.line X.env=pure ag<|>0):ER X (.Expr e ν) (aF8 t):=j6 (K9 q p) λB σ H x=>by obtain⟨H₀,S,w,ρ,G,E,h,m,o,ok⟩:=x;show⟨H₀,S,w,ρ,G,_,h,m,o,λl v H' j d a d' n=>ok.nx l _ H' _ h a n⟩
noncomputable def qx(i:Nat)(f:List D->D->(List D->D->Prop)->Prop)(t:WX):WX:=λρ Q=>(match ρ[i]? with|some (.ow (.lst _))=>True|_=>False)/\t ρ λa d=>match a[i]? with
 |some (.ow (.lst ds))=>f ds d λh r=>Q (a.set i (.ow (.lst h))) r
 |_=>False
def M3(K:aq)(r:V->List V->Hp->VK->Prop)(f:List D->D->(List D->D->Prop)->Prop):Prop:=∀(S:ah->Prop) (H:Hp) (p:ah) (xs:List V) (ds:List D) (y:V) (d:D) (Q3:List D->D->Prop) (Q:VK),
 H p=ab (.lst xs)->aM K S H ds xs->Dn K S H d y->f ds d Q3->(∀ys a v d',aM K S H a ys->Dn K S H d' v->Q3 a d'->Q v (upd H p (.lst ys)))->r (.ref p) [y] H Q
theorem ZM{K:aq}{n i:Nat}{r:V->List V->Hp->VK->Prop}{f:List D->D->(List D->D->Prop)->Prop}{t:WX}{σ:L2.St}{H:Hp}{Q:VK}(h3:M3 K r f)(h:LS K n (qx i f t) σ H Q):
  Dk K "list" r (sY i) (rX (LS K n t) Y0) σ H Q:=by
 obtain⟨H₀,S,w,ρ,G,Q3,hl,J,⟨L,ht⟩,k⟩:=h;split at L
 .rename_i ds e;obtain⟨a,b,c⟩:=J.own i _ e;obtain⟨xs,hp,dn⟩:=c;show⟨_,a,.inl ⟨rfl,xs,c7.of hp⟩,H₀,S,w,ρ,G,_,hl,J,ht,λm v H' l d o d' y=>?_⟩;split at y
  .rename_i ds' e';obtain⟨a',b',c'⟩:=o.own i _ e';obtain⟨x,p,I⟩:=c';have ew:w i=m i:=by have z:=a.symm.trans a';have O:=dm (dm z);injection O
   rw[ew];show h3 _ H' (m i) x ds' v d _ Q p I d' y λys q U d2 CS A q2=>?_;have Z:¬ SO S m l (m i):=λ⟨_,z⟩=>z i _ e' rfl;have F:Fits K (SO S m l) (SO S m l) H' (upd H' (m i) (.lst ys)):=.upd (.inl ⟨_,p⟩) Z;have Y:∀a,SO S m l a->SO S m (l.set i (.ow (.lst q))) a:=SO.mono λj f hf=>by
    rcases get_set hf with⟨hj,_,_⟩|⟨_,z⟩
    .subst hj;show⟨_,e'⟩
    .exact ⟨_,z⟩
   show k m U _ _ d2 (o.write (d':=.lst q) e' ⟨ys,aN,aM.fits F _ _ CS⟩) (Dn.fits (F.trans (.mono Y)) _ _ A) q2
  .exact y.elim
 .exact L.elim
theorem m1{i:Nat}{x:aj}{id:String}{name:aj}{e:av}{p apos a:bo}{r:V->List V->Hp->VK->Prop}{f:List D->D->(List D->D->Prop)->Prop}{t:WX}(slot:Slot "list" name id)(m:typeOf (.builtin id)=pure (.type "method_descriptor"))(v:MtR X id r)(A:M3 X.K r f)(y:GH X e t)
  (hN:X.N[i]?=ab x<|>0) (q:xR X.env.scope x<|>3) (z:Zu x<|>1) (n:Zt x<|>1)
  (j:attributeBase (.Name x p) name X.env (eval (.Name x p) X.env)=eval (.Name x p) X.env<|>0)
  (l:Zo X a e<|>0)
  (d:Q0j apos a<|>0) (o:Zq X e []<|>0):
  GH X (.Call (.Attribute (.Name x p) name apos) [e] [] a) (qx i f t) :=
 imp (aFH PySem.F.plainAttrs_list slot m v (iW hN q z n) (fC y kR o) j l d o (by rfl)) λ_ _ _ h=>ZM A h
def zx:List D->D->(List D->D->Prop)->Prop:=λds d Q=>⇑ds<br/\Q (ds++[d]) .non
theorem aCv{K:aq}:M3 K LJ zx:=by intro S H p xs ds y d Q3 Q h dn j a k;show⟨p,xs,y,rfl,rfl,h,by rw[<- dn.len];show a.1,k _ _ _ _ (dn.append (aM.one j)) (by symm) a.2⟩
noncomputable def zw:List D->D->(List D->D->Prop)->Prop
 |ds,.int k,Q=>(-(2^63)<=k/\k<2^63)/\(match N0 ⇑ds k with|some j=>(match ds[j]? with|some d=>Q (ds.eraseIdx j) d|none=>False)|none=>False)
 |_,_,_=>False
theorem aCx{K:aq}:M3 K S3 zw:=by
 intro S H p xs ds y d Q3 Q l dn h a k
 cases d with
 |int i =>
  symm at h;subst h;obtain⟨⟨m,h2⟩,a⟩:=a;split at a
  .rename_i j ej;split at a
   .rename_i dd ed;obtain⟨v,ev,n⟩:=dn.get ed;obtain⟨g1,_⟩:=BV ej;show⟨p,xs,i,j,v,rfl,rfl,l,m,h2,by rw[<- dn.len];show g1,ev,k _ _ _ _ (dn.erase j) n a⟩
   .exact a.elim
  .exact a.elim
 |_=>show a.elim
section
variable{i:Nat}{x:aj}{e:av}{p apos cpos:bo}{t:WX}
def Sm(n:GH X e t)(hN:X.N[i]?=ab x<|>0)(l:xR X.env.scope x<|>3)(o:Zu x<|>1)(j:Zt x<|>1)
  (d:attributeBase (.Name x p) "append" X.env (eval (.Name x p) X.env)=eval (.Name x p) X.env<|>0)
  (h:Zo X cpos e<|>0)
  (a:Q0j apos cpos<|>0) (m:Zq X e []<|>0):
  GH X (.Call (.Attribute (.Name x p) "append" apos) [e] [] cpos) (qx i zx t):=m1 a06 PySem.F.type_list_append zE aCv n hN l o j d h a m
def Sk(n:GH X e t)(hN:X.N[i]?=ab x<|>0)(l:xR X.env.scope x<|>3)(o:Zu x<|>1)(j:Zt x<|>1)
  (d:attributeBase (.Name x p) "pop" X.env (eval (.Name x p) X.env)=eval (.Name x p) X.env<|>0)
  (h:Zo X cpos e<|>0)
  (a:Q0j apos cpos<|>0) (m:Zq X e []<|>0):
  GH X (.Call (.Attribute (.Name x p) "pop" apos) [e] [] cpos) (qx i zw t):=m1 a04 PySem.F.type_list_pop S4 aCx n hN l o j d h a m
end
def zv(ρ:bC)(i:Nat):Prop:=match ρ[i]? with
 |some (.ow (.lst _))=>True
 |_=>False
def Sj(i:Nat)(t:WX)(h:WE):WS:=λE ρ=>t ρ λa d=>zv a i/\h (bL a) λk=>match a[i]?,k with
 |some (.ow (.lst ds)),.int k=>(match N0 ⇑ds k with|some j=>E.nx (a.set i (.ow (.lst (ds.set j d))))|none=>False)
 |_,_=>False
theorem put3(he:GH X e t)(hk:cC X k tk)
  (hN:X.N[i]?=ab x<|>0) (Z:xR X.env.scope x<|>3) (hd:Zu x<|>1) (y:Zt x<|>1)
  (ha:∀v,assign (.Subscript (.Name x p) k pos') X.env v=(do
   let ov <- holding [v] (eval (.Name x p) X.env)
   let iv <- holding [v,ov] (eval k X.env)
   standAt pos'
   holding [v,ov,iv] (setItem ov iv v)
   release [v,ov,iv] []):=by intro _;rfl)
  (hs:swapsWithSole [.Subscript (.Name x p) k pos'] e ν.line X.env=pure ag<|>0) (hw:swappedStores [.Subscript (.Name x p) k pos'] e X.env=pure af<|>0)
  (h1:(fw [.Subscript (.Name x p) k pos'] X.env).map (·.2)=[assign (.Subscript (.Name x p) k pos') X.env]<|>0):
  ER X (.Assign [.Subscript (.Name x p) k pos'] e ν) (Sj i t tk):=j6 (aCN he (aCL (iW hN Z hd y) hk set_list ha) hs hw h1) λB σ H Sg=>by
 obtain⟨H₀,S,w,ρ,G,E,J,U,ht,ok⟩:=Sg;show⟨H₀,S,w,ρ,G,_,J,U,ht,λm v H' h d l d' q=>?_⟩;obtain⟨o,q⟩:=q;delta zv at o;split at o
 .rename_i ds0 e0;obtain⟨a0,_,_⟩:=l.own i _ e0;show⟨_,a0,S,bL h,_,l.TN,l.all,q,λkv O dk A L q2=>?_⟩;split at q2
  .rename_i ds k' e1;symm at L;split at q2
   .rename_i j ej;have n:=l.same A;obtain⟨a,b,c⟩:=n.own i _ e1;obtain⟨xs,I,dn⟩:=c;have Y:¬ SO S m h (m i):=λ⟨_,z⟩=>z i _ e1 rfl;have F:Fits X.K (SO S m h) (SO S m h) O (upd O (m i) (.lst (xs.set j v))):=.upd (.inl ⟨_,I⟩) Y;show⟨m i,xs,k',j,rfl,L,I,by rw[<- dn.len];show ej,ok.nx m σ _ _ J (n.write (d':=.lst (ds.set j d)) e1 ⟨_,aN,aM.fits F _ _ (dn.set j (Dn.fits (.same A) _ _ d'))⟩) q2⟩
   .exact q2.elim
  .exact q2.elim
 .exact o.elim
end
structure Wlk (K:aq) (J:It) (ds:List D) (G:List (D×V)):Prop where
 go:∀(S:ah->Prop) (H:Hp),(∀a,H a=af->S a)->(∀g∈G,Dn K S H g.1 g.2) ->∀(i:Nat) (d:D),ds[i]?=ab d->J.go i H /\∀x H',J.yld i H x H'->ξ H H'/\Dn K S H' d x
 stop:∀(S:ah->Prop) (H:Hp),(∀g∈G,Dn K S H g.1 g.2) ->∀i:Nat,⇑ds=i->J.stop i H
abbrev WI:=cN->(List D->Prop)->Prop
inductive T9 (K:aq) (t:WI) (σ:L2.St) (H:Hp) (R:(It->Hp->Prop)):Prop
 |mk (S:ah->Prop) (ρ:cN) (Q3:List D->Prop) (h1:(∀a,H a=af->S a)) (h2:Sl K S H ρ σ) (h3:t ρ Q3) (h4:∀J H' ds G,ξ H H'->(∀g∈G,Dn K S H' g.1 g.2)->Wlk K J ds G->Q3 ds->R J H'):T9 K t σ H R
def UA(X:Cx)(a iter:av)(t:WI):Prop:=PI X a iter (T9 X.K t)
section
variable{tg:av}
theorem HZ(h:PI X tg e t)(f:∀σ H R,t' σ H R->t σ H R):PI X tg e t':=λπ s σ H R I q=>h π s σ H R I (f σ H R q)
noncomputable def Zb(t:WE):WI:=λρ Q=>t ρ λd=>match d with
 |.lst ds=>Q ds
 |.tup ds=>Q ds
 |_=>False
theorem UB{K:aq}{a:ah}{ds:List D}:Wlk K (Itl K a) ds [(.lst ds,.ref a)] where
 go:=λS H q m i d e=>by have h:=m _ (dh.mpr rfl);symm at h;obtain⟨b,xs,j,l,n,dn⟩:=h;injection j with j;subst j;obtain⟨v,ev,p⟩:=dn.get e;show⟨⟨xs,v,c7.of l,ev⟩,λx H' y=>?_⟩;obtain⟨e1,y⟩:=y;subst e1;have ex:=y xs (c7.of l);rw[ev] at ex;cases ex;show⟨ξ.refl _,p⟩
 stop:=λS H m i o=>by have h:=m _ (dh.mpr rfl);symm at h;obtain⟨b,xs,j,l,n,dn⟩:=h;injection j with j;subst j;show⟨xs,c7.of l,by rw[<- dn.len];show p0 o⟩
theorem ZO{K:aq}{a:ah}{ds:List D}:Wlk K (Itt K a) ds [(.tup ds,.ref a)] where
 go:=λS H p m i d e=>by have h:=m _ (dh.mpr rfl);symm at h;obtain⟨b,xs,j,l,dn⟩:=h;injection j with j;subst j;obtain⟨v,ev,o⟩:=dn.get e;show⟨⟨xs,v,(eJ.of l),ev⟩,λx H' y=>?_⟩;obtain⟨e1,y⟩:=y;subst e1;have ex:=y xs (eJ.of l);rw[ev] at ex;cases ex;show⟨ξ.refl _,o⟩
 stop:=λS H m i n=>by have h:=m _ (dh.mpr rfl);symm at h;obtain⟨b,xs,j,l,dn⟩:=h;injection j with j;subst j;show⟨xs,(eJ.of l),by rw[<- dn.len];show p0 n⟩
def aCz(F:PE X l tl):PI X tg l (λσ H R=>tl σ H λx H1=>∃a,x=.ref a/\(((∃xs,c7 X.K H1 a xs)/\R (Itl X.K a) H1)\/((∃xs,eJ X.K H1 a xs)/\R (Itt X.K a) H1))):=by
 intro π s σ H R I h;show dI (F π s σ H _ I h) λv d J=>?_;obtain⟨x,H1,j,r1,q1⟩:=J;obtain⟨a,e,q⟩:=q1;subst e;cases r1;rcases q with⟨⟨xs,m⟩,q⟩|⟨⟨xs,m⟩,q⟩
 .obtain ⟨y,z,p,A⟩:=j.list m;show wt p.isList ?_;show⟨↥d,[↥d],_,_,H1,rfl,j.kept (t':=d.toks) λb o e=>cx _ e,y4 a _,⟨_,d_ _ rfl,rfl,rfl⟩,λb n=>?_,q⟩;have e:b=↥d:=by simpa using n
  subst e;show j.vU (bq _) (j.hok.fresh (bq _))
 .obtain ⟨y,z,p,A⟩:=j.tuple m;show ur (show d.heap.IsTuple a y.toArray from p) ?_;show⟨↥d,[↥d],_,_,H1,rfl,j.kept (t':=d.toks) λb o e=>cx _ e,HE a _,⟨_,d_ _ rfl,rfl,rfl⟩,λb n=>?_,q⟩;have e:b=↥d:=by simpa using n
  subst e;show j.vU (bq _) (j.hok.fresh (bq _))
theorem Za(h:cC X l t):UA X tg l (Zb t):=HZ (aCz h) λσ H R A=>by
 obtain⟨S,ρ,Q3,y,q,x,k⟩:=A;show⟨S,ρ,_,y,q,x,λv H1 d p m q1=>?_⟩
 cases d with
 |lst ds =>
  have j:=m;symm at m;obtain⟨a,xs,rfl,o,F,z⟩:=m;show⟨a,rfl,.inl ⟨⟨xs,c7.of o⟩,k _ H1 ds [(.lst ds,.ref a)] p (λg n=>by cases dh.mp n;show j) UB q1⟩⟩
 |tup ds =>
  have j:=m;symm at m;obtain⟨a,xs,rfl,o,z⟩:=m;show⟨a,rfl,.inr ⟨⟨xs,(eJ.of o)⟩,k _ H1 ds [(.tup ds,.ref a)] p (λg n=>by cases dh.mp n;show j) ZO q1⟩⟩
 |_=>show q1.elim
def mG(lo:Int)(n:Nat):List Int:=(cj n).map λk:Nat=>lo+(k:Int)
def mH(lo:Int)(n:Nat):⇑(mG lo n)=n:=by simp[mG]
def UC{lo:Int}{n i:Nat}:(mG lo n)[i]?=if i<n then ab (lo+(i:Int)) else af:=by
 delta mG;rw[c_];by_cases h:i<n
 .rw [Z_ h,qr h];rfl
 .rw [Zz h,ig ↑h];rfl
theorem zK{K:aq}{lo:Int}{n:Nat}:Wlk K (Itr lo n) ((mG lo n).map D.int) [] where
 go:=λS H m j i d e=>by
  rw[c_,UC] at e;by_cases h:i<n
  .rw [Z_ h] at e;cases e;show⟨h,λx H' y=>?_⟩;obtain⟨e1,l⟩:=y;subst e1;show⟨ξ.refl _,by symm;show l⟩
  .rw [Zz h] at e;cases e
 stop:=λS H j i a=>by rw[bb,mH] at a;show p0 a
noncomputable def aDA(t:WA):WI:=λρ Q=>t ρ λds=>match ds with
 |[.int j]=>(-(2^62)<=j/\j<2^62)/\Q ((mG 0 j.toNat).map D.int)
 |_=>False
noncomputable def ZP(t:WA):WI:=λρ Q=>t ρ λds=>match ds with
 |[.int i,.int j]=>(-(2^62)<=i/\i<2^62 /\ -(2^62)<=j/\j<2^62)/\Q ((mG i (j-i).toNat).map D.int)
 |_=>False
def aDB(q:X.mg "range"=af)(x:tZ X [a] t)(d:Gl X "range"<|>0)(o:ar [a] X.env=[(ag,eval a X.env)]<|>0):UA X tg (.Call (.Name "range" p) [a] [] ν) (aDA t) :=
 HZ (NT d q x o) λσ H R A=>by
  obtain⟨S,ρ,Q3,y,l,n,k⟩:=A;show⟨S,ρ,_,y,l,n,λvs H1 ds m z q1=>?_⟩;split at q1
  .rename_i j;obtain⟨v,r,rfl,h,h2⟩:=z.aY;erw[aM] at h2;subst h2;symm at h;subst h;show⟨j,rfl,q1.1.1,q1.1.2,k _ H1 _ [] m (λg d=>nomatch d) zK q1.2⟩
  .exact q1.elim
theorem ZQ(z:X.mg "range"=af)(A:tZ X [a,b] t)(h:Gl X "range"<|>0)(y:ar [a,b] X.env=[(ag,eval a X.env),(ag,eval b X.env)]<|>0)(d:ar [b] X.env=[(ag,eval b X.env)]<|>0):UA X tg (.Call (.Name "range" p) [a,b] [] ν) (ZP t) :=
 HZ (NU h z A y d) λσ H R J=>by
  obtain⟨S,ρ,Q3,F,o,x,k⟩:=J;show⟨S,ρ,_,F,o,x,λvs H1 ds q I q1=>?_⟩;split at q1
  .rename_i i j;obtain⟨v,r,rfl,n,h2⟩:=I.aY;obtain⟨K,L,rfl,m,l⟩:=h2.aY;erw[aM] at l;subst l;symm at n m;subst n m;show⟨i,j,rfl,q1.1,k _ H1 _ [] q (λg h=>nomatch h) zK q1.2⟩
  .exact q1.elim
abbrev WG:=D->bC->(bC->Prop)->Prop
inductive Gr (K:aq) (n:Nat) (g:WG) (v:V) (σ:L2.St) (H:Hp) (Q:(L2.St->Hp->Prop)):Prop
 |mk (H₀:Hp) (S:ah->Prop) (w:Nat->ah) (ρ:bC) (G:List (D×V)) (d:D) (Q3:bC->Prop) (h1:⇑σ=n) (h2:ST K H₀ S w σ H ρ G) (h3:Dn K (SO S w ρ) H d v) (h4:g d ρ Q3) (h5:∀σ' H' ρ',⇑σ'=n->ST K H₀ S w σ' H' ρ' G->Q3 ρ'->Q σ' H'):Gr K n g v σ H Q
def PG3(X:Cx)(tg:av)(g:WG):Prop:=PG X tg (Gr X.K ⇑X.N g)
def OE(h:PG X e t)(f:∀v σ H Q,t' v σ H Q->t v σ H Q):PG X e t':=λπ s σ H v u Q I r q=>h π s σ H v u Q I r (f v σ H Q q)
def gN(i:Nat):WG:=λd ρ Q=>Q (ρ.set i (.ro d))
theorem Y_(hN:X.N.Nodup)(h:X.N[i]?=ab x<|>0)(l:Loc X.env.scope x<|>2)(n:Zp X x<|>2):PG3 X (.Name x ν) (gN i) :=
 OE (kO hN h l n) λv σ H Q o=>by obtain⟨H₀,S,w,ρ,G,d,Q3,a,j,dn,m,k⟩:=o;show k _ H _ (by rw[kb];show a) (j.kU (by rw[a];show iZ h) dn) m
noncomputable def g2(i j:Nat):WG:=λd ρ Q=>match d with
 |.tup [d1,d2]=>Q ((ρ.set i (.ro d1)).set j (.ro d2))
 |_=>False
def Yz(hc:X.calm=ae)(hN:X.N.Nodup)(O:X.N[i]?=ab x<|>0)(L:X.N[j]?=ab y<|>0)(hx:Loc X.env.scope x<|>2)(hy:Loc X.env.scope y<|>2)
  (K:Zp X x<|>2) (J:Zp X y<|>2)
  (hn:Q0i X x y px py<|>0) (q:Q0h X x y px py<|>0)
  (F:H0 X x y px py<|>0) (A:gV X y py<|>0):
  PG3 X (.Tuple [.Name x px,.Name y py] k ν) (g2 i j) :=
 OE (SI (n:=2) hc (pP (kO hN O hx K) (pP (kO hN L hy J) LA A) F) hn q) λv σ H Q Rz=>by
  obtain⟨H₀,S,w,ρ,G,d,Q3,I,Z,dn,h,k⟩:=Rz;delta g2 at h;split at h
  .rename_i d1 d2;symm at dn;obtain⟨a,xs,rfl,ha,da⟩:=dn;obtain⟨Y,r1,rfl,h1,h2⟩:=da.aY;obtain⟨l,r2,rfl,h3,U⟩:=h2.aY;erw[aM] at U;subst U;show⟨a,_,rfl,(eJ.of ha),rfl,Y,[l],rfl,l,[],rfl,rfl,?_⟩;have p:=Z.kU (i:=i) (by rw[I];show iZ O) h1;have m:∀a,SO S w ρ a->SO S w (ρ.set i (.ro d1)) a:=SO.mono λn f K=>by
    rcases get_set K with⟨_,z,_⟩|⟨_,z⟩
    .cases z
    .exact ⟨_,z⟩
   have o:=p.kU (i:=j) (d:=d2) (v:=l) (by rw[kb,I];show iZ L) (Dn.fits (.mono m) _ _ h3);show k _ H _ (by rw[kb,kb];show I) o h
  .exact h.elim
def Ry(j:WI)(g:WG)(l:WS):WS:=λE ρ=>j (gI ρ) λds=>∃Φ:Nat->bC->Prop,Φ 0 ρ /\
 (∀(i:Nat) (d:D) (a:bC),ds[i]?=ab d->Φ i a->g d a λh=>l {E with nx:=Φ (i+1),ct:=Φ (i+1),bk:=E.nx} h) /\∀a,Φ ⇑ds a->E.nx a
theorem Rx(hc:X.calm=ae)(hp:uw (au X.Ω X.w) X.A X.env X.xe)(hi:UA X tg iter ti)(p:PG3 X tg g)(hb:tG X body tb)
  (hs:Zn X iter<|>4):ER X (.For tg iter body [] ν) (Ry ti g tb):=j6 (aCP hp hc hi p hb hs) λB σ H Ru=>by
 obtain⟨H₀,S,w,ρ,G,E,hl,I,ht,ok⟩:=Ru;show⟨_,gI ρ,_,I.GG,I.rd,ht,λJ H1 ds Y s1 hg1 wk q1=>?_⟩;obtain⟨Iv,h0,turn,fin⟩:=q1;have O:∀{w σ H ρ},ST X.K H₀ S w σ H ρ (Y++G)->ST X.K H₀ S w σ H ρ G:=λI=>I.ghost λg p=>I.gh g (ir _ p);show⟨λi m σ H=>m=⇑ds-i/\i<=⇑ds/\⇑σ=⇑X.N /\∃w ρ,ST X.K H₀ S w σ H ρ (Y++G)/\Iv i ρ,
  ⟨_,rfl,ic _,hl,w,ρ,(I.same s1).ghost λg p=>(ie.mp p).elim (λz=>hg1 g z) λz=>(I.same s1).gh g z,h0⟩,?_⟩
 rintro i m Z H2 ⟨rfl,hi2,U,w2,o,n,iv⟩;by_cases L:i<⇑ds
 .refine .inr ?_;obtain⟨g1,g2⟩:=wk.go _ H2 n.GG (λg p=>n.gh g (lh _ p)) i ds[i] (by simp[L]);show⟨g1,λa H'=>⇑a=⇑X.N /\∃w ρ,ST X.K H₀ S w a H' ρ (Y++G)/\Iv (i+1) ρ,λa H' ⟨l,F,h,j,iv'⟩=>⟨⇑ds-(i+1),∅,rfl,L,l,F,h,j,iv'⟩,λx H' y=>?_⟩;obtain⟨s3,dx⟩:=g2 x H' y;show⟨H₀,S,w2,o,Y++G,ds[i],_,U,n.same s3,dx,turn i ds[i] o (by simp[L]) iv,λσ4 H4 ρ4 hl4 st4 q4=>?_⟩;show⟨H₀,S,w2,ρ4,Y++G,_,hl4,st4,q4,⟨λF a H' h l j q=>⟨l,F,h,j,q⟩,λv H' d s' d' q=>ok.rt v H' d s' d' q,λF a H' h l j q=>ok.nx F a H' h l (O j) q,λF a H' h l j q=>⟨l,F,h,j,q⟩,ok.ex⟩⟩
 .have e:i=⇑ds:=∅
  subst e;show .inl ⟨wk.stop _ H2 (λg p=>n.gh g (lh _ p)) _ rfl,ok.nx w2 Z H2 o U (O n) (fin o iv)⟩
end
theorem wM(h:∀x∈scope.names,x.2=.free ->∃c,env.cells.lookup x.1=ab c):
  ∃d,closureFor scope env=pure d/\(∀x∈scope.names,x.2=.free->d.lookup x.1=env.cells.lookup x.1) /\∀x c,d.lookup x=ab c->env.cells.lookup x=ab c:=by
 have go:∀(l:List (aj×jy)) (j:List (aj×ah)),(∀x∈l,x.2=.free ->∃c,env.cells.lookup x.1=ab c)->(∀x c,j.lookup x=ab c->env.cells.lookup x=ab c) ->
   ∃d,(forIn l j λ(x:aj×jy) (O:List (aj×ah))=>(match x with|(name,kind)=>if(kind == kl)=ae then(do let c <- cellOf env name;pure (qb ((name,c)::O))) else pure (qb O):gr (ForInStep (List (aj×ah)))))=pure d /\
    (∀x c,j.lookup x=ab c->d.lookup x=ab c)/\(∀x∈l,x.2=.free->d.lookup x.1=env.cells.lookup x.1) /\∀x c,d.lookup x=ab c->env.cells.lookup x=ab c:=by
  intro l
  induction l with
  |nil=>intro j _ p;show⟨j,by rw[ye],λ_ _ z=>z,λx a=>(nomatch a),p⟩
  |cons y l ih =>
   intro j I p;by_cases A:y.2=.free
   .obtain ⟨c,F⟩:=I y cz A;have J:∀x n,((y.1,c)::j).lookup x=ab n->env.cells.lookup x=ab n:=λx n a=>by
     rw[vt] at a;split at a
     .rename_i e;cases a;rw[eq_of_beq e];show F
     .exact p x n a
    obtain⟨d,e,v,h2,q⟩:=ih ((y.1,c)::j) (λx a=>I x (fq _ a)) J;show⟨d,?_,λx n a=>?_,λx a m=>?_,q⟩
    .rw [oy,<- e];have e1:(y.2 == kl)=ae:=by rw[A];rfl
     have L:cellOf env y.1=pure c:=by delta cellOf;rw[F]
     obtain⟨U,X⟩:=y;dsimp only at e1 L ⊢;rw[Z_ e1,L];rfl
    .by_cases o:x=y.1
     .subst o;have Y:((y.1,c)::j).lookup y.1=ab c:=by simp
      have K:=p _ _ a;rw[F] at K;cases K;show v _ _ Y
     .refine v x n ?_;rw[vt];have:(x == y.1)=ag:=by simpa using o
      rw[this];show a
    .rcases bu.mp a with rfl|a
     .rw [F];show v _ _ (by simp)
     .exact h2 x a m
   .obtain ⟨d,e,v,h2,q⟩:=ih j (λx a=>I x (fq _ a)) p;show⟨d,?_,v,λx a m=>?_,q⟩
    .rw [oy,<- e];have e1:¬ (y.2 == kl)=ae:=by simpa using A
     obtain⟨U,X⟩:=y;dsimp only at e1 ⊢;rw[Zz e1];rfl
    .rcases bu.mp a with rfl|a
     .exact Zw m A
     .exact h2 x a m
 obtain⟨d,e,_,h2,q⟩:=go scope.names [] h (λx c z=>by simp at z);show⟨d,?_,h2,q⟩;have Z:=congrArg (λt=>t >>= λr=>(pure r:gr (List (aj×ah)))) e;show Z
theorem gP:∀(l:List (aj×jy)) (n:Nat) (own a:List (aj×ah)),cellsFrom n l (own++a)=cellsFrom n l own++a
 |[],_,_,_=>rfl
 | (x,k)::r,n,own,a=>by
  delta cellsFrom;split
  .exact gP r (n+1) ((x,n)::own) a
  .exact gP r n own a
theorem i5:∀(l:List (aj×jy)) (n:Nat) (own:List (aj×ah)) (p:aj×ah),p∈cellsFrom n l own->p∈own\/(p.1,my)∈l
 |[],_,_,_,h=>.inl h
 | (x,k)::r,n,own,p,h=>by
  delta cellsFrom at h;split at h
  .rename_i hk;rcases i5 r _ _ p h with h|h
   .rcases bu.1 h with rfl|h
    .exact .inr (by rw[<- eq_of_beq hk];show cz)
    .exact .inl h
   .exact .inr (fq _ h)
  .rcases i5 r _ _ p h with h|h
   .exact .inl h
   .exact .inr (fq _ h)
theorem jP:∀(l:List (aj×jy)) (n:Nat) (own:List (aj×ah)) (x:aj),((∃c,own.lookup x=ab c)\/(x,my)∈l) ->∃c,(cellsFrom n l own).lookup x=ab c
 |[],_,_,_,h=>h.elim id λz=>(nomatch z)
 | (y,k)::r,n,own,x,h=>by
  delta cellsFrom;split
  .refine jP r _ _ x ?_;by_cases e:x=y
   .exact .inl ⟨n,by rw[e,vt,beq_self_eq_true]⟩
   .rcases h with⟨c,h⟩|h
    .exact .inl ⟨c,by rw[vt,beq_eq_false_iff_ne.mpr e];show h⟩
    .rcases bu.mp h with z|z
     .exact Zw (Jv z).1 e
     .exact .inr z
  .rename_i hk;show jP r _ _ x (h.imp_right λz=>?_);rcases bu.mp z with z|z
   .rw [<- (Jv z).2] at hk;show Zw rfl hk
   .exact z
theorem OG{M:r6}{A:bt}{E:Q0c}{s:ak}{sc:gn}{g:ah}{j:List (aj×ah)}{q:aj}{f:Option ah}{code:ai}{env:fv}{bl:ah}{Q:fv->ak->Prop}
  (h:∀a:a_,a.Ns ↥s (λ_=>af)->(∀b o,s.heap.get? b=ab o->a.get? b=ab o)->CellsOk a (↥s+1) (cellsFrom (↥s+1) sc.names []) ->
   Q (newEnv sc ↥s g (cellsFrom (↥s+1) sc.names j) q f code (ab env) bl) {s with heap:=a}):
  ax M A (newFunctionEnv sc g j [] q f code (ab env) bl) Q E s:=by
 delta newFunctionEnv;show ao (wpAny_alloc (ao (wpAny_layCells _ (λx k c=>by cases e:k == my<;>simp[e]) _ _ _ _ ?_)));have d:∀o:ay,(s.heap.push o).objs.size=↥s+1:=λo=>oo ..;have ok:=λo=>cellsFrom_ok sc.names (s.heap.push o) (↥s+1) [] ⟨λ_ _ z=>(nomatch z),.nil⟩ (by rw[d];show bq _);erw[d] at ok ⊢;rw[ye];show ao (az (az (h _ ((Heap.Ns.new s.heap _).keeps (a0v _ _)) (λb o e=>a0v _ _ b o (cx _ e)) (ok _))))
def blk(X:Cx)(N:Q0g)(sc:gn)(a:List (aj×ah))(C:ah)(pn:Q0b)(ex:List ah)(s₀:ak)(H₀:Hp):Cx :=
 {X with N:=N,s₀:=s₀,H₀:=H₀,env:=compEnvC sc a C X.env,Γ:=X.stack,stack:=X.stack,ex:=ex,fn:=λx=>sc.names.lookup x == ab my,pn:=pn,xe:=λ_ _=>False}
def EU(nl:Nat)(fr:List Nat)(σ:L2.St):L2.St:=cg nl af++fr.map λj=>(σ[j]?).join
structure EV (X:Cx) (ls fs:Q0g) (fr:List Nat) (sc:gn):Prop where
 kind:sc.kind=.function
 nd:(ls++fs).Nodup
 uniq:∀x∈sc.names,sc.names.lookup x.1=ab x.2
 free:∀x∈sc.names,x.2=.free->X.env.kindOf x.1=ab .cell\/X.env.kindOf x.1=ab .free
 slot:∀(k:Nat) (x:aj),fs[k]?=ab x ->∃j,fr[k]?=ab j/\X.N[j]?=ab x/\(x,kl)∈sc.names/\sc.names.lookup x=ab .free
 B7:⇑fr=⇑fs
theorem sC(t:aj->jy->jy)(x:aj):∀l:List (aj×jy),(l.map λp=>(p.1,t p.1 p.2)).lookup x=(l.lookup x).map (t x)
 |[]=>rfl
 | (n,k)::r=>by
  rw[bx,vt,vt];by_cases a:(x == n)=ae
  .rw [a,eq_of_beq a];rfl
  .rw [Lh] at a;rw[a];show sC t x r
theorem wN{sc:gn}{env:fv}{x:aj}{l:List (aj×jy)}:(l.map λ(n,k)=>if(k == kl&&env.scope.kind == .function&&env.kindOf n == ab .cell) then(n,my) else(n,k)).lookup x =
  (l.lookup x).map λk=>if(k == kl&&env.scope.kind == .function&&env.kindOf x == ab .cell) then my else k:=by
 rw[<- sC (λy k=>if(k == kl&&env.scope.kind == .function&&env.kindOf y == ab .cell) then my else k) x l];show congrArg (List.lookup x) (mh λp _=>?_);dsimp only;split<;>rfl
def ne_size{b c:ah}{h:a_}{o:ay}(e:h.get? b=ab o)(a:c=h.objs.size):b≠c:=λz=>jr _ (by have q:=cf e;rw[z,a] at q;show q)
def EW{b c:ah}{n:Nat}(h:b<n)(a:n<=c):b≠c:=λz=>jr c (gu (z▸h) a)
theorem ZR{ls fs:Q0g}{fr:List Nat}{sc:gn}{h:List (aj×ah)}{C:ah}{π:Q0b}{ex:List ah}{σ:L2.St}{H:Hp}{s U:ak}(B:EV X ls fs fr sc)(I:Φ X π σ H s)
  (hcl:∀x∈sc.names,x.2=.free->h.lookup x.1=X.env.cells.lookup x.1) (j7:∀x c,h.lookup x=ab c->X.env.cells.lookup x=ab c\/(C<c/\U.heap.IsCell c af)) (Ez:∀x∈sc.names,x.2=.cell ->∃c,h.lookup x.1=ab c/\C<c)
  (hinj:∀x y c,h.lookup x=ab c->h.lookup y=ab c->x=y) (hex:∀b∈ex,nF X π H b/\b<↥s)
  (O:C=↥s) {m:Q0d} (hn:U.heap.Ns C m) (hk:∀b o,s.heap.get? b=ab o->U.heap.get? b=ab o) (ho:U.os=s.os) (hg:U.gens=s.gens):
  Φ (blk X (ls++fs) sc h C (X.pn++π) ex s H) [] (EU ⇑ls fr σ) H U:=by
 have ltC:∀{b:ah} {o:ay},s.heap.get? b=ab o->b≠C:=λe=>ne_size e O;have aML:∀x c,h.lookup x=ab c->c≠C:=λx c e=>by
  rcases j7 x c e with e|⟨e,_⟩
  .obtain ⟨v,o,ho,_⟩:=I.cell x c e;show ltC ho
  .exact ni e
 have Du:∀x,(compEnvC sc h C X.env).kindOf x=(sc.names.lookup x).map λk=>if(k == kl&&X.env.scope.kind == .function&&X.env.kindOf x == ab .cell) then my else k:=λx=>wN (sc:=sc)
 have okX:(blk X (ls++fs) sc h C (X.pn++π) ex s H).Ok:=by
  show⟨I.ok.mod,B.kind,I.ok.glob,I.ok.blt,(by show ↥s<=C;rw[O];show bq _),hinj,λx A=>?_,λx c hf hl=>?_,I.ok.hd,I.ok.frames,.inl rfl,λb L=>?_,λb o e=>I.bs b o e,jb I.ok.WQ I.sz,λb o e L=>?_,λb L=>?_,I.stack,I.BO,I.tab⟩
  ·-- a cell or free name of the block
   have hx':∃k,sc.names.lookup x=ab k/\((if(k == kl&&X.env.scope.kind == .function&&X.env.kindOf x == ab .cell) then my else k)=.cell\/(if(k == kl&&X.env.scope.kind == .function&&X.env.kindOf x == ab .cell) then my else k)=.free):=by
    have A:(compEnvC sc h C X.env).kindOf x=ab .cell\/(compEnvC sc h C X.env).kindOf x=ab .free:=A;rw[Du] at A
    cases e:sc.names.lookup x with
    |none=>rw[e] at A;rcases A with A|A<;>cases A
    |some k=>rw[e] at A;show⟨k,rfl,A.imp (λz=>dm z) λz=>dm z⟩
   obtain⟨k,e,K⟩:=hx';have Y:=mf e;by_cases kf:k=.free
   .subst kf;have q:=hcl _ Y rfl;obtain⟨c,hc⟩:=I.ok.has x (B.free _ Y rfl);show⟨c,q.trans hc⟩
   .have Z:(k == kl)=ag:=by simpa using kf
    rw[Z] at K;erw[ue,o_,if_false] at K;rcases K with z|z
    .obtain ⟨c,hc,_⟩:=Ez _ Y z;show⟨c,hc⟩
    .exact Zw z kf
  ·-- an own cell is new
   obtain⟨c',F,hlt⟩:=Ez _ (mf (eq_of_beq hf)) rfl;have F:h.lookup x=ab c':=F;have hl:h.lookup x=ab c:=hl;rw[hl] at F;cases F;rw[O] at hlt;show nj hlt
  .refine ⟨EW (hex b L).2 (p0 O.symm),λx c e=>?_⟩;rcases j7 x c e with e|⟨e,_⟩
   .exact (hex b L).1.2.2.2.2.1 x c e
   .exact fz (EW (hex b L).2 (by rw[<- O];show nj e))
  .obtain ⟨⟨_,_,_,f3,_,_⟩,_⟩:=hex b L;rcases f3 with f3|f3
   .exact I.ok.SE b o e f3
   .exact Zw (gu (cf e) (jb I.ok.WQ f3)) (jr _)
  .intro z;obtain⟨⟨_,f1,f2,_,_,_⟩,_⟩:=hex b L;rcases bu.mp (I.vS b z) with z|z
   .exact f1 z
   .exact f2 z
 show⟨okX,ho,by rw[hg];show I.bare,Un.kept hk,⟨m,hn,λi x v h1 h2 h3=>?_⟩,λx c e=>?_,?_,λx c e=>?_,λp hp=>?_,I.hok.kept hk,?_⟩
 ·-- a name with a value is one from around
  have hi:¬ i<⇑ls:=λhi=>by delta EU at h2;rw[kh ↑hi,mi,Z_ hi] at h2;cases h2
  have e1:fs[i-⇑ls]?=ab x:=by have h1:(ls++fs)[i]?=ab x:=h1;rw[ji ∅] at h1;show h1
  obtain⟨j,ej,eN,Y,hlk⟩:=B.slot _ _ e1;have Z:(σ[j]?).join=ab v:=by delta EU at h2;rw[ji ↑hi,c_,p_,ej] at h2;show dm h2
  have e3:σ[j]?=ab (ab v):=by
   cases q:σ[j]? with
   |none=>rw[q] at Z;cases Z
   |some o=>rw[q] at Z;rw[show o=ab v from Z]
  have hfr:=B.free _ Y rfl;have vis:xR X.env.scope x:=.inr hfr;obtain⟨mm,hnm,hl⟩:=I.loc;obtain⟨u,r,l⟩:=hl j x v eN e3 vis;show⟨u,r,?_⟩;rcases l with⟨k1,_⟩|⟨k1,c,ec,zc⟩
  .have k1:X.env.kindOf x=ab .local:=k1;rcases hfr with z|z<;>rw[k1] at z<;>cases z
  .refine .inr ⟨?_,c,(hcl _ Y rfl).trans ec,?_⟩
   .show (compEnvC sc h C X.env).kindOf x=ab .cell\/(compEnvC sc h C X.env).kindOf x=ab .free;rw[Du,hlk];dsimp only[a1I];split
    .exact .inl rfl
    .exact .inr rfl
   .obtain ⟨oc,J,hd⟩:=zc;show⟨oc,hk _ _ J,hd⟩
 .rcases j7 x c e with e|⟨_,e⟩
  .obtain ⟨v,oc,J,hd⟩:=I.cell x c e;show⟨v,oc,hk _ _ J,hd⟩
  .exact ⟨af,e⟩
 .show H C=af;rw[O];show I.hok.fresh (bq _)
 .rcases j7 x c e with e|⟨e,_⟩
  .exact I.k8 x c e
  .exact I.hok.fresh (by rw[<- O];show nj e)
 .have hp:p∈(X.pn++π)++[]:=hp;rw[lr] at hp;obtain⟨e,n,ne,nf,d⟩:=I.pin p hp;show⟨hk _ _ e,n,ltC e,λz=>?_,d⟩;rcases bu.mp (I.vS _ z) with z|z
  .exact ne z
  .exact nf z
 .show ⇑(EU ⇑ls fr σ)=⇑(ls++fs);delta EU;rw[gk,gk,p_,bb,B.B7]
theorem UD{ls fs:Q0g}{sc:gn}{O:List (aj×ah)}{C:ah}{π U:Q0b}{ex:List ah}{σ m:L2.St}{H H':Hp}{s s':ak}{h':a_}(I:Φ X π σ H s)
  (J:Φ (blk X (ls++fs) sc O C (X.pn++π) ex s H) U m H' s') (hex:∀b∈ex,nF X π H b) (y:C=↥s) (l:r9 C s'.heap h'):Φ X π σ H' {s' with heap:=h' }:=by
 have a:∀{b:ah} {o:ay},s.heap.get? b=ab o->b≠C:=λe=>ne_size e y;have fr:H' C=af:=J.free;have un:Un (frs X.stack) ex H H' s.heap s'.heap:=J.ω;show I.call' (s':={s' with heap:=h' }) (ch:=ex) J.os ⟨λb o e n j h=>(l.2 b (a e)).trans (un.keep b o e n j h),λb o e n j h=>?_,un.free,λb o e h=>?_,un.tups,un.xP,un.vQ⟩ ?_ J.bare λb j=>?_
 .obtain ⟨p,q⟩:=un.slot b o e n j h;show⟨p,(l.2 b (a e)).trans q⟩
 .obtain ⟨x,q⟩:=un.there b o e h;show⟨x,(l.2 b (a e)).trans q⟩
 .intro b v e;show(J.hok b v e).stay (λc u d q=>(l.2 c ?_).trans q) (λ_ q=>q) λ_ _ q=>q;intro z;rcases d with d|d
  .rw [z] at d;rw[<- d,fr] at e;cases e
  .rw [z,fr] at d;cases d
 .obtain ⟨_,L,_,K,F,A⟩:=hex b j;show⟨K,L,F,A⟩
abbrev aDC(ifs:List av)(env:fv):gr Bool:=forIn ifs ae λc r=>if r=ae then(do let b <- isTrue c env (eval c env);pure (qb b)) else pure (qb r)
abbrev Calm(Ω:bh)(w:bg)(A:bt){α:Type}(t:gr α)(Q:α->ak->Prop)(s:ak):Prop:=ax (au Ω w) A t Q (λ_ _=>False) s
theorem mI(l:Nat->ak->Prop)
  (turn:∀n s,l n s->Calm Ω w A (pyNext it) (λgot p=>match got with
   |none=>R (.ok .next) p
   |some v=>Calm Ω w A (letOwnedTupleGo tg it v) (λ_ F=>Calm Ω w A (assign tg env v) (λ_ s3=>Calm Ω w A (aDC ifs env) (λok o =>
     if ok=ae then Calm Ω w A (eval el env) (λx y=>Calm Ω w A (call (.builtin "list.append") [ψ,x]) (λ_ q=>∃m,m<n/\l m q) y) o else ∃m,m<n/\l m o) s3) F) p) s)
  (n:Nat) (h:l n s):oh (au Ω w) A (.compLoop (.ListComp el [⟨tg,src,ifs,0⟩] bs at_) 0 it ψ env) R s:=by
 have no:∀{α:Type} {E:Q0c} {t:gr α} {Q Q':α->ak->Prop} {s:ak},Calm Ω w A t Q s->(∀a s,Q a s->Q' a s)->ax (au Ω w) A t Q' E s:=λh f=>jl h f λ_ _ z=>z.elim;show codeAny_loop rfl l (λn s I=>?_) n h;show wpAny_noted (m:=compTurn (.ListComp el [⟨tg,src,ifs,0⟩] bs at_) 0 it ψ env) ?_;rw[compTurn_list];show ao (Hv (ao (no (turn n s I) λgot p j=>?_)))
 match got,j with
 |none,j=>show az j
 |some v,j =>
  show ao (no j λ_ _ h2=>ao (no h2 λ_ _ L=>ao (no L λok o d=>?_)))
  match ok,d with
  |false,d=>show az (Dj rfl d)
  |true,d=>show ao (ao (no d λ_ _ K=>ao (no K λ_ _ J=>az (az (Dj rfl J)))))
abbrev TFk:=L2.St->Hp->(Bool->Hp->Prop)->Prop
def PIf(X:Cx)(ifs:List av)(t:TFk):Prop :=
 ∀(π:Q0b) (s:ak) (σ:L2.St) (H:Hp) (Q:Bool->Hp->Prop),Φ X π σ H s->t σ H Q ->
  ax (au X.Ω X.w) X.A (forIn ifs ae λc r=>if r=ae then do let ok <- isTrue c X.env (eval c X.env);pure (qb ok) else pure (qb r)) (TP X π σ Q) X.xe s
def LU:PIf X [] (λ_ H Q=>Q ae H):=λπ s σ H Q I h=>by rw[ye];show az ⟨H,I,h⟩
def aDD(h:PT X c t):PIf X [c] t:=λπ s σ H Q I hw=>by rw[oy];show ao ?_;rw[Z_ rfl];show ao (dI (h π s σ H Q I hw) λb a q=>az ?_);dsimp only;rw[ye];show az q
def EX(nl:Nat)(fr:List Nat)(wi:TI)(g:TG)(tf:TFk)(te:TE):TE:=λσ H Q=>wi σ H λJ H1=>∀d,H1 d=af ->∃W:Nat->Nat->Hp->List V->Prop,(∃m,W 0 m (upd H1 d (.lst [])) []) /\
 ∀i m H ys,W i m H ys->H d=ab (.lst ys)/\((J.stop i H/\Q (.ref d) H)\/(J.go i H /\∀x H',J.yld i H x H'->g x (EU nl fr σ) H' λa o=>(a.drop nl=fr.map λj=>(σ[j]?).join)/\tf a o λb n =>
  if b=ae then te a n λy l=>l d=ab (.lst ys)/\⇑ys<br /\∃h,h<m/\W (i+1) h (upd l d (.lst (ys++[y]))) (ys++[y]) else ∃h,h<m/\W (i+1) h n ys))
theorem EY{ls fs:Q0g}{fr:List Nat}{sc:gn}{tg iter elt:av}{ifs:List av}{ν p2:bo}{wi:TI}{g:TG}{tf:TFk}{te:TE}{π:Q0b}{σ:L2.St}{H:Hp}{s:ak}{Qe:VK}{use:Option (ai->gr Unit)}{Qv:Q0c}
  (hc:X.calm=ae) (B:EV X ls fs fr sc) (hi:PI X tg iter wi) (hg:∀F C pn ex s H,PG (blk X (ls++fs) sc F C pn ex s H) tg g) (hf:∀F C pn ex s H,PIf (blk X (ls++fs) sc F C pn ex s H) ifs tf) (he:∀F C pn ex s H,PE (blk X (ls++fs) sc F C pn ex s H) elt te)
  (hs:Zn X iter) (I:Φ X π σ H s) (h:EX ⇑ls fr wi g tf te σ H Qe)
  (fin:∀j C s' H',Φ X π σ H' s'->(∃m,s'.heap.Ns C m)->nF X π H' C->Qe (.ref j) H'->compPost (au X.Ω X.w) X.A X.xe use Qv (.ref j) C (.ok .next) s'):
  ax (au X.Ω X.w) X.A (comprehension (.ListComp elt [⟨tg,iter,ifs,0⟩] sc ν) sc X.env p2 (newList []) ag (eval iter X.env) use) Qv X.xe s:=by
 obtain⟨F,ecl,hcl,j7⟩:=wM (scope:=sc) (env:=X.env) λx hx hf=>I.ok.has x.1 (B.free x hx hf);show wpAny_comprehension_free (g:=⟨tg,iter,ifs,0⟩) (gs:=[]) rfl hs ecl B.kind (λx hx e=>(B.uniq x hx).trans (congrArg ab e)) ?_;show dI (hi π s σ H _ I h) λv s1 h1=>dI h1 λitv U h2=>?_;obtain⟨it,l,tn,J,H2,e,I2,T,st2,f2,h2⟩:=h2;subst e;show wu ?_ (by show([]:Q0f).toArray.size<=br;simp);have hacc:H2 ↥U=af:=I2.hok.fresh (bq _);have I3:Φ X π σ (upd H2 ↥U (.lst [])) {U with heap:=U.heap.push {cls:=.type "list",data:=.seq ([]:Q0f).toArray} } :=
  I2.laid (t':=U.toks) (λb o e=>cx _ e) (bq _) ⟨by simp,[],0,.nil,d_ _ rfl⟩
 have hfp:∀b∈l,b<↥U:=λb a=>by obtain⟨o,e,_⟩:=T.obj _ _ st2 b a;show cf e
 obtain⟨W,⟨m0,w0⟩,turn⟩:=h2 _ hacc;generalize EZ:↥U=j at hacc I3 w0 turn ⊢;have Rr:∀b∈l,b≠j:=λb a=>EW (hfp b a) (p0 EZ);have f3:∀b∈l,nF X π (upd H2 j (.lst [])) b:=λb a=>⟨by rw[aR (Rr b a)];show(f2 b a).1,(f2 b a).2⟩;generalize hs3:({U with heap:=U.heap.push {cls:=.type "list",data:=.seq ([]:Q0f).toArray} }:ak)=s3 at I3;have O:↥s3=j+1:=by rw[<- hs3];show(U.heap.push _).objs.size=_;rw[oo,EZ]
 have st3:tn 0 s3.heap:=T.keep _ _ _ st2 λb a o e=>by rw[<- hs3];show cx _ e
 show OG λh4 hn4 hk4 co=>?_;generalize hC:↥s3=C at hn4 co ⊢;have eC:cellsFrom (C+1) sc.names F=cellsFrom (C+1) sc.names []++F:=gP sc.names (C+1) [] F;generalize hcs:cellsFrom (C+1) sc.names []=cs at co eC;have own:∀x c,cs.lookup x=ab c->(x,my)∈sc.names/\C<c/\h4.IsCell c af:=λx c e=>by
  have m:=mf e;show⟨?_,(co.empty x c m).2,(co.empty x c m).1⟩;rw[<- hcs] at m;rcases i5 _ _ _ _ m with z|z
  .cases z
  .exact z
 generalize hdl:cellsFrom (C+1) sc.names F=dl at eC ⊢;have two:∀x c,dl.lookup x=ab c->cs.lookup x=ab c\/(cs.lookup x=af/\F.lookup x=ab c):=λx c e=>by
  rw[eC,Ks] at e
  cases q:cs.lookup x with
  |none=>rw[q] at e;show .inr ⟨rfl,e⟩
  |some d=>rw[q] at e;show .inl e
 have Rq:∀x∈sc.names,x.2=.free->dl.lookup x.1=X.env.cells.lookup x.1:=λx hx e=>by
  rw[<- hcl x hx e,eC,Ks]
  cases q:cs.lookup x.1 with
  |none=>rfl
  |some d =>
   have z:=B.uniq _ (own _ _ q).1;rw[B.uniq x hx,e] at z;cases z
 have Ey:∀x c,dl.lookup x=ab c->X.env.cells.lookup x=ab c\/(C<c/\h4.IsCell c af):=λx c e=>by
  rcases two x c e with e|⟨_,e⟩
  .exact .inr (own x c e).2
  .exact .inl (j7 x c e)
 have Rp:∀x∈sc.names,x.2=.cell ->∃c,dl.lookup x.1=ab c/\C<c:=λx hx e=>by obtain⟨c,hc⟩:=jP sc.names (C+1) [] x.1 (.inr (by rw[<- e];show hx));rw[hcs] at hc;show⟨c,by rw[eC,Ks,hc];rfl,(own _ _ hc).2.1⟩
 have low:∀x c,F.lookup x=ab c->c<C:=λx c e=>by obtain⟨v,o,ho,_⟩:=I3.cell x c (j7 x c e);rw[<- hC];show cf ho
 have Ro:∀x y c,dl.lookup x=ab c->dl.lookup y=ab c->x=y:=λx y c e e'=>by
  rcases two x c e with e|⟨_,e⟩<;>rcases two y c e' with e' | ⟨_,e'⟩
  .exact a0x co.apart (mf e) (mf e')
  .exact Zw (own _ _ e).2.1 (a1Y (low _ _ e'))
  .exact Zw (own _ _ e').2.1 (a1Y (low _ _ e))
  .exact I3.ok.inj x y c (j7 x c e) (j7 y c e')
 have I4:Φ (blk X (ls++fs) sc dl C (X.pn++π) l s3 (upd H2 j (.lst []))) [] (EU ⇑ls fr σ) (upd H2 j (.lst [])) {s3 with heap:=h4} :=
  ZR B I3 Rq Ey Rp Ro (λb a=>⟨f3 b a,by rw[O,<- EZ];show vk (hfp b a)⟩) hC.symm hn4 hk4 rfl rfl
 generalize Z:blk X (ls++fs) sc dl C (X.pn++π) l s3 (upd H2 j (.lst []))=Y at I4;have pY:Y.Ω=X.Ω:=by rw[<- Z];rfl
 have wY:Y.w=X.w:=by rw[<- Z];rfl
 have kY:Y.K=X.K:=by rw[<- Z];rfl
 have AY:Y.A=X.A:=by rw[<- Z];rfl
 have cY:Y.calm=ae:=by rw[<- Z];show hc
 have eY:Y.env=compEnvC sc dl C X.env:=by rw[<- Z];rfl
 have xY:Y.xe=λ_ _=>False:=by rw[<- Z];rfl
 have UE:∀{H':Hp},(∀b∈l,H' b=af) ->∀b∈l,nF Y [] H' b:=λhn b a=>by
  rw[<- Z];obtain⟨_,f1,f2',_,f4,f5⟩:=f3 b a;show⟨hn b a,λz=>?_,λz=>?_,.inl a,λx c e=>?_,λp hp=>f5 p ?_⟩
  .exact Zw z (EW (hfp b a) (by rw[<- hC,O,EZ];show qm _))
  .rcases bu.mp (I3.vS b z) with z|z
   .exact f1 z
   .exact f2' z
  .rcases Ey x c e with e|⟨e,_⟩
   .exact f4 x c e
   .exact fz (EW (hfp b a) (by rw[EZ];show nj (xo (by rw[<- hC,O];show Cp _) e)))
  .have hp:p∈(X.pn++π)++[]:=hp;rw[lr] at hp;show hp
 have st4:tn 0 h4:=T.keep _ _ _ st3 λb a o e=>hk4 b o e;have loop:∀s5:ak,(∃i H',Φ Y [] (EU ⇑ls fr σ) H' s5/\tn i s5.heap/\(∀b∈l,H' b=af) /\∃m ys,W i m H' ys)->oh (au X.Ω X.w) X.A (.compLoop (.ListComp elt [⟨tg,iter,ifs,0⟩] sc ν) 0 (.ref it) (.ref j) (compEnvC sc dl C X.env)) (compPost (au X.Ω X.w) X.A X.xe use Qv (.ref j) C) s5:=by
  rintro s5 ⟨i,H',I5,st5,fr5,m,ys,w5⟩;show mI (λn s'=>∃i H' ys,Φ Y [] (EU ⇑ls fr σ) H' s'/\tn i s'.heap/\(∀b∈l,H' b=af)/\W i n H' ys) ?_ m ⟨i,H',ys,I5,st5,fr5,w5⟩;rintro n s6 ⟨i,H6,ys,I6,st6,fr6,w6⟩;obtain⟨ha6,alt⟩:=turn i n H6 ys w6;rcases alt with⟨stop,qn⟩|⟨go,step⟩
  .have q:=T.done Y pY wY kY cY i [] s6 _ H6 (λ_ _=>False) I6 (UE fr6) st6 stop;rw[AY] at q;show dI q λr s7 Rm=>?_;obtain⟨hr,I7⟩:=Rm;subst hr;have fr7:H6 C=af:=by have:=I7.free;rw[eY] at this;show this
   show fin j C s7 H6 ?_ ?_ (I3.vU (p0 hC) fr7) qn
   .rw [<- Z] at I7;show UD I3 I7 (λb a=>f3 b a) hC.symm (.refl ..)
   .obtain ⟨m,hm,_⟩:=I7.loc;rw[eY] at hm;show⟨m,hm⟩
  .have q:=T.item Y pY wY kY cY i [] s6 _ H6 (λ_ _=>False) I6 (UE fr6) st6 go;rw[AY] at q;show dI q λr s7 Rl=>?_;obtain⟨u,hr,h7⟩:=Rl;subst hr;show dI h7 λ_ s8 Rk=>?_;obtain⟨x,H8,I8,r8,y8,st8,fr8⟩:=Rk;have I8':=I8.pinned (UE fr8) (T.obj _ _ st8);have hgY:=hg dl C (X.pn++π) l s3 (upd H2 j (.lst []));have hfY:=hf dl C (X.pn++π) l s3 (upd H2 j (.lst []));have heY:=he dl C (X.pn++π) l s3 (upd H2 j (.lst []));rw[Z] at hgY hfY heY;have q8:=hgY _ s8 _ H8 x u _ I8' r8 (step x H8 y8);rw[pY,wY,AY,eY,xY] at q8;show dI q8 λ_ s9 Rb=>?_;obtain⟨L,H9,I9,hσ9,q9⟩:=Rb;have qe:=hfY _ s9 L H9 _ I9 q9;rw[pY,wY,AY,eY,xY] at qe;show dI qe λok Ly Ra=>?_;obtain⟨H10,I10,qe⟩:=Ra;have bl:∀{H7:Hp} {s7:ak},Φ Y ([]++vV l s8.heap) L H7 s7->(∃m',m'<n /\∃ys',W (i+1) m' H7 ys') ->∃m,m<n /\∃i H' ys,Φ Y [] (EU ⇑ls fr σ) H' s7/\tn i s7.heap/\(∀b∈l,H' b=af)/\W i m H' ys:=λ{H7 s7} I7 ⟨m',hm,ys',w7⟩=>by
    show⟨m',hm,i+1,H7,ys',?_,T.keep _ _ _ st8 λb a o e=>(I7.pin (b,o) (ir _ (ir _ (kP a e)))).1,λb a=>?_,w7⟩
    .refine I7.gZ.weak ?_ λk v e=>?_
     .rw [I7.len,<- I6.len]
     .by_cases hk:k<⇑ls
      .delta EU at e;rw[kh ↑hk,mi,Z_ hk] at e;cases e
      .have e2:(L.drop ⇑ls)[k-⇑ls]?=ab (ab v):=by rw[hσ9];delta EU at e;rw[ji ↑hk,p_] at e;show e
       rw[List.getElem?_drop] at e2;rw[show ⇑ls+(k-⇑ls)=k by lia] at e2;show e2
    .obtain ⟨o,e,d⟩:=T.obj _ _ st8 b a;show(I7.pin (b,o) (ir _ (ir _ (kP a e)))).2.1
   cases ok with
   |false =>
    rw[Zz bz] at qe ⊢;obtain⟨m',hm,w'⟩:=qe;show bl I10 ⟨m',hm,ys,w'⟩
   |true =>
    rw[Z_ rfl] at qe ⊢;have Dq:=heY _ Ly L H10 _ I10 qe;rw[pY,wY,AY,eY,xY] at Dq;show dI Dq λyv Lx Q_=>?_;obtain⟨y,H11,I11,Lz,aDF,Qz,m',hm,w'⟩:=Q_;have Dp:=(zE (X:=Y)) _ Lx L H11 (.ref j) [y] (.ref j) [yv] (λ_ H'=>H'=upd H11 j (.lst (ys++[y]))) I11 rfl (.cons Lz .nil) ⟨j,ys,y,rfl,rfl,aDF,Qz,rfl⟩;rw[pY,wY,AY,xY] at Dp;show dI Dp λ_ s12 Qy=>?_;obtain⟨_,H12,I12,_,Ng⟩:=Qy;subst Ng;show bl I12 ⟨m',hm,_,w'⟩
 have L0:=loop _ ⟨0,_,I4,st4,λb a=>(f3 b a).1,m0,[],w0⟩;show codeAny_compStart_list L0 (T.self _ 0 _ _ _ st4 L0)
theorem LV
  (z:X.calm=ae) (B:EV X ls fs fr sc) (p:PI X tg iter wi) (v:∀a C pn ex s H,PG (blk X (ls++fs) sc a C pn ex s H) tg g) (x:∀a C pn ex s H,PIf (blk X (ls++fs) sc a C pn ex s H) ifs tf) (y:∀a C pn ex s H,PE (blk X (ls++fs) sc a C pn ex s H) elt te)
  (n:Zn X iter<|>4):PE X (.ListComp elt [⟨tg,iter,ifs,0⟩] sc ν) (EX ⇑ls fr wi g tf te):=by
 intro π s σ H Q I h;rw[eval_ListComp];show EY (use:=af) z B p v x y n I h λl C s' H' Y j F q=>?_;obtain⟨m,j⟩:=j;obtain⟨U,O,_,L,K,J⟩:=F;show⟨m,j,λh' d=>⟨.ref l,H',Y.turned (t':=s'.toks) (λb o A e=>(d.2 b A).trans e) U O L K J,rfl,q⟩⟩
theorem IA(hN:X.N.Nodup)(n:X.N[i]?=ab x)(L:X.env.scope.names.lookup x=ab .local)
  (hc:X.calm=ae) (B:EV X ls fs fr sc) (hi:PI X tg iter wi) (hg:∀j C pn ex s H,PG (blk X (ls++fs) sc j C pn ex s H) tg g) (hf:∀j C pn ex s H,PIf (blk X (ls++fs) sc j C pn ex s H) ifs tf) (he:∀j C pn ex s H,PE (blk X (ls++fs) sc j C pn ex s H) elt te)
  (p:g_ (.ListComp elt [⟨tg,iter,ifs,0⟩] sc ν) (ab (.Name x pos')) spos.line X.env=pure ae)
  (Z:Zn X iter<|>4):PS X (.Assign [.Name x pos'] (.ListComp elt [⟨tg,iter,ifs,0⟩] sc ν) spos) (Af (EX ⇑ls fr wi g tf te) (yZ i)):=by
 intro π s σ H D I h;rw[exec_Assign_Name_used _ _ _ _ p];show ao (Hv (ao ?_));show ax _ X.A (do let _ <- comprehension (.ListComp elt [⟨tg,iter,ifs,0⟩] sc ν) sc X.env _ (newList []) ag (eval iter X.env) (ab (assign (.Name x pos') X.env))) _ _ s;show ao (jl (EY (use:=ab (assign (.Name x pos') X.env)) (Qv:=λ_ s'=>SP X π D .next s') hc B hi hg hf he Z I h λY C s' H' I' z fp q=>?_) (λ_ s' hq=>az (az hq)) λ_ _ e=>e);obtain⟨m,z⟩:=z;obtain⟨f0,U,_,f3,O,f5⟩:=fp;show a0q (yY I' hN n (.inl L) (v:=.ref Y) rfl (λl K d=>?_) (.inr L));obtain⟨a,d,J⟩:=d;have F:a≠C:=by
  rcases J with rfl|J
  .exact fz U
  .exact O x a J
 show⟨m,z.sameBut d (fz F),λh' y=>⟨_,H',K.turned (t':=l.toks) (λb o hb e=>(y.2 b hb).trans e) f0 U f3 O f5,q⟩⟩
def WV(Γ:List (aj×jy))(sc:gn)(N ls fs:Q0g)(fr:List Nat):Bool :=
 (sc.kind == .function)&&Zv (ls++fs).Nodup&&sc.names.all (λx=>Zv (sc.names.lookup x.1=ab x.2)) &&
 sc.names.all (λx=>Zv (x.2=.free->(Γ.lookup x.1=ab .cell\/Γ.lookup x.1=ab .free)))&&Zv (⇑fr=⇑fs) &&
 (fs.zip fr).all (λx=>Zv (N[x.2]?=ab x.1)&&sc.names.contains (x.1,kl)&&Zv (sc.names.lookup x.1=ab .free))
theorem oC(h:WV X.env.scope.names sc X.N ls fs fr=ae):EV X ls fs fr sc:=by
 delta WV at h;erw[ij,jd,decide_eq_true_eq] at h;obtain⟨⟨⟨⟨⟨o,h2⟩,n⟩,m⟩,l⟩,j⟩:=h;show⟨eq_of_beq o,h2,n,m,λk x e=>?_,l⟩;have p:k<⇑fs:=(de.mp e).1;have d:(x,fr[k]'∅)∈fs.zip fr:=by
  have:(fs.zip fr)[k]?=ab (x,fr[k]'∅):=by rw[yc];show⟨e,by simp⟩
  show j_ this
 obtain⟨⟨a,b⟩,c⟩:=j _ d;show⟨fr[k]'∅,by simp,a,↑b,c⟩
abbrev GE:=D->cN->(cN->Prop)->Prop
inductive wQ (K:aq) (nl n:Nat) (g:GE) (v:V) (σ:L2.St) (H:Hp) (Q:(L2.St->Hp->Prop)):Prop
 |mk (S:ah->Prop) (ρ:cN) (d:D) (Q3:cN->Prop) (h1:⇑σ=n) (h2:(∀a,H a=af->S a)) (h3:Sl K S H ρ σ) (h4:Dn K S H d v) (h5:g d ρ Q3) (h6:∀σ' ρ',Sl K S H ρ' σ'->σ'.drop nl=σ.drop nl->Q3 ρ'->Q σ' H):wQ K nl n g v σ H Q
def PG4(X:Cx)(nl:Nat)(a:av)(g:GE):Prop:=PG X a (wQ X.K nl ⇑X.N g)
theorem Sl.set{K:aq}{S:ah->Prop}{H:Hp}{ρ:cN}{σ:L2.St}{i:Nat}{d:D}{v:V}(h:Sl K S H ρ σ)(m:i<⇑σ)(q:Dn K S H d v):Sl K S H (ρ.set i (ab d)) (σ.set i (ab v)):=λj e n=>by
 rcases get_set n with⟨l,z,_⟩|⟨l,z⟩
 .cases z;subst l;show⟨v,ox m,q⟩
 .obtain ⟨u,a,b⟩:=h j e z;show⟨u,by rw[kc (fz l)];show a,b⟩
def hN(i:Nat):GE:=λd ρ Q=>Q (ρ.set i (ab d))
noncomputable def h2(i j:Nat):GE:=λd ρ Q=>match d with
 |.tup [d1,d2]=>Q ((ρ.set i (ab d1)).set j (ab d2))
 |_=>False
def drop_set{α:Type}{l:List α}{i n:Nat}{x:α}(h:i<n):(l.set i x).drop n=l.drop n:=by rw[List.drop_set,Z_ h]
def Yy{nl i:Nat}{x:aj}{l:bo}(nd:X.N.Nodup)(a:i<nl)(j:X.N[i]?=ab x<|>0)(n:Loc X.env.scope x<|>2)(h:Zp X x<|>6):PG4 X nl (.Name x l) (hN i) :=
 OE (kO nd j n h) λv σ H Q q=>by obtain⟨S,ρ,d,Q3,o,y,m,dn,p,k⟩:=q;show k _ _ (m.set (by rw[o];show iZ j) dn) (drop_set a) p
def Yx{nl i j:Nat}{x y:aj}{kk:Nat}{Y l h:bo}(hc:X.calm=ae)(nd:X.N.Nodup)(A:i<nl)(z:j<nl)(O:X.N[i]?=ab x<|>0)(L:X.N[j]?=ab y<|>0)(hx:Loc X.env.scope x<|>2)(I:Zp X x<|>6)(hy:Loc X.env.scope y<|>2)(F:Zp X y<|>6)
  (hn:Q0i X x y l h<|>0) (o:Q0h X x y l h<|>0)
  (q:H0 X x y l h<|>0) (p:gV X y h<|>0):
  PG4 X nl (.Tuple [.Name x l,.Name y h] kk Y) (h2 i j) :=
 OE (SI (n:=2) hc (pP (kO nd O hx I) (pP (kO nd L hy F) LA p) q) hn o) λv σ H Q Qw=>by
  obtain⟨S,ρ,d,Q3,K,fc,sl,dn,m,k⟩:=Qw;delta h2 at m;split at m
  .rename_i d1 d2;symm at dn;obtain⟨a,xs,rfl,ha,da⟩:=dn;obtain⟨Z,r1,rfl,h1,h2⟩:=da.aY;obtain⟨J,r2,rfl,h3,U⟩:=h2.aY;erw[aM] at U;subst U;show⟨a,_,rfl,(eJ.of ha),rfl,Z,[J],rfl,J,[],rfl,rfl,?_⟩;show k _ _ ((sl.set (by rw[K];show iZ O) h1).set (by rw[kb,K];show iZ L) h3) (by rw[drop_set z,drop_set A]) m
  .exact m.elim
def UG(X:Cx)(ifs:List av)(t:WT):Prop:=PIf X ifs (liftT X.K t)
def Yw:WT:=λ_ Q=>Q ae
def Qu:UG X [] Yw:=λπ s σ H Q I d=>by obtain⟨S,ρ,Q3,j,h,a,k⟩:=d;show LU π s σ H Q I (k ae H (ξ.refl H) a)
theorem Yv(h:wH X c t):UG X [c] t:=aDD h
noncomputable def pX(g:GE)(tf:WT)(te:WE)(ρ:cN):List D->List D->(D->Prop)->Prop
 |[],ψ,Q=>Q (.lst ψ)
 |d::r,ψ,Q=>g d ρ λa=>tf a λb=>if b=ae then te a λy=>⇑ψ<br/\pX g tf te ρ r (ψ++[y]) Q else pX g tf te ρ r ψ Q
def benv(nl:Nat)(fr:List Nat)(ρ:cN):cN:=cg nl af++fr.map λj=>(ρ[j]?).join
def LW(nl:Nat)(fr:List Nat)(a:WI)(g:GE)(tf:WT)(te:WE):WE:=λρ Q=>a ρ λds=>pX g tf te (benv nl fr ρ) ds [] Q
def ZS{K:aq}{S:ah->Prop}{H:Hp}{ρ:cN}{σ:L2.St}{nl:Nat}{fr:List Nat}(h:Sl K S H ρ σ):Sl K S H (benv nl fr ρ) (EU nl fr σ):=λi d e=>by
 delta benv at e;delta EU;by_cases a:i<nl
 .rw [kh ↑a,mi,Z_ a] at e;cases e
 .rw [ji ↑a,c_,p_] at e ⊢
  cases q:fr[i-nl]? with
  |none=>rw[q] at e;cases e
  |some j =>
   rw[q] at e;have e1:(ρ[j]?).join=ab d:=dm e;have l:ρ[j]?=ab (ab d):=by
    cases z:ρ[j]? with
    |none=>rw[z] at e1;cases e1
    |some o=>rw[z] at e1;rw[show o=ab d from e1]
   obtain⟨v,ev,m⟩:=h j d l;show⟨v,by show ab ((σ[j]?).join)=_;rw[ev];rfl,m⟩
def zL{K:aq}{nl n:Nat}{fr:List Nat}{ti:WI}{g:GE}{tf:WT}{te:WE}{σ:L2.St}{H:Hp}{Q:VK}(hn:nl+⇑fr=n)(h:LP K (LW nl fr ti g tf te) σ H Q):EX nl fr (T9 K ti) (wQ K nl n g) (liftT K tf) (lift K te) σ H Q:=by
 obtain⟨S,ρ,Q3,fc,sl,ht,k⟩:=h;show⟨S,ρ,_,fc,sl,ht,λJ H1 ds G s1 hG wk q1=>?_⟩;intro j l;have h0:H j=af:=s1.free l;have fc1:=bD fc s1;have ok:∀{o:Hp},ξ H1 o->(∃ys,o j=ab (.lst ys))->(∀a,o a=af->S a/\a≠j)/\Sl K (λa=>S a/\a≠j) o (benv nl fr ρ) (EU nl fr σ) /\∀g∈G,Dn K (λa=>S a/\a≠j) o g.1 g.2:=λ{o} L p=>by
  show⟨λa e=>⟨bD fc1 L a e,λz=>?_⟩,?_,λg hg=>Dn.fits ((Fits.fresh l).trans (.same L)) _ _ (hG g hg)⟩
  .subst z;obtain⟨ys,p⟩:=p;rw[e] at p;cases p
  .exact ZS (Sl.fits ((Fits.fresh h0).trans (.same (s1.trans L))) sl)
 show⟨λi m o ys=>m=⇑ds-i/\i<=⇑ds/\ξ H1 o/\o j=ab (.lst ys) /\∃O,aM K (λa=>S a/\a≠j) o O ys/\pX g tf te (benv nl fr ρ) (ds.drop i) O Q3,
  ⟨_,rfl,ic _,aH l,aN,[],aM.nil,q1⟩,?_⟩
 rintro i m o ys ⟨rfl,hi,L,p,O,dn,cw⟩;obtain⟨A,sl2,gh2⟩:=ok L ⟨ys,p⟩;show⟨p,?_⟩;by_cases q:i<⇑ds
 .refine .inr ?_;obtain⟨g1,g2⟩:=wk.go _ o A gh2 i ds[i] (by simp[q]);show⟨g1,λx H' y=>?_⟩;obtain⟨s3,dx⟩:=g2 x H' y;rw[nu q,pX] at cw;show⟨λa=>S a/\a≠j,benv nl fr ρ,ds[i],_,?_,bD A s3,Sl.fits (.same s3) sl2,dx,cw,λσ' U Y hd q'=>?_⟩
  .delta EU;rw[gk,p_,bb];show hn
  .refine ⟨by rw[hd];delta EU;rw[List.drop_append_of_le_length (by simp),List.drop_replicate];simp,λa=>S a/\a≠j,U,_,bD A s3,Y,q',λb H3 I q4=>?_⟩
   cases b with
   |false =>
    rw[Zz bz] at q4 ⊢;show⟨_,∅,rfl,q,(L.trans s3).trans I,(s3.trans I) _ _ p,O,aM.fits (.same (s3.trans I)) _ _ dn,q4⟩
   |true =>
    rw[Z_ rfl] at q4 ⊢;show⟨λa=>S a/\a≠j,U,_,bD A (s3.trans I),Sl.fits (.same I) Y,q4,λv H4 d s5 d5 q5=>?_⟩;have Z:H4 j=ab (.lst ys):=((s3.trans I).trans s5) _ _ p;have F:Fits K (λa=>S a/\a≠j) (λa=>S a/\a≠j) H4 (upd H4 j (.lst (ys++[v]))):=.upd (.inl ⟨_,Z⟩) λz=>z.2 rfl;show⟨Z,by rw[<- dn.len];show q5.1,_,∅,rfl,q,λb u hb=>?_,aN,O++[d],aM.fits F _ _ ((aM.fits (.same ((s3.trans I).trans s5)) _ _ dn).append (aM.one d5)),q5.2⟩;rw[aR (aT hb l)];show(((L.trans s3).trans I).trans s5) _ _ hb
 .have e:i=⇑ds:=∅
  subst e;rw[a2t,pX] at cw;show .inl ⟨wk.stop _ o gh2 _ rfl,k j ys o O h0 p (s1.trans L) dn cw⟩
theorem Yu{ls fs:Q0g}{fr:List Nat}{sc:gn}{d iter elt:av}{ifs:List av}{l:bo}{j:WI}{g:GE}{tf:WT}{te:WE}(x:X.calm=ae)(o:UA X d iter j)
  (p:∀a C pn ex s H,(blk X (ls++fs) sc a C pn ex s H).N.Nodup->PG4 (blk X (ls++fs) sc a C pn ex s H) ⇑ls d g) (q:∀a C pn ex s H,UG (blk X (ls++fs) sc a C pn ex s H) ifs tf) (v:∀a C pn ex s H,cC (blk X (ls++fs) sc a C pn ex s H) elt te)
  (B:WV X.env.scope.names sc X.N ls fs fr=ae<|>0) (m:Zn X iter<|>4):EN X (.ListComp elt [⟨d,iter,ifs,0⟩] sc l) (LW ⇑ls fr j g tf te) :=
 imp (LV (g:=wQ X.K ⇑ls ⇑(ls++fs) g) (tf:=liftT X.K tf) (te:=lift X.K te) x (oC B) o (λa C pn ex s H=>p a C pn ex s H (oC B).nd) q v m) λσ H Q h=>zL (n:=⇑(ls++fs)) (by rw[gk,(oC B).B7]) h
theorem OH{i:Nat}{x:aj}{ls fs:Q0g}{fr:List Nat}{sc:gn}{l iter elt:av}{ifs:List av}{v a pos':bo}{y:WI}{g:GE}{tf:WT}{te:WE}(nd:X.N.Nodup)(hc:X.calm=ae)(U:UA X l iter y)
  (Y:∀h C pn ex s H,(blk X (ls++fs) sc h C pn ex s H).N.Nodup->PG4 (blk X (ls++fs) sc h C pn ex s H) ⇑ls l g) (Z:∀h C pn ex s H,UG (blk X (ls++fs) sc h C pn ex s H) ifs tf) (he:∀h C pn ex s H,cC (blk X (ls++fs) sc h C pn ex s H) elt te)
  (j:X.N[i]?=ab x<|>0) (I:X.env.scope.names.lookup x=ab .local<|>0) (o:g_ (.ListComp elt [⟨l,iter,ifs,0⟩] sc v) (ab (.Name x pos')) a.line X.env=pure ae<|>0)
  (B:WV X.env.scope.names sc X.N ls fs fr=ae<|>0) (L:Zn X iter<|>4):ER X (.Assign [.Name x pos'] (.ListComp elt [⟨l,iter,ifs,0⟩] sc v) a) (zy i (LW ⇑ls fr y g tf te)) :=
 j6 (IA (g:=wQ X.K ⇑ls ⇑(ls++fs) g) (tf:=liftT X.K tf) (te:=lift X.K te) nd j I hc (oC B) U (λh C pn ex s H=>Y h C pn ex s H (oC B).nd) Z he o L) λBd σ H Qs=>by
 obtain⟨H₀,S,w,ρ,G,E,A,m,J,ok⟩:=Qs;show zL (n:=⇑(ls++fs)) (by rw[gk,(oC B).B7]) ⟨_,gI ρ,_,m.GG,m.rd,J,λp xs H' ds O q s' d' F=>ok.nx w _ H' _ (by rw[kb];show A) ((m.same s').kU (d:=.lst ds) (by rw[A];show iZ j) (by symm;show⟨p,xs,rfl,q,m.GG p O,aM.fits (.mono λ_ z=>z.1) _ _ d'⟩)) F⟩
noncomputable def tyD:D->String
 |.non => "NoneType"
 |.bl _ => "bool"
 |.int _ => "int"
 |.str _ => "str"
 |.tup _ => "tuple"
 |.lst _ => "list"
 |.k6 _ => "list"
 |.i8 _ _ => "dict"
 |.a8 _ _ _ => "dict"
 |.exc _ _ => "NoneType"
 |.rws _ => "NoneType"
inductive zM:String->Prop
 |t:zM "tuple"
 |b:zM "bool"
 |i:zM "int"
 |s:zM "str"
def isT(T:String)(d:D):Bool:=tyD d == T||(T == "int"&&tyD d == "bool")
def Qr(K:aq)(T:String):List V->Hp->VK->Prop:=λxs H Q=>∃x t b,xs=[x,.ty T]/\(pQ K H x t\/(t=.type "tuple" /\∃a ys,x=.ref a/\eJ K H a ys)\/(t=.type "list" /\∃a ys,x=.ref a/\c7 K H a ys))/\kitOne K t (.type T)=ab b/\Q (.bl b) H
theorem UH:eX X (.builtin "isinstance") (Qr X.K T):=by
 intro π s σ H xs us Q I r h;obtain⟨x,t,b,rfl,ty,e,q⟩:=h;obtain⟨u,v,rfl,r1,y⟩:=vals2 r;obtain rfl:v=jm T:=y;rcases ty with ty|⟨rfl,a,ys,rfl,j⟩|⟨rfl,a,ys,rfl,j⟩
 .exact NY I r1 ty e λd=>⟨.bl b,H,I.tok d,rfl,q⟩
 .cases r1;obtain⟨m,_,p,_⟩:=I.tuple j;obtain⟨o,l,h2,_⟩:=p;show ku a0L I.BN ⟨o,l,h2⟩ e (λz=>nomatch z) λd=>⟨.bl b,H,I.tok d,rfl,q⟩
 .cases r1;obtain⟨m,_,p,_⟩:=I.list j;obtain⟨o,n,l,h2,_⟩:=p;show ku Il I.BN ⟨o,l,h2⟩ e (λz=>nomatch z) λd=>⟨.bl b,H,I.tok d,rfl,q⟩
noncomputable def Gq:D->Prop
 |.exc _ _=>False
 |.a8 _ _ _=>False
 |.rws _=>False
 |_=>True
def Qq(T:String)(t:WE):WE:=λρ Q=>t ρ λd=>Gq d/\Q (.bl (isT T d))
def Qp{K:aq}{T:String}(h:zM T)(d:D):kitOne K (.type (tyD d)) (.type T)=ab (isT T d):=by cases h<;>cases d<;>with_unfolding_all rfl
def Yt{K:aq}{S:ah->Prop}{H:Hp}{d:D}{v:V}(l:Gq d)(h:Dn K S H d v):∃t,t=jm (tyD d)/\(pQ K H v t\/(t=.type "tuple" /\∃a ys,v=.ref a/\eJ K H a ys)\/(t=.type "list" /\∃a ys,v=.ref a/\c7 K H a ys)):=by
 show⟨_,rfl,?_⟩;cases d<;>symm at h
 .subst h;show .inl .non
 .subst h;show .inl (.bl _)
 .subst h;show .inl (.int _)
 .subst h;show .inl (.str _)
 .obtain ⟨a,xs,rfl,j,_⟩:=h;show .inr (.inl ⟨rfl,a,xs,rfl,(eJ.of j)⟩)
 .obtain ⟨a,xs,rfl,j,_⟩:=h;show .inl (.lst j)
 .obtain ⟨a,rfl,j⟩:=h;show .inr (.inr ⟨rfl,a,_,rfl,j.sq⟩)
 .obtain ⟨a,xs,rfl,j,_⟩:=h;show .inl (.dK j)
 .exact l.elim
 .exact l.elim
 .exact l.elim
theorem Qo{T:String}{x:aj}{e:av}{t:WE}{p p2 n:bo}(O:zM T)(J:X.mg "isinstance"=af)(j:X.mg x=af)(A:bootBuiltins x=ab (.type T))(L:cC X e t)(K:Gl X "isinstance"<|>0)(l:Gl X x<|>0)(I:x ≠ "__name__"<|>1)(m:Zu x<|>1)
  (o:(ar [e,.Name x p2] X.env=(ag,eval e X.env)::ar [.Name x p2] X.env)<|>0) (a:(ar [.Name x p2] X.env=(ag,eval (.Name x p2) X.env)::ar [] X.env)<|>0) (h:(e_ n (ar [.Name x p2] X.env)).any (·.1)=ag<|>0):
  cC X (.Call (.Name "isinstance" p) [e,.Name x p2] [] n) (Qq T t) :=
 imp (mC (UH (T:=T)) K J a3T (fC L (fC (YR (v:=.ty T) l j A rfl I m) kR a) o) ⋯ ⋯ o h) λσ H Q Qn=>by obtain⟨S,ρ,Q3,U,y,F,k⟩:=Qn;show⟨S,ρ,_,U,y,F,λv H1 d z Z q1=>?_⟩;obtain⟨q,e1,Y⟩:=Yt q1.1 Z;show⟨v,q,isT T d,rfl,Y,?_,k _ H1 (.bl _) z (by symm) q1.2⟩;rw[e1];show Qp O d
noncomputable def Gp:List D->Option (List Bool)
 |[]=>ab []
 |.bl b::r=>(Gp r).map (b :: ·)
 |_::_=>af
theorem range_all(bs:List Bool):(cj ⇑bs).all (λi=>bs.getD i ae)=bs.all id:=by
 induction bs with
 |nil=>rfl
 |cons b bs ih=>rw[eg,xu,vz,Cy,vz,<- ih];rfl
theorem range_any(bs:List Bool):(cj ⇑bs).any (λi=>bs.getD i ae)=bs.any id:=by
 induction bs with
 |nil=>rfl
 |cons b bs ih=>rw[eg,xu,mj,Cv,mj,<- ih];rfl
def blF(f:List Bool->Bool):F1
 |[.lst ds],Q=>(match Gp ds with|some bs=>Q (.bl (f bs))|none=>False)
 |_,_=>False
def E1:List V->Hp->VK->Prop:=λxs H Q=>∃a ns,xs=[.ref a]/\H a=ab (.lst (ns.map V.int))/\⇑ns<64 /\∀d:Q0e,d.Perm ns->d.Pairwise (· <= ·) ->∀p,H p=af->Q (.ref p) (upd H p (.lst (d.map V.int)))
theorem kX:eX X (.builtin "sorted") E1:=by
 intro π s σ H xs us Q I r h;obtain⟨a,ns,rfl,A,O,q⟩:=h;obtain⟨u,rfl,y⟩:=vals1 r;cases y;obtain⟨j,v,p,L⟩:=I.list (c7.of A);have z:=intsAre_of v;have hlen:⇑j=⇑ns:=by have:=⇑v;rw[bb] at this;show this.symm
 show sorted_ints p.isList z ∅ λout d J x F=>?_;have m:H (↥s+1)=af:=I.hok.fresh (qm _);obtain⟨e1,n⟩:=a1w s.heap j out;have l:⇑d<=br:=by rw[x.length_eq,gm];lia
 have K:Φ X π σ (upd H (↥s+1) (.lst (d.map V.int))) {s with heap:=sortedAll s.heap j out} :=
  I.laid (t':=s.toks) (λb o e=>a1v e) (qm _) ⟨by rw[bb];show l,out.toList,e1,fU J,by simpa[seqObj] using n⟩
 show⟨.ref _,_,K,rfl,q d x F _ m⟩
def intsOf:List D->Option (List Int)
 |[]=>ab []
 |.int b::r=>(intsOf r).map (b :: ·)
 |_::_=>af
theorem bP:∀bs:Q0e,intsOf (bs.map D.int)=ab bs
 |[]=>rfl
 |b::bs=>by rw[bx,intsOf,bP bs];rfl
theorem rJ:∀{ds:List D} {bs:Q0e},intsOf ds=ab bs->ds=bs.map D.int
 |[],bs,h=>by cases h;rfl
 |.int b::r,bs,h=>by
  rw[intsOf] at h
  cases q:intsOf r with
  |none=>rw[q] at h;cases h
  |some cs=>rw[q] at h;cases h;rw[bx,rJ q]
 |.non::r,bs,h=>by cases h
 |.bl _::r,bs,h=>by cases h
 |.str _::r,bs,h=>by cases h
 |.tup _::r,bs,h=>by cases h
 |.lst _::r,bs,h=>by cases h
 |.k6 _::r,bs,h=>by cases h
 |.i8 _ _::r,bs,h=>by cases h
 |.a8 _ _ _::r,bs,h=>by cases h
def UI:F1
 |[.lst ds],Q=>(match intsOf ds with|some ns=>⇑ns<64 /\∀a:Q0e,a.Perm ns->a.Pairwise (· <= ·)->Q (.lst (a.map D.int))|none=>False)
 |_,_=>False
theorem ZT{K:aq}:C3F K E1 UI:=by
 intro S H xs ds Q3 Q A n j k
 match ds,j with
 |[.lst es],j =>
  obtain⟨v,r,rfl,l,h2⟩:=n.aY;erw[aM] at h2;subst h2;symm at l;obtain⟨a,ys,rfl,o,z,y⟩:=l;have h:(match intsOf es with|some ns=>⇑ns<64 /\∀d:Q0e,d.Perm ns->d.Pairwise (· <= ·)->Q3 (.lst (d.map D.int))|none=>False):=j
  clear j
  cases q:intsOf es with
  |none=>rw[q] at h;show h.elim
  |some ns =>
   rw[q] at h;have e:=rJ q;subst e;have x:=aM.ints.mp y;subst x;show⟨a,ns,rfl,o,h.1,λd l h2 p m=>k p _ _ _ m aN (aH m) (aM.ints.mpr rfl) (h.2 d l h2)⟩
def ZU(a:X.mg "sorted"=af)(j:tZ X [e] t)(d:Gl X "sorted"<|>0)
  (h:Zq X e []<|>0):EN X (.Call (.Name "sorted" p) [e] [] ν) (OD UI t):=B6 kX ZT xk d a j ⋯ ⋯ h (by rfl)
section
def zN(x:Gl X "range")(v:X.mg "range"=af)(y:PA X [a] ta)(n:ar [a] X.env=[(ag,eval a X.env)]<|>0):
  PE X (.Call (.Name "range" p) [a] [] ν) (λσ H Q=>ta σ H λvs H1=>∃j:Int,vs=[.int j] /\∀p,H1 p=af->Q (.ref p) (upd H1 p (.rng 0 j))):=by
 intro π s σ H Q I h;show vh (iX I x v Jp (sx (dI (y ν π s σ H _ I h) λus l ⟨vs,H1,d,r1,q1⟩=>?_) n rfl));obtain⟨j,e,q⟩:=q1;subst e;obtain⟨u,rfl,m⟩:=vals1 r1;obtain⟨t,rfl⟩:=m;show a0E ?_;show⟨.ref ↥l,_,d.laid (o:=.rng 0 j) (λb o e=>cx _ e) (bq _) ⟨_,_,_,d_ _ rfl⟩,rfl,q _ (d.hok.fresh (bq _))⟩
def lU{lo:Int}{n:Nat}{a:Array ai}(h:Br (λi v=>∃t,v=.int (lo+(i:Nat)*1) t) a n):θ ((mG lo n).map V.int) a.toList:=by
 obtain⟨q,x⟩:=h;have key:∀(l:Q0f) (k:Nat) (m:Nat),⇑l=m->(∀(j:Nat) (v:ai),l[j]?=ab v ->∃t,v=oj (lo+((k+j:Nat):Int)) t)->θ (((List.range' k m).map λi:Nat=>lo+(i:Int)).map V.int) l:=by
  intro l
  induction l with
  |nil=>intro k m d _;subst d;show .nil
  |cons v l ih =>
   intro k m d p;subst d;rw[eg,List.range'_succ,bx,bx];show .cons ?_ (ih (k+1) ⇑l rfl λj w e=>?_)
   .obtain ⟨t,e⟩:=p 0 v (by simp);show⟨t,↑e⟩
   .obtain ⟨t,o⟩:=p (j+1) w ↑e;show⟨t,by rw[o];congr 1;congr 1;congr 1;lia⟩
 have:=key a.toList 0 n ↑q λj v e=>by obtain⟨t,o⟩:=x j v ↑e;show⟨t,by rw[o];simp⟩
 delta mG;rw[List.range_eq_range'];show this
theorem xW(J:X.calm=ae):eX X (.type "list") (λxs H Q=>∃p j,xs=[.ref p]/\H p=ab (.rng 0 j) /\ -(2^62)<=j/\j<=16777216 /\∀l,H l=af->Q (.ref l) (upd H l (.lst ((mG 0 j.toNat).map V.int)))):=by
 intro π s σ H xs us Q I r h;obtain⟨p,j,rfl,A,U,O,q⟩:=h;obtain⟨u,rfl,x⟩:=vals1 r;cases x;obtain⟨t,u,v,e⟩:=I.hok p _ A;have hsz:ve 0 j 1=(j.toNat:Int):=by rw[Ie];split<;>lia
 show call_list_range (a:=0) (b:=j) (c:=1) (n:=j.toNat) (I.ok.hd J) e (H_ ∅ ∅ ∅ ∅) hsz ∅ λh' L d K y F hit=>?_;have m:H ↥s=af:=I.hok.fresh (bq _);have z:θ ((mG 0 j.toNat).map V.int) d.toList:=lU hit;show⟨.ref ↥s,_,I.laid (o:=.lst ((mG 0 j.toNat).map V.int)) y (bq _) ⟨?_,d.toList,K,z,↑F⟩,rfl,q _ m⟩;rw[bb,mH,gm];lia
noncomputable def aDH(t:WA):WE:=λρ Q=>t ρ λds=>match ds with
 |[.int j]=>(-(2^62)<=j/\j<=16777216)/\Q (.lst ((mG 0 j.toNat).map D.int))
 |_=>False
def IB(K:X.calm=ae)(I:X.mg "list"=af)(d:X.mg "range"=af)(L:tZ X [a] t)(J:Gl X "list"<|>0)(m:Gl X "range"<|>0)(F:ar [a] X.env=[(ag,eval a X.env)]<|>0)
  (x:(ar [.Call (.Name "range" p2) [a] [] pos2] X.env=(ag,eval (.Call (.Name "range" p2) [a] [] pos2) X.env)::ar [] X.env)<|>0):
  EN X (.Call (.Name "list" p) [.Call (.Name "range" p2) [a] [] pos2] [] ν) (aDH t) :=
 imp (m5 (xW K) J I a1F (fC (zN m d L F) kR x) ⋯ ⋯ x (by rfl)) λσ H Q Y=>by
  obtain⟨S,ρ,Q3,O,z,A,k⟩:=Y;show⟨S,ρ,_,O,z,A,λvs H1 ds n U q1=>?_⟩;split at q1
  .rename_i j;obtain⟨v,r,rfl,y,h2⟩:=U.aY;erw[aM] at h2;subst h2;symm at y;subst y;show⟨j,rfl,λp o=>⟨p,j,rfl,aN,q1.1.1,q1.1.2,λl q=>?_⟩⟩;have h:H1 l=af:=(aH o).free q;show k l _ _ _ (n.free h) aN ((n.trans (aH o)).trans (aH q)) (aM.ints.mpr rfl) q1.2
  .exact q1.elim
def jI(ks:List Key)(ds:List D)(k:Key):Option D:=((ks.zip ds).find? λa=>Zv (a.1=k)).map (·.2)
theorem wR{K:aq}{S:ah->Prop}{H:Hp}{k:Key}:∀{ks:List Key} {ds:List D} {xs:List V},⇑ks=⇑xs->aM K S H ds xs ->
  (∀d,jI ks ds k=ab d ->∃v,lC (ks.zip xs) k=ab v/\Dn K S H d v)/\(jI ks ds k=af->lC (ks.zip xs) k=af)
 |[],ds,xs,_,_=>by
  show⟨λd e=>?_,λ_=>?_⟩
  .simp [jI] at e
  .simp [lC]
 |q::ks,ds,xs,hl,dn=>by
  cases ds with
  |nil=>erw[aM] at dn;subst dn;simp at hl
  |cons d0 ds =>
   obtain⟨v,r,rfl,l,h2⟩:=dn.aY;have j:=wR (k:=k) (ks:=ks) (ds:=ds) (xs:=r) ↑hl h2;by_cases e:q=k
   .refine ⟨λd a=>?_,λa=>?_⟩
    .erw[jI,Kf,jj,e,decide_true,vi] at a;cases a;show⟨v,by simp[lC,e],l⟩
    .simp [jI,e] at a
   .refine ⟨λd a=>?_,λa=>?_⟩
    .have h:jI ks ds k=ab d:=by simpa[jI,e] using a
     obtain⟨u,m,n⟩:=j.1 d h;show⟨u,by simpa[lC,e] using m,n⟩
    .have h:jI ks ds k=af:=by simpa[jI,e] using a
     simpa[lC,e] using j.2 h
theorem UJ(hN:X.N.Nodup)(j:X.N[i]?=ab x<|>0)(m:Loc X.env.scope x<|>2)(o:g_ (.Dict [] [] p) (ab (.Name x pos')) ν.line X.env=pure ag<|>0)(q:Zp X x<|>2):
  ER X (.Assign [.Name x pos'] (.Dict [] [] p) ν) (λE ρ=>E.nx (ρ.set i (.ow (.i8 [] [])))):=j6 (oB hN j m TL o q) λB σ H ⟨H₀,S,w,ρ,G,E,h,l,n,ok⟩=>λp a =>
 ok.nx _ _ _ _ (by rw[kb];show h) (l.HU (d:=.i8 [] []) (by rw[h];show iZ j) (aH a) a ⟨[],aN,rfl,aM.nil⟩) n
noncomputable def E2:D->Option Key
 |.int i=>ab (.inl i)
 |.str x=>ab (.inr x)
 |_=>af
theorem UK{K:aq}{S:ah->Prop}{H:Hp}{d:D}{v:V}{k:Key}(h:Dn K S H d v)(e:E2 d=ab k):v=kV k:=by cases d<;>erw[E2] at e<;>cases e<;>symm at h<;>show h
def zp:F2:=λx y Q=>match x,E2 y with
 |.i8 ks ds,ab k=>(match jI ks ds k with|some d=>Q d|none=>False)
 |_,_=>False
theorem Ql{o i:av}{y:bo}{m n:WE}(z:X.A.units+1<di)(ho:cC X o m)(K:cC X i n)(I:HS i<|>8):cC X (.Subscript o i y) (gC zp m n):=imp (ZA z ho K I) λσ H Q Qk=>by
 obtain⟨S,ρ,Q3,x,p,F,k⟩:=Qk;show⟨S,ρ,_,x,p,F,λv H1 d j Z q1=>?_⟩;show⟨S,ρ,_,bD x j,Sl.fits (.same j) p,q1,λu H2 d2 q CS q2=>?_⟩;delta zp at q2;split at q2
 .rename_i ks ds kk ek;have h:=Dn.fits (.same q) _ _ Z;symm at h;obtain⟨a,xs,rfl,L,sa,J,Y⟩:=h;split at q2
  .rename_i d3 e3;obtain⟨l,ev,U⟩:=(wR J Y).1 d3 e3;have O:=UK CS ek;subst O;show⟨a,l,rfl,?_,k l H2 d3 (j.trans q) U q2⟩;have g:=N6.k (k:=kk) L;rw[ev] at g;show g
  .exact q2.elim
 .exact q2.elim
def Ys(i:Nat)(t:WX)(h:WE):WS:=λE ρ=>t ρ λa d=>(match a[i]? with|some (.ow (.i8 _ _))=>True|_=>False)/\h (bL a) λkd=>match a[i]?,E2 kd with
 |some (.ow (.i8 ks ds)),ab k=>(jI ks ds k=af/\⇑ds<br)/\E.nx (a.set i (.ow (.i8 (ks++[k]) (ds++[d]))))
 |_,_=>False
theorem Yr{i:Nat}{x:aj}{e k:av}{t:WX}{I:WE}{y pos' p:bo}(hu:X.A.units+1<di)(he:GH X e t)(hk:cC X k I)
  (hN:X.N[i]?=ab x<|>0) (hv:xR X.env.scope x<|>3) (hd:Zu x<|>1) (q:Zt x<|>1)
  (hs:g_ e (ab (.Subscript (.Name x p) k pos')) y.line X.env=pure ag<|>0):
  ER X (.Assign [.Subscript (.Name x p) k pos'] e y) (Ys i t I):=j6 (ZC hu (iW hN hv hd q) hk he hs) λB σ H Qj=>by
 obtain⟨H₀,S,w,ρ,G,E,U,Z,ht,ok⟩:=Qj;show⟨H₀,S,w,ρ,G,_,U,Z,ht,λl v H' h d j d' n=>?_⟩;obtain⟨L,n⟩:=n;split at L
 .rename_i ks0 ds0 e0;obtain⟨a0,_,_⟩:=j.own i _ e0;show⟨_,a0,S,bL h,_,j.TN,j.all,n,λkv Y dk J ZN q2=>?_⟩;split at q2
  .rename_i ks ds kk e1 ek;have m:=j.same J;obtain⟨a,b,c⟩:=m.own i _ e1;obtain⟨xs,O,hlen,dn⟩:=c;have eu:=UK ZN ek;subst eu;have o:=(wR (k:=kk) hlen dn).2 q2.1.1;have nS:¬ SO S l h (l i):=λ⟨_,z⟩=>z i _ e1 rfl;have hz:⇑(ks.zip xs)<br:=by rw[Kt,hlen,a1U,<- dn.len];show q2.1.2
   have Qi:putK (ks.zip xs) kk v=(ks++[kk]).zip (xs++[v]):=by rw[TB v o,a15 hlen];rfl
   have F:Fits X.K (SO S l h) (SO S l h) Y (upd Y (l i) (.dK (putK (ks.zip xs) kk v))):=.upd (.inr (.inl ⟨_,O⟩)) nS;show⟨l i,_,rfl,TJ.k O hz,ok.nx l σ _ _ U (m.write (d':=.i8 (ks++[kk]) (ds++[d])) e1 ⟨xs++[v],?_,by simp[hlen],aM.fits F _ _ (dn.append (aM.one (Dn.fits (.same J) _ _ d')))⟩) q2.2⟩;rw[aN,Qi]
  .exact q2.elim
 .exact L.elim
def Yq(i:Nat)(t:WE):WS:=λE ρ=>t (bL ρ) λd=>(match d with | .lst ds=>lD ds=ae|_=>False)/\E.nx (ρ.set i (.ro d))
def Yp(hN:X.N.Nodup)(z:EN X e t)(m:X.N[i]?=ab x<|>0)(n:Loc X.env.scope x<|>2)(q:Si X e x pos' ν<|>0)(y:Zp X x<|>2):
  ER X (.Assign [.Name x pos'] e ν) (Yq i t):=j6 (oB hN m n z q y) λB σ H A=>by
 obtain⟨H₀,S,w,ρ,G,E,l,a,o,ok⟩:=A;show⟨_,bL ρ,_,a.TN,a.all,o,λp xs H' ds v h s' d' j=>ok.nx w _ H' _ (by rw[kb];show l) ((a.same s').kU (d:=.lst ds) (by rw[l];show iZ m) (by symm;show⟨p,xs,rfl,h,a.GG p v,aM.CP j.1 d'⟩)) j.2⟩
def aDJ(c:WT)(j:WS):WS:=λE ρ=>∃(Φ:bC->Prop) (h:bC->Nat),Φ ρ /\∀a,Φ a->c (bL a) λb=>if b=ae then j {E with nx:=λd=>Φ d/\h d<h a,ct:=λd=>Φ d/\h d<h a,bk:=E.nx} a else E.nx a
theorem aDK(Y:uw (au X.Ω X.w) X.A X.env X.xe)(hc:wH X c tc)(hb:tG X body tb):ER X (.While c body [] ν) (aDJ tc tb):=j6 (SJ Y hc hb) λB σ H Qg=>by
 obtain⟨H₀,S,w,ρ,G,E,hl,O,⟨L,F,h0,turn⟩,ok⟩:=Qg;show⟨λm σ H=>∃w ρ,⇑σ=⇑X.N/\ST X.K H₀ S w σ H ρ G/\L ρ/\m=F ρ,⟨_,w,ρ,hl,O,h0,rfl⟩,?_⟩;rintro m z H2 ⟨J,n,x,o,U,rfl⟩;show⟨S,bL n,_,o.TN,o.all,turn n U,λb H3 s3 y=>?_⟩
 cases b with
 |false=>rw[Zz bz] at y ⊢;show ok.nx J z H3 n x (o.same s3) y
 |true =>
  rw[Z_ rfl] at y ⊢;show⟨λa H'=>∃w ρ,⇑a=⇑X.N/\ST X.K H₀ S w a H' ρ G/\L ρ/\F ρ<F n,λa H' ⟨p,h,l,j,I,Z⟩=>⟨_,Z,p,h,l,j,I,rfl⟩,?_⟩;show⟨H₀,S,J,n,G,_,x,o.same s3,y,⟨λp a H' h l j q=>⟨p,h,l,j,q.1,q.2⟩,λv H' d s' d' q=>ok.rt v H' d s' d' q,λp a H' h l j q=>ok.nx p a H' h l j q,λp a H' h l j q=>⟨p,h,l,j,q.1,q.2⟩,ok.ex⟩⟩
noncomputable def zo:List D->D->(List D->D->Prop)->Prop
 |ds,.lst es,Q=>⇑ds+⇑es<=br/\Q (ds++es) .non
 |_,_,_=>False
theorem aDM{K:aq}:M3 K LK zo:=by
 intro S H p xs ds y d Q3 Q l dn h a k
 cases d with
 |lst es =>
  symm at h;obtain⟨b,zs,rfl,m,n,j⟩:=h;show⟨p,b,xs,zs,rfl,rfl,l,m,by rw[<- dn.len,<- j.len];show a.1,k _ _ _ _ (dn.append j) (by symm) a.2⟩
 |_=>show a.elim
section
variable{i:Nat}{x:aj}{e:av}{p apos cpos:bo}{t:WX}
def ZV(n:GH X e t)(hN:X.N[i]?=ab x<|>0)(l:xR X.env.scope x<|>3)(o:Zu x<|>1)(j:Zt x<|>1)
  (d:attributeBase (.Name x p) "extend" X.env (eval (.Name x p) X.env)=eval (.Name x p) X.env<|>0)
  (h:Zo X cpos e<|>0)
  (a:Q0j apos cpos<|>0) (m:Zq X e []<|>0):
  GH X (.Call (.Attribute (.Name x p) "extend" apos) [e] [] cpos) (qx i zo t):=m1 a05 PySem.F.type_list_extend N2 aDM n hN l o j d h a m
end
end
section
variable{π:Q0b}{σ:L2.St}{H:Hp}{s:ak}{h':a_}
theorem turnT{t':Nat}{ch:List ah}{T:ah}{xs:List V}{h:Q0f}(I:Φ X π σ H s)(k:∀b o,b∉ch->s.heap.get? b=ab o->h'.get? b=ab o)(l:∀b∈ch,nF X π H b)
  (m:↥s<=T) (y:θ xs h) (x:⇑xs<=br) (A:jg h' T h.toArray) (nd:BL h' T):Φ X π σ (upd H T (.tup xs)) {s with heap:=h',toks:=t' }:=by
 have fr:H T=af:=I.hok.fresh m;have p:∀{b:ah} {o:ay},s.heap.get? b=ab o->b≠T:=λ{b} {o} e z=>jr _ (gu (cf e) (z▸m));have live:∀{b:ah} {u:HO},H b=ab u->b∉ch:=λ{b} {u} e z=>by rw[(l _ z).1] at e;cases e
 show I.call' (s':={s with heap:=h',toks:=t' }) (ch:=ch) rfl ⟨λb o e _ _ a=>k b o a e,λb o e _ _ a=>⟨o.slots,k b o a e⟩,λb o e n _=>by rw[aR (p e)];show n,λb o e a=>⟨o,k b o a e⟩,
  λb ys e=>by rw[aR (aT e fr)];show e,λb o u e=>by rw[aR (aT e fr)];show e,λb O e=>by rw[aR (aT e fr),e]⟩ ?_ I.bare λb d=>?_
 .intro b u e;by_cases d:b=T
  .subst d;rw[aN] at e;cases e;show⟨x,h,y,A,nd⟩
  .rw [aR d] at e;show(I.hok b u e).stay (λc v j q=>k c v ?_ q) (λc q=>by rw[aR (aT q fr)];show q) (λc ys q=>by rw[aR (aT q fr)];show q) λc o u q=>by rw[aR (aT q fr)];show q
   rcases j with rfl|j
   .exact live e
   .exact live j
 .obtain ⟨_,L,_,K,J,F⟩:=l b d;show⟨K,L,J,F⟩
def E3{t':Nat}{ch:List ah}(I:Φ X π σ H s)(k:∀b o,b∉ch->s.heap.get? b=ab o->h'.get? b=ab o)(h:∀b∈ch,nF X π H b):Φ X π σ H {s with heap:=h',toks:=t' }:=by
 have live:∀{b:ah} {u:HO},H b=ab u->b∉ch:=λ{b} {u} e z=>by rw[(h _ z).1] at e;cases e
 show I.call' (s':={s with heap:=h',toks:=t' }) (ch:=ch) rfl ⟨λb o e _ _ a=>k b o a e,λb o e _ _ a=>⟨o.slots,k b o a e⟩,λb o e n _=>n,λb o e a=>⟨o,k b o a e⟩,
  λb ys e=>e,λb o u e=>e,λb y e=>e⟩ ?_ I.bare λb j=>?_
 .intro b u e;show(I.hok b u e).stay (λc v d q=>k c v ?_ q) (λc q=>q) λc ys q=>q;rcases d with rfl|d
  .exact live e
  .exact live d
 .obtain ⟨_,x,_,p,m,l⟩:=h b j;show⟨p,x,m,l⟩
end
def Itp(go:Nat->Hp->Prop)(Y:Nat->Hp->List V->Prop)(stop:Nat->Hp->Prop):It:=⟨go,λi H x H'=>∃T vs,x=.ref T/\H T=af/\H'=upd H T (.tup vs)/\Y i H vs,stop⟩
def E4(P:bh)(w:bg)(A:bt)(it:ah)(wr:List ah)(n:Nat)(d:Nat->Array ai->Prop)(St:Nat->a_->Prop)(Mid:Nat->ah->a_->Prop):Prop :=
 ∀i (s:ak) (Q:Option ai->ak->Prop) (E:Q0c),i<n->St i s.heap ->
  (∀T vals h' a,d i vals->↥s<=T->h'.IsTuple T vals->BL h' T->Mid i T h'->(∀b o,b∉wr->s.heap.get? b=ab o->h'.get? b=ab o)->Q (ab (.ref T)) {s with heap:=h',toks:=a}) ->
  ax (au P w) A (pyNext (.ref it)) Q E s
theorem kZ{P:bh}{w:bg}{K:aq}{es:List av}{kk:Nat}{tp:bo}{go:Nat->Hp->Prop}{Y:Nat->Hp->List V->Prop}{stop:Nat->Hp->Prop}{p:List ah}{it:ah}{tn:Nat->a_->Prop}(mem:it∈p)
  (obj:∀i h,tn i h ->∀b∈p,∃o,h.get? b=ab o /\∀v,o.data≠.cell v) (keep:∀i h h',tn i h->(∀b∈p,∀o,h.get? b=ab o->h'.get? b=ab o)->tn i h')
  (wk:∀(X:Cx),X.Ω=P->X.w=w->X.K=K->X.calm=ae ->∀(i:Nat) (π:Q0b) (s:ak) (σ:L2.St) (H:Hp),Φ X π σ H s->tn i s.heap->go i H\/stop i H ->
   ∃j wr n q St Mid,(WalksT P w X.A it j wr n q St Mid/\E4 P w X.A it wr n q St Mid)/\St i s.heap/\(∀b∈wr,b∈p)/\(∀h,St (i+1) h->tn (i+1) h) /\
    (go i H->i<n /\∀vals,q i vals ->∃vs,⇑vs<=br/\θ vs vals.toList/\Y i H vs)/\(stop i H->i=n))
  (self:∀(A:bt) (i:Nat) (s:ak) (Q:Q0c) (E:Q0c),tn i s.heap->Q (.ref it) s->ax (au P w) A (pyIter (.ref it)) Q E s):
  Turn P w K (.Tuple es kk tp) (Itp go Y stop) p it tn where
 mem:=mem
 obj:=obj
 keep:=keep
 self:=self
 item:=by intro X hP hw hK U i π s σ H E I F y m;obtain⟨j,wr,n,q,St,Mid,⟨W,J2⟩,L,sub,nx,ok,_⟩:=wk X hP hw hK U i π s σ H I y (.inl m);obtain⟨hi,ok⟩:=ok m;show J2 i s _ _ hi L λT vals h1 x hp Z ht nd O k1=>⟨.ref T,rfl,W.go es kk tp i T _ _ _ O λh2 s2 l=>?_⟩;obtain⟨vs,hz,hv,hy⟩:=ok vals hp;obtain⟨o,eo,c,d⟩:=ht;have J:jg h2 T vals.toList.toArray:=⟨o,l T o (W.apart i T _ O) eo,c,↑d⟩;have I2:Φ X π σ (upd H T (.tup vs)) {s with heap:=h2,toks:=x}:=turnT (t':=x) (ch:=wr) I (λb o a e=>l b o a (k1 b o a e)) (λb a=>F b (sub b a)) Z hv hz J (nd.at eo (l T o (W.apart i T _ O) eo));show⟨.ref T,upd H T (.tup vs),I2,rfl,⟨T,vs,rfl,I.hok.fresh Z,rfl,hy⟩,nx h2 s2,λb a=>?_⟩;obtain⟨ob,eb,_⟩:=obj _ _ y b a;have nb:b≠T:=λz=>jr _ (gu (cf eb) (z▸Z));rw[aR nb];show(F b a).1
 done:=by intro X hP hw hK U i π s σ H E I F y m;obtain⟨j,wr,n,q,St,Mid,⟨W,_⟩,L,sub,nx,_,ok⟩:=wk X hP hw hK U i π s σ H I y (.inr m);obtain rfl:=ok m;show W.done s _ _ L λh2 x l=>⟨rfl,E3 (t':=x) (ch:=wr) I l λb a=>F b (sub b a)⟩
def Iel(K:aq)(l:ah):It:=Itp (λi H=>∃xs v,c7 K H l xs/\xs[i]?=ab v) (λi H vs=>∃v,vs=[.int i,v] /\∀xs,c7 K H l xs->xs[i]?=ab v) (λi H=>∃xs,c7 K H l xs/\⇑xs=i)
def Iet(K:aq)(l:ah):It:=Itp (λi H=>∃xs v,eJ K H l xs/\xs[i]?=ab v) (λi H vs=>∃v,vs=[.int i,v] /\∀xs,eJ K H l xs->xs[i]?=ab v) (λi H=>∃xs,eJ K H l xs/\⇑xs=i)
def pZ:[V.int 0,V.int 0].length<=br:=by rw[gm];decide
theorem E5(e it l:ah)(d:e≠it)(hle:l≠e)(a:l≠it)(items:Array ai):E4 Ω w A e [e,it] items.size (λi vals=>∃t x,items[i]?=ab x/\vals=#[.int i t,x])
  (λi h=>(∃old,xb h e it i old)/\h.IsListIter it l i/\h.IsList l items) (λi T h=>(∃x,IsEnumOut h e it ((i:Int)+1) x T)/\h.IsListIter it l (i+1)/\h.IsList l items/\T≠e/\T≠it):=by
 intro i s Q E J ⟨⟨old,z⟩,v,p⟩ q;have n:items[i]?=ab items[i]:=nz J;show wpAny_pyNext_enum_item z v p n d λg L K b3 _ m=>?_;have I:e<↥s:=cf z;have F:it<↥s:=by obtain⟨_,y,_⟩:=v;show cf y
 show q ↥s #[.int i s.toks,items[i]] g (s.toks+1) ⟨_,_,n,rfl⟩ (bq _) ⟨_,b3,rfl,_,rfl⟩ (BL.is b3 rfl) ⟨⟨_,L⟩,K,p.at λo y=>m l o hle a y,ni I,ni F⟩ λb o j y=>?_;erw[bu,jh,or_false,not_or] at j;show m b o j.1 j.2 y
theorem E6{Ω:bh}{w:bg}{A:bt}{it:ah}{m:List ah}{n:Nat}{P:Nat->ai->Prop}{St:Nat->a_->Prop}(D:km Ω w A.in1 it m n P St)(e:ah)(a:e≠it)(d:e∉m):
  E4 Ω w A e [e,it] n (λi vals=>∃t x,P i x/\vals=#[.int i t,x]) (λi h=>(∃old,xb h e it i old)/\St i h) (λi T h=>(∃x,IsEnumOut h e it ((i:Int)+1) x T)/\St (i+1) h/\T≠e/\T≠it):=by
 intro i s Q E K ⟨⟨old,v⟩,p⟩ q;show wpAny_pyNext_enum_itemD D v p K a d λx g l z O L b3 _ J=>?_;have I:e<↥s:=cf v;have F:it<↥s:=by obtain⟨_,y⟩:=D.live _ _ p;show cf y
 show q ↥s #[.int i l,x] g (l+1) ⟨_,_,z,rfl⟩ (bq _) ⟨_,b3,rfl,_,rfl⟩ (BL.is b3 rfl) ⟨⟨_,O⟩,L,ni I,ni F⟩ λb o j y=>?_;erw[bu,jh,or_false,not_or] at j;show J b o j.1 j.2 y
theorem IC(z TI TO j d m l:ah)(D:ZipApart z TI TO j d m l)(xs ys:Array ai):
  E4 Ω w A z [z,TO,j,d] (min xs.size ys.size) (λi vals=>∃x y,xs[i]?=ab x/\ys[i]?=ab y/\vals=#[x,y])
   (λi h=>iq h z TI TO .none/\gj h TI (.ref j) (.ref d)/\(∃a b,gj h TO a b)/\h.IsListIter j m i/\h.IsListIter d l i/\h.IsList m xs/\h.IsList l ys)
   (λi T h=>iq h z TI TO (rawInt T)/\gj h TI (.ref j) (.ref d)/\(∃a b,gj h TO a b)/\h.IsListIter j m (i+1)/\h.IsListIter d l (i+1)/\h.IsList m xs/\h.IsList l ys/\T≠z/\T≠TO/\T≠j/\T≠d):=by
 intro i s Q E hi ⟨Y,X,⟨x,y,U⟩,O,L,K,J⟩ q;have F:i<xs.size:=∅
 have v:i<ys.size:=∅
 show wpAny_pyNext_zip_item D Y X U O L K J (nz F) (nz v) λg b1 Z b3 b4 I _ p=>?_;have fresh:∀{c:ah} {o:ay},s.heap.get? c=ab o->↥s≠c:=λe=>ni (cf e);show q ↥s #[xs[i],ys[i]] g s.toks ⟨_,_,nz F,nz v,rfl⟩ (bq _) ⟨_,I,rfl,_,rfl⟩ (BL.is I rfl)
  ⟨b1,p _ _ D.TIz D.TITO D.TIi1 D.TIi2 X,⟨_,_,Z⟩,b3,b4,K.at λo e=>p _ o D.l1z D.l1TO D.l1i1 D.l1i2 e,J.at λo e=>p _ o D.l2z D.l2TO D.l2i1 D.l2i2 e,fresh Y,fresh U,(by obtain⟨_,e,_⟩:=O;show fresh e),(by obtain⟨_,e,_⟩:=L;show fresh e)⟩ λb o n e=>?_
 erw[bu,jh,or_false,not_or] at n;show p b o n.1 n.2.1 n.2.2.1 n.2.2.2 e
theorem ID{P:bh}{w:bg}{K:aq}{es:List av}{kk:Nat}{tp:bo}{e it l:ah}(n:e≠it)(hle:l≠e)(m:l≠it):
  Turn P w K (.Tuple es kk tp) (Iel K l) [e,it] e (λi h=>(∃old,xb h e it i old)/\h.IsListIter it l i):=by
 show kZ (by simp) (λi h d b U=>?_) (λi h h2 d k=>?_) (λX hP hw hK hc i π s σ H I d hg=>?_) (λA i s Q E d q=>?_)
 .obtain ⟨⟨old,a⟩,o,c,d1,d2⟩:=d;rcases bu.mp U with rfl|j
  .exact ⟨_,a,λv z=>by cases z⟩
  .rw [dh.mp j];show⟨o,c,λv z=>by rw[d2] at z;cases z⟩
 .obtain ⟨⟨old,a⟩,b⟩:=d;show⟨⟨old,k e (by simp) _ a⟩,b.at λo q=>k it (by simp) o q⟩
 .subst hP hw hK;have j:∃xs,c7 X.K H l xs:=by rcases hg with⟨xs,_,a,_⟩|⟨xs,a,_⟩<;>show⟨xs,a⟩
  obtain⟨xs,j⟩:=j;obtain⟨y,Y,p,hz⟩:=I.list j;have Z:=⇑Y;show⟨_,_,_,_,_,_,⟨WalksT.enumerate (I.ok.hd hc) e it l n hle m y.toArray,E5 e it l n hle m y.toArray⟩,⟨d.1,d.2,p.isList⟩,λb U=>U,λh q=>⟨q.1,q.2.1⟩,λg=>?_,λg=>?_⟩
  .obtain ⟨ys,v,J,L⟩:=g;obtain rfl:=I.d7 J j;obtain⟨u,hu,ru⟩:=Y.get L;have O:i<⇑ys:=(de.mp L).1;show⟨by rw[cu,<- Z];show O,λvals q=>?_⟩;obtain⟨t,x,hx,rfl⟩:=q;have ex:x=u:=by
    have:y[i]?=ab x:=by simpa using hx
    rw[hu] at this;show(dm this).symm
   subst ex;show⟨[.int i,v],pZ,.cons ⟨t,rfl⟩ (.cons ru .nil),v,rfl,λzs F=>by rw[I.d7 F j];show L⟩
  .obtain ⟨ys,J,e2⟩:=g;obtain rfl:=I.d7 J j;rw[cu,<- Z,e2]
 .obtain ⟨⟨old,a⟩,b⟩:=d;show Ay a q
def Izl(K:aq)(l m:ah):It:=Itp (λi H=>∃xs ys v u,c7 K H l xs/\c7 K H m ys/\xs[i]?=ab v/\ys[i]?=ab u) (λi H vs=>∃v u,vs=[v,u]/\(∀xs,c7 K H l xs->xs[i]?=ab v) /\∀ys,c7 K H m ys->ys[i]?=ab u)
 (λi H=>∃xs ys,c7 K H l xs/\c7 K H m ys/\min ⇑xs ⇑ys=i)
theorem UL{P:bh}{w:bg}{K:aq}{es:List av}{kk:Nat}{tp:bo}{z TI TO J F l m:ah}(D:ZipApart z TI TO J F l m):
  Turn P w K (.Tuple es kk tp) (Izl K l m) [z,TI,TO,J,F] z (λi h=>iq h z TI TO .none/\gj h TI (.ref J) (.ref F)/\(∃a b,gj h TO a b)/\h.IsListIter J l i/\h.IsListIter F m i):=by
 show kZ (by simp) (λi h d b hb=>?_) (λi h h2 d k=>?_) (λX hP hw hK hc i π s σ H I d hg=>?_) (λA i s Q E d q=>?_)
 .obtain ⟨a1,a2,⟨x,y,a3⟩,⟨o4,c4,_,d4⟩,o5,c5,_,d5⟩:=d;erw[bu,or_false,jh] at hb;rcases hb with rfl|rfl|rfl|rfl|rfl
  .exact ⟨_,a1,λv z=>by cases z⟩
  .exact ⟨_,a2,λv z=>by cases z⟩
  .exact ⟨_,a3,λv z=>by cases z⟩
  .exact ⟨o4,c4,λv z=>by rw[d4] at z;cases z⟩
  .exact ⟨o5,c5,λv z=>by rw[d5] at z;cases z⟩
 .obtain ⟨a1,a2,⟨x,y,a3⟩,a4,a5⟩:=d;show⟨k z (by simp) _ a1,k TI (by simp) _ a2,⟨x,y,k TO (by simp) _ a3⟩,a4.at λo q=>k J (by simp) o q,a5.at λo q=>k F (by simp) o q⟩
 .subst hP hw hK;have U:∃xs ys,c7 X.K H l xs/\c7 X.K H m ys:=by rcases hg with⟨xs,ys,_,_,a,b,_⟩|⟨xs,ys,a,b,_⟩<;>show⟨xs,ys,a,b⟩
  obtain⟨xs,ys,U,n⟩:=U;obtain⟨ι,rv,p,hz⟩:=I.list U;obtain⟨j,Y,p2,hz2⟩:=I.list n;have hl:=⇑rv;have Z:=⇑Y;show⟨_,_,_,_,_,_,⟨WalksT.zip2 (I.ok.hd hc) z TI TO J F l m D ι.toArray j.toArray,IC z TI TO J F l m D ι.toArray j.toArray⟩,⟨d.1,d.2.1,d.2.2.1,d.2.2.2.1,d.2.2.2.2,p.isList,p2.isList⟩,λb hb=>?_,λh q=>⟨q.1,q.2.1,q.2.2.1,q.2.2.2.1,q.2.2.2.2.1⟩,λg=>?_,λg=>?_⟩
  .erw[bu,jh,or_false] at hb ⊢;rcases hb with rfl|rfl|rfl|rfl<;>simp
  .obtain ⟨x',y',v,u,hy,O,hv,hu⟩:=g;obtain rfl:=I.d7 hy U;obtain rfl:=I.d7 O n;obtain⟨r,er,rr⟩:=rv.get hv;obtain⟨r2,er2,rr2⟩:=Y.get hu;have hlt:i<⇑x':=(de.mp hv).1;have hlt2:i<⇑y':=(de.mp hu).1;show⟨by rw[cu,cu,<- hl,<- Z];lia,λvals q=>?_⟩;obtain⟨x,y,hx,hy',rfl⟩:=q;have ex:x=r:=by
    have:ι[i]?=ab x:=by simpa using hx
    rw[er] at this;show(dm this).symm
   have ey:y=r2:=by
    have:j[i]?=ab y:=by simpa using hy'
    rw[er2] at this;show(dm this).symm
   subst ex ey;show⟨[v,u],pZ,.cons rr (.cons rr2 .nil),v,u,rfl,λzs L=>by rw[I.d7 L U];show hv,λzs L=>by rw[I.d7 L n];show hu⟩
  .obtain ⟨x',y',hy,O,e2⟩:=g;obtain rfl:=I.d7 hy U;obtain rfl:=I.d7 O n;rw[cu,cu,<- hl,<- Z,e2]
 .exact wq d.1 q
section
variable{Ω:bh}{w:bg}{A:bt}{E:Q0c}{s:ak}
theorem UM(hit:s.heap.IsTupleIter it t i)(l:s.heap.IsTuple t items)(j:items[i]?=ab x)
  (p:∀h',h'.IsTupleIter it t (i+1)->r9 it s.heap h'->Q x {s with heap:=h' }):ax (au Ω w) A (vd (.ref it)) Q E s:=by
 obtain⟨⟨q,d,_,nl,h⟩,o,ho,n,a⟩:=Dj l hit;show ao (m:=callSpecial? _ _) (pf hit.typeIs Bt (jw Bt hit.typeIs a1a ?_ (a1e _)));show ao (m:=field _ 0) (jv ho a (x:=.ref t) rfl ?_);show ax _ _ (if ag=ae then _ else _) _ _ s;rw[Zz bz];show ao (m:=field _ 1) (jv ho a (x:=.int i 0) rfl (ao (m:=seqItems? _) (n_ d h ?_)));erw[j,gq];show ao (a0g ho a (by simp) (az ⟨x,rfl,az (p _ ⟨_,u_ _ ho (a00 (Bp a _)),(a01 ..).trans n,?_⟩ (mz ..))⟩));rw[Bp a];simp[rawInt]
theorem OJ(n:A.handled=af)(hit:s.heap.IsTupleIter it t i)(l:s.heap.IsTuple t items)(j:items[i]?=af)
  (p:∀h' e,Iy it s.heap h'->(∃o,h'.get? e=ab o/\o.cls=.type "StopIteration")->E (.ref e) {s with heap:=h' }):ax (au Ω w) A (vd (.ref it)) Q E s:=by
 obtain⟨⟨v,a,_,nl,d⟩,o,ho,y,h⟩:=Dj l hit;show ao (m:=callSpecial? _ _) (pf hit.typeIs Bt (jw Bt hit.typeIs a1a ?_ (a1e _)));show ao (m:=field _ 0) (jv ho h (x:=.ref t) rfl ?_);show ax _ _ (if ag=ae then _ else _) _ _ s;rw[Zz bz];show ao (m:=field _ 1) (jv ho h (x:=.int i 0) rfl (ao (m:=seqItems? _) (n_ a d ?_)));erw[j,gq];show ao (je (ao (m:=setField _ _ _) (a0g ho h (by simp) ?_)));have q:A.in1.handled=af:=n
 wp_walk
 delta raiseNew;apply ao;apply a0k;rw[q];show ao (az (a0d (p _ _ (((mz ..).extBut.push _).push _) ⟨_,d_ _ rfl,rfl⟩)))
theorem UN(p:A.handled=af)(it t:ah)(l:t≠it)(items:Array ai):km Ω w A it [it,t] items.size (λi v=>items[i]?=ab v) (λi h=>h.IsTupleIter it t i/\h.IsTuple t items) where
 live:=λi h d=>by obtain⟨⟨o,ho,_⟩,_⟩:=d;show⟨o,ho⟩
 frame:=λi h h' d k=>by obtain⟨⟨o,ho,r⟩,o2,j,n⟩:=d;show⟨⟨o,k it (by simp) o ho,r⟩,o2,k t (by simp) o2 j,n⟩
 item:=λi s Q E m d q=>UM d.1 d.2 (x:=items[i]) (nz m) λh' a b=>q _ h' s.toks (nz m) ⟨a,d.2.extBut b.extBut l⟩ b
 done:=λs Q E d q=>OJ p d.1 d.2 (a2S (bq _)) q
theorem OL(l:ah)(items:Array ai):Meets (Builtin.«enumerate.__new__» ⟨[.type "enumerate",.ref l],[]⟩) (λ_ R s=>s.heap.IsTuple l items /\
  R (.ok (.ret (.ref (s.heap.push {cls:=.type "tuple_iterator",data:=.fields #[.ref l,.int 0 0]}).objs.size))) {s with heap:=(s.heap.push {cls:=.type "tuple_iterator",data:=.fields #[.ref l,.int 0 0]}).push {cls:=.type "enumerate",data:=.fields #[.none,.bool ag,.ref ↥s,rawInt 0,.none,.none]} }):=by
 show .of_wp λp0 n x v s h=>?_;obtain⟨a,h⟩:=h;obtain⟨m,q,d,o,p⟩:=s;have j:=sub_enumerate
 wp_walk using ur a
 show wpAny_stack_any λ_=>az ?_;split<;>first
  | (rename_i c _ _ _ _ _;cases (c == jm "enumerate")<;>(wp_walk using ur a;show⟨_,rfl,h⟩))
  | (wp_walk using ur a;show⟨_,rfl,h⟩)
theorem IE(n:s.heap.IsTuple l items)
  (h:∀h',xb h' (↥s+1) ↥s 0 .none->h'.IsTupleIter ↥s l 0->(∀b o,s.heap.get? b=ab o->h'.get? b=ab o)->Q (.ref (↥s+1)) {s with heap:=h' }):ax (au Ω w) A (call (.type "enumerate") [.ref l]) Q E s:=by
 show Ij F.called_enumerate ⋯ (F.typeCall_enumerate_1 _) (F.newCall_enumerate_1 _) (λobj=>a1f obj _) F.entry_enumerate_new (OL l items) ⟨n,?_⟩;generalize a:s.heap.push {cls:=.type "tuple_iterator",data:=.fields #[.ref l,.int 0 0]}=h1;have e1:h1.objs.size=↥s+1:=by rw[<- a,oo]
 have g1:h1.get? ↥s=ab {cls:=.type "tuple_iterator",data:=.fields #[.ref l,.int 0 0]}:=by rw[<- a];show d_ _ rfl
 have m:∀b o,s.heap.get? b=ab o->h1.get? b=ab o:=λb o e=>by rw[<- a];show cx _ e
 generalize j:h1.push {cls:=.type "enumerate",data:=.fields #[.none,.bool ag,.ref ↥s,rawInt 0,.none,.none]}=h2;have g2:h2.get? h1.objs.size=ab {cls:=.type "enumerate",data:=.fields #[.none,.bool ag,.ref ↥s,rawInt 0,.none,.none]}:=by rw[<- j];show d_ _ rfl
 have d:∀b o,h1.get? b=ab o->h2.get? b=ab o:=λb o e=>by rw[<- j];show cx _ e
 show⟨⟨_,g2,rfl⟩,?_⟩;rw[e1] at g2 ⊢;show h h2 g2 ⟨_,d _ _ g1,rfl,rfl⟩ λb o e=>d b o (m b o e)
end
theorem IF{P:bh}{w:bg}{K:aq}{es:List av}{kk:Nat}{tp:bo}{e it l:ah}(m:e≠it)(hle:l≠e)(Y:l≠it):
  Turn P w K (.Tuple es kk tp) (Iet K l) [e,it] e (λi h=>(∃old,xb h e it i old)/\h.IsTupleIter it l i):=by
 show kZ (by simp) (λi h d b Z=>?_) (λi h h2 d k=>?_) (λX hP hw hK hc i π s σ H I d hg=>?_) (λA i s Q E d q=>?_)
 .obtain ⟨⟨old,a⟩,o,c,d1,d2⟩:=d;rcases bu.mp Z with rfl|j
  .exact ⟨_,a,λv z=>by cases z⟩
  .rw [dh.mp j];show⟨o,c,λv z=>by rw[d2] at z;cases z⟩
 .obtain ⟨⟨old,a⟩,o,b,r⟩:=d;show⟨⟨old,k e (by simp) _ a⟩,o,k it (by simp) o b,r⟩
 .subst hP hw hK;have j:∃xs,eJ X.K H l xs:=by rcases hg with⟨xs,_,a,_⟩|⟨xs,a,_⟩<;>show⟨xs,a⟩
  obtain⟨xs,j⟩:=j;obtain⟨n,rv,p,hz⟩:=I.tuple j;have hl:=⇑rv;have D:km X.Ω X.w X.A.in1 it [it,l] n.toArray.size (λi v=>n.toArray[i]?=ab v) (λi h=>h.IsTupleIter it l i/\h.IsTuple l n.toArray):=UN (show X.A.in1.handled=af from I.ok.hd hc) it l Y n.toArray;have y:e∉[it,l]:=λz=>by
   rcases bu.mp z with F|F
   .exact m F
   .exact hle (dh.mp F).symm
  show⟨_,_,_,_,_,_,⟨WalksT.enumerateD D e m y (by simp),E6 D e m y⟩,⟨d.1,d.2,p⟩,λb Z=>Z,λh q=>⟨q.1,q.2.1⟩,λg=>?_,λg=>?_⟩
  .obtain ⟨ys,v,L,O⟩:=g;obtain rfl:=I.gO L j;obtain⟨u,hu,ru⟩:=rv.get O;have U:i<⇑ys:=(de.mp O).1;show⟨by rw[cu,<- hl];show U,λvals q=>?_⟩;obtain⟨t,x,hx,rfl⟩:=q;have ex:x=u:=by
    have:n[i]?=ab x:=by simpa using hx
    rw[hu] at this;show(dm this).symm
   subst ex;show⟨[.int i,v],pZ,.cons ⟨t,rfl⟩ (.cons ru .nil),v,rfl,λzs J=>by rw[I.gO J j];show O⟩
  .obtain ⟨ys,L,e2⟩:=g;obtain rfl:=I.gO L j;rw[cu,<- hl,e2]
 .obtain ⟨⟨old,a⟩,b⟩:=d;show Ay a q
section
variable{es:List av}{kk:Nat}{tp:bo}
def ZW{a:av}{L:TA}{p F:bo}(hg:Gl X "enumerate")(hm:X.mg "enumerate"=af)(ha:PA X [a] L)(hs:ar [a] X.env=[(ag,eval a X.env)]<|>0):
  PI X (.Tuple es kk tp) (.Call (.Name "enumerate" p) [a] [] F) (λσ H R=>L σ H λvs H1=>∃l,vs=[.ref l]/\(((∃xs,c7 X.K H1 l xs)/\R (Iel X.K l) H1)\/((∃xs,eJ X.K H1 l xs)/\R (Iet X.K l) H1))):=by
 intro π s σ H R I h;show vh (iX I hg hm boot_enumerate (sx (dI (ha F π s σ H _ I h) λus j ⟨vs,H1,m,r1,q1⟩=>?_) hs rfl));obtain⟨l,e,q⟩:=q1;subst e;obtain⟨u,rfl,Z⟩:=vals1 r1;cases Z;have U:∀b∈[↥j+1,↥j],nF X π H1 b:=λb O=>by
  have hle:↥j<=b:=by
   erw[bu,or_false,jh] at O;rcases O with rfl|rfl
   .exact qm _
   .exact bq _
  show m.vU hle (m.hok.fresh hle)
 rcases q with⟨⟨xs,y⟩,q⟩|⟨⟨xs,y⟩,q⟩
 .obtain ⟨J,Y,v,hz⟩:=m.list y;have d:l<↥j:=by obtain⟨o,n,e,_⟩:=v;show cf e
  show call_enumerate_list v.isList λh' x A hsz z=>Ay x ?_;show⟨↥j+1,_,_,_,H1,rfl,m.kept (t':=j.toks) z,ID (Ka _) (gp (vk d)) (gp d),⟨⟨_,x⟩,A⟩,U,q⟩
 .obtain ⟨J,Y,v,hz⟩:=m.tuple y;have d:l<↥j:=v.lt;show IE (items:=J.toArray) v λh' x A z=>Ay x ?_;show⟨↥j+1,_,_,_,H1,rfl,m.kept (t':=j.toks) z,IF (Ka _) (gp (vk d)) (gp d),⟨⟨_,x⟩,A⟩,U,q⟩
def aDN{a b:av}{U:TA}{p O:bo}(hg:Gl X "zip")(hm:X.mg "zip"=af)(ha:PA X [a,b] U)(hs:ar [a,b] X.env=[(ag,eval a X.env),(ag,eval b X.env)]<|>0)(v:ar [b] X.env=[(ag,eval b X.env)]<|>0):
  PI X (.Tuple es kk tp) (.Call (.Name "zip" p) [a,b] [] O) (λσ H R=>U σ H λvs H1=>∃l m xs ys,vs=[.ref l,.ref m]/\c7 X.K H1 l xs/\c7 X.K H1 m ys/\R (Izl X.K l m) H1):=by
 intro π s σ H R I h;show vh (iX I hg hm boot_zip (sx (dI (ha O π s σ H _ I h) λus d ⟨vs,H1,y,r1,q1⟩=>?_) (by rw[hs,v]) (by rw[v];rfl)));obtain⟨l,m,xs,ys,e,hq,A,q⟩:=q1;subst e;obtain⟨u,u2,rfl,ru,z⟩:=vals2 r1;cases ru;cases z;obtain⟨ι,rv,Y,hz⟩:=y.list hq;obtain⟨Z,rv2,j,hz2⟩:=y.list A;have F:l<↥d:=by obtain⟨o,n,e,_⟩:=Y;show cf e
 have x:m<↥d:=by obtain⟨o,n,e,_⟩:=j;show cf e
 show call_zip_2 Y.isList j.isList λh' hZ M_ Mz L J hsz hk=>wq hZ ?_;show⟨↥d+4,_,_,_,H1,rfl,y.kept (t':=d.toks) hk,UL (zipApart_new F x),⟨hZ,M_,⟨_,_,Mz⟩,L,J⟩,λb hb=>?_,q⟩;have hle:↥d<=b:=by
  erw[bu,or_false,jh] at hb;rcases hb with rfl|rfl|rfl|rfl|rfl
  .exact ou _ 4
  .exact ou _ 2
  .exact ou _ 3
  .exact bq _
  .exact ou _ 1
 show y.vU hle (y.hok.fresh hle)
def sD(ds:List D):List D:=ds.zipIdx.map λp=>.tup [.int (p.2:Int),p.1]
def IG(a b:List D):List D:=(a.zip b).map λp=>.tup [p.1,p.2]
theorem zP{ds:List D}{i:Nat}{d:D}(h:(sD ds)[i]?=ab d):∃d0,ds[i]?=ab d0/\d=.tup [.int (i:Int),d0]:=by
 delta sD at h;rw[c_,a2k] at h
 cases q:ds[i]? with
 |none=>rw[q] at h;cases h
 |some d0 =>
  rw[q] at h;simp at h;show⟨d0,rfl,h.symm⟩
theorem E7{a b:List D}{i:Nat}{d:D}(h:(IG a b)[i]?=ab d):∃x y,a[i]?=ab x/\b[i]?=ab y/\d=.tup [x,y]:=by
 delta IG at h;rw[c_] at h
 cases q:(a.zip b)[i]? with
 |none=>rw[q] at h;cases h
 |some xy =>
  rw[q] at h;obtain⟨j,h2⟩:=yc.mp q;show⟨xy.1,xy.2,j,h2,(dm h).symm⟩
def t6{K:aq}{S:ah->Prop}{H:Hp}{T:ah}{x y:V}{d a:D}(fr:H T=af)(j:Dn K S H d x)(h:Dn K S H a y):Dn K S (upd H T (.tup [x,y])) (.tup [d,a]) (.ref T):=by symm;show⟨T,[x,y],rfl,aN,aM.fits (.same (aH fr)) _ _ (aM.cons j (aM.one h))⟩
theorem OM{K:aq}{a:ah}{ds:List D}:Wlk K (Iel K a) (sD ds) [(.lst ds,.ref a)] where
 go:=λS H A m i d e=>by have h:=m _ (dh.mpr rfl);symm at h;obtain⟨b,xs,j,l,n,dn⟩:=h;injection j with j;subst j;obtain⟨d0,e0,rfl⟩:=zP e;obtain⟨v,ev,q⟩:=dn.get e0;show⟨⟨xs,v,c7.of l,ev⟩,λx H' y=>?_⟩;obtain⟨T,vs,rfl,fr,rfl,z,rfl,o⟩:=y;have ex:=o xs (c7.of l);rw[ev] at ex;cases ex;show⟨aH fr,t6 fr (by symm) q⟩
 stop:=λS H m i p=>by have h:=m _ (dh.mpr rfl);symm at h;obtain⟨b,xs,j,l,n,dn⟩:=h;injection j with j;subst j;show⟨xs,c7.of l,by rw[<- dn.len,<- p];simp[sD]⟩
theorem ON{K:aq}{a:ah}{ds:List D}:Wlk K (Iet K a) (sD ds) [(.tup ds,.ref a)] where
 go:=λS H z m i d e=>by have h:=m _ (dh.mpr rfl);symm at h;obtain⟨b,xs,j,l,dn⟩:=h;injection j with j;subst j;obtain⟨d0,e0,rfl⟩:=zP e;obtain⟨v,ev,p⟩:=dn.get e0;show⟨⟨xs,v,(eJ.of l),ev⟩,λx H' y=>?_⟩;obtain⟨T,vs,rfl,fr,rfl,q,rfl,n⟩:=y;have ex:=n xs (eJ.of l);rw[ev] at ex;cases ex;show⟨aH fr,t6 fr (by symm) p⟩
 stop:=λS H m i o=>by have h:=m _ (dh.mpr rfl);symm at h;obtain⟨b,xs,j,l,dn⟩:=h;injection j with j;subst j;show⟨xs,(eJ.of l),by rw[<- dn.len,<- o];simp[sD]⟩
theorem ZX{K:aq}{a c:ah}{ds es:List D}:Wlk K (Izl K a c) (IG ds es) [(.lst ds,.ref a),(.lst es,.ref c)] where
 go:=λS H fc n i d e=>by have h:=n (.lst ds,.ref a) (by simp);have h2:=n (.lst es,.ref c) (by simp);symm at h h2;obtain⟨b,xs,l,p,I,dn⟩:=h;obtain⟨Y,ys,m,j,q,A⟩:=h2;injection l with l;injection m with m;subst l m;obtain⟨x0,Z,e0,e1,rfl⟩:=E7 e;obtain⟨v,ev,O⟩:=dn.get e0;obtain⟨u,F,U⟩:=A.get e1;show⟨⟨xs,ys,v,u,c7.of p,c7.of j,ev,F⟩,λx H' y=>?_⟩;obtain⟨T,vs,rfl,fr,rfl,v',u',rfl,J,z⟩:=y;have ex:=J xs (c7.of p);have o:=z ys (c7.of j);rw[ev] at ex;rw[F] at o;cases ex;cases o;show⟨aH fr,t6 fr O U⟩
 stop:=λS H n i L=>by have h:=n (.lst ds,.ref a) (by simp);have h2:=n (.lst es,.ref c) (by simp);symm at h h2;obtain⟨b,xs,l,p,I,dn⟩:=h;obtain⟨Y,ys,m,j,q,A⟩:=h2;injection l with l;injection m with m;subst l m;show⟨xs,ys,c7.of p,c7.of j,by rw[<- dn.len,<- A.len,<- L];simp[IG]⟩
noncomputable def Yo(t:WA):WI:=λρ Q=>t ρ λds=>match ds with
 |[.lst es]=>Q (sD es)
 |[.tup es]=>Q (sD es)
 |_=>False
noncomputable def Rj(t:WA):WI:=λρ Q=>t ρ λds=>match ds with
 |[.lst a,.lst b]=>Q (IG a b)
 |_=>False
def IH(A:X.mg "enumerate"=af)(F:tZ X [a] t)(j:Gl X "enumerate"<|>0)(z:ar [a] X.env=[(ag,eval a X.env)]<|>0):UA X (.Tuple es kk tp) (.Call (.Name "enumerate" p) [a] [] ν) (Yo t) :=
 HZ (ZW j A F z) λσ H R K=>by
  obtain⟨S,ρ,Q3,I,x,y,k⟩:=K;show⟨S,ρ,_,I,x,y,λvs H1 ds n o q1=>?_⟩;split at q1
  .obtain ⟨v,r,rfl,h,h2⟩:=o.aY;erw[aM] at h2;subst h2;have d:=h;symm at h;obtain⟨l,xs,rfl,m,q,J⟩:=h;show⟨l,rfl,.inl ⟨⟨xs,c7.of m⟩,k _ H1 _ [(_,.ref l)] n (λg j=>by cases dh.mp j;show d) OM q1⟩⟩
  .obtain ⟨v,r,rfl,h,h2⟩:=o.aY;erw[aM] at h2;subst h2;have d:=h;symm at h;obtain⟨l,xs,rfl,m,J⟩:=h;show⟨l,rfl,.inr ⟨⟨xs,(eJ.of m)⟩,k _ H1 _ [(_,.ref l)] n (λg j=>by cases dh.mp j;show d) ON q1⟩⟩
  .exact q1.elim
def Rh{a b:av}{t:WA}{p z:bo}(O:X.mg "zip"=af)(Y:tZ X [a,b] t)(d:Gl X "zip"<|>0)(L:ar [a,b] X.env=[(ag,eval a X.env),(ag,eval b X.env)]<|>0)(h:ar [b] X.env=[(ag,eval b X.env)]<|>0):
  UA X (.Tuple es kk tp) (.Call (.Name "zip" p) [a,b] [] z) (Rj t) :=
 HZ (aDN d O Y L h) λσ H R Rf=>by
  obtain⟨S,ρ,Q3,Z,I,K,k⟩:=Rf;show⟨S,ρ,_,Z,I,K,λvs H1 ds J d1 q1=>?_⟩;split at q1
  .obtain ⟨v,r,rfl,x,h2⟩:=d1.aY;obtain⟨v2,r2,rfl,o,y⟩:=h2.aY;erw[aM] at y;subst y;have q:=x;have n:=o;symm at x o;obtain⟨l,xs,rfl,U,F,da⟩:=x;obtain⟨m,ys,rfl,j,A,da2⟩:=o;show⟨l,m,xs,ys,rfl,c7.of U,c7.of j,k _ H1 _ [(_,.ref l),(_,.ref m)] J (λg d=>?_) ZX q1⟩;rcases bu.mp d with rfl|d
   .exact q
   .cases dh.mp d;show n
  .exact q1.elim
variable{a b:av}{ν:bo}{ta tb:WE}
def ZY:iA X (binaryOp .Mult) (rI xf λi j=>.int (i*j)):=opI λ_ _ _ _ _ _ _ d q=>mul_int q d
def Yn:F2:=OA xf λi j=>.int (i*j)
def Ym(h:cC X a ta)(d:cC X b tb):cC X (.BinOp a .Mult b ν) (gC Yn ta tb):=WU ZY mE h d
end
theorem ZZ(d:i.natAbs<2^m)(a:j.natAbs<2^n)(h:m+n<=134217728):xf i j:=by show mulOk_of_bits (intBits_le d) (intBits_le a) h
noncomputable def aM1(t:WE):WT:=λρ Q=>t ρ λd=>match d with
 |.lst ds=>Q (!ds.isEmpty)
 |.tup ds=>Q (!ds.isEmpty)
 |_=>False
def aM.empty{K:aq}{S:ah->Prop}{H:Hp}{ds:List D}{xs:List V}(h:aM K S H ds xs):ds.isEmpty=xs.isEmpty:=by have:=h.len;cases ds<;>cases xs<;>simp at this ⊢
def zm:List V->Hp->VK->Prop:=λxs H Q=>∃(a:ah) (ns:Q0e),xs=[.ref a]/\H a=ab (.lst (ns.map V.int))/\Q (.int ns.sum) H
theorem zQ(o:X.calm=ae):eX X (.builtin "sum") zm:=by
 intro π s σ H xs us Q I r h;obtain⟨a,ns,rfl,v,q⟩:=h;obtain⟨u,rfl,m⟩:=vals1 r;cases m;obtain⟨y,l,p,A⟩:=I.list (c7.of v);have d:=intsAre_of l;obtain⟨zs,j⟩:=d.allInts.items;have x:zs.toList.map (·.1)=ns:=by rw[<- a0w,<- j];show d.numsOf
 have ev:preSum (numAt zs) zs.size=ns.sum:=by rw[preSum_eq,s_ (by simp),x]
 show sum_intListG (I.ok.hd o) (j▸p.isList) λh' z t' n=>⟨.int ns.sum,H,I.kept n,⟨t',by rw[ev]⟩,q⟩
def sumF:F1
 |[.lst ds],Q=>(match intsOf ds with|some ns=>Q (.int ns.sum)|none=>False)
 |_,_=>False
def OO{ns:Q0e}{Q:D->Prop}:sumF [.lst (ns.map D.int)] Q=Q (.int ns.sum):=by show(match intsOf (ns.map D.int) with|some ns=>Q (.int ns.sum)|none=>False)=_;rw[bP]
theorem aDP{K:aq}:C3 K zm sumF:=by
 intro S H xs ds Q3 Q x l h k
 match ds,h with
 |[.lst es],h =>
  obtain⟨v,r,rfl,j,h2⟩:=l.aY;erw[aM] at h2;subst h2;symm at j;obtain⟨a,ys,rfl,m,p,o⟩:=j;have d:(match intsOf es with|some ns=>Q3 (.int ns.sum)|none=>False):=h
  clear h
  cases q:intsOf es with
  |none=>rw[q] at d;show d.elim
  |some ns =>
   rw[q] at d;have e:=rJ q;subst e;have n:=aM.ints.mp o;subst n;show⟨a,ns,rfl,m,k _ H _ (ξ.refl H) (by symm) d⟩
theorem Rc(j:X.calm=ae)(a:X.mg "sum"=af)(l:tZ X [e] t)(d:Gl X "sum"<|>0)
  (h:Zq X e []<|>0):cC X (.Call (.Name "sum" p) [e] [] ν) (OD sumF t):=wL (zQ j) aDP a1D d a l ⋯ ⋯ h (by rfl)
abbrev WO:=cN->(Option Int->Prop)->Prop
inductive Gn (K:aq) (t:WO) (σ:L2.St) (H:Hp) (Q:(Option Int->Hp->Prop)):Prop
 |mk (S:ah->Prop) (ρ:cN) (Q3:Option Int->Prop) (h1:(∀a,H a=af->S a)) (h2:Sl K S H ρ σ) (h3:t ρ Q3) (h4:∀o H',ξ H H'->Q3 o->Q o H'):Gn K t σ H Q
def PO3(X:Cx)(e:Option av)(t:WO):Prop:=PO X e (Gn X.K t)
def Z0:WO:=λ_ Q=>Q af
noncomputable def Yl(t:WE):WO:=λρ Q=>t ρ λd=>match d with
 |.int i=>Q (ab i)
 |_=>False
def Qf:PO3 X af Z0:=λπ s σ H Q I d=>by obtain⟨S,ρ,Q3,j,h,a,k⟩:=d;show Y4 π s σ H Q I (k af H (ξ.refl H) a)
theorem po3(h:cC X e t):PO3 X (ab e) (Yl t):=λπ s σ H Q I o=>by
 obtain⟨S,ρ,Q3,n,j,m,k⟩:=o;show Y5 h π s σ H Q I ⟨S,ρ,_,n,j,m,λv H1 d l a q1=>?_⟩
 cases d with
 |int i=>symm at a;show⟨i,a,k _ H1 l q1⟩
 |_=>show q1.elim
def cutD(xs:List D)(lo a:Option Int):List D:=(xs.drop (HT.fZ ⇑xs 0 lo)).take (HT.fZ ⇑xs ⇑xs a-HT.fZ ⇑xs 0 lo)
def aM.cut{K:aq}{S:ah->Prop}{H:Hp}{ds:List D}{xs:List V}{lo a:Option Int}(h:aM K S H ds xs):aM K S H (cutD ds lo a) (EJ xs lo a):=by delta cutD EJ;rw[h.len];show(h.drop _).take _
theorem UO{Ω:bh}{w:bg}{A:bt}{E:Q0c}{s:ak}{t j:ah}{items:Array ai}{p l:ai}{lo v:Option Int}{Q:Q0c}(d:jg s.heap t items)(q:s.heap.IsSliceOf j p l .none)(y:om p lo)(x:om l v)
  (I:HT.fZ items.size 0 lo=0) (F:HT.fZ items.size items.size v=items.size) (h:Q (.ref t) s):ax (au Ω w) A (getItem (.ref t) (.ref j)) Q E s:=by
 have z:s.TypeIs (.ref j) "slice":=by obtain⟨o,a,b,_⟩:=q;show⟨o,a,b⟩
 delta getItem
 try with_reducible show i_ ?_
 first|show ao (az ?_)|skip
 apply ao;show a0h d.typeIs ⋯ (ao (pf d.typeIs si (jw si d.typeIs a1B ?_ (a1G _ _))));show ao (m:=a1k _) (a1q d (ao (Ax z ?_)));rw[Z_ ⋯];show ao (HT.j5 (n:=items.size) q y x ?_);rw[I,F];show ax _ _ (if((((0:Nat):Int) == 0)&&((1:Int) == 1)&&((items.size-0) == items.size))=ae then _ else _) _ _ s;rw[Z_ (by simp)];show ao (m:=a3J _) (ao (Ax d.typeIs (az ?_)));show ax _ _ (if ae=ae then _ else _) _ _ s;rw[Z_ rfl];show ao (je (az ⟨_,rfl,az h⟩))
def Qa(K:aq):V->Option Int->Option Int->Hp->VK->Prop:=λx lo d H Q=>∃a xs,x=.ref a/\eJ K H a xs/\(HT.fZ ⇑xs 0 lo=0/\HT.fZ ⇑xs ⇑xs d=⇑xs)/\Q (.ref a) H
theorem Z1:SlR X (Qa X.K):=by
 intro π s σ H x v z y lo J A Q I l p n m h;obtain⟨a,xs,rfl,o,hw,q⟩:=h;cases l;obtain⟨j,r,d,F⟩:=I.tuple o;have hlen:j.toArray.size=⇑xs:=by rw[cu];show r.length.symm
 show⟨"tuple",_,si.lookup,d.typeIs,UO d p n m (by rw[hlen];show hw.1) (by rw[hlen];show hw.2) ⟨.ref a,H,I,rfl,q⟩⟩
def Lo(te:WE)(h j:WO):WE:=λρ Q=>te ρ λd=>h ρ λlo=>j ρ λa=>match d with
 |.lst ds=>Q (.lst (cutD ds lo a))
 |.tup ds=>Q (.tup (cutD ds lo a))
 |_=>False
def sl3{e:av}{lo K:Option av}{p2 L:bo}{te:WE}{I J:WO}(Z:cC X e te)(y:PO3 X lo I)(Y:PO3 X K J):cC X (.Subscript e (.Slice lo K af p2) L) (Lo te I J) :=
 imp (SW (Y8.or (aC7.or Z1)) Z y Y) λσ H Q P_=>by
  obtain⟨S,ρ,Q3,z,F,U,k⟩:=P_;show⟨S,ρ,_,z,F,U,λv H1 d j d1 q1=>?_⟩;show⟨S,ρ,_,bD z j,Sl.fits (.same j) F,q1,λo H2 q q2=>?_⟩;show⟨S,ρ,_,bD z (j.trans q),Sl.fits (.same (j.trans q)) F,q2,λo2 H3 s3 x=>?_⟩;have A:=Dn.fits (.same (q.trans s3)) _ _ d1;have n:=(j.trans q).trans s3
  cases d with
  |lst ds =>
   symm at A;obtain⟨a,xs,rfl,l,O,m⟩:=A;show .inl ⟨a,xs,rfl,c7.of l,λp h=>k _ _ _ (n.trans (aH h)) ?_ x⟩;symm;show⟨p,_,rfl,aN,bD z n p h,aM.fits (.same (aH h)) _ _ m.cut⟩
  |tup ds =>
   symm at A;obtain⟨a,xs,rfl,l,m⟩:=A;have y:=m.len;by_cases hw:HT.fZ ⇑xs 0 o=0/\HT.fZ ⇑xs ⇑xs o2=⇑xs
   .refine .inr (.inr ⟨a,xs,rfl,(eJ.of l),hw,k _ _ _ n ?_ x⟩);have e:cutD ds o o2=ds:=by delta cutD;rw[y,hw.1,hw.2,qt,xn,s_ (p0 y)]
    rw[e];symm;show⟨a,xs,rfl,l,m⟩
   .refine .inr (.inl ⟨a,xs,rfl,(eJ.of l),hw,λp h=>k _ _ _ (n.trans (aH h)) ?_ x⟩);symm;show⟨p,_,rfl,aN,aM.fits (.same (aH h)) _ _ m.cut⟩
  |_=>show x.elim
end L3
namespace L4
open PySem.Spec PyProof.Rows L2 L3
def wE(f:EF):WE:=λρ Q=>∃d,f ρ=ab d/\Q d
def wT(f:TF):WT:=λρ Q=>∃d,f ρ=ab d/\Q d
def wA(f:AF):WA:=λρ Q=>∃d,f ρ=ab d/\Q d
def wI(f:AF):WI:=λρ Q=>∃d,f ρ=ab d/\Q d
def wO(f:OF):WO:=λρ Q=>∃d,f ρ=ab d/\Q d
def wX(f:XF):WX:=λρ Q=>∃p,f ρ=ab p/\Q p.1 p.2
noncomputable def wS(f:SF):WS:=λE ρ=>match f ρ with
 |.nx ρ'=>E.nx ρ'
 |.rt d=>E.rt d
 |.ex c=>E.ex c
 |.no=>False
def wG(g:GSF):WG:=λd ρ Q=>∃a,g d ρ=ab a/\Q a
def yo(g:WM):GE:=λd ρ Q=>∃a,g d ρ=ab a/\Q a
abbrev bI(X:Cx)(e:av)(f:EF):Prop:=cC X e (wE f)
abbrev jS(X:Cx)(e:av)(f:EF):Prop:=EN X e (wE f)
abbrev tH(X:Cx)(e:av)(f:TF):Prop:=wH X e (wT f)
abbrev OP(X:Cx)(e:av)(f:TF):Prop:=QA X e (wT f)
abbrev wU(X:Cx)(a:List av)(f:AF):Prop:=tZ X a (wA f)
abbrev QB(X:Cx)(a e:av)(f:AF):Prop:=UA X a e (wI f)
abbrev PO4(X:Cx)(e:Option av)(f:OF):Prop:=PO3 X e (wO f)
abbrev OQ(X:Cx)(e:av)(f:XF):Prop:=GH X e (wX f)
abbrev sE(X:Cx)(a:df)(f:SF):Prop:=ER X a (wS f)
abbrev oD(X:Cx)(a:List df)(f:SF):Prop:=tG X a (wS f)
variable{X:Cx}
section
def cE{e:av}{t t':WE}(h:cC X e t)(c:∀ρ Q,t' ρ Q->t ρ Q):cC X e t':=imp h λ_ _ _ l=>by obtain⟨S,ρ,Q3,j,a,d,k⟩:=l;show⟨S,ρ,Q3,j,a,c ρ Q3 d,k⟩
def cF(h:EN X e t)(c:∀ρ Q,t' ρ Q->t ρ Q):EN X e t':=imp h λ_ _ _ l=>by obtain⟨S,ρ,Q3,j,a,d,k⟩:=l;show⟨S,ρ,Q3,j,a,c ρ Q3 d,k⟩
def cT{e:av}{t t':WT}(h:wH X e t)(c:∀ρ Q,t' ρ Q->t ρ Q):wH X e t':=TQ h λ_ _ _ l=>by obtain⟨S,ρ,Q3,j,a,d,k⟩:=l;show⟨S,ρ,Q3,j,a,c ρ Q3 d,k⟩
def cW{e:av}{t t':WT}(h:QA X e t)(c:∀ρ Q,t' ρ Q->t ρ Q):QA X e t':=z_ h λ_ _ _ l=>by obtain⟨S,ρ,Q3,j,a,d,k⟩:=l;show⟨S,ρ,Q3,j,a,c ρ Q3 d,k⟩
def cA(h:tZ X e t)(c:∀ρ Q,t' ρ Q->t ρ Q):tZ X e t':=TR h λ_ _ _ l=>by obtain⟨S,ρ,Q3,j,a,d,k⟩:=l;show⟨S,ρ,Q3,j,a,c ρ Q3 d,k⟩
def cI(h:UA X tg e t)(c:∀ρ Q,t' ρ Q->t ρ Q):UA X tg e t':=HZ h λ_ _ _ l=>by obtain⟨S,ρ,Q3,j,a,d,k⟩:=l;show⟨S,ρ,Q3,j,a,c ρ Q3 d,k⟩
def cX(h:GH X e t)(c:∀ρ Q,t' ρ Q->t ρ Q):GH X e t':=imp h λ_ _ _ l=>by obtain⟨H₀,S,w,ρ,G,Q3,j,a,d,k⟩:=l;show⟨H₀,S,w,ρ,G,Q3,j,a,c ρ Q3 d,k⟩
def cS(h:ER X e t)(c:∀E ρ,t' E ρ->t E ρ):ER X e t':=j6 h λ_ _ _ l=>by obtain⟨H₀,S,w,ρ,G,E,j,a,d,ok⟩:=l;show⟨H₀,S,w,ρ,G,E,j,a,c E ρ d,ok⟩
def Ea(h:tG X e t)(c:∀E ρ,t' E ρ->t E ρ):tG X e t':=ES h λ_ _ _ l=>by obtain⟨H₀,S,w,ρ,G,E,j,a,d,ok⟩:=l;show⟨H₀,S,w,ρ,G,E,j,a,c E ρ d,ok⟩
def OP.pt(h:OP X e f):tH X e f:=QA.pt h
def jS.pe(h:jS X e f):bI X e f:=EN.pe h
theorem bnd{α d:Type}{o:Option α}{f:α->Option d}{b:d}(h:o.bind f=ab b):∃a,o=ab a/\f a=ab b:=by
 cases o with
 |none=>cases h
 |some a=>show⟨a,rfl,h⟩
theorem oF{α d:Type}{o:Option α}{f:α->d}{b:d}(h:o.map f=ab b):∃a,o=ab a/\f a=b:=by
 cases o with
 |none=>cases h
 |some a=>show⟨a,rfl,dm h⟩
theorem x4(i:Nat)(hN:X.N[i]?=ab x<|>0)(j:xR X.env.scope x<|>3)(l:Zu x<|>1)
  (a:Zt x<|>1):bI X (.Name x ν) (bF i):=cE (x3 i hN j l a) λρ Q m=>by
 obtain⟨d,e,q⟩:=m;delta bF at e;delta ZD
 cases h:ρ[i]? with
 |none=>rw[h] at e;cases e
 |some o =>
  rw[h] at e
  cases o with
  |none=>cases e
  |some d'=>cases e;show q
def i4{j ν}:bI X (.Constant (.int i) j ν) (eI i):=cE i3 λ_ _ a=>by obtain⟨_,e,q⟩:=a;cases e;show q
def b4{j ν}:bI X (.Constant (.bool b) j ν) (eC (.bl b)):=cE b3 λ_ _ a=>by obtain⟨_,e,q⟩:=a;cases e;show q
def n4{j ν}:bI X (.Constant .none j ν) (eC .non):=cE n3 λ_ _ a=>by obtain⟨_,e,q⟩:=a;cases e;show q
def Tells(f:F2)(g:D->D->Option D):Prop:=∀(x y d:D) (Q:D->Prop),g x y=ab d->Q d->f x y Q
def fV{f:F2}{g:D->D->Option D}(h:Tells f g){j a:EF}(ρ:cN)(Q:D->Prop)(w:wE (aC g j a) ρ Q):gC f (wE j) (wE a) ρ Q:=by obtain⟨d,e,q⟩:=w;obtain⟨x,ex,e⟩:=bnd e;obtain⟨y,l,e⟩:=bnd e;show⟨x,ex,y,l,h x y d Q e q⟩
def gQ:Tells (wJ g) (GJ g):=λx y d Q e q=>by
 cases x<;>first|(cases e;done)|skip
 all_goals (cases y<;>first|(cases e;done)|skip)
 cases e;show q
def eZ(h:∀i j,c i j=ae->C i j):Tells (OA C g) (iI c g):=λx y d Q e q=>by
 cases x<;>first|(cases e;done)|skip
 all_goals (cases y<;>first|(cases e;done)|skip)
 rename_i i j;have e:(if c i j=ae then ab (g i j) else af)=ab d:=e;by_cases a:c i j=ae
 .rw [Z_ a] at e;cases e;show⟨h i j a,q⟩
 .rw [Zz a] at e;cases e
def szl{n:Nat}{α:Type}{x d:α}{Q:α->Prop}(e:(if n<=k7 then ab x else af)=ab d)(q:Q d):n<=br/\Q x:=by
 by_cases h:n<=k7
 .rw [Z_ h] at e;cases e;show⟨by rw[gm];show h,q⟩
 .rw [Zz h] at e;cases e
def OR:Tells Aa dH:=λx y d Q e q=>by
 cases x<;>first|(cases e;done)|skip
 all_goals (cases y<;>first|(cases e;done)|skip)
 .cases e;show q
 .exact szl (x:=D.str _) e q
 .exact szl (x:=D.tup _) e q
 .exact szl (x:=D.lst _) e q
def OS:Tells E_ MU:=λx y d Q e q=>by
 cases x<;>first|(cases e;done)|skip
 all_goals (cases y<;>first|(cases e;done)|skip)
 show szl (x:=D.lst _) e q
def aDR(h:uC i j=ae):xf i j:=by
 delta uC at h;erw[Dg,decide_eq_true_eq] at h;rcases h with(h|h)|h
 .exact YV.ok (.inl ⟨∅,∅⟩)
 .exact YV.ok (.inr ⟨∅,∅⟩)
 .refine ZZ (m:=i.natAbs.log2+1) (n:=j.natAbs.log2+1) ?_ ?_ ∅
  .exact a1X
  .exact a1X
section
variable{a b:av}{ν:bo}{fa fb:EF}
def gH(h:bI X a fa)(d:bI X b fb):bI X (.BinOp a .Add b ν) (aC dH fa fb):=cE (Uw h d) (fV OR)
def OT(h:bI X a fa)(d:bI X b fb):bI X (.BinOp a .Sub b ν) (aC qI fa fb):=cE (U_ h d) (fV gQ)
def wV(j:bI X a fa)(d:bI X b fb):bI X (.BinOp a .Mult b ν) (aC mulM fa fb):=cE (Ym j d) (fV (eZ λ_ _ h=>aDR h))
def rK(j:bI X a fa)(d:bI X b fb):bI X (.BinOp a .Mod b ν) (aC jT fa fb):=cE (Uz j d) (fV (eZ λ_ _ h=>by simpa using h))
def UP(l:bI X a fa)(d:bI X b fb):bI X (.BinOp a .FloorDiv b ν) (aC sP fa fb):=cE (Uy l d) (fV (eZ λi j h=>by erw[ij,decide_eq_true_eq] at h;show⟨h.1,∅⟩))
def Pg(l:bI X a fa)(d:bI X b fb):bI X (.BinOp a .Pow b ν) (aC As fa fb):=cE (Ux l d) (fV (eZ λi j h=>by erw[ij,decide_eq_true_eq] at h;show⟨h.1.1,∅,h.2⟩))
def Yk(h:bI X a fa)(d:bI X b fb):jS X (.BinOp a .Add b ν) (aC MU fa fb):=cF (Zk h d) (fV OS)
def tells_eq:Tells ZG oM:=λx y d Q e q=>by
 cases x<;>first|(cases e;done)|skip
 all_goals (cases y<;>first|(cases e;done)|skip)
 all_goals (cases e;show⟨rfl,q⟩)
def E8:Tells ZH QF:=λx y d Q e q=>by
 cases x<;>first|(cases e;done)|skip
 all_goals (cases y<;>first|(cases e;done)|skip)
 all_goals (cases e;show⟨rfl,q⟩)
theorem ints_of:∀{ds:List D} {ns:Q0e},intsOf ds=ab ns->ds=ns.map D.int
 |[],ns,h=>by cases h;rfl
 |d::ds,ns,h=>by
  cases d<;>first|cases h;done|skip
  obtain⟨m,e,rfl⟩:=oF h;rw[ints_of e];rfl
def wW{neg:Bool}:Tells (inF neg) (uE neg):=λx y d Q e q=>by
 cases x<;>first|(cases e;done)|skip
 all_goals (cases y<;>first|(cases e;done)|skip)
 all_goals
  obtain⟨ns,e1,rfl⟩:=oF e;have:=ints_of e1;subst this;show⟨zH ns,by rw[zJ];show q⟩
def E9:Tells ZI W0:=λx y d Q e q=>by
 delta W0 at e;split at e
 .rename_i h;cases e;show⟨(by cases y<;>first|rfl|cases h),?_⟩;have:isD x=uD x:=by cases x<;>rfl
  rw[this];show q
 .cases e
def gt4(h:bI X a fa)(d:bI X b fb):bI X (.Compare a [.Gt] [b] ν) (aC CQ fa fb):=cE (gt3 h d) (fV gQ)
def eq4(h:bI X a fa)(d:bI X b fb):bI X (.Compare a [.Eq] [b] ν) (aC oM fa fb):=cE (Uk h d) (fV tells_eq)
def ne4(h:bI X a fa)(d:bI X b fb):bI X (.Compare a [.NotEq] [b] ν) (aC QF fa fb):=cE (Uj h d) (fV E8)
def in4(j:bI X a fa)(h:bI X b fb)(d:behindInMarks .In b=ag<|>5):bI X (.Compare a [.In] [b] ν) (aC (uE ag) fa fb):=cE (in3 j h d) (fV wW)
def is4(h:bI X a fa)(d:bI X b fb):bI X (.Compare a [.Is] [b] ν) (aC W0 fa fb):=cE (Ud h d) (fV E9)
def p6{f:F2}{g:D->D->Option D}(h:Tells f g)(j:∀x y d,g x y=ab d ->∃b,d=.bl b){fa fb:EF}(ρ:cN)(Q:Bool->Prop)(w:wT (tV (aC g fa fb)) ρ Q):mF (gC f (wE fa) (wE fb)) ρ Q:=by obtain⟨b,e,q⟩:=w;obtain⟨d,e1,m⟩:=bnd e;obtain⟨x,ex,e1⟩:=bnd e1;obtain⟨y,l,e1⟩:=bnd e1;obtain⟨c,rfl⟩:=j x y d e1;cases m;show⟨x,ex,y,l,h x y _ _ e1 q⟩
def wZ{g:Int->Int->Bool}(x y d:D)(e:GJ (λi j=>.bl (g i j)) x y=ab d):∃b,d=.bl b:=by
 cases x<;>first|(cases e;done)|skip
 all_goals (cases y<;>first|(cases e;done)|skip)
 cases e;show⟨_,rfl⟩
def Yf(x y d:D)(e:oM x y=ab d):∃b,d=.bl b:=by obtain⟨b,_,rfl⟩:=oF e;show⟨_,rfl⟩
def Ye(x y d:D)(e:QF x y=ab d):∃b,d=.bl b:=by obtain⟨b,_,rfl⟩:=oF e;show⟨_,rfl⟩
def Gm{neg:Bool}(x y d:D)(e:uE neg x y=ab d):∃b,d=.bl b:=by
 cases x<;>first|(cases e;done)|skip
 all_goals (cases y<;>first|(cases e;done)|skip)
 all_goals (obtain⟨b,_,rfl⟩:=oF e;show⟨_,rfl⟩)
def Yd(x y d:D)(e:W0 x y=ab d):∃b,d=.bl b:=by
 delta W0 at e;split at e
 .cases e;show⟨_,rfl⟩
 .cases e
def Pe(h:bI X a fa)(d:bI X b fb):tH X (.Compare a [.Lt] [b] ν) (tV (aC ltM fa fb)):=cT (Ui h d) (p6 gQ wZ)
def OU(h:bI X a fa)(d:bI X b fb):tH X (.Compare a [.Gt] [b] ν) (tV (aC CQ fa fb)):=cT (Uh h d) (p6 gQ wZ)
def Pd(h:bI X a fa)(d:bI X b fb):tH X (.Compare a [.GtE] [b] ν) (tV (aC geM fa fb)):=cT (Ug h d) (p6 gQ wZ)
def B9(h:bI X a fa)(d:bI X b fb):tH X (.Compare a [.Eq] [b] ν) (tV (aC oM fa fb)):=cT (Zh h d) (p6 tells_eq Yf)
def Z2(h:bI X a fa)(d:bI X b fb):tH X (.Compare a [.NotEq] [b] ν) (tV (aC QF fa fb)):=cT (Zg h d) (p6 E8 Ye)
def Es(j:bI X a fa)(h:bI X b fb)(d:behindInMarks .In b=ag<|>5):tH X (.Compare a [.In] [b] ν) (tV (aC (uE ag) fa fb)):=cT (Ue j h d) (p6 wW Gm)
def Gj(j:bI X a fa)(h:bI X b fb)(d:behindInMarks .NotIn b=ag<|>5):tH X (.Compare a [.NotIn] [b] ν) (tV (aC (uE ae) fa fb)):=cT (Zf j h d) (p6 wW Gm)
def Pc(h:bI X a fa)(d:bI X b fb):tH X (.Compare a [.Is] [b] ν) (tV (aC W0 fa fb)):=cT (Ze h d) (p6 E9 Yd)
end
def O4(K:aq)(r:R2)(g:D->D->Option D):Prop:=∃f,O3 K r f/\Tells f g /\∀x y d,g x y=ab d ->∃b,d=.bl b
def Yc{K:aq}:O4 K (NW λi j=>.bl (Zv (i<j))) ltM:=⟨_,rG,gQ,wZ⟩
def Yb{K:aq}:O4 K (NW λi j=>.bl (Zv (i<=j))) leM:=⟨_,rG,gQ,wZ⟩
theorem Z3{f g:F2}{p q:D->D->Option D}(o:Tells f p)(n:Tells g q){l j h:EF}(ρ:cN)(Q:D->Prop)(w:wE (lF p q l j h) ρ Q):HW f g (wE l) (wE j) (wE h) ρ Q:=by
 obtain⟨d,e,k⟩:=w;obtain⟨x,ex,e⟩:=bnd e;obtain⟨y,A,e⟩:=bnd e;obtain⟨z,v,e⟩:=bnd e;obtain⟨b,m,a⟩:=bnd e;show⟨x,ex,y,A,o x y z _ v ?_⟩
 clear e
 cases z<;>first|cases m;done|skip
 cases m
 cases b with
 |true =>
  rw[Z_ rfl] at a;obtain⟨u,F,e⟩:=bnd a;show⟨u,F,n y u d Q e k⟩
 |false =>
  rw[Zz bz] at a;cases a;show k
theorem aDS(ho:iA X (compareOp op) r)(d:iA X (compareOp op') r')(n:O4 X.K r p)(h2:O4 X.K r' q)(m:bI X a fa)(l:bI X b fb)(j:bI X c fc)
  (h:lastMarks [op,op'] [b,c]=ag<|>5):bI X (.Compare a [op,op'] [b,c] ν) (lF p q fa fb fc):=by
 obtain⟨f,o1,t1,_⟩:=n;obtain⟨g,o2,t2,_⟩:=h2;show cE (aCm ho d o1 o2 m l j h) (Z3 t1 t2)
section
variable{a b c:av}{Θ:List av}{ν:bo}{fa fb:EF}{ta tb tc:TF}
def sF(d:tH X a ta):tH X (.UnaryOp .Not a ν) (m8 ta):=cT (aF0 d) λρ Q j=>by obtain⟨b,e,q⟩:=j;obtain⟨c,h,rfl⟩:=oF e;show⟨c,h,q⟩
def Ya(d:tH X a ta):OP X (.BoolOp .And [a] ν) ta:=Tr d
def Z4(d:tH X a ta):OP X (.BoolOp .Or [a] ν) ta:=or1 d
theorem X_(j:tH X a ta)(h:OP X (.BoolOp .And (b::Θ) ν) tb):OP X (.BoolOp .And (a::b::Θ) ν) (AA ta tb):=cW (aF1 j h) λρ Q m=>by
 obtain⟨d,e,q⟩:=m;obtain⟨c,l,e⟩:=bnd e;show⟨c,l,?_⟩
 cases c with
 |true=>rw[Z_ rfl] at e ⊢;show⟨d,e,q⟩
 |false=>rw[Zz bz] at e ⊢;cases e;show q
theorem UQ(j:tH X a ta)(h:OP X (.BoolOp .Or (b::Θ) ν) tb):OP X (.BoolOp .Or (a::b::Θ) ν) (MT ta tb):=cW (Tp j h) λρ Q m=>by
 obtain⟨d,e,q⟩:=m;obtain⟨c,l,e⟩:=bnd e;show⟨c,l,?_⟩
 cases c with
 |true=>rw[Z_ rfl] at e ⊢;cases e;show q
 |false=>rw[Zz bz] at e ⊢;show⟨d,e,q⟩
def OV{op}(d:bI X a fa):bI X (.BoolOp op [a] ν) fa:=Ti d
theorem FA(l:bI X a fa)(j:bI X (.BoolOp .And (b::Θ) ν) fb):bI X (.BoolOp .And (a::b::Θ) ν) (kF fa fb):=cE (Th l j) λρ Q m=>by
 obtain⟨d,e,q⟩:=m;obtain⟨x,ex,e1⟩:=bnd e;obtain⟨c,h,e⟩:=bnd e1
 clear e1
 show⟨x,ex,?_⟩;cases x<;>first|cases h;done|skip
 cases h
 cases c with
 |true=>rw[Z_ rfl] at e;show⟨d,e,q⟩
 |false=>rw[Zz bz] at e;cases e;show q
def Z5(j:bI X a fa):bI X (.UnaryOp .Not a ν) (qH fa):=cE (Tf j) λρ Q l=>by
 obtain⟨d,e,q⟩:=l;obtain⟨x,ex,e⟩:=bnd e;obtain⟨c,h,rfl⟩:=oF e;show⟨x,ex,?_⟩;cases x<;>first|cases h;done|skip
 cases h;show q
theorem if4(h:tH X c tc)(l:bI X a fa)(j:bI X b fb):bI X (.IfExp c a b ν) (WY tc fa fb):=cE (if3 h l j) λρ Q n=>by
 obtain⟨d,e,q⟩:=n;obtain⟨c,m,e⟩:=bnd e;show⟨c,m,?_⟩
 cases c with
 |true=>rw[Z_ rfl] at e ⊢;show⟨d,e,q⟩
 |false=>rw[Zz bz] at e ⊢;show⟨d,e,q⟩
def Z6(h:bI X a fa):bI X (.UnaryOp .USub a ν) (sO fa):=cE (Tb h) λρ Q j=>by
 obtain⟨d,e,q⟩:=j;obtain⟨x,ex,e⟩:=bnd e;show⟨x,ex,?_⟩;cases x<;>first|cases e;done|skip
 cases e;show q
def nG{e:av}{f:EF}(h:bI X e f)(x:(∀whole,isTrue e X.env whole=(do let v <- whole;standAt e.pos;holding [v] (truthy v)))<|>4):tH X e (tV f) :=
 TQ (SU h x) λσ H Q F=>by
  obtain⟨S,ρ,Q3,z,q,⟨b,y,n⟩,k⟩:=F;obtain⟨d0,A,l⟩:=bnd y;show⟨S,ρ,λd=>d=d0,z,q,⟨d0,A,rfl⟩,λv H1 d m j q1=>?_⟩;subst q1
  cases d with
  |bl c=>cases l;symm at j;subst j;show⟨_,rfl,k _ H1 m n⟩
  |lst ds =>
   cases l;symm at j;obtain⟨a,xs,rfl,o,I,p⟩:=j;show⟨_,.inl ⟨xs,c7.of o,by rw[<- p.empty]⟩,k _ H1 m n⟩
  |tup ds =>
   cases l;symm at j;obtain⟨a,xs,rfl,o,p⟩:=j;show⟨_,.inr (.inl ⟨xs,(eJ.of o),by rw[<- p.empty]⟩),k _ H1 m n⟩
  |_=>cases l
end
end
section
def bA:wU X [] aG:=cA Uu λ_ _ a=>by obtain⟨_,e,q⟩:=a;cases e;show q
def aE(j:bI X e fe)(h:wU X es t)(a:Zq X e es<|>0):wU X (e::es) (aA fe t):=cA (Zi j h a) λρ Q n=>by obtain⟨ds,e,q⟩:=n;obtain⟨d,m,e⟩:=bnd e;obtain⟨r,l,e⟩:=bnd e;cases e;show⟨d,m,r,l,q⟩
def tJ{x1}(h:wU X es t):bI X (.Tuple es x1 ν) (hJ t):=cE (Uq h) λρ Q j=>by obtain⟨d,e,q⟩:=j;obtain⟨ds,a,e⟩:=bnd e;show⟨ds,a,szl (x:=D.tup ds) e q⟩
def jA(h:wU X es t):jS X (.List es ν) (eQ t):=cF (Um h) λρ Q j=>by obtain⟨d,e,q⟩:=j;obtain⟨ds,a,e⟩:=bnd e;show⟨ds,a,szl (x:=D.lst ds) e q⟩
def UR:Tells ixF eB:=λx y d Q e q=>by
 cases x<;>first|(cases e;done)|skip
 all_goals (cases y<;>first|(cases e;done)|skip)
 .have e:sZ _ _=ab d:=e;show(match sZ _ _ with|some d=>Q d|none=>False);rw[e];show q
 .have e:sZ _ _=ab d:=e;show(match sZ _ _ with|some d=>Q d|none=>False);rw[e];show q
 .obtain ⟨n,e1,rfl⟩:=oF e;have e1:sZ _ _=ab n:=e1;show(match sZ _ _ with|some n=>Q (.int n)|none=>False);rw[e1];show q
def jB(j:bI X a fa)(h:bI X b fb)(d:BW b<|>8):bI X (.Subscript a b ν) (aC eB fa fb):=cE (ix3 j h d) (fV UR)
def OW:Tells zp uG:=λx y d Q e q=>by
 cases x<;>first|cases e;done|skip
 rename_i ks ds;obtain⟨k,a,e⟩:=bnd e;have a:E2 y=ab k:=by cases y<;>first|show a|cases a
 have e:jI ks ds k=ab d:=e
 show(match D.i8 ks ds,E2 y with
  |.i8 ks ds,ab k=>(match jI ks ds k with|some d=>Q d|none=>False)
  |_,_=>False)
 rw[a];dsimp only;rw[e];show q
def Er(a:X.A.units+1<di)(ho:bI X o fo)(h:bI X i fi)(d:HS i<|>8):bI X (.Subscript o i ν) (aC uG fo fi):=cE (Ql a ho h d) (fV OW)
def mJ(f:F1)(g:List D->Option D):Prop:=∀(ds:List D) (d:D) (Q:D->Prop),g ds=ab d->Q d->f ds Q
def xX(h:mJ f g)(ρ:cN)(Q:D->Prop)(w:wE (cL g t) ρ Q):OD f (wA t) ρ Q:=by obtain⟨d,e,q⟩:=w;obtain⟨ds,a,e⟩:=bnd e;show⟨ds,a,h ds d Q e q⟩
theorem OX:mJ B7 cJ:=λds d Q e q=>by
 cases ds with
 |nil=>cases e
 |cons a ds =>
  cases a<;>first|(cases e;done)|skip
  all_goals (cases ds<;>first|(cases e;show q)|(cases e;done))
theorem FC:mJ HY dU:=λds d Q e q=>by
 cases ds with
 |nil=>cases e
 |cons a ds =>
  cases a<;>first|(cases e;done)|skip
  all_goals (cases ds<;>first|(cases e;show q)|(cases e;done))
theorem II:mJ T8 yA:=λds d Q e q=>by
 cases ds with
 |nil=>cases e
 |cons a ds =>
  cases a<;>first|(cases e;done)|skip
  all_goals (cases ds<;>first|(cases e;show q)|(cases e;done))
def fK(a:X.mg "len"=af)(j:wU X [e] t)(d:Gl X "len"<|>0)(h:Zq X e []<|>0):bI X (.Call (.Name "len" p) [e] [] ν) (cL cJ t):=cE (S_ a j d h) (xX OX)
def gR(a:X.mg "tuple"=af)(j:wU X [e] t)(d:Gl X "tuple"<|>0)(h:Zq X e []<|>0):bI X (.Call (.Name "tuple" p) [e] [] ν) (cL dU t):=cE (aCo a sy j d h) (xX FC)
def Gi(a:X.mg "list"=af)(j:wU X [e] t)(d:Gl X "list"<|>0)(h:Zq X e []<|>0):jS X (.Call (.Name "list" p) [e] [] ν) (cL yA t):=cF (aF3 a a1F j d h) (xX II)
theorem zR:∀ds:List D,L3.intsOf ds=L4.intsOf ds
 |[]=>rfl
 |d::ds=>by
  cases d<;>first|rfl|skip
  show(L3.intsOf ds).map _=(L4.intsOf ds).map _;rw[zR ds]
theorem oG(a:Int):∀l:Q0e,(insI a l).Perm (a::l)
 |[]=>.refl _
 |b::l=>by
  delta insI;split
  .exact .refl _
  .exact ((oG a l).cons b).trans (.swap a b l)
theorem mK:∀l:Q0e,(sortI l).Perm l
 |[]=>.refl _
 |a::l=>(oG a (sortI l)).trans ((mK l).cons a)
theorem p7(a:Int):∀l:Q0e,l.Pairwise (· <= ·)->(insI a l).Pairwise (· <= ·)
 |[],_=>by simp[insI]
 |b::l,h=>by
  delta insI;split
  .rename_i hab;show f_.mpr ⟨λc d=>?_,h⟩;rcases bu.mp d with e|e
   .subst e;show hab
   .exact De hab ((f_.mp h).1 c e)
  .rename_i hab;show f_.mpr ⟨λc d=>?_,p7 a l (f_.mp h).2⟩;rcases bu.mp ((oG a l).mem_iff.mp d) with e|e
   .subst e;lia
   .exact (f_.mp h).1 c e
theorem jQ:∀l:Q0e,(sortI l).Pairwise (· <= ·)
 |[]=>Cz
 |a::l=>p7 a _ (jQ l)
theorem oH:∀{l m:Q0e},l.Perm m->l.Pairwise (· <= ·)->m.Pairwise (· <= ·)->l=m
 |[],m,p,_,_=>by rw[p.nil_eq]
 |a::l,[],p,_,_=>by have:=p.length_eq;simp at this
 |a::l,b::m,p,h1,h2=>by
  have e:a=b:=by
   have m1:=p.mem_iff.mp (cz (a:=a) (l:=l));have h:=p.mem_iff.mpr (cz (a:=b) (l:=m));rcases bu.mp m1 with e|e
   .exact e
   .rcases bu.mp h with d|d
    .exact d.symm
    .have:=(f_.mp h2).1 a e;have:=(f_.mp h1).1 b d;lia
  subst e;rw[oH p.cons_inv (f_.mp h1).2 (f_.mp h2).2]
def CA:mJ UI jD:=λds d Q e q=>by
 delta jD at e;split at e
 .rename_i a;obtain⟨ns,e1,e⟩:=bnd e;by_cases j:⇑ns<64
  .rw [Z_ j] at e;cases e;show(match L3.intsOf a with|some ns=>⇑ns<64 /\∀h:Q0e,h.Perm ns->h.Pairwise (· <= ·)->Q (.lst (h.map D.int))|none=>False);rw[zR,e1];show⟨j,λh p s=>?_⟩;rw[oH (p.trans (mK ns).symm) s (jQ ns)];show q
  .rw [Zz j] at e;cases e
 .cases e
def Z7(a:X.mg "sorted"=af)(j:wU X [e] t)(d:Gl X "sorted"<|>0)(h:Zq X e []<|>0):jS X (.Call (.Name "sorted" p) [e] [] ν) (cL jD t):=cF (ZU a j d h) (xX CA)
def OY:mJ sumF xH:=λds d Q e q=>by
 delta xH at e;split at e
 .rename_i a;obtain⟨ns,e1,rfl⟩:=oF e;have:=ints_of e1;subst this;rw[OO];show q
 .cases e
def Z8(j:X.calm=ae)(a:X.mg "sum"=af)(l:wU X [e] t)(d:Gl X "sum"<|>0)(h:Zq X e []<|>0):bI X (.Call (.Name "sum" p) [e] [] ν) (cL xH t):=cE (Rc j a l d h) (xX OY)
def aDT(T:String)(d:D):GK T d=isT T d:=by cases d<;>rfl
theorem rL(I:zM T)(z:X.mg "isinstance"=af)(l:X.mg x=af)(o:bootBuiltins x=ab (.type T))(F:bI X e f)(A:Gl X "isinstance"<|>0)(m:Gl X x<|>0)(y:x ≠ "__name__"<|>1)(n:Zu x<|>1)
  (v:(ar [e,.Name x p2] X.env=(ag,eval e X.env)::ar [.Name x p2] X.env)<|>0) (h:(ar [.Name x p2] X.env=(ag,eval (.Name x p2) X.env)::ar [] X.env)<|>0) (j:(e_ ν (ar [.Name x p2] X.env)).any (·.1)=ag<|>0):
  bI X (.Call (.Name "isinstance" p) [e,.Name x p2] [] ν) (iJ T f):=cE (Qo I z l o F A m y n v h j) λρ Q J=>by
 obtain⟨d,e,q⟩:=J;obtain⟨x,ex,e⟩:=bnd e;by_cases a:GL x=ae
 .rw [Z_ a] at e;cases e;show⟨x,ex,(by cases x<;>first|trivial|cases a),by show Q (.bl (isT T x));rw[<- aDT];show q⟩
 .rw [Zz a] at e;cases e
def GI(K:aq)(R:kE):Sp:=sp3 K λds Q=>∃d,R ds=.ok d/\Q d
inductive Cl (P:bh) (w:bg) (K:aq) (mg:Q0d) (ω:a_) (CX:LD) (k:Nat) (x:aj) (ps:Q0g) (sp:Sp):Prop
 |mk {f:ah} {fd:gw} (F:jN P w K mg ω CX k f fd ps sp) (m:mg x=ab (.ref f)) (kp:keepIn K (.ref f)=ae) (b:Binds K fd ps []):Cl P w K mg ω CX k x ps sp
theorem Cl.up{P:bh}{w:bg}{K:aq}{mg:Q0d}{ω:a_}{CX:LD}{j k:Nat}{x:aj}{a:Q0g}{sp:Sp}(c:Cl P w K mg ω CX j x a sp)(h:j<=k<|>1):Cl P w K mg ω CX k x a sp:=by obtain⟨F,m,q,b⟩:=c;show⟨F.mono h,m,q,b⟩
inductive Df (K:aq) (mg:Q0d) (x:aj) (st:df) (ps:Q0g):Prop
 |mk {f:ah} {fd:gw} (a:a0K K iw x=ab (ab (.ref f))) (F:WR K x x st f fd) (m:mg x=ab (.ref f)) (b:Binds K fd ps []):Df K mg x st ps
theorem aGJ{K:aq}{mg:Q0d}{h:a_}{x:aj}{d:df}{m:Q0g}{f:ah}{q:ai}{p o:Option ah}{n:Array (Option ai)}{kV doc pm j ct:ai}(X:K.In h)(G:h.Ns iw mg)
  (b:∀us:Q0f,⇑us=⇑m->bindArgs (fnOf x x (pU d) (dF d) (aL d) .none kV doc pm o j ct) ⟨us,[]⟩=pure (m.zip us)) (a:a0K K iw x=ab (ab (.ref f)))
  (l:K.lookup f=ab ⟨q,p,.func (fnOf x x (pU d) (dF d) (aL d) .none kV doc pm o j ct),n⟩) (c:codeIn K j x=ae) (k:keepIn K (.ref f)=ae):Df K mg x d m:=⟨a,aCg l c k,PySem.W.mg_of X G a,.all b⟩
def u1(r:d8 k A):A.units+1<di:=by have:=r.units;lia
def u2(r:d8 k A):A.units+2<di:=by have:=r.units;lia
def u9(r:d8 k A):A.units+9<di:=by have:=r.units;lia
theorem bK(C:Cl X.Ω X.w X.K X.mg X.ω iB k x ps (GI X.K R))(l:d8 k X.A)
  (z:wU X (e::es) t) (o:Gl X x<|>0) (j:Zu x<|>1) (v:Zq X e es<|>0) (a:Q0k X ν es<|>0):
  bI X (.Call (.Name x p) (e::es) [] ν) (aO R t):=by
 obtain⟨F,m,n,y⟩:=C;show cE (aF4 F l m n y z o j v a) λρ Q J=>?_;obtain⟨d,e,q⟩:=J;obtain⟨ds,I,e⟩:=bnd e;show⟨ds,I,d,?_,q⟩
 cases h:R ds with
 |ok d'=>rw[h] at e;cases e;rfl
 |no=>rw[h] at e;cases e
 |ex c=>rw[h] at e;cases e
def IJ(y:X.calm=ae)(o:X.mg "list"=af)(l:X.mg "range"=af)(z:wU X [a] t)(v:Gl X "list"<|>0)(m:Gl X "range"<|>0)(n:ar [a] X.env=[(ag,eval a X.env)]<|>0)
  (x:(ar [.Call (.Name "range" p2) [a] [] pos2] X.env=(ag,eval (.Call (.Name "range" p2) [a] [] pos2) X.env)::ar [] X.env)<|>0):
  jS X (.Call (.Name "list" p) [.Call (.Name "range" p2) [a] [] pos2] [] ν) (GN t):=cF (IB y o l z v m n x) λρ Q F=>by
 obtain⟨d,e,q⟩:=F;obtain⟨ds,A,e⟩:=bnd e;show⟨ds,A,?_⟩;split at e
 .rename_i j;by_cases h:j.natAbs<=16777216
  .rw [Z_ h] at e;cases e;show⟨⟨∅,∅⟩,q⟩
  .rw [Zz h] at e;cases e
 .cases e
section
variable{tg:av}
def gD(h:bI X l f):QB X tg l (bV f):=cI (Za h) λρ Q j=>by
 obtain⟨ds,e,q⟩:=j;obtain⟨d,a,e⟩:=bnd e;show⟨d,a,?_⟩;cases d<;>first|cases e;done|skip
 all_goals (cases e;show q)
def IK(h:aA fa aG ρ=ab as):∃a,fa ρ=ab a/\as=[a]:=by obtain⟨a,d,e⟩:=bnd h;cases e;show⟨a,d,rfl⟩
def aDU(h:aA fa (aA fb aG) ρ=ab as):∃a b,fa ρ=ab a/\fb ρ=ab b/\as=[a,b]:=by obtain⟨a,l,e⟩:=bnd h;obtain⟨r,d,e⟩:=bnd e;obtain⟨b,j,rfl⟩:=IK d;cases e;show⟨a,b,l,j,rfl⟩
def dG(n:X.mg "range"=af)(v:bI X a fa)(o:Gl X "range"<|>0)(m:ar [a] X.env=[(ag,eval a X.env)]<|>0):QB X tg (.Call (.Name "range" p) [a] [] ν) (bG (aA fa aG)):=cI (aDB n (aE v bA m) o m) λρ Q x=>by
 obtain⟨ds,e,q⟩:=x;obtain⟨as,l,e⟩:=bnd e;show⟨as,l,?_⟩;obtain⟨a,d,rfl⟩:=IK l
 clear l d
 cases a<;>first|cases e;done|skip
 rename_i j;by_cases h:j.natAbs<4611686018427387904
 .have e:(if j.natAbs<4611686018427387904 then ab ((aQ 0 j.toNat).map D.int) else af)=ab ds:=e;rw[Z_ h] at e;cases e;show⟨⟨∅,∅⟩,q⟩
 .have e:(if j.natAbs<4611686018427387904 then ab ((aQ 0 j.toNat).map D.int) else af)=ab ds:=e;rw[Zz h] at e;cases e
def Z9(v:X.mg "range"=af)(z:bI X a fa)(y:bI X b fb)(x:Gl X "range"<|>0)(o:ar [a,b] X.env=[(ag,eval a X.env),(ag,eval b X.env)]<|>0)(d:ar [b] X.env=[(ag,eval b X.env)]<|>0):
  QB X tg (.Call (.Name "range" p) [a,b] [] ν) (bG (aA fa (aA fb aG))):=cI (ZQ v (aE z (aE y bA d) (o.trans (by rw[d]))) x o d) λρ Q A=>by
 obtain⟨ds,e,q⟩:=A;obtain⟨as,n,e⟩:=bnd e;show⟨as,n,?_⟩;obtain⟨a,b,m,l,rfl⟩:=aDU n
 clear n m l
 cases a<;>first|(cases e;done)|skip
 all_goals (cases b<;>first|(cases e;done)|skip)
 rename_i i j;by_cases h:i.natAbs<4611686018427387904/\j.natAbs<4611686018427387904
 .have e:(if i.natAbs<4611686018427387904/\j.natAbs<4611686018427387904 then ab ((aQ i (j-i).toNat).map D.int) else af)=ab ds:=e;rw[Z_ h] at e;cases e;show⟨⟨∅,∅,∅,∅⟩,q⟩
 .have e:(if i.natAbs<4611686018427387904/\j.natAbs<4611686018427387904 then ab ((aQ i (j-i).toNat).map D.int) else af)=ab ds:=e;rw[Zz h] at e;cases e
end
def w4(h:X.mg "enumerate"=af)(l:wU X [a] t)(j:Gl X "enumerate"<|>0)(d:ar [a] X.env=[(ag,eval a X.env)]<|>0):QB X (.Tuple es kk tp) (.Call (.Name "enumerate" p) [a] [] ν) (oO t):=cI (IH h l j d) λρ Q n=>by obtain⟨ds,e,q⟩:=n;obtain⟨as,m,e⟩:=bnd e;show⟨as,m,?_⟩;delta JK at e;split at e<;>first|(cases e;show q)|cases e
theorem w8:∀(ds a ys:List D) (Q:D->Prop),iK g t e ρ ds=ab ys->⇑a+⇑ds<=br->Q (.lst (a++ys))->pX (yo g) (wT t) (wE e) ρ ds a Q
 |[],a,ys,Q,h,_,q=>by cases h;rw[pX];simpa using q
 |d::ds,a,ys,Q,h,hl,q=>by
  rw[pX];obtain⟨ρ1,e1,h⟩:=bnd h;obtain⟨b,m,h⟩:=bnd h;erw[eg] at hl;show⟨ρ1,e1,b,m,?_⟩
  cases b with
  |true =>
   rw[Z_ rfl] at h ⊢;obtain⟨y,l,h⟩:=bnd h;obtain⟨zs,j,rfl⟩:=oF h;show⟨y,l,∅,w8 ds (a++[y]) zs Q j (by simp;lia) ↑q⟩
  |false =>
   rw[Zz bz] at h ⊢;show w8 ds a ys Q h ∅ q
def US(ρ:cN)(Q:D->Prop)(w:wE (bE nl fr it g t e) ρ Q):LW nl fr (wI it) (yo g) (wT t) (wE e) ρ Q:=by
 obtain⟨d,h,q⟩:=w;obtain⟨ds,e1,h⟩:=bnd h;show⟨ds,e1,?_⟩;by_cases a:⇑ds<=k7
 .rw [Z_ a] at h;obtain⟨ys,j,rfl⟩:=oF h;show w8 ds [] ys Q j (by rw[gm,lj,ql];show a) ↑q
 .rw [Zz a] at h;cases h
abbrev UT(X:Cx)(nl:Nat)(a:av)(g:WM):Prop:=PG4 X nl a (yo g)
abbrev wm(X:Cx)(ifs:List av)(t:TF):Prop:=UG X ifs (wT t)
def cG(h:PG4 X nl tg g)(c:∀d ρ Q,g' d ρ Q->g d ρ Q):PG4 X nl tg g':=OE h λ_ _ _ _ n=>by obtain⟨S,ρ,d,Q3,j,m,a,dn,l,k⟩:=n;show⟨S,ρ,d,Q3,j,m,a,dn,c d ρ Q3 l,k⟩
def w9(nd:X.N.Nodup)(a:i<nl)(m:X.N[i]?=ab x<|>0)(l:Loc X.env.scope x<|>2)(h:Zp X x<|>6):UT X nl (.Name x ν) (g1 i):=cG (Yy nd a m l h) λd ρ Q n=>by obtain⟨j,e,q⟩:=n;cases e;show q
theorem LX(h:yC d=ab p):d=.tup [p.1,p.2]:=by
 cases d<;>first|(cases h;done)|skip
 rename_i l
 cases l with
 |nil=>cases h
 |cons a l =>
  cases l with
  |nil=>cases h
  |cons b l =>
   cases l with
   |nil=>cases h;rfl
   |cons c l=>cases h
def IL(L:X.calm=ae)(nd:X.N.Nodup)(n:i<nl)(m:j<nl)(K:X.N[i]?=ab x<|>0)(J:X.N[j]?=ab y<|>0)(F:Loc X.env.scope x<|>2)(v:Zp X x<|>6)(A:Loc X.env.scope y<|>2)(o:Zp X y<|>6)
  (I:Q0i X x y px py<|>0) (a:Q0h X x y px py<|>0)
  (l:H0 X x y px py<|>0) (h:gV X y py<|>0):
  UT X nl (.Tuple [.Name x px,.Name y py] kk ν) (g2 i j):=cG (Yx L nd n m K J F v A o I a l h) λd ρ Q U=>by
 obtain⟨z,e,q⟩:=U;obtain⟨p,O,rfl⟩:=oF e;rw[LX O];show q
def zS:wm X [] bQ:=λπ s σ H Q I h=>by obtain⟨S,ρ,Q3,d,a,⟨_,e,q⟩,k⟩:=h;cases e;show Qu π s σ H Q I ⟨S,ρ,Q3,d,a,q,k⟩
def UU(h:tH X c t):wm X [c] t:=Yv h
section
variable{ls fs:Q0g}{fr:List Nat}{sc:gn}{tg iter elt:av}{ifs:List av}{ν:bo}{it:AF}{g:WM}{t:TF}{e:EF}
theorem UW(n:X.calm=ae)(h:QB X tg iter it)
  (j:∀a C pn ex s H,(blk X (ls++fs) sc a C pn ex s H).N.Nodup->UT (blk X (ls++fs) sc a C pn ex s H) ⇑ls tg g) (l:∀a C pn ex s H,wm (blk X (ls++fs) sc a C pn ex s H) ifs t) (m:∀a C pn ex s H,bI (blk X (ls++fs) sc a C pn ex s H) elt e)
  (B:WV X.env.scope.names sc X.N ls fs fr=ae<|>0) (d:Zn X iter<|>4):jS X (.ListComp elt [⟨tg,iter,ifs,0⟩] sc ν) (bE ⇑ls fr it g t e):=cF (Yu n h j l m B d) US
variable{i:Nat}{x:aj}{spos pos':bo}
theorem j8(nd:X.N.Nodup)(y:X.calm=ae)(o:QB X tg iter it)
  (p:∀a C pn ex s H,(blk X (ls++fs) sc a C pn ex s H).N.Nodup->UT (blk X (ls++fs) sc a C pn ex s H) ⇑ls tg g) (q:∀a C pn ex s H,wm (blk X (ls++fs) sc a C pn ex s H) ifs t) (v:∀a C pn ex s H,bI (blk X (ls++fs) sc a C pn ex s H) elt e)
  (j:X.N[i]?=ab x<|>0) (m:X.env.scope.names.lookup x=ab .local<|>0) (l:g_ (.ListComp elt [⟨tg,iter,ifs,0⟩] sc ν) (ab (.Name x pos')) spos.line X.env=pure ae<|>0)
  (B:WV X.env.scope.names sc X.N ls fs fr=ae<|>0) (n:Zn X iter<|>4):sE X (.Assign [.Name x pos'] (.ListComp elt [⟨tg,iter,ifs,0⟩] sc ν) spos) (bH i (bE ⇑ls fr it g t e)) :=
 cS (OH nd y o p q v j m l B n) λE ρ w=>by
  delta wS bH at w;delta zy
  cases h:bE ⇑ls fr it g t e (gI ρ) with
  |none=>rw[h] at w;show w.elim
  |some d=>rw[h] at w;show US _ _ ⟨d,h,w⟩
end
end
section
def cO(h:PO3 X e t)(c:∀ρ Q,t' ρ Q->t ρ Q):PO3 X e t':=λπ s σ H Q I l=>by obtain⟨S,ρ,Q3,j,a,d,k⟩:=l;show h π s σ H Q I ⟨S,ρ,Q3,j,a,c ρ Q3 d,k⟩
def no4:PO4 X af MV:=cO Qf λ_ _ a=>by obtain⟨_,e,q⟩:=a;cases e;show q
def po4(h:bI X e f):PO4 X (ab e) (oE f):=cO (po3 h) λρ Q l=>by
 obtain⟨o,e,q⟩:=l;obtain⟨d,j,e⟩:=bnd e;obtain⟨i,a,rfl⟩:=oF e;show⟨d,j,?_⟩;cases d<;>first|cases a;done|skip
 cases a;show q
def sl4{e:av}{lo a:Option av}{p2 n:bo}{f:EF}{j m:OF}(v:bI X e f)(o:PO4 X lo j)(p:PO4 X a m):bI X (.Subscript e (.Slice lo a af p2) n) (JL f j m):=cE (sl3 v o p) λρ Q A=>by
 obtain⟨r,e,q⟩:=A;obtain⟨d,z,e⟩:=bnd e;obtain⟨l,x,e⟩:=bnd e;obtain⟨h,y,e⟩:=bnd e;show⟨d,z,l,x,h,y,?_⟩;cases d<;>first|cases e;done|skip
 all_goals (cases e;show q)
def px4(h:bI X e f):OQ X e (QG f):=cX (px3 h) λρ Q l=>by
 obtain⟨p,e,q⟩:=l;obtain⟨d,j,e⟩:=bnd e;show⟨d,j,?_⟩;by_cases a:d.CP=ae
 .rw [Z_ a] at e;cases e;show⟨a,q⟩
 .rw [Zz a] at e;cases e
def oI(h:bI X e f):OQ X e (a9 f):=cX (Sq h) λρ Q j=>by obtain⟨p,e,q⟩:=j;obtain⟨d,a,e⟩:=bnd e;cases e;show⟨d,a,q⟩
def IM(h:lG o=ab ds):o=ab (.ow (.lst ds)):=by
 delta lG at h;split at h
 .cases h;rfl
 .cases h
def CB(f:List D->D->(List D->D->Prop)->Prop)(m:List D->D->Option (List D×D)):Prop:=∀ds d q (Q:List D->D->Prop),m ds d=ab q->Q q.1 q.2->f ds d Q
def zk(h:CB f m)(ρ:bC)(Q:bC->D->Prop)(w:wX (m9 i m x) ρ Q):qx i f (wX x) ρ Q:=by obtain⟨r,e,q⟩:=w;obtain⟨ds0,e0,e⟩:=bnd e;obtain⟨p,l,e⟩:=bnd e;obtain⟨ds,e1,e⟩:=bnd e;obtain⟨z,j,rfl⟩:=oF e;have d:=IM e0;have o1:=IM e1;show⟨by rw[d];trivial,p,l,?_⟩;show(match p.1[i]? with|some (.ow (.lst ds))=>f ds p.2 λa r=>Q (p.1.set i (.ow (.lst a))) r|_=>False);rw[o1];show h ds p.2 z _ j q
def OZ:CB zx g4:=λds d q Q e k=>by
 delta g4 at e;by_cases h:⇑ds<k7
 .rw [Z_ h] at e;cases e;show⟨by rw[gm];show h,k⟩
 .rw [Zz h] at e;cases e
def O0:CB zw W2:=λds d q Q e k=>by
 cases d<;>first|cases e;done|skip
 rename_i i;have e:(if i.natAbs<9223372036854775808 then(P7 ⇑ds i).bind λj=>(ds[j]?).map λd=>(ds.eraseIdx j,d) else af)=ab q:=e;by_cases h:i.natAbs<9223372036854775808
 .rw [Z_ h] at e;obtain⟨j,a,e⟩:=bnd e;obtain⟨d,l,rfl⟩:=oF e;have a:N0 ⇑ds i=ab j:=a;show⟨⟨∅,∅⟩,?_⟩;show(match N0 ⇑ds i with|some j=>(match ds[j]? with|some d=>Q (ds.eraseIdx j) d|none=>False)|none=>False);rw[a];dsimp only;rw[l];show k
 .rw [Zz h] at e;cases e
def O1:CB zo MX:=λds d q Q e k=>by
 cases d<;>first|cases e;done|skip
 rename_i es;have e:(if ⇑ds+⇑es<=k7 then ab (ds++es,D.non) else af)=ab q:=e;by_cases h:⇑ds+⇑es<=k7
 .rw [Z_ h] at e;cases e;show⟨by rw[gm];show h,k⟩
 .rw [Zz h] at e;cases e
section
variable{i:Nat}{x:aj}{e:av}{p apos cpos:bo}{f:XF}
def xZ(n:OQ X e f)(hN:X.N[i]?=ab x<|>0)(l:xR X.env.scope x<|>3)(o:Zu x<|>1)(j:Zt x<|>1)
  (d:attributeBase (.Name x p) "append" X.env (eval (.Name x p) X.env)=eval (.Name x p) X.env<|>0)
  (h:Zo X cpos e<|>0)
  (a:Q0j apos cpos<|>0) (m:Zq X e []<|>0):
  OQ X (.Call (.Attribute (.Name x p) "append" apos) [e] [] cpos) (m9 i g4 f):=cX (Sm n hN l o j d h a m) (zk OZ)
def Oy(n:OQ X e f)(hN:X.N[i]?=ab x<|>0)(l:xR X.env.scope x<|>3)(o:Zu x<|>1)(j:Zt x<|>1)
  (d:attributeBase (.Name x p) "pop" X.env (eval (.Name x p) X.env)=eval (.Name x p) X.env<|>0)
  (h:Zo X cpos e<|>0)
  (a:Q0j apos cpos<|>0) (m:Zq X e []<|>0):
  OQ X (.Call (.Attribute (.Name x p) "pop" apos) [e] [] cpos) (m9 i W2 f):=cX (Sk n hN l o j d h a m) (zk O0)
def aAB(n:OQ X e f)(hN:X.N[i]?=ab x<|>0)(l:xR X.env.scope x<|>3)(o:Zu x<|>1)(j:Zt x<|>1)
  (d:attributeBase (.Name x p) "extend" X.env (eval (.Name x p) X.env)=eval (.Name x p) X.env<|>0)
  (h:Zo X cpos e<|>0)
  (a:Q0j apos cpos<|>0) (m:Zq X e []<|>0):
  OQ X (.Call (.Attribute (.Name x p) "extend" apos) [e] [] cpos) (m9 i MX f):=cX (ZV n hN l o j d h a m) (zk O1)
end
def gE:oD X [] dW:=Ea Sz λ_ _ w=>w
theorem Xx(E:DE)(ρ:bC)(w:wS (aK f g) E ρ):zz (wS f) (wS g) E ρ:=by
 delta wS aK at w;delta zz wS
 cases h:f ρ with
 |nx ρ'=>rw[h] at w;show w
 |rt d=>rw[h] at w;show w
 |no=>rw[h] at w;show w
 |ex c=>rw[h] at w;show w
def aZ{d:df}{a:List df}{f g:SF}(h:sE X d f)(h2:oD X a g):oD X (d::a) (aK f g):=Ea (Sx h h2) Xx
def aP{a:df}{f:SF}(d:sE X a f):oD X [a] f:=aF6 d
def aDW{a:df}:sE X a (λ_=>.no):=λπ s σ H D I h=>by obtain⟨_,_,_,_,_,_,_,_,d,_⟩:=h;show d.elim
theorem dD(h:bI X e f):sE X (.Return (ab e) ν) (b8 f):=cS (Ss h) λE ρ w=>by
 delta wS b8 at w
 cases h:f (bL ρ) with
 |none=>rw[h] at w;show w.elim
 |some d=>rw[h] at w;show⟨d,h,w⟩
theorem gF(d:tH X c t)(l:oD X a f)(j:oD X b g):sE X (.If c a b ν) (g8 t f g):=cS (Ua d l j) λE ρ w=>by
 delta wS g8 at w
 cases h:t (bL ρ) with
 |none=>rw[h] at w;show w.elim
 |some c =>
  rw[h] at w;show⟨c,h,?_⟩
  cases c with
  |true=>rw[Z_ rfl];show w
  |false=>rw[Zz bz];show w
section
variable{i:Nat}{x:aj}{e:av}{f:EF}{ν pos':bo}
theorem dN(hN:X.N.Nodup)(n:bI X e f)(l:X.N[i]?=ab x<|>0)(a:Loc X.env.scope x<|>2)(j:Si X e x pos' ν<|>0)(m:Zp X x<|>2):
  sE X (.Assign [.Name x pos'] e ν) (bH i f):=cS (Tz hN n l a j m) λE ρ w=>by
 delta wS bH at w
 cases h:f (gI ρ) with
 |none=>rw[h] at w;show w.elim
 |some d=>rw[h] at w;show⟨d,h,w⟩
theorem tK(hN:X.N.Nodup)(n:jS X e f)(l:X.N[i]?=ab x<|>0)(a:Loc X.env.scope x<|>2)(j:Si X e x pos' ν<|>0)(m:Zp X x<|>2):
  sE X (.Assign [.Name x pos'] e ν) (jM i f):=cS (Tw hN n l a j m) λE ρ w=>by
 delta wS jM at w
 cases h:f (gI ρ) with
 |none=>rw[h] at w;show w.elim
 |some d=>rw[h] at w;show⟨d,h,w⟩
theorem Xv(hN:X.N.Nodup)(o:jS X e f)(m:X.N[i]?=ab x<|>0)(j:Loc X.env.scope x<|>2)(l:Si X e x pos' ν<|>0)(n:Zp X x<|>2):
  sE X (.Assign [.Name x pos'] e ν) (uI i f):=cS (Yp hN o m j l n) λE ρ w=>by
 delta wS uI at w
 cases h:f (bL ρ) with
 |none=>rw[h] at w;show w.elim
 |some d =>
  rw[h] at w;dsimp only at w;by_cases a:uH d=ae
  .rw [Z_ a] at w;show⟨d,h,?_,w⟩;cases d<;>first|show a|cases a
  .rw [Zz a] at w;show w.elim
def UX(hN:X.N.Nodup)(h:X.N[i]?=ab x<|>0)(a:Loc X.env.scope x<|>2)(d:g_ (.Dict [] [] p) (ab (.Name x pos')) ν.line X.env=pure ag<|>0)(j:Zp X x<|>2):
  sE X (.Assign [.Name x pos'] (.Dict [] [] p) ν) (CZ i):=cS (UJ hN h a d j) λE ρ w=>w
end
theorem mL(j:OQ X e f)(a:g_ e af ν.line X.env=pure ag<|>0):sE X (.Expr e ν) (sX f):=cS (aF9 j a) λE ρ w=>by
 delta wS sX at w
 cases h:f ρ with
 |none=>rw[h] at w;show w.elim
 |some d=>rw[h] at w;show⟨d,h,w⟩
theorem Ox(A:OQ X e f)(z:bI X k fk)
  (hN:X.N[i]?=ab x<|>0) (n:xR X.env.scope x<|>3) (F:Zu x<|>1) (d:Zt x<|>1)
  (I:∀v,assign (.Subscript (.Name x p) k pos') X.env v=(do
   let ov <- holding [v] (eval (.Name x p) X.env)
   let iv <- holding [v,ov] (eval k X.env)
   standAt pos'
   holding [v,ov,iv] (setItem ov iv v)
   release [v,ov,iv] []):=by intro _;rfl)
  (y:swapsWithSole [.Subscript (.Name x p) k pos'] e ν.line X.env=pure ag<|>0) (hw:swappedStores [.Subscript (.Name x p) k pos'] e X.env=pure af<|>0)
  (J:(fw [.Subscript (.Name x p) k pos'] X.env).map (·.2)=[assign (.Subscript (.Name x p) k pos') X.env]<|>0):
  sE X (.Assign [.Subscript (.Name x p) k pos'] e ν) (MY i f fk):=cS (put3 A z hN n F d I y hw J) λE ρ w=>by
 delta wS MY at w
 cases h:((f ρ).bind λp=>(lG p.1[i]?).bind λds=>(fk (bL p.1)).bind λkd=>(asInt kd).bind λa=>(P7 ⇑ds a).map λj=>p.1.set i (.ow (.lst (ds.set j p.2)))) with
 |none=>rw[h] at w;show w.elim
 |some ρ' =>
  rw[h] at w;obtain⟨q,K,h⟩:=bnd h;obtain⟨ds,O,h⟩:=bnd h;obtain⟨kd,L,h⟩:=bnd h;obtain⟨a,m,h⟩:=bnd h;obtain⟨j,l,rfl⟩:=oF h;have o:=IM O;show⟨q,K,by delta zv;rw[o];trivial,kd,L,?_⟩;cases kd<;>first|cases m;done|skip
  cases m;have l:N0 ⇑ds a=ab j:=l
  show(match q.1[i]?,D.int a with
   |some (.ow (.lst ds)),.int k=>(match N0 ⇑ds k with|some j=>E.nx (q.1.set i (.ow (.lst (ds.set j q.2))))|none=>False)
   |_,_=>False)
  rw[o];dsimp only;rw[l];show w
def O5(h:uJ o=ab p):o=ab (.ow (.i8 p.1 p.2)):=by
 delta uJ at h;split at h
 .cases h;rfl
 .cases h
theorem Xu(y:X.A.units+1<di)(I:OQ X e f)(F:bI X k fk)
  (hN:X.N[i]?=ab x<|>0) (v:xR X.env.scope x<|>3) (J:Zu x<|>1) (m:Zt x<|>1)
  (z:g_ e (ab (.Subscript (.Name x p) k pos')) ν.line X.env=pure ag<|>0):
  sE X (.Assign [.Subscript (.Name x p) k pos'] e ν) (JM i f fk):=cS (Yr y I F hN v J m z) λE ρ w=>by
 delta wS JM at w;cases h:((f ρ).bind λp=>(uJ p.1[i]?).bind λkd=>(fk (bL p.1)).bind λa=>(uF a).bind λj =>
  if(jC kd.1 kd.2 j).isNone=ae/\⇑kd.2<k7 then ab (p.1.set i (.ow (.i8 (kd.1++[j]) (kd.2++[p.2])))) else af) with
 |none=>rw[h] at w;show w.elim
 |some ρ' =>
  rw[h] at w;obtain⟨q,K,h⟩:=bnd h;obtain⟨kd,O,h⟩:=bnd h;obtain⟨a,L,h⟩:=bnd h;obtain⟨j,n,h⟩:=bnd h;have o:=O5 O;by_cases l:(jC kd.1 kd.2 j).isNone=ae/\⇑kd.2<k7
  .rw [Z_ l] at h;cases h;show⟨q,K,by rw[o];trivial,a,L,?_⟩;have U:E2 a=ab j:=by cases a<;>first|show n|cases n
   show(match q.1[i]?,E2 a with
    |some (.ow (.i8 ks ds)),ab k=>(jI ks ds k=af/\⇑ds<br)/\E.nx (q.1.set i (.ow (.i8 (ks++[k]) (ds++[q.2]))))
    |_,_=>False)
   rw[o,U];show⟨⟨?_,by rw[gm];show l.2⟩,w⟩;have:=l.1
   cases hl:jC kd.1 kd.2 j with
   |none=>show hl
   |some d=>rw[hl] at this;cases this
  .rw [Zz l] at h;cases h
def Eb(h:PG3 X tg g)(c:∀d ρ Q,g' d ρ Q->g d ρ Q):PG3 X tg g':=OE h λ_ _ _ _ m=>by obtain⟨H₀,S,w,ρ,G,d,Q3,j,a,dn,l,k⟩:=m;show⟨H₀,S,w,ρ,G,d,Q3,j,a,dn,c d ρ Q3 l,k⟩
def jJ(hN:X.N.Nodup)(j:X.N[i]?=ab x<|>0)(h:Loc X.env.scope x<|>2)(l:Zp X x<|>2):PG3 X (.Name x ν) (wG (rS i)) :=
 Eb (Y_ hN j h l) λd ρ Q m=>by obtain⟨a,e,q⟩:=m;cases e;show q
def Gh(J:X.calm=ae)(hN:X.N.Nodup)(F:X.N[i]?=ab x<|>0)(A:X.N[j]?=ab y<|>0)(v:Loc X.env.scope x<|>2)(o:Loc X.env.scope y<|>2)
  (I:Zp X x<|>2) (m:Zp X y<|>2)
  (z:Q0i X x y px py<|>0) (a:Q0h X x y px py<|>0)
  (l:H0 X x y px py<|>0) (h:gV X y py<|>0):
  PG3 X (.Tuple [.Name x px,.Name y py] k ν) (wG (W3 i j)):=Eb (Yz J hN F A v o I m z a l h) λd ρ Q L=>by
 obtain⟨n,e,q⟩:=L;obtain⟨p,K,rfl⟩:=oF e;rw[LX K];show q
theorem nH(v:X.calm=ae)(q:uw (au X.Ω X.w) X.A X.env X.xe)(n:QB X tg iter it)(m:PG3 X tg (wG g))(l:oD X body b)
  (p:Zn X iter<|>4):sE X (.For tg iter body [] ν) (fB it g b):=cS (Rx v q n m l p) λE ρ w=>by
 delta wS fB at w
 cases h:it (gI ρ) with
 |none=>rw[h] at w;show w.elim
 |some ds =>
  rw[h] at w;show⟨ds,h,λi j=>wS (g9 g b (ds.drop i)) E j,(by show wS (g9 g b (ds.drop 0)) E ρ;rw[qt];show w),λi d j o a=>?_,λj a=>?_⟩
  .have n:i<⇑ds:=(de.mp o).1;have e1:ds[i]=d:=(de.mp o).2;have a:wS (g9 g b (ds.drop i)) E j:=a;rw[nu n,e1] at a;delta wS g9 at a
   cases m:g d j with
   |none=>rw[m] at a;show a.elim
   |some ρ1 =>
    rw[m] at a;dsimp only at a;show⟨ρ1,m,?_⟩;delta wS
    cases l:b ρ1 with
    |nx ρ2=>rw[l] at a;dsimp only;rw[l];show a
    |rt d=>rw[l] at a;dsimp only;rw[l];show a
    |no=>rw[l] at a;dsimp only;rw[l];show a
    |ex c=>rw[l] at a;dsimp only;rw[l];show a
  .have a:wS (g9 g b (ds.drop ⇑ds)) E j:=a;rw[a2t] at a;show a
theorem UY(I:uw (au X.Ω X.w) X.A X.env X.xe)(L:tH X c t)(l:oD X body b):sE X (.While c body [] ν) (uK n t b):=cS (aDK I L l) λE ρ w=>by
 have least:∀{p:Nat->Prop},(∃n,p n) ->∃n,p n /\∀m,p m->n<=m:=λ{p} ⟨n,J⟩=>by
  induction n using Kb with
  |ind n ih =>
   by_cases h:∃m,m<n/\p m
   .obtain ⟨m,o,pm⟩:=h;show ih m o pm
   .exact ⟨n,J,λm pm=>by apply qc;intro z;show h ⟨m,∅,pm⟩⟩
 show⟨λa=>∃m,wS (dY t b m) E a,λa=>(a2K λm=>wS (dY t b m) E a /\∀k,wS (dY t b k) E a->m<=k),⟨n,w⟩,λa F=>?_⟩;obtain⟨x,q⟩:=least F;have o:=a2J (p:=λm=>wS (dY t b m) E a /\∀k,wS (dY t b k) E a->m<=k) ⟨x,q⟩;dsimp only;generalize (a2K λm=>wS (dY t b m) E a /\∀k,wS (dY t b k) E a->m<=k)=m at o ⊢
 cases m with
 |zero=>show o.1.elim
 |succ m =>
  have j:=o.1;delta wS dY at j
  cases ht:t (bL a) with
  |none=>rw[ht] at j;show j.elim
  |some c =>
   rw[ht] at j;show⟨c,ht,?_⟩
   cases c with
   |false=>rw[Zz bz];show j
   |true =>
    rw[Z_ rfl];dsimp only at j;delta wS
    cases l:b a with
    |nx ρ2 =>
     rw[l] at j;have h2:wS (dY t b m) E ρ2:=j;show⟨⟨m,h2⟩,?_⟩;obtain⟨y,v⟩:=least (p:=λm=>wS (dY t b m) E ρ2) ⟨m,h2⟩;have K:=a2J (p:=λm=>wS (dY t b m) E ρ2 /\∀k,wS (dY t b k) E ρ2->m<=k) ⟨y,v⟩;show Nat.lt_succ_of_le (K.2 m h2)
    |rt d=>rw[l] at j;show j
    |no=>rw[l] at j;show j
    |ex c=>rw[l] at j;show j
end
theorem Ep{P:bh}{w:bg}{K:aq}{mg:Q0d}{ω:a_}{x qual:aj}{l:df}{f:ah}{fd:gw}{N m:Q0g}{k n o:Nat}{b:SF}(F:WR K x qual l f fd)(S:dR N m (aL l))(y:⇑N=n)(v:⇑m=o)
  (j:∀(a:ai) (A:bt) (Γ:List fv) (s:ak) (H:Hp) (E:XK),d8 k (A.deeper (envOfC qual (aL l) ↥s f a)) ->
   oD (lB iB P w K mg ω N qual (aL l) f a A Γ s H E).EG (dF l) b):jN P w K mg ω iB (k+1) f fd m (GI K (c8 n o b)):=by
 subst y v;show Tu F S (λds Q ⟨d,e,q⟩=>?_) λa A Γ s H E p=>⟨_,j a A Γ s H E p,λds Q ⟨d,e,q⟩=>?_⟩
 .delta c8 at e;by_cases h:⇑ds=⇑m
  .exact h
  .rw [Zz h] at e;cases e
 .delta c8 at e;by_cases h:⇑ds=⇑m
  .rw [Z_ h] at e;have z:jO N ds=eG ⇑N ds:=rfl;delta wS;rw[z]
   cases hb:b (eG ⇑N ds) with
   |rt d'=>rw[hb] at e;cases e;show q
   |nx ρ=>rw[hb] at e;cases e;show q
   |no=>rw[hb] at e;cases e
   |ex c=>rw[hb] at e;cases e
  .rw [Zz h] at e;cases e
theorem fd4{P:bh}{w:bg}{K:aq}{mg:Q0d}{ω:a_}{x:aj}{a:df}{N j:Q0g}{k n l:Nat}{b:SF}(D:Df K mg x a j)
  (h:∀{f:ah} {d:ai} {A:bt} {Γ:List fv} {s:ak} {H:Hp} {E:XK},d8 k (A.deeper (envOfC x (aL a) ↥s f d))->N.Nodup->oD (lB iB P w K mg ω N x (aL a) f d A Γ s H E).EG (dF a) b)
  (S:dR N j (aL a)<|>7) (v:⇑N=n<|>0) (p:⇑j=l<|>0):Cl P w K mg ω iB (k+1) x j (GI K (c8 n l b)):=by
 obtain⟨_,F,m,q⟩:=D;show⟨Ep F S v p λ_ _ _ _ _ _ o=>h o S.nd,m,F.kp,q⟩
def Xq{P:bh}{w:bg}{K:aq}{mg:Q0d}{ω:a_}{k:Nat}{f:ah}{fd:gw}{a:Q0g}:jN P w K mg ω iB k f fd a (GI K λ_=>.no) :=
 ⟨λ_ _ _ _ h=>(by obtain⟨_,_,_,_,_,⟨_,e,_⟩,_⟩:=h;cases e),λ_ _ _ _ _ _ _ _ _ _ _ _ _ h=>(by obtain⟨_,_,_,_,_,⟨_,e,_⟩,_⟩:=h;cases e)⟩
def nn4{P:bh}{w:bg}{K:aq}{mg:Q0d}{ω:a_}{k:Nat}{x:aj}{d:df}{a:Q0g}(D:Df K mg x d a):Cl P w K mg ω iB k x a (GI K λ_=>.no):=by obtain⟨_,F,m,q⟩:=D;show⟨Xq,m,F.kp,q⟩
section
variable{π:Q0b}{σ:L2.St}{H:Hp}
theorem sG(I:Φ X π σ H s)(h:Ψ x v)(e:x=.bl k\/(∃p xs,x=.ref p/\(c7 X.K H p xs\/eJ X.K H p xs)/\k=!xs.isEmpty))
  (q:∀l,Q k {s with toks:=l}):ax (au X.Ω X.w) A (truthy v) Q E s:=by
 have n:br=16777216:=gm;rcases e with rfl|⟨p,xs,rfl,a,rfl⟩
 .cases h;show mr (q s.toks)
 .cases h;rcases a with a|a
  .obtain ⟨j,r,d,m⟩:=I.list a;have hlen:=⇑r;show a0c d.isList (by erw[cu];lia) (by rw[kQ r];show q _)
  .obtain ⟨j,r,d,m⟩:=I.tuple a;have hlen:=⇑r;show a1r d (by erw[cu];lia) (by rw[kQ r];show q _)
def TrV(K:aq)(H:Hp)(x:V)(k:Bool):Prop:=x=.bl k\/(∃p xs,x=.ref p/\(c7 K H p xs\/eJ K H p xs)/\k=!xs.isEmpty)
def zT(h:j<n):(cj n).drop j=j::(cj n).drop (j+1):=by
 have a:j<⇑(cj n):=by rw[jt];show h
 rw[nu a,List.getElem_range]
section
variable{it:ah}{fp wr:List ah}{n:Nat}{P:Nat->ai->Prop}{St:Nat->a_->Prop}{R:Bn->ak->Prop}{tr:Nat->Bool}
theorem zU(W:Walks X.Ω X.w X.A.in1 it fp wr n P St)(o:∀b∈wr,nF X π H b)(p:∀j v,P j v ->∃x,Ψ x v/\TrV X.K H x (tr j)):
  ∀(m j:Nat) (a:ak),m+j=n->Φ X π σ H a->St j a.heap->(∀d,Φ X π σ H d->R (.ok (.ret (.bool (((cj n).drop j).any tr)))) d)->oh (au X.Ω X.w) X.A (.builtin "any.loop" ⟨[.ref it],[]⟩) R a
 |0,j,a,hj,I,hS,k=>by
  obtain rfl:j=n:=∅
  show mx (a1c) ?_;rw[m_ Bu];show ao (W.done a _ _ hS λh2 t2 l=>ao (je (az ?_)));have:=k _ (E3 (t':=t2) I l o)
  rwa [vw (by simp)] at this
 |m+1,j,a,hj,I,hS,k=>by
  have h:j<n:=∅
  show mx (a1c) ?_;rw[m_ Bu];show ao (W.item j a _ _ h hS λv h2 t2 J z l=>?_);have y:Φ X π σ H {a with heap:=h2,toks:=t2}:=E3 (t':=t2) I l o;obtain⟨x,F,L⟩:=p j v J;rw[zT h,mj] at k;show ao (i_ (sG y F L λt3=>ao (og ?_)));have q:Φ X π σ H {a with heap:=h2,toks:=t3}:=y.tok t3
  cases hb:tr j with
  |false =>
   rw[hb,a2M] at k;rw[Zz bz];show az ⟨mw Bu _,zU W o p m (j+1) _ ∅ q z k⟩
  |true =>
   rw[hb,a2L] at k;rw[Z_ rfl];show ao (je (az (k _ q)))
theorem zV(W:Walks X.Ω X.w X.A.in1 it fp wr n P St)(o:∀b∈wr,nF X π H b)(p:∀j v,P j v ->∃x,Ψ x v/\TrV X.K H x (tr j)):
  ∀(m j:Nat) (a:ak),m+j=n->Φ X π σ H a->St j a.heap->(∀d,Φ X π σ H d->R (.ok (.ret (.bool (((cj n).drop j).all tr)))) d)->oh (au X.Ω X.w) X.A (.builtin "all.loop" ⟨[.ref it],[]⟩) R a
 |0,j,a,hj,I,hS,k=>by
  obtain rfl:j=n:=∅
  show mx (a1d) ?_;rw[m_ Bv];show ao (W.done a _ _ hS λh2 t2 l=>ao (je (az ?_)));have:=k _ (E3 (t':=t2) I l o)
  rwa [vw (by simp)] at this
 |m+1,j,a,hj,I,hS,k=>by
  have h:j<n:=∅
  show mx (a1d) ?_;rw[m_ Bv];show ao (W.item j a _ _ h hS λv h2 t2 J z l=>?_);have y:Φ X π σ H {a with heap:=h2,toks:=t2}:=E3 (t':=t2) I l o;obtain⟨x,F,L⟩:=p j v J;rw[zT h,vz] at k;show ao (i_ (sG y F L λt3=>ao (og ?_)));have q:Φ X π σ H {a with heap:=h2,toks:=t3}:=y.tok t3
  cases hb:tr j with
  |true =>
   rw[hb,ny] at k;rw[Z_ rfl];show az ⟨mw Bv _,zV W o p m (j+1) _ ∅ q z k⟩
  |false =>
   rw[hb,ue] at k;rw[Zz bz];show ao (je (az (k _ q)))
end
def zj(f:List Bool->Bool)(K:aq):List V->Hp->VK->Prop:=λxs H Q=>∃a ys bs,xs=[.ref a]/\H a=ab (.lst ys)/\⇑bs=⇑ys/\(∀(j:Nat) (y:V) (b:Bool),ys[j]?=ab y->bs[j]?=ab b->TrV K H y b)/\Q (.bl (f bs)) H
def O6(hc:X.calm=ae):eX X (.builtin "any") (zj (λbs=>bs.any id) X.K):=by
 intro π s σ H xs us Q I r h;obtain⟨a,ys,bs,rfl,ha,hl,Z,q⟩:=h;obtain⟨u,rfl,l⟩:=vals1 r;cases l;obtain⟨d,L,p,hz⟩:=I.list (c7.of ha);have z:a<↥s:=by obtain⟨o,n,e,_⟩:=p;show cf e
 have hn:⇑d=⇑ys:=L.length.symm;have y:∀j v,d.toArray[j]?=ab v ->∃x,Ψ x v/\TrV X.K H x (bs.getD j ae):=λj v e=>by
  have e1:d[j]?=ab v:=by simpa using e
  have O:j<⇑ys:=by have:=(de.mp e1).1;lia
  obtain⟨u,U,l⟩:=L.get (cn O);rw[e1] at U;cases U;show⟨_,l,Z j _ _ (cn O) ?_⟩;rw[ll,cn ∅];rfl
 show a0G (F.kind_any) F.plain_any F.entry_any (F.args_any1 _) ?_;delta Builtin.«any»;show ao (m:=oneArg "any" _) (az (ao (wt p.isList (az ⟨mw Bu _,?_⟩))));have J:H ↥s=af:=I.hok.fresh (bq _);have I1:Φ X π σ H {s with heap:=s.heap.push {cls:=.type "list_iterator",data:=.fields #[.ref a,rawInt 0]} }:=I.kept (t':=s.toks) λb o e=>cx _ e;show zU (X:=X) (π:=π) (σ:=σ) (H:=H) (tr:=λj=>bs.getD j ae) (a0I (A:=X.A.in1) (show X.A.in1.handled=af from I.ok.hd hc) ↥s a (gp z) d.toArray) (λb hb=>?_) y d.toArray.size 0 _ rfl I1
  ⟨⟨_,d_ _ rfl,rfl,rfl⟩,p.isList.at λo e=>cx _ e⟩ λY I'=>?_
 .cases dh.mp hb;show I.vU (bq _) J
 .refine ⟨.bl _,H,I',rfl,?_⟩;rw[qt,show d.toArray.size=⇑bs by simp[hn,hl],range_any];show q
def O7(hc:X.calm=ae):eX X (.builtin "all") (zj (λbs=>bs.all id) X.K):=by
 intro π s σ H xs us Q I r h;obtain⟨a,ys,bs,rfl,ha,hl,Z,q⟩:=h;obtain⟨u,rfl,l⟩:=vals1 r;cases l;obtain⟨d,L,p,hz⟩:=I.list (c7.of ha);have z:a<↥s:=by obtain⟨o,n,e,_⟩:=p;show cf e
 have hn:⇑d=⇑ys:=L.length.symm;have y:∀j v,d.toArray[j]?=ab v ->∃x,Ψ x v/\TrV X.K H x (bs.getD j ae):=λj v e=>by
  have e1:d[j]?=ab v:=by simpa using e
  have O:j<⇑ys:=by have:=(de.mp e1).1;lia
  obtain⟨u,U,l⟩:=L.get (cn O);rw[e1] at U;cases U;show⟨_,l,Z j _ _ (cn O) ?_⟩;rw[ll,cn ∅];rfl
 show a0G (F.kind_all) F.plain_all F.entry_all (F.args_all1 _) ?_;delta Builtin.«all»;show ao (m:=oneArg "all" _) (az (ao (wt p.isList (az ⟨mw Bv _,?_⟩))));have J:H ↥s=af:=I.hok.fresh (bq _);have I1:Φ X π σ H {s with heap:=s.heap.push {cls:=.type "list_iterator",data:=.fields #[.ref a,rawInt 0]} }:=I.kept (t':=s.toks) λb o e=>cx _ e;show zV (X:=X) (π:=π) (σ:=σ) (H:=H) (tr:=λj=>bs.getD j ae) (a0I (A:=X.A.in1) (show X.A.in1.handled=af from I.ok.hd hc) ↥s a (gp z) d.toArray) (λb hb=>?_) y d.toArray.size 0 _ rfl I1
  ⟨⟨_,d_ _ rfl,rfl,rfl⟩,p.isList.at λo e=>cx _ e⟩ λY I'=>?_
 .cases dh.mp hb;show I.vU (bq _) J
 .refine ⟨.bl _,H,I',rfl,?_⟩;rw[qt,show d.toArray.size=⇑bs by simp[hn,hl],range_all];show q
theorem Gg{K:aq}{S:ah->Prop}{H:Hp}:∀{p:List D} {ys:List V} {bs:List Bool},aM K S H p ys->nM p=ab bs->⇑bs=⇑ys /\∀(j:Nat) (y:V) (b:Bool),ys[j]?=ab y->bs[j]?=ab b->TrV K H y b
 |[],ys,bs,dn,h=>by erw[aM] at dn;subst dn;cases h;show⟨rfl,λj y b e=>by simp at e⟩
 |d::p,ys,bs,dn,h=>by
  obtain⟨v,r,rfl,l,h2⟩:=dn.aY;obtain⟨b,m,h⟩:=bnd h;obtain⟨I,F,rfl⟩:=oF h;obtain⟨A,z⟩:=Gg h2 F;show⟨by simp[A],λj y c o q=>?_⟩
  cases j with
  |zero =>
   simp at o q;subst o q;cases d<;>first|cases m;done|skip
   .cases m;symm at l;show .inl l
   .cases m;symm at l;obtain⟨a,xs,rfl,n,x⟩:=l;show .inr ⟨a,xs,rfl,.inr (eJ.of n),by rw[<- x.empty]⟩
   .cases m;symm at l;obtain⟨a,xs,rfl,n,_,x⟩:=l;show .inr ⟨a,xs,rfl,.inl (c7.of n),by rw[<- x.empty]⟩
  |succ j=>show z j y c ↑o ↑q
def trF(f:List Bool->Bool):F1
 |[.lst es],Q=>∃bs,nM es=ab bs/\Q (.bl (f bs))
 |_,_=>False
theorem UZ{K:aq}{f:List Bool->Bool}:C3 K (zj f K) (trF f):=by
 intro S H xs ds Q3 Q x m l k
 match ds,l with
 |[.lst es],⟨bs,eb,q⟩ =>
  obtain⟨v,r,rfl,d,h2⟩:=m.aY;erw[aM] at h2;subst h2;symm at d;obtain⟨a,ys,rfl,n,p,o⟩:=d;obtain⟨j,h⟩:=Gg o eb;show⟨a,ys,bs,rfl,n,j,h,k _ H _ (ξ.refl H) (by symm) q⟩
def Eo{p a:bo}{e:av}{t:AF}(m:X.calm=ae)(h:X.mg "any"=af)(n:wU X [e] t)(j:Gl X "any"<|>0)(l:Zq X e []<|>0):bI X (.Call (.Name "any" p) [e] [] a) (cL anyM t) :=
 cE (wL (O6 m) UZ a3U j h n ⋯ ⋯ l (by rfl)) (xX λds d Q e q=>by
  delta anyM at e;split at e
  .obtain ⟨bs,o,rfl⟩:=oF e;show⟨bs,o,q⟩
  .cases e)
def U0{p a:bo}{e:av}{t:AF}(m:X.calm=ae)(h:X.mg "all"=af)(n:wU X [e] t)(j:Gl X "all"<|>0)(l:Zq X e []<|>0):bI X (.Call (.Name "all" p) [e] [] a) (cL allM t) :=
 cE (wL (O7 m) UZ a3V j h n ⋯ ⋯ l (by rfl)) (xX λds d Q e q=>by
  delta allM at e;split at e
  .obtain ⟨bs,o,rfl⟩:=oF e;show⟨bs,o,q⟩
  .cases e)
end
end L4
namespace L3
open PySem.Spec PyProof.Rows L2
noncomputable def aNs(t:WA):WI:=λρ Q=>t ρ λds=>match ds with
 |[.lst ds]=>Q ds.reverse
 |[.tup ds]=>Q ds.reverse
 |_=>False
section
variable{Ω:bh}{w:bg}{A:bt}{E:Q0c}{s:ak}
theorem FD{Q:List ai->ak->Prop}{r:ah}{a b c:Int}{t u v:iz}{n:Nat}(z:A.handled=af)(q:Iw s.heap r a b c t u v)(d:Jm a b c=ae)(x:ve a b c=n)
  (hlen:n<=2^24) (F:∀h' m p,↥s<=h'.objs.size->(∀b o,s.heap.get? b=ab o->h'.get? b=ab o)->Br (λi v=>∃t,v=.int (a+i*c) t) p n->Q p.toList {s with heap:=h',toks:=m}):ax (au Ω w) A (collect (.ref r)) Q E s:=by
 delta collect;apply ao;apply Hx;show mx Jd ?_;rw[m_ Ja]
 wp_walk
 show⟨mw vc _,mx Je ?_⟩;rw[m_ vc];show wpAny_extend_range (R:=wants _ _) (s:={s with heap:=s.heap.push {cls:=.type "list",data:=.seq #[]} }) z (cx _ q) d x hlen ↥s (.ref ↥s) _ (d_ _ rfl) λh' m l I y j h=>?_;apply ao;apply Ba j;show az (F h' m l (nj (cf j)) (λb o e=>y b o (gp (cf e)) (cx _ e)) h)
theorem FE{r:ah}{a b c:Int}{t u v:iz}{n:Nat}(d:Jm a b c=ae)(q:ve a b c=n)(hlen:n<=2^24):Meets (Builtin.«tuple.__new__» ⟨[.type "tuple",.ref r],[]⟩)
   (λA R s=>A.handled=af/\Iw s.heap r a b c t u v /\∀(h':a_) (m:Nat) (l:Array ai),↥s<=h'.objs.size->(∀b o,s.heap.get? b=ab o->h'.get? b=ab o)->Br (λi v=>∃t,v=.int (a+i*c) t) l n ->
    R (.ok (.ret (.ref h'.objs.size))) {s with heap:=h'.push {cls:=.type "tuple",data:=.seq l},toks:=m}) :=
 .of_wp λΩ w A R s h=>by
  obtain⟨y,p,h⟩:=h;have F:=sub_tuple_self;have h2:=init_tuple_lookup;have z:=madeHere_tuple
  wp_walk using Ax (T:="range") (v:=.ref r) ⟨_,p,rfl⟩,FD (A:=A.in1) y p d q hlen
  intro h' m l hsz x j;have fits:l.size<=br:=by rw[j.1,gm];lia
  wp_walk
  simpa using h h' m l hsz x j
theorem CC{Q:Q0c}{r:ah}{a b c:Int}{t u v:iz}{n:Nat}(y:A.handled=af)(p:Iw s.heap r a b c t u v)(d:Jm a b c=ae)(q:ve a b c=n)(hlen:n<=2^24)
  (h:∀(h':a_) (m:Nat) (l:Array ai),↥s<=h'.objs.size->(∀b o,s.heap.get? b=ab o->h'.get? b=ab o)->Br (λi v=>∃t,v=.int (a+i*c) t) l n->Q (.ref h'.objs.size) {s with heap:=h'.push {cls:=.type "tuple",data:=.seq l},toks:=m}):
  ax (au Ω w) A (call (.type "tuple") [.ref r]) Q E s :=
 Ij F.called_tuple ⋯ (F.typeCall_tuple_1 _) (F.newCall_tuple_1 _) (λobj=>a1f obj _) F.entry_tuple_new
  (FE d q hlen) ⟨y,p,λh' m l hsz x j=>⟨⟨_,d_ _ rfl,rfl⟩,h h' m l hsz x j⟩⟩
variable{X:Cx}
def x5(K:X.calm=ae):eX X (.type "tuple") (λxs H Q=>∃p i j,xs=[.ref p]/\H p=ab (.rng i j) /\ -16777216<=i/\i<=16777216 /\ -16777216<=j/\j<=16777216/\j-i<=16777216 /\∀l,H l=af->Q (.ref l) (upd H l (.tup ((mG i (j-i).toNat).map V.int)))):=by
 intro π s σ H xs us Q I r h;obtain⟨p,i,j,rfl,J,Y,U,h2,O,L,q⟩:=h;obtain⟨u,rfl,y⟩:=vals1 r;cases y;obtain⟨t,u,v,e⟩:=I.hok p _ J;have hsz:ve i j 1=((j-i).toNat:Int):=by rw[Ie];split<;>lia
 show CC (a:=i) (b:=j) (c:=1) (n:=(j-i).toNat) (I.ok.hd K) e (H_ ∅ ∅ ∅ ∅) hsz ∅ λh' x d hle z hit=>?_;have F:θ ((mG i (j-i).toNat).map V.int) d.toList:=lU hit;have m:H h'.objs.size=af:=I.hok.fresh hle;show⟨.ref h'.objs.size,_,I.laid (t':=x) (o:=.tup ((mG i (j-i).toNat).map V.int)) (λb o e=>cx _ (z b o e)) hle ⟨?_,d.toList,F,⟨_,d_ _ rfl,rfl,_,rfl⟩,BL.new _ _⟩,rfl,q _ m⟩;rw[bb,mH,gm];lia
def O8(L:X.calm=ae)(I:X.mg "tuple"=af)(d:X.mg "range"=af)(O:tZ X [a] t)(K:Gl X "tuple"<|>0)(h:Gl X "range"<|>0)(F:ar [a] X.env=[(ag,eval a X.env)]<|>0)
  (o:(ar [.Call (.Name "range" p2) [a] [] pos2] X.env=(ag,eval (.Call (.Name "range" p2) [a] [] pos2) X.env)::ar [] X.env)<|>0):
  cC X (.Call (.Name "tuple" p) [.Call (.Name "range" p2) [a] [] pos2] [] ν) (λρ Q=>(t ρ λds=>match ds with|[.int j]=>(-16777216<=j/\j<=16777216)/\Q (.tup ((mG 0 j.toNat).map D.int))|_=>False)) :=
 imp (m5 (x5 L) K I sy (fC (zN h d O F) kR o) ⋯ ⋯ o (by rfl)) λσ H Q Z=>by
  obtain⟨S,ρ,Q3,U,x,z,k⟩:=Z;show⟨S,ρ,_,U,x,z,λvs H1 ds y Y q1=>?_⟩;split at q1
  .rename_i j;obtain⟨v,r,rfl,q,h2⟩:=Y.aY;erw[aM] at h2;subst h2;symm at q;subst q;show⟨j,rfl,λp m=>⟨p,0,j,rfl,aN,∅,∅,q1.1.1,q1.1.2,by have:=q1.1.2;lia,λl n=>?_⟩⟩;have J:H1 l=af:=(aH m).free n;rw[Int.sub_zero];show k _ _ _ ((y.trans (aH m)).trans (aH n)) ?_ q1.2;symm;show⟨l,_,rfl,aN,aM.ints.mpr rfl⟩
  .exact q1.elim
end
end L3
namespace L4
open PySem.Spec PyProof.Rows L2 L3
variable{X:Cx}
section
variable{tg:av}
def sH(z:X.calm=ae)(v:X.mg "tuple"=af)(l:X.mg "range"=af)(F:bI X a fa)(x:Gl X "tuple"<|>0)(m:Gl X "range"<|>0)(n:ar [a] X.env=[(ag,eval a X.env)]<|>0)
  (y:(ar [.Call (.Name "range" p2) [a] [] pos2] X.env=(ag,eval (.Call (.Name "range" p2) [a] [] pos2) X.env)::ar [] X.env)<|>0):
  bI X (.Call (.Name "tuple" p) [.Call (.Name "range" p2) [a] [] pos2] [] ν) (JJ (aA fa aG)):=cE (O8 z v l (aE F bA n) x m n y) λρ Q I=>by
 obtain⟨d,e,q⟩:=I;obtain⟨ds,o,e⟩:=bnd e;show⟨ds,o,?_⟩;obtain⟨a,A,rfl⟩:=IK o;split at e
 .rename_i j hj;cases hj;by_cases h:j.natAbs<=16777216
  .rw [Z_ h] at e;cases e;show⟨⟨∅,∅⟩,q⟩
  .rw [Zz h] at e;cases e
 .rename_i hj;cases hj
 .cases e
end
open PySem.W
noncomputable def told(lt:Nat->Nat->Bool){α:Type}:rn α->α
 |.ret a=>a
 |.ask i j k=>told lt (k (lt i j))
theorem iH{α a:Type}(f:α->rn a):∀t:rn α,told lt (t.bind f)=told lt (f (told lt t))
 |.ret _=>rfl
 |.ask i j k=>iH f (k (lt i j))
section
variable{lt:Nat->Nat->Bool}
def Up(lt:Nat->Nat->Bool)(p:Array Nat)(k:Nat):Prop:=∀i j,i<j->j<k->lt (p.getD j 0) (p.getD i 0)=ag
def QC(lt:Nat->Nat->Bool)(p:Array Nat)(k:Nat):Prop:=∀i j,i<j->j<k->lt (p.getD i 0) (p.getD j 0)=ag
structure fY (lt:Nat->Nat->Bool):Prop where
 as:∀a b,lt a b=ae->lt b a=ag
 tr:∀a b c,lt b a=ag->lt c b=ag->lt c a=ag
theorem fY.GC(O:fY lt)(x:Nat):lt x x=ag:=by
 cases hb:lt x x with
 |false=>rfl
 |true=>have:=O.as _ _ hb;rw[hb] at this;show this
def cR{p:Array Nat}{i:Nat}:p.getD i 0=(p[i]?).getD 0:=by rw[Array.getD_eq_getD_getElem?]
def cD{p:Array Nat}{i j:Nat}(a:j<=p.size)(k:Nat):(iy p i j).getD k 0=if i<=k/\k<j then p.getD (i+j-1-k) 0 else p.getD k 0:=by delta iy;rw[cR,getElem?_mirror_all a];split<;>rw[cR]
def xA(p:Array Nat)(i j:Nat):(iy p i j).size=p.size:=mirror_size _ _ _ _
def d9(p:Array Nat)(i j:Nat):(iy p i j).Perm p:=mirror_perm _ _ _ _
theorem IP(O:fY lt)(p:Array Nat):∀f n,1<=n->Up lt p n->n<=told lt (kj p f n)/\told lt (kj p f n)<=n+f/\Up lt p (told lt (kj p f n))/\(told lt (kj p f n)<n+f->lt (p.getD (told lt (kj p f n)) 0) (p.getD (told lt (kj p f n)-1) 0)=ae)
 |0,n,h1,hu=>⟨bq _,bq _,hu,λh=>Zw h (jr _)⟩
 |f+1,n,h1,hu=>by
  show n<=told lt (if lt (p.getD n 0) (p.getD (n-1) 0)=ae then qi n else kj p f (n+1))/\told lt (if lt (p.getD n 0) (p.getD (n-1) 0)=ae then qi n else kj p f (n+1))<=n+(f+1)/\Up lt p (told lt (if lt (p.getD n 0) (p.getD (n-1) 0)=ae then qi n else kj p f (n+1)))/\(told lt (if lt (p.getD n 0) (p.getD (n-1) 0)=ae then qi n else kj p f (n+1))<n+(f+1)->lt (p.getD (told lt (if lt (p.getD n 0) (p.getD (n-1) 0)=ae then qi n else kj p f (n+1))) 0) (p.getD (told lt (if lt (p.getD n 0) (p.getD (n-1) 0)=ae then qi n else kj p f (n+1))-1) 0)=ae)
  cases hc:lt (p.getD n 0) (p.getD (n-1) 0) with
  |true=>show⟨bq _,by show n<=n+(f+1);lia,hu,λ_=>hc⟩
  |false =>
   rw[Zz bz];have l:Up lt p (n+1):=λi j o v=>by
    by_cases m:j<n
    .exact hu i j o m
    .have:j=n:=∅
     subst this;by_cases q:i=j-1
     .subst q;show hc
     .exact O.tr _ _ _ (hu i (j-1) ∅ ∅) hc
   obtain⟨a,b,c,d⟩:=IP O p f (n+1) ∅ l;show⟨∅,∅,c,λh=>d ∅⟩
def aDY(a:n<=p.size)(h:QC lt p n):Up lt (iy p 0 n) n:=λi j l d=>by rw[cD a,cD a,Z_ ⟨∅,d⟩,Z_ ⟨∅,∅⟩];show h _ _ ∅ ∅
def Last(lt:Nat->Nat->Bool)(p:Array Nat)(n q:Nat):Prop:=q+1<=n /\∀i j,n-(q+1)<=i->i<n->n-(q+1)<=j->j<n->lt (p.getD i 0) (p.getD j 0)=ag
def rev_last(m:n<=p.size)(h:QC lt p n)(l:Last lt p n q):QC lt (iy p (n-(q+1)) n) n:=λi j d a=>by
 have:=l.1;rw[cD m,cD m];by_cases o:n-(q+1)<=i
 .rw [Z_ ⟨o,∅⟩,Z_ ⟨∅,a⟩];show l.2 _ _ ∅ ∅ ∅ ∅
 .rw [Zz ∅];by_cases h2:n-(q+1)<=j
  .rw [Z_ ⟨h2,a⟩];show h _ _ ∅ ∅
  .rw [Zz ∅];show h i j d a
def j9(O:fY lt)(q:1<=n)(h:QC lt p n)(l:lt (p.getD (n-1) 0) (p.getD n 0)=ag):QC lt p (n+1):=λi j d o=>by
 by_cases a:j<n
 .exact h i j d a
 .have:j=n:=∅
  subst this;by_cases m:i=j-1
  .subst m;show l
  .exact O.tr _ _ _ l (h i (j-1) ∅ ∅)
def U1(a:n<p.size):(iy p (n-(q+1)) n).getD n 0=p.getD n 0:=by rw[cD (nj a),Zz ∅]
theorem t7(O:fY lt):∀f (p:Array Nat) n q,1<=n->n+f<=p.size->QC lt p n->Last lt p n q ->∀r,r=told lt (rj f p n q)->r.1.Perm p/\r.2.1<=n+f/\n<=r.2.1/\QC lt r.1 r.2.1/\Last lt r.1 r.2.1 r.2.2
 |0,p,n,q,_,_,h,l,r,m=>by subst m;show⟨qd _,bq _,bq _,h,l⟩
 |f+1,p,n,q,h1,hs,h,l,r,m=>by
  have m:r=told lt (if lt (p.getD n 0) (p.getD (n-1) 0)=ae then(if q>0 then rj f (iy p (n-(q+1)) n) (n+1) 0 else rj f p (n+1) 0) else .ask (p.getD (n-1) 0) (p.getD n 0) λd=>if d=ae then .ret (p,n,q) else rj f p (n+1) (q+1)):=m;have one:∀p:Array Nat,Last lt p (n+1) 0:=λp=>⟨∅,λi j a b c d=>by
   have e1:i=n:=∅
   have F:j=n:=∅
   rw[e1,F];show O.GC _⟩
  cases hc:lt (p.getD n 0) (p.getD (n-1) 0) with
  |true =>
   rw[hc,Z_ rfl] at m;have o:=O.as _ _ hc;by_cases x:q>0
   .rw [Z_ x] at m;have J:=rev_last ∅ h l;have z:=l.1;have I:QC lt (iy p (n-(q+1)) n) (n+1):=by show j9 O h1 J ?_;rw[U1 ∅,cD ∅,Z_ ⟨∅,∅⟩];show O.tr _ (p.getD (n-1) 0) _ o (l.2 _ _ ∅ ∅ ∅ ∅)
    obtain⟨a,b,c,d,e⟩:=t7 O f (iy p (n-(q+1)) n) (n+1) 0 ∅ (by rw[xA];lia) I (one _) r m;show⟨a.trans (d9 _ _ _),∅,∅,d,e⟩
   .rw [Zz x] at m;obtain⟨a,b,c,d,e⟩:=t7 O f p (n+1) 0 ∅ ∅ (j9 O h1 h o) (one _) r m;show⟨a,∅,∅,d,e⟩
  |false =>
   rw[hc,Zz bz] at m;have m:r=told lt (if lt (p.getD (n-1) 0) (p.getD n 0)=ae then qi (p,n,q) else rj f p (n+1) (q+1)):=m
   cases hd:lt (p.getD (n-1) 0) (p.getD n 0) with
   |true =>
    rw[hd,Z_ rfl] at m;subst m;show⟨qd _,by show n<=n+(f+1);lia,bq _,h,l⟩
   |false =>
    rw[hd,Zz bz] at m;have z:=l.1;have A:Last lt p (n+1) (q+1):=⟨∅,λi j a b c d=>by
     by_cases y:i<n
     .by_cases v:j<n
      .exact l.2 i j ∅ y ∅ v
      .have:j=n:=∅
       subst this;show O.tr _ (p.getD (j-1) 0) _ hd (l.2 i (j-1) ∅ y ∅ ∅)
     .have:i=n:=∅
      subst this;by_cases v:j<i
      .exact O.tr _ (p.getD (i-1) 0) _ (l.2 (i-1) j ∅ ∅ ∅ v) hc
      .have:j=i:=∅
       subst this;show(one p).2 j j ∅ ∅ ∅ ∅⟩
    obtain⟨a,b,c,d,e⟩:=t7 O f p (n+1) (q+1) ∅ ∅ (j9 O h1 h hd) A r m;show⟨a,∅,∅,d,e⟩
def zW{p q:Array Nat}(h:p.Perm q):p.size=q.size:=h.size_eq
def LY(O:fY lt)(j:1<=n)(m:n<=nrem)(l:nrem<=p.size)(h:QC lt p n)(r:Nat×Array Nat)(d:r=told lt (Ip n nrem p)):r.2.Perm p/\1<=r.1/\r.1<=nrem/\Up lt r.2 r.1:=by delta Ip at d;rw[iH] at d;obtain⟨a,b,c,_⟩:=IP O (iy p 0 n) (nrem-n) n j (aDY ∅ h);subst d;show⟨d9 _ _ _,jb j a,(by show told lt _<=nrem;lia),c⟩
def sI(O:fY lt){n nrem:Nat}{p:Array Nat}(J:1<=n)(I:n+1<=nrem)(F:nrem<=p.size)(h:QC lt p (n+1))(r:Nat×Array Nat)(l:r=told lt (Bj n nrem p)):r.2.Perm p/\1<=r.1/\r.1<=nrem/\Up lt r.2 r.1:=by
 delta Bj at l;rw[iH] at l;have one:Last lt p (n+1) 0:=⟨∅,λi j a b c d=>by
  have e1:i=n:=∅
  have y:j=n:=∅
  rw[e1,y];show O.GC _⟩
 obtain⟨a,b,c,d,e⟩:=t7 O (nrem-(n+1)) p (n+1) 0 ∅ ∅ h one _ rfl;generalize told lt (rj (nrem-(n+1)) p (n+1) 0)=z at a b c d e l;have A:=zW a;by_cases x:z.2.2>0
 .rw [Z_ x] at l;obtain⟨v,q,o,m⟩:=LY O (n:=z.2.1) (nrem:=nrem) (p:=iy z.1 (z.2.1-(z.2.2+1)) z.2.1) ∅ ∅ (by rw[xA];lia) (rev_last ∅ d e) r l;show⟨v.trans ((d9 _ _ _).trans a),q,o,m⟩
 .rw [Zz x] at l;obtain⟨v,q,o,m⟩:=LY O (n:=z.2.1) (nrem:=nrem) (p:=z.1) ∅ ∅ ∅ d r l;show⟨v.trans a,q,o,m⟩
def U2(O:fY lt)(Y:1<=n)(z:n<=p.size)(r:Nat×Array Nat)(h:r=told lt (Bk n p)):r.2.Perm p/\1<=r.1/\r.1<=n/\Up lt r.2 r.1:=by
 delta Bk at h;rw[iH] at h;obtain⟨a,b,c,d⟩:=IP O p (n-1) 1 (bq _) (λi j o v=>∅);generalize told lt (kj p (n-1) 1)=m at a b c d h;by_cases q:(m == n)=ae
 .rw [Z_ q] at h;subst h;show⟨qd _,a,by show m<=n;lia,c⟩
 .rw [Zz q] at h;have q:m≠n:=λe=>q (by rw[e];simp);have l:=d ∅;by_cases h2:m>1
  .rw [Z_ h2] at h;have h:r=told lt (if lt (p.getD 0 0) (p.getD (m-1) 0)=ae then qi (m,p) else Bj m n (iy p 0 m)):=h
   cases hc:lt (p.getD 0 0) (p.getD (m-1) 0) with
   |true =>
    rw[hc,Z_ rfl] at h;subst h;show⟨qd _,a,by show m<=n;lia,c⟩
   |false =>
    rw[hc,Zz bz] at h;have all:∀i j,i<m->j<m->lt (p.getD i 0) (p.getD j 0)=ag:=λi j A v=>by
     have I:∀i,i<m->lt (p.getD 0 0) (p.getD i 0)=ag:=λi A=>by
      by_cases J:i=m-1
      .subst J;show hc
      .exact O.tr _ _ _ (c i (m-1) ∅ ∅) hc
     have GC:∀x,lt x x=ag:=λx=>by
      cases hb:lt x x with
      |false=>rfl
      |true=>have:=O.as _ _ hb;rw[hb] at this;show this
     have F:lt (p.getD i 0) (p.getD 0 0)=ag:=by
      by_cases y:i=0
      .subst y;show GC _
      ·-- a later one is not less than the first one
       show c 0 i ∅ A
     show O.tr _ _ _ (I j v) F
    have dn:QC lt (iy p 0 m) (m+1):=by
     show j9 O a (λi j o v=>?_) ?_
     .rw [cD ∅,cD ∅,Z_ ⟨∅,∅⟩,Z_ ⟨∅,∅⟩];show all _ _ ∅ ∅
     .rw [cD ∅,cD ∅,Z_ ⟨∅,∅⟩,Zz ∅];show O.tr _ (p.getD (m-1) 0) _ (O.as _ _ l) (all _ _ ∅ ∅)
    obtain⟨X,U,L,K⟩:=sI O a ∅ (by rw[xA];show z) dn r h;show⟨X.trans (d9 _ _ _),U,L,K⟩
  .rw [Zz h2] at h;have:m=1:=∅
   subst this;have dn:QC lt p (1+1):=j9 O (bq _) (λi j o v=>∅) (O.as _ _ l);show sI O (bq _) ∅ z dn r h
theorem xB(O:fY lt)(p:Array Nat)(k:Nat):∀f l r,l<=r->r<=k->r-l<=f->Up lt p k->(∀i,i<l->lt (p.getD k 0) (p.getD i 0)=ag)->(∀i,r<=i->i<k->lt (p.getD i 0) (p.getD k 0)=ag) ->
  told lt (kz p k f l r)<=k/\(∀i,i<told lt (kz p k f l r)->lt (p.getD k 0) (p.getD i 0)=ag) /\∀i,told lt (kz p k f l r)<=i->i<k->lt (p.getD i 0) (p.getD k 0)=ag
 |0,l,r,hlr,hr,hf,_,h1,h2=>by
  have:l=r:=∅
  subst this;show⟨hr,h1,h2⟩
 |f+1,l,r,hlr,hr,hf,hu,h1,h2=>by
  delta kz;by_cases a:l >= r
  .rw [Z_ a];have:l=r:=∅
   subst this;show⟨hr,h1,h2⟩
  .rw [Zz a];show told lt (if lt (p.getD k 0) (p.getD ((l+r)/2) 0)=ae then kz p k f l ((l+r)/2) else kz p k f ((l+r)/2+1) r)<=k/\(∀i,i<told lt (if lt (p.getD k 0) (p.getD ((l+r)/2) 0)=ae then kz p k f l ((l+r)/2) else kz p k f ((l+r)/2+1) r)->lt (p.getD k 0) (p.getD i 0)=ag) /\∀i,told lt (if lt (p.getD k 0) (p.getD ((l+r)/2) 0)=ae then kz p k f l ((l+r)/2) else kz p k f ((l+r)/2+1) r)<=i->i<k->lt (p.getD i 0) (p.getD k 0)=ag
   cases hc:lt (p.getD k 0) (p.getD ((l+r)/2) 0) with
   |true =>
    rw[Z_ rfl];show xB O p k f l ((l+r)/2) ∅ ∅ ∅ hu h1 λi j d=>?_;by_cases h:i=(l+r)/2
    .subst h;show O.as _ _ hc
    .exact O.tr _ _ _ (O.as _ _ hc) (hu _ i ∅ d)
   |false =>
    rw[Zz bz];show xB O p k f ((l+r)/2+1) r ∅ hr ∅ hu (λi j=>?_) h2;by_cases h:i=(l+r)/2
    .subst h;show hc
    .exact O.tr _ _ _ (hu i ((l+r)/2) ∅ ∅) hc
def LZ{p:Array Nat}{k l:Nat}(d:k<p.size)(h:l<=k)(i:Nat):(bubble p k (k-l)).getD i 0=if i=l then p.getD k 0 else if l<i/\i<=k then p.getD (i-1) 0 else p.getD i 0:=by
 rw[cR,a1A d _ ∅,show k-(k-l)=l by lia];by_cases a:i=l
 .rw [Z_ a,Z_ a,cR]
 .rw [Zz a,Zz a];by_cases h2:l<i/\i<=k
  .rw [Z_ h2,Z_ h2,cR]
  .rw [Zz h2,Zz h2,cR]
theorem U3(O:fY lt):∀f (p:Array Nat) k,k+f<=p.size->Up lt p k->(told lt (Bl f p k)).Perm p/\Up lt (told lt (Bl f p k)) (k+f)
 |0,p,k,_,h=>⟨qd _,h⟩
 |f+1,p,k,hs,h=>by
  delta Bl;rw[iH];obtain⟨a,b,c⟩:=xB O p k k 0 k ∅ (bq _) ∅ h (λi y=>∅) (λi y x=>∅);generalize told lt (kz p k k 0 k)=l at a b c;have v:k<p.size:=∅
  have h2:Up lt (bubble p k (k-l)) (k+1):=λi j q z=>by
   rw[LZ v a,LZ v a];by_cases d:j=l
   .rw [Z_ d,Zz ∅,Zz ∅];show b i ∅
   .rw [Zz d];by_cases m:l<j/\j<=k
    .rw [Z_ m];by_cases n:i=l
     .rw [Z_ n];show c (j-1) ∅ ∅
     .rw [Zz n];by_cases o:l<i/\i<=k
      .rw [Z_ o];show h _ _ ∅ ∅
      .rw [Zz o];show h _ _ ∅ ∅
    .rw [Zz m,Zz ∅,Zz ∅];show h _ _ q ∅
  obtain⟨e,g⟩:=U3 O f (bubble p k (k-l)) (k+1) (by rw[bubble_size];lia) h2;show⟨e.trans (Jo _ _ _),by rw[show k+(f+1)=k+1+f by lia];show g⟩
def aAC(O:fY lt){n:Nat}(j:1<=n):(told lt (wz n)).Perm (xr (cj n))/\Up lt (told lt (wz n)) n:=by
 delta wz;rw[iH];obtain⟨a,b,c,d⟩:=U2 O (n:=n) (p:=xr (cj n)) j (by simp) _ rfl;generalize told lt (Bk n (xr (cj n)))=r at a b c d;have l:r.2.size=n:=by rw[zW a];simp
 by_cases h:r.1<n
 .rw [Z_ h,show max r.1 1=r.1 by lia];obtain⟨e,g⟩:=U3 O (n-r.1) r.2 r.1 ∅ d;show⟨e.trans a,by rw[show r.1+(n-r.1)=n by lia] at g;show g⟩
 .rw [Zz h];have:r.1=n:=∅
  show⟨a,by rw[<- this];show d⟩
end
open LM
section
variable{Ω:bh}{w:bg}{A:bt}{s:ak}{Q:Bool->ak->Prop}
theorem aDZ:∀(us:Q0f) (vs:Q0f) (as bs:Q0e) (i:Nat) (fin:Bool),(fin=Zv (⇑us<⇑vs))->ng us as->ng vs bs->Q (fN as bs) s->KatLex Ω w A ae fin Q (us.zip vs) i s:=by
 intro us
 induction us with
 |nil =>
  intro vs as bs i fin h j d q;cases j
  cases d with
  |nil=>subst h;show q
  |cons b t' d=>subst h;simpa[KatLex,fN] using q
 |cons u us ih =>
  intro vs as bs i fin h j d q
  cases j with
  |cons a t j =>
   cases d with
   |nil=>subst h;simpa[KatLex,fN] using q
   |cons b t' d =>
    rename_i as vs bs;show Io (a0p (kat_go (λe=>?_) (λe=>?_)))
    .have e:a=b:=by simpa using e
     show Im (ih _ _ _ (i+1) fin (by rw[h];simp) j d ?_);simpa[fN,e] using q
    .have e:a≠b:=by simpa using e
     have q:Q (Zv (a<b)) s:=by simpa[fN,e] using q
     show kat_no ?_
     cases hc:(ae&&i == 0) with
     |true=>show oneLt_int q
     |false=>show kat_one _ _ (Cd q)
end
noncomputable def MA(n:Nat){α:Type}:rn α->(α->Prop)->Prop
 |.ret a,Q=>Q a
 |.ask i j k,Q=>i<n/\j<n /\∀b,MA n (k b) Q
theorem kB{n:Nat}{α d:Type}{f:α->rn d}{Q:d->Prop}:∀(t:rn α),MA n t (λa=>MA n (f a) Q)->MA n (t.bind f) Q
 |.ret a,h=>h
 |.ask i j k,h=>⟨h.1,h.2.1,λb=>kB (k b) (h.2.2 b)⟩
def Rg(n:Nat)(p:Array Nat):Prop:=p.Perm (xr (cj n))
theorem Rg.lt(h:Rg n p)(a:1<=n)(k:Nat):p.getD k 0<n:=by
 rw[cR]
 cases q:p[k]? with
 |none=>show a
 |some x =>
  have:x∈p:=Array.mem_of_getElem? q;have:=h.mem_iff.mp this;simpa using this
section
variable{n:Nat}
theorem CD(a:1<=n)(h:Rg n p)(q:∀m,Q m):∀f m,MA n (kj p f m) Q
 |0,m=>q m
 |f+1,m=>⟨h.lt a _,h.lt a _,λb=>by
  cases b with
  |true=>show q m
  |false=>show CD a h q f (m+1)⟩
theorem p8(a:1<=n)(q:∀r,Rg n r.1->Q r):∀f p m k,Rg n p->MA n (rj f p m k) Q
 |0,p,m,k,h=>q _ h
 |f+1,p,m,k,h=>⟨h.lt a _,h.lt a _,λb=>by
  cases b with
  |true =>
   show MA n (if k>0 then _ else _) Q;by_cases j:k>0
   .rw [Z_ j];show p8 a q f _ _ _ ((d9 _ _ _).trans h)
   .rw [Zz j];show p8 a q f _ _ _ h
  |false=>show⟨h.lt a _,h.lt a _,λd=>by
    cases d with
    |true=>show q _ h
    |false=>show p8 a q f _ _ _ h⟩⟩
def FF(d:1<=n){Q:Nat×Array Nat->Prop}(q:∀r,Rg n r.2->Q r){m k:Nat}{p:Array Nat}(h:Rg n p):MA n (Ip m k p) Q :=
 kB _ (CD d ((d9 _ _ _).trans h) (λa=>q (a,iy p 0 m) ((d9 _ _ _).trans h)) _ _)
def qA(a:1<=n){Q:Nat×Array Nat->Prop}(q:∀r,Rg n r.2->Q r){m k:Nat}{p:Array Nat}(h:Rg n p):MA n (Bj m k p) Q :=
 kB _ (p8 a (λr d=>by
  by_cases j:r.2.2>0
  .rw [Z_ j];show FF a q ((d9 _ _ _).trans d)
  .rw [Zz j];show FF a q d) _ _ _ _ h)
def O9(a:1<=n){Q:Nat×Array Nat->Prop}(q:∀r,Rg n r.2->Q r){k:Nat}{p:Array Nat}(h:Rg n p):MA n (Bk k p) Q :=
 kB _ (CD a h (λm=>by
  by_cases e:(m == k)=ae
  .rw [Z_ e];show q _ h
  .rw [Zz e];by_cases d:m>1
   .rw [Z_ d];show⟨h.lt a _,h.lt a _,λc=>by
     cases c with
     |true=>show q _ h
     |false=>show qA a q ((d9 _ _ _).trans h)⟩
   .rw [Zz d];show qA a q h) _ _)
theorem rM(a:1<=n)(h:Rg n p)(q:∀m,Q m)(k:Nat):∀f l r,MA n (kz p k f l r) Q
 |0,l,r=>q l
 |f+1,l,r=>by
  delta kz;by_cases e:l >= r
  .rw [Z_ e];show q l
  .rw [Zz e];show⟨h.lt a _,h.lt a _,λc=>by
    cases c with
    |true=>show rM a h q k f _ _
    |false=>show rM a h q k f _ _⟩
theorem MB(a:1<=n){Q:Array Nat->Prop}(q:∀p,Q p):∀f p k,Rg n p->MA n (Bl f p k) Q
 |0,p,k,h=>q p
 |f+1,p,k,h=>kB _ (rM a h (λl=>MB a q f _ _ ((Jo _ _ _).trans h)) k _ _ _)
def U4(a:1<=n){Q:Array Nat->Prop}(q:∀p,Q p):MA n (wz n) Q :=
 kB _ (O9 a (λr d=>by
  by_cases e:r.1<n
  .rw [Z_ e];show MB a q _ _ _ d
  .rw [Zz e];show q _) (qd _))
variable{X:Cx}
def kC(a:Q0a)(i:Nat):List Int:=(a[i]?).getD []
theorem MC(h:∀i j (C:Bool->ak->Prop),i<n->j<n->C (lt i j) s->rm Ω w A κ vs i j C s){α:Type}:∀(t:rn α) (Q:α->ak->Prop),MA n t (λ_=>True)->Q (told lt t) s->t.kasWp (rm Ω w A κ vs) Q s
 |.ret a,Q,_,q=>q
 |.ask i j k,Q,sf,q=>h i j _ sf.1 sf.2.1 (MC h (k (lt i j)) Q (sf.2.2 _) q)
def IQ(K:aq):List V->Hp->VK->Prop:=λxs H Q=>∃(a:ah) (h:List ah) (d:Q0a),xs=[.ref a]/\H a=ab (.lst (h.map V.ref))/\⇑h=⇑d/\2<=⇑d/\⇑d<64 /\
 (∀(j:Nat) (p:ah) (t:Q0e),h[j]?=ab p->d[j]?=ab t->eJ K H p (t.map V.int)/\t≠[]) /\
 ∀l:List Nat,l.Perm (cj ⇑d)->(∀i j:Nat,i<j->j<⇑d->fN (kC d (l.getD j 0)) (kC d (l.getD i 0))=ag) ->∀q,H q=af->Q (.ref q) (upd H q (.lst (l.map λi=>V.ref (h.getD i 0))))
theorem zX:∀{a:List ah} {us:Q0f},θ (a.map V.ref) us->us=a.map ft
 |[],_,.nil=>rfl
 |p::a,_,.cons r t=>by rw[zX t];rw[show _=ft p from r];rfl
theorem cQ.live(x:L2.cQ P w H h a o):∃u,h.get? a=ab u:=by
 cases o with
 |lst xs=>obtain⟨_,_,_,_,e⟩:=x;show⟨_,e⟩
 |tup xs=>obtain⟨_,_,_,⟨_,e,_⟩,_⟩:=x;show⟨_,e⟩
 |dK χ=>obtain⟨_,_,_,_,o,_,_,e,_⟩:=x;show⟨_,e⟩
 |dT χ=>obtain⟨_,_,_,_,o,_,_,e,_⟩:=x;show⟨_,e⟩
 |dX ob χ=>obtain⟨_,_,e,_⟩:=x;show⟨_,e⟩
 |set S n=>obtain⟨o,_,_,_,e,_⟩:=x;show⟨_,e⟩
 |ins C dx fs=>obtain⟨_,_,_,e,_⟩:=x;show⟨_,e⟩
 |own y=>obtain⟨_,e⟩:=x;show⟨_,e⟩
 |xd fs=>obtain⟨_,⟨_,_,_,e,_⟩,_⟩:=x;show⟨_,e⟩
 |rng lo hi=>obtain⟨_,_,_,e⟩:=x;show⟨_,e⟩
 |tW ob u=>obtain⟨e,_⟩:=x;show⟨_,e⟩
 |NR q=>obtain⟨_,e,_⟩:=x;show⟨_,e⟩
 |met f y=>show⟨_,(show h.get? a=ab _ from x)⟩
 |ext φ=>obtain⟨_,⟨_,e⟩,_⟩:=x;show⟨_,e⟩
def CF:eX X (.builtin "sorted") (IQ X.K):=by
 intro π s σ H xs us Q I r h;obtain⟨a,A,F,rfl,ha,hl,h2,gy,ht,q⟩:=h;obtain⟨u,rfl,ru⟩:=vals1 r;cases ru;obtain⟨ι,rv,pl,hz⟩:=I.list (c7.of ha);have Ow:=zX rv;subst Ow;obtain⟨m,hns,_⟩:=id I.loc;have hL:=I.lt;have hn:⇑(A.map ft)=⇑F:=by rw[bb];show hl
 have tup:∀(j:Nat),j<⇑F ->∃(p:ah) (us:Q0f),A[j]?=ab p/\jg s.heap p us.toArray/\ng us (kC F j)/\kC F j≠[]/\(A.map ft).getD j ik=.ref p:=λj hj=>by
  obtain⟨q1,q2⟩:=ht j A[j] F[j] (by simp[hl,hj]) (by simp[hj]);obtain⟨us,ru,pt,_⟩:=I.tuple q1;show⟨A[j],us,by simp[hl,hj],pt,?_,?_,by simp[hl,hj]⟩
  .delta kC;rw[cn hj];show intsAre_of ru
  .delta kC;rw[cn hj];show q2
 show kat_sorted (h₀:=B1 s.heap) (L:=X.env.locals) (m:=m) (news:=ledger s.heap X.env.locals ↥s) (vs:=A.map ft) (aCf hns) (λp hp=>?_) pl.isList ∅ ∅ λD e1 h' F' N' hD=>?_
 .obtain ⟨x,o⟩:=p;obtain⟨n1,_,e⟩:=kT.mp hp;show⟨e,n1,vZ _ _⟩
 have J:∀b o,b≠X.env.locals->s.heap.get? b=ab o->h'.get? b=ab o:=λb o U e =>
  (N' (b,o) (fq _ (kT.mpr ⟨U,gp (cf e),e⟩))).1
 have zu:∀{p:ah} {us:Array ai},jg s.heap p us->p≠X.env.locals:=λ{p us} ⟨o,e,c,n,d⟩ z=>by subst z;obtain⟨o2,es,ep,e2,d2,_⟩:=hns;rw[e] at e2;cases e2;rw[d] at d2;cases d2
 -- the kind: tuples that begin with ints
 have kt:∀(Y:List ah) (fs:Q0f),⇑Y=⇑fs->(∀(j:Nat) (p:ah) (f:ai),Y[j]?=ab p->fs[j]?=ab f ->∃us:Array ai,jg h' p us/\us[0]?=ab f)->KatTups h' (Y.map ft) fs:=by
  intro Y
  induction Y with
  |nil=>intro fs hf _;cases fs;show trivial;simp at hf
  |cons p Y ih =>
   intro fs hf h
   cases fs with
   |nil=>simp at hf
   |cons f fs =>
    obtain⟨us,⟨o,e,c,n,d⟩,u0⟩:=h 0 p f rfl rfl;show a0T e c d u0 (ih fs ↑hf λj p' f' h1 h2=>h (j+1) p' f' ↑h1 ↑h2)
 have heads:∃fs:Q0f,⇑fs=⇑A/\(∀v∈fs,∃i t,v=oj i t) /\∀(j:Nat) (p:ah) (f:ai),A[j]?=ab p->fs[j]?=ab f ->∃us:Array ai,jg h' p us/\us[0]?=ab f:=by
  have:∀k,k<=⇑A ->∃fs:Q0f,⇑fs=k/\(∀v∈fs,∃i t,v=oj i t) /\∀(j:Nat) (p:ah) (f:ai),A[j]?=ab p->fs[j]?=ab f ->∃us:Array ai,jg h' p us/\us[0]?=ab f:=by
   intro k
   induction k with
   |zero=>intro _;show⟨[],rfl,λv hv=>(nomatch hv),λj p f _ e=>by simp at e⟩
   |succ k ih =>
    intro hk;obtain⟨fs,f1,f2,f3⟩:=ih ∅;obtain⟨p,us,hp,pt,hi,ne,_⟩:=tup k ∅;obtain⟨i,t,us',rfl⟩:∃i t us',us=oj i t::us':=by
     generalize kC F k=w at hi ne
     cases hi with
     |nil=>show Zw rfl ne
     |cons n t r=>show⟨n,t,_,rfl⟩
    show⟨fs++[oj i t],by simp[f1],λv hv=>?_,λj p' f' h1 h2=>?_⟩
    .rcases ie.mp hv with h|h
     .exact f2 v h
     .exact ⟨i,t,dh.mp h⟩
    .by_cases hj:j<k
     .rw [kh ∅] at h2;show f3 j p' f' h1 h2
     .have:j=k:=by have:=(de.mp h2).1;simp[f1] at this;lia
      subst this;rw[ji ∅,f1,Cn] at h2;rw[hp] at h1;cases h1;have h2:oj i t=f':=by simpa using h2
      subst h2;obtain⟨o,e,c⟩:=id pt;show⟨_,⟨o,J p o (zu pt) e,c⟩,by simp⟩
  show this ⇑A (bq _)
 obtain⟨fs,f1,f2,f3⟩:=heads;show kat_kind (T:=.type "int") (kt A fs f1.symm f3) ∅ (λv hv=>?_) ⋯ ?_
 .obtain ⟨i,t,rfl⟩:=f2 v hv;show a0S rfl
 have O:fY λi j=>fN (kC F i) (kC F j):=⟨λx y a=>GP _ _ a,λx y z a b=>GQ _ _ _ a b⟩;rw[hn];show MC (n:=⇑F) (lt:=λi j=>fN (kC F i) (kC F j)) (λi j C hi hj hC=>?_) _ _ (U4 ∅ λ_=>trivial) ?_
 .obtain ⟨p,us,hp,pt,hi',_,ep⟩:=tup i hi;obtain⟨p2,us2,hp2,pt2,hi2,_,ep2⟩:=tup j hj;delta rm;rw[ep,ep2,show(jm "int" !=jm "tuple")=ae from by decide];obtain⟨o,e,c,n,d⟩:=id pt;obtain⟨o2,e2,c2,n2,d2⟩:=id pt2;show kat_lt (s:={s with heap:=h' }) (J p o (zu pt) e) d (J p2 o2 (zu pt2) e2) d2 (aDZ us us2 _ _ 0 _ rfl hi' hi2 hC)
 obtain⟨sp,su⟩:=aAC O (n:=⇑F) ∅;generalize told (λi j=>fN (kC F i) (kC F j)) (wz ⇑F)=pp at sp su;show KasFin.intro F' N' (UpdF.head λp hp z=>jr _ (z▸hD p hp)) λh'' c F'' N''=>?_;have nD:D≠X.env.locals:=(N' _ (cz ..)).2.1;have dead:s.heap.get? D=af:=by
  cases e:s.heap.get? D with
  |none=>rfl
  |some o=>show Zw (hD (D,o) (kT.mpr ⟨nD,gp (cf e),e⟩)) (jr _)
 have MD:∀b o,b≠X.env.locals->s.heap.get? b=ab o->h''.get? b=ab o:=λb o U e =>
  (N'' (b,o) (fq _ (kT.mpr ⟨U,gp (cf e),e⟩))).1
 have Na:=(N'' (D,_) (cz ..)).1;have hfr:H D=af:=by
  cases e:H D with
  |none=>rfl
  |some u =>
   obtain⟨o,eo⟩:=cQ.live (I.hok D u e);rw[dead] at eo;cases eo
 have neD:∀{b:ah} {o:ay},s.heap.get? b=ab o->b≠D:=λ{b o} e z=>by rw[z,dead] at e;cases e
 have Z:∀{b:ah} {u:HO},H b=ab u->b≠D:=λ{b u} e z=>by rw[z,hfr] at e;cases e
 have hlp:pp.toList.Perm (cj ⇑F):=by simpa using sp.toList
 show⟨.ref D,upd H D (.lst (pp.toList.map λi=>V.ref (A.getD i 0))),?_,rfl,q pp.toList hlp (λi j hij hj=>?_) D hfr⟩
 .show L2.Φ X π σ _ {s with heap:=h'' };show I.step (s:=s) (h':=h'') (g':=s.gens) (t':=s.toks) (d':=s.drawn) (ch:=[]) (λb U=>nomatch U) (λb o U _ _ e _=>MD b o U e) (λb o U _ _ e _=>⟨o.slots,MD b o U e⟩) (λb o _ e n=>by rw[aR (neD e)];show n) (λb o _ e=>?_)
   (λb xs e=>by rw[aR (Z e)];show e) (λb o u e=>by rw[aR (Z e)];show e) (λb A e=>by rw[aR (Z e),e]) (λm2 hm2=>?_) ?_ I.bare
  .by_cases U:b=X.env.locals
   .subst U;obtain⟨o2,_,_,e2,_⟩:=F''.ns;show⟨o2,e2⟩
   .exact ⟨o,MD b o U e⟩
  .have:m2=m:=by
    obtain⟨oa,ea,pa,h1,h2,_,h3⟩:=hm2;obtain⟨ob,eb,pb,k1,k2,_,k3⟩:=hns;rw[h1] at k1;cases k1;rw[h2] at k2;cases k2
    funext x
    rw[<- h3,<- k3]
   subst this;show F''.ns
  .intro b u e;by_cases U:b=D
   .subst U;rw[aN] at e;cases e;show⟨?_,pp.toList.map λi=>ft (A.getD i 0),c,?_,Na.trans ?_⟩
    .rw [bb,hlp.length_eq,jt,gm];lia
    .have:∀l:List Nat,θ (l.map λi=>V.ref (A.getD i 0)) (l.map λi=>ft (A.getD i 0)):=λl=>by
      induction l with
      |nil=>show .nil
      |cons a l ih=>show .cons rfl ih
     show this _
    .have:(pp.toList.map λi=>(A.map ft).getD i ik)=pp.toList.map λi=>ft (A.getD i 0):=mh λi hi=>by
      have:i<⇑F:=by simpa using hlp.mem_iff.mp hi
      simp[hl,this]
     rw[this]
   .rw [aR U] at e;show(I.hok b u e).stay (λc v hc ev=>MD c v (λz=>?_) ev) (λc ec=>by rw[aR (Z ec)];show ec) (λc ys ec=>by rw[aR (Z ec)];show ec) λc o u ec=>by rw[aR (Z ec)];show ec
    subst z;rcases hc with hc|hc
    .rw [<- hc,I.free] at e;cases e
    .rw [I.free] at hc;cases hc
 .have:=su i j hij hj;rw[cR,cR] at this;simpa using this
theorem U5(ho:s.heap.get? a=ab (seqObj "list" #[v] n))
  (h:P (.done (.ret .none)) {s with heap:=sortedHeap s.heap a [v] #[v]}):ax (au Ω w) A (Builtin.«list.sort» ⟨[.ref a],[]⟩) P E s:=by
 rw[a1y];have l:=cf ho;show ao (Ce ho rfl (ao (qj ho rfl ?_)));have j:=qk ho (λ_=>(#[]:Array ai));show ao (vg j rfl (ao (A_ (ao (qg (i_ ?_))))));have d:(((s.heap.update a (fu λ_=>(#[]:Array ai))).push (seqObj "tuple" #[v] 0)).push (seqObj "list" #[] 0)).get? a=_:=cx _ (cx _ j);show ax (au Ω w) A _ P E {s with heap:=((s.heap.update a (fu λ_=>(#[]:Array ai))).push (seqObj "tuple" #[v] 0)).push (seqObj "list" #[] 0)};dsimp only;rw[Z_ (show(#[v]:Array ai).size<2 from Cp 1),Z_ (show(#[v]:Array ai).size<2 from Cp 1)];show ao (az ?_);rw[StateT.run_pure];show ao (az (ao (vg d rfl (ao (qj d rfl ?_ (hsz2:=?_))))))
 .erw[bne_self_eq_false,o_,if_false];have e:(arrOf (pk general' ((#[v]:Array ai).zip #[v]) #[] 7 af)).map (·.2)=#[v]:=by show((#[v]:Array ai).zip #[v]).map (·.2)=#[v];simp
  rw[e];show az h
 .show (((#[v]:Array ai).zip #[v]).map (·.2)).size<=br+1;simp
def CG:List V->Hp->VK->Prop:=λxs H Q=>∃(a:ah) (x:V),xs=[.ref a]/\H a=ab (.lst [x]) /\∀q,H q=af->Q (.ref q) (upd H q (.lst [x]))
def qB:eX X (.builtin "sorted") CG:=by
 intro π s σ H xs us Q I r h;obtain⟨a,x,rfl,A,q⟩:=h;obtain⟨u,rfl,y⟩:=vals1 r;cases y;obtain⟨J,p,z,K⟩:=I.list (c7.of A);obtain⟨v,rfl,l⟩:=vals1 p;show Ji Cf Cc Cg (Jr (.ref a)) (show ax _ _ (Builtin.«sorted» _) _ _ _ from ?_);delta Builtin.«sorted»;show ao (m:=checkCount "sorted" 1 1 _) (az (ao (collect_list z.isList (ao (qg ?_)))));have hsz:((s.heap.push (seqObj "list" #[] 0)).update ↥s (fu (· ++ [v].toArray))).objs.size=↥s+1:=by rw[Heap.size_update,size_push']
 have d:(((s.heap.push (seqObj "list" #[] 0)).update ↥s (fu (· ++ [v].toArray))).push (seqObj "list" [v].toArray 0)).get? (↥s+1)=ab (seqObj "list" #[v] 0):=by rw[<- hsz];show d_ _ rfl
 show ax _ _ _ _ _ {s with heap:=((s.heap.push (seqObj "list" #[] 0)).update ↥s (fu (· ++ [v].toArray))).push (seqObj "list" [v].toArray 0)};rw[hsz];show ao (i_ (jw Ca ⟨_,d,rfl⟩ Ci (U5 d ⟨_,rfl,?_⟩) (Js _)));show az ⟨.ref (↥s+1),rfl,?_⟩;obtain⟨e1,j⟩:=a1w s.heap [v] #[v];have F:L2.Φ X π σ (upd H (↥s+1) (.lst [x])) {s with heap:=sortedAll s.heap [v] #[v]} :=
  I.laid (t':=s.toks) (λb o e=>a1v e) (qm _) ⟨by rw[gm];simp,[v],e1,.cons l .nil,by simpa[seqObj] using j⟩
 show⟨.ref _,_,F,rfl,q _ (I.hok.fresh (qm _))⟩
theorem CH:eX X (.builtin "sorted") (λxs H Q=>E1 xs H Q\/CG xs H Q\/IQ X.K xs H Q):=by
 intro π s σ H xs us Q I r h;rcases h with h|h|h
 .exact kX π s σ H xs us Q I r h
 .exact qB π s σ H xs us Q I r h
 .exact CF π s σ H xs us Q I r h
def U6:F1
 |[.lst ds],Q=>∃a,nO ds=ab a/\⇑a<64/\(∀t∈a,t≠[])/\Q (.lst ((rT a).map oP))
 |_,_=>False
def U7(h:Hm d=ab t):d=oP t:=by
 cases d<;>first|cases h;done|skip
 rename_i ds;delta oP;rw[<- ints_of h]
theorem zY:∀{ds:List D} {a:Q0a},nO ds=ab a->ds=a.map oP
 |[],a,h=>by cases h;rfl
 |d::ds,a,h=>by delta nO at h;obtain⟨t,e1,h⟩:=bnd h;obtain⟨us,j,rfl⟩:=oF h;rw[bx,U7 e1,zY j]
def aD1{K:aq}{S:ah->Prop}{H:Hp}{t:Q0e}{v:V}(h:Dn K S H (oP t) v):∃p,v=.ref p/\H p=ab (.tup (t.map V.int)):=by delta oP at h;symm at h;obtain⟨a,xs,rfl,d,j⟩:=h;rw[aM.ints.mp j] at d;show⟨a,rfl,d⟩
theorem FG{K:aq}{S:ah->Prop}{H:Hp}:∀{d:Q0a} {ys:List V},aM K S H (d.map oP) ys ->∃a:List ah,ys=a.map V.ref/\⇑a=⇑d /\∀(j:Nat) (p:ah) (t:Q0e),a[j]?=ab p->d[j]?=ab t->H p=ab (.tup (t.map V.int))
 |[],ys,h=>by erw[nq,aM] at h;show⟨[],h,rfl,λj p t e=>by simp at e⟩
 |t::d,ys,h=>by
  obtain⟨v,r,rfl,y,h2⟩:=aM.aY h;obtain⟨p,rfl,m⟩:=aD1 y;obtain⟨a,rfl,o,x⟩:=FG h2;show⟨p::a,rfl,by simp[o],λj q u e1 l=>?_⟩
  cases j with
  |zero=>cases e1;cases l;show m
  |succ j=>show x j q u ↑e1 ↑l
def U8(a:Q0a):(cj ⇑a).map (kC a)=a:=by
 show qa λi=>?_;rw[c_];by_cases h:i<⇑a
 .rw [qr h];simp[kC,h]
 .rw [ig ↑h,ig ↑h];rfl
theorem U9{K:aq}:C3F K (λxs H Q=>E1 xs H Q\/CG xs H Q\/IQ K xs H Q) U6:=by
 intro S H xs ds Q3 Q fc hd d k
 match ds,d with
 |[.lst es],d =>
  obtain⟨v,r,rfl,h1,h2⟩:=hd.aY;erw[aM] at h2;subst h2;symm at h1;obtain⟨a,ys,rfl,Z,sa,da⟩:=h1;obtain⟨L,e,I,h,q⟩:=d;rw[zY e] at da;obtain⟨F,rfl,m,y⟩:=FG da;have one:∀(p:ah) (t:Q0e) (H':Hp) (S':ah->Prop),ξ H H'->H p=ab (.tup (t.map V.int))->Dn K S' H' (oP t) (.ref p):=λp t H' S' O o=>by delta oP;symm;show⟨p,_,rfl,O _ _ o,aM.ints.mpr rfl⟩
  match L,m,y,I,h,q with
  |[],m,y,I,h,q =>
   have:F=[]:=qp.mp m;subst this;show .inl ⟨a,[],rfl,Z,⋯,λU o _ p d=>?_⟩;have:U=[]:=Kl.mp o;subst this;show k p [] _ [] d aN (aH d) (by erw[aM]) q
  |[t],m,y,I,h,q =>
   obtain⟨p,rfl⟩:∃p,F=[p]:=by
    match F,m with
    |[p],_=>show⟨p,rfl⟩
   show .inr (.inl ⟨a,.ref p,rfl,Z,λl d=>k l [.ref p] _ [oP t] d aN (aH d) (aM.one (one p t _ _ (aH d) (y 0 p t rfl rfl))) q⟩)
  |t1::t2::L,m,y,I,h,q =>
   generalize hT:t1::t2::L=T at *;show .inr (.inr ⟨a,F,T,rfl,Z,m,by rw[<- hT];simp,I,λj p t e1 e2=>⟨eJ.of (y j p t e1 e2),h t (j_ e2)⟩,λJ o hu l d=>?_⟩);have hlen:⇑J=⇑T:=by rw[o.length_eq,jt]
   have es:rT T=J.map (kC T):=by
    show JO ((kG T).trans ?_) (C0 T) ?_
    .have:=(o.map (kC T)).symm;rw[U8] at this;show this
    .rw [UpT,vn,xw];intro i j A hj Y;have:=hu i j Y ∅;simpa[A,hj] using this
   have dn:∀(H':Hp),ξ H H' ->∀z:List Nat,(∀i∈z,i<⇑T)->aM K (λx=>S x/\x≠l) H' (z.map λi=>oP (kC T i)) (z.map λi=>V.ref (F.getD i 0)):=by
    intro H' O z
    induction z with
    |nil=>intro _;show aM.nil
    |cons i z ih =>
     intro OK;have A:=OK i cz;show aM.cons (one _ _ _ _ O ?_) (ih λx hx=>OK x (fq _ hx));show y i _ _ (by simp[m,A]) (by simp[kC,A])
   show k l _ _ (J.map λi=>oP (kC T i)) d aN (aH d) (dn _ (aH d) J λi A=>by simpa using o.mem_iff.mp A) ?_;rw[es,dg] at q;show q
def FH:mJ U6 nQ:=λds d Q e q=>by
 delta nQ at e;split at e
 .rename_i a;obtain⟨j,e1,e⟩:=bnd e;by_cases h:⇑j<64/\j.all (λt=>!t.isEmpty)=ae
  .rw [Z_ h] at e;cases e;show⟨j,e1,h.1,λt l z=>?_,q⟩;have:=jd.mp h.2 t l;rw[z] at this;cases this
  .rw [Zz h] at e;cases e
 .cases e
def VA(a:X.mg "sorted"=af)(j:wU X [e] t)(d:Gl X "sorted"<|>0)(h:Zq X e []<|>0):jS X (.Call (.Name "sorted" p) [e] [] ν) (cL nQ t):=cF (B6 CH U9 xk d a j ⋯ ⋯ h (by rfl)) (xX FH)
end
open PySem.SeqAt
def Xn(i:Nat){a:df}{f:SF}(h:sE X a f):sE X a (Ao i f) :=
 j6 h λB σ H l=>by obtain⟨H₀,S,w,ρ,G,E,j,a,d,ok⟩:=l;show⟨H₀,S,w,freeze ρ i,G,E,j,a.frozen,d,ok⟩
end L4
namespace L5
open PySem.Spec PyProof.Rows L2 L3 L4
open PySem.W Builtin.ObjectAttr Builtin.Getset_descriptor
structure Ex (K:aq) (C:ah):Prop where
 hc:isClsIn K C=ae
 hm:mroIn K C (.type "object")=ab ae
 hs:subIn K (.ref C) (.type "BaseException")=ab ae
 hga:findIn K (.ref C) "__getattribute__"=ab (ab (.builtin "BaseException.__getattribute__"))
 hgg:findIn K (.ref C) "__getattr__"=ab af
 ha:findIn K (.ref C) "__class__"=ab (ab (.builtin "object.__class__"))
 hn:specialIn K (.builtin "object.__class__") "__get__"=ab (ab (.builtin "getset_descriptor.__get__"))
 ht:takesIn K (.builtin "object.__class__")=ab ae
variable{X:Cx}
def aD2(X:Cx)(e C:ah):Prop:=∃a:ay,(e,a)∈X.pn/\a.cls=.ref C
def hcx(X:Cx)(a:Option ai)(pn:Q0b):Cx:={X with A:=X.A.mark a,calm:=ag,pn:=pn,xe:=λ_ _=>False}
theorem PB(j:X.calm=ae):eX X (.builtin "max") (λxs H Q=>∃a b,xs=[.int a,.int b]/\Q (.int (if b>a then b else a)) H):=by
 intro π s σ H xs us Q I r h;obtain⟨a,b,rfl,q⟩:=h;obtain⟨u1,u2,rfl,⟨t1,rfl⟩,⟨t2,rfl⟩⟩:=vals2 r;show max_two_ints (I.ok.hd j) λh' l d=>⟨_,H,I.kept d,?_,q⟩;by_cases z:b>a
 .rw [Z_ z,Z_ z];show⟨_,rfl⟩
 .rw [Zz z,Zz z];show⟨_,rfl⟩
def Gf(g:Int->Int->Int):F1
 |[.int a,.int b],Q=>Q (.int (g a b))
 |_,_=>False
theorem aAD{K:aq}{g:Int->Int->Int}:C3 K (λxs H Q=>∃a b,xs=[.int a,.int b]/\Q (.int (g a b)) H) (Gf g):=by
 intro S H xs ds Q3 Q p m d k
 match ds,d with
 |[.int a,.int b],d =>
  obtain⟨v,r,rfl,l,h2⟩:=m.aY;obtain⟨n,o,rfl,j,h⟩:=h2.aY;erw[aM] at h;subst h;symm at l j;subst l j;show⟨a,b,rfl,k _ H _ (ξ.refl H) (by symm) d⟩
def IS:mJ (Gf λa b=>if b>a then b else a) yB:=λds d Q e q=>by
 delta yB at e;split at e
 .cases e;show q
 .cases e
def Yj(m:X.calm=ae)(h:X.mg "max"=af)(n:wU X [a,b] t)(j:Gl X "max"<|>0)(l:(ar [a,b] X.env=(ag,eval a X.env)::ar [b] X.env)<|>0)(d:(e_ ν (ar [b] X.env)).any (·.1)=ag<|>0):bI X (.Call (.Name "max" p) [a,b] [] ν) (cL yB t) :=
 cE (wL (PB m) aAD a1E j h n ⋯ ⋯ l d) (xX IS)
variable{K:aq}{C D:ah}
structure aD3 (K:aq) (C D:ah):Prop where
 ne:(ft C == ft D)=ag
 c:isClsIn K D=ae
 t:typeIn K (.ref D)=ab (.type "type")
 s:subIn K (.ref C) (.ref D)=ab ag
end L5
namespace L5
open PySem.Spec PyProof.Rows L2 L3 L4
open LM
variable{X:Cx}
def Ew:F2
 |.lst a,.int n,Q=>⇑a*n.toNat<=br /\ -(2^63)<=n/\n<2^63/\Q (.lst (cg n.toNat a).flatten)
 |_,_,_=>False
theorem ME{K:aq}{S:ah->Prop}{H:Hp}{ds:List D}{xs:List V}(h:aM K S H ds xs):∀n:Nat,aM K S H (cg n ds).flatten (cg n xs).flatten
 |0=>aM.nil
 |n+1=>by rw[ko,ko,tw,tw];show h.append (ME h n)
def rep3(q:cC X a ta)(U:cC X b tb):EN X (.BinOp a .Mult b ν) (gC Ew ta tb):=imp (SN aCe q U) λσ H Q h=>by
 obtain⟨S,ρ,Q3,z,y,O,k⟩:=h;show⟨S,ρ,_,z,y,O,λv H1 d m F q1=>?_⟩;show⟨S,ρ,_,bD z m,Sl.fits (.same m) y,q1,λu H2 Y l j q2=>?_⟩;cases d<;>cases Y<;>try show q2.elim
 rename_i ds n;symm at F j;obtain⟨a,xs,rfl,q,Z,A⟩:=F;subst j;have x:=aM.fits (.same l) _ _ A;obtain⟨K,J,I,L⟩:=q2;show⟨a,n,xs,rfl,rfl,l _ _ q,J,I,by rw[<- A.len];show K,λp o=>k p _ _ _ ((m.trans l).free o) aN ((m.trans l).trans (aH o)) ?_ L⟩;show aM.fits ((Fits.fresh o).trans (.same (aH o))) _ _ (ME x _)
def PD:Tells Ew repLM:=λx y d Q e q=>by
 cases x<;>first|(cases e;done)|skip
 cases y<;>first|(cases e;done)|skip
 rename_i a n;have e:(if ⇑a*n.toNat<=k7/\n.natAbs<9223372036854775808 then ab (D.lst (cg n.toNat a).flatten) else af)=ab d:=e;by_cases h:⇑a*n.toNat<=k7/\n.natAbs<9223372036854775808
 .rw [Z_ h] at e;cases e;show⟨by rw[gm];show h.1,by have:=h.2;lia,by have:=h.2;lia,q⟩
 .rw [Zz h] at e;cases e
def FI(h:bI X a fa)(d:bI X b fb):jS X (.BinOp a .Mult b ν) (aC repLM fa fb):=cF (rep3 h d) (fV PD)
def Eu:R2:=λx y H Q=>∃(a b:ah) (ns d:Q0e),x=.ref a/\y=.ref b/\H a=ab (.lst (ns.map V.int))/\H b=ab (.lst (d.map V.int))/\Q (.bl (!Zv (ns=d))) H
def ints_get{ns:Q0e}{us:Q0f}(h:θ (ns.map V.int) us){j:Nat}(l:j<⇑us)(h2:j<⇑ns):∃t,us[j]=.int ns[j] t:=by obtain⟨u,d,a⟩:=h.get (show(ns.map V.int)[j]?=ab (.int ns[j]) by rw[c_,cn h2];rfl);obtain⟨t,e⟩:=a;show⟨t,by rw[<- e];show(de.mp d).2⟩
def aD4(hu:X.A.units+1<di):iA X (compareOp .NotEq) Eu:=by
 intro π s σ H x y v u Q I Z Y h;obtain⟨a,b,ns,l,rfl,rfl,ha,hb,q⟩:=h;cases Z;cases Y;obtain⟨z,o,n,r,hl,e⟩:=I.vY ha;obtain⟨z2,d,n2,r2,J,e2⟩:=I.vY hb;rw[bb] at hl J;have U:s.heap.IsList a o.toArray:=⟨_,e,rfl,n,rfl⟩;have m:s.heap.IsList b d.toArray:=⟨_,e2,rfl,n2,rfl⟩;by_cases hs:⇑ns=⇑l
 .refine a2Z (e:=λj=>Zv (ns[j]?=l[j]?)) U m (by simp;lia) ∅ (λj F p=>?_) X.Ω X.w _ _ ⟨_,H,I,?_,q⟩
  .have F:j<⇑o:=by simpa using F
   have p:j<⇑d:=by simpa using p
   obtain⟨t,et⟩:=ints_get r F ∅;obtain⟨t2,O⟩:=ints_get r2 p ∅;have key:=uv (A:=X.A.in1) (s:=s) (ns[j]'∅) t (l[j]'∅) t2;have ee:(ns[j]'∅ == l[j]'∅)=Zv (ns[j]?=l[j]?):=by rw[cn ∅,cn ∅];simp[Li]
   rw[<- ee];simpa[et,O] using key
  .show L2.Ψ (.bl _) (.bool _);erw[L2.Ψ];congr 2;rw[jk];erw[jd,k_,decide_eq_true_eq,cu]
   constructor
   .intro L;apply qa;intro j;by_cases K:j<⇑o
    .exact L j K
    .rw [ig ∅,ig ∅]
   .intro L j _;rw[L]
 .refine a2Y U m (by simp;lia) ∅ X.Ω X.w _ _ ⟨_,H,I,?_,q⟩;show L2.Ψ (.bl _) (.bool _);erw[L2.Ψ];rw[Zy (λz=>hs (by rw[z]))];rfl
def Et:F2:=λx y Q=>∃b,M4 x y=ab b/\Q (.bl (!b))
theorem mM{K:aq}{S:ah->Prop}{H:Hp}:∀{ns:Q0e} {xs:List V},aM K S H (ns.map D.int) xs->xs=ns.map V.int
 |[],xs,h=>by rw[nq] at h;erw[aM] at h;show h
 |n::ns,xs,h=>by rw[bx] at h;obtain⟨v,r,rfl,a,h2⟩:=h.aY;symm at a;rw[a,mM h2];rfl
def aD5{K:aq}:O3 K Eu Et:=by
 intro S H x y z v Q3 Q J h d n k;obtain⟨b,e,q⟩:=n;cases z<;>first|(cases e;done)|skip
 cases v<;>first|(cases e;done)|skip
 obtain⟨ns,o,e⟩:=bnd e;obtain⟨m,p,rfl⟩:=oF e;rw[ints_of o] at h;rw[ints_of p] at d;symm at h d;obtain⟨a,xs,rfl,l,I,F⟩:=h;obtain⟨c,ys,rfl,j,sc,A⟩:=d;rw[mM F] at l;rw[mM A] at j;show⟨a,c,ns,m,rfl,rfl,l,j,k _ H _ (ξ.refl H) (by symm) q⟩
def PF:Tells Et GR:=λx y d Q e q=>by delta GR at e;obtain⟨b,e1,rfl⟩:=oF e;show⟨b,e1,q⟩
def Yi(l:X.A.units+9<di)(j:bI X a fa)(h:bI X b fb):tH X (.Compare a [.NotEq] [b] ν) (tV (aC GR fa fb)):=cT (pW (aD4 ∅) aD5 j h (g7 _)) (p6 PF λx y d e=>by delta GR at e;obtain⟨b,_,rfl⟩:=oF e;show⟨_,rfl⟩)
theorem CI:∀(l:Q0e) (a M:Int),(M=a\/M∈l)->a<=M->(∀b∈l,b<=M)->l.foldl (λm b=>if m<b then b else m) a=M
 |[],a,M,h,_,_=>by
  rcases h with h|h
  .exact h.symm
  .cases h
 |b::l,a,M,h,ha,hb=>by
  have n:=hb b (by simp);rw[lp];by_cases d:a<b
  .rw [Z_ d];show CI l b M ?_ n λc j=>hb c (by simp[j]);rcases h with h|h
   .omega
   .rcases bu.mp h with h|h
    .exact .inl h
    .exact .inr h
  .rw [Zz d];show CI l a M ?_ ha λc j=>hb c (by simp[j]);rcases h with h|h
   .exact .inl h
   .rcases bu.mp h with h|h
    .exact .inl ∅
    .exact .inr h
end L5
namespace L6
open PySem.Spec PyProof.Rows
section
variable{Ω:bh}{w:bg}{A:bt}{E:Q0c}{s:ak}
theorem stored(ho:s.heap.get? a=ab o)(d:o.data=.set es ep t):
  (s.heap.update a (a0Z es' t')).get? a=ab {o with data:=.set es' (ep+1) t' }:=by
 have q:=u_ (a0Z es' t') ho (by rw[putSet_of es' t' d];rfl)
 rwa [putSet_of es' t' d] at q
end
open L2 L3 L4
theorem FJ(n:jg s.heap t ι.toArray)(m:⇑ι<=br)
  (h:∀h',↥s<=h'.objs.size->(∀b u,s.heap.get? b=ab u->h'.get? b=ab u)->Q ι {s with heap:=h' }):ax (au Ω w) A (collect (.ref t)) Q E s:=by
 obtain⟨o,a,j,p,d⟩:=id n;delta collect;apply ao;apply Hx;show mx Jd ?_;rw[m_ Ja]
 wp_walk
 show⟨mw vc _,mx Je ?_⟩;rw[m_ vc];have l:(s.heap.push {cls:=.type "list",data:=.seq #[]}).get? ↥s=ab {cls:=.type "list",data:=.seq #[] 0}:=d_ _ rfl;show a0n (R:=wants _ _) (s:={s with heap:=s.heap.push {cls:=.type "list",data:=.seq #[]} }) ↥s t _ 0 (.inr rfl) l (cx _ a) j d ?_ ↑m;have g1:=u_ (fu (· ++ ι.toArray)) l rfl;apply ao;apply Ba g1;have fin:=h ((s.heap.push {cls:=.type "list",data:=.seq #[]}).update ↥s (fu (· ++ ι.toArray))) (nj (cf g1)) λb u e=>(Bs _ _ (ni (cf e))).trans (cx _ e);show az ?_;simpa using fin
theorem IT(x:jg s.heap t ι.toArray)(j:ng ι ns)(y:⇑ns<64)
  (h:∀h' o l out a e,(∀b u,s.heap.get? b=ab u->h'.get? b=ab u)->↥s<=l->ng out a->a.Perm ns->a.Pairwise (· <= ·)->h'.get? l=ab (seqObj "list" out.toArray e)->Q (.ref l) {s with heap:=h',toks:=o}):
  ax (au Ω w) A (call (.builtin "sorted") [.ref t]) Q E s:=by
 have p:⇑ι<64:=by rw[IntsAre.length j];show y
 apply Ji Cf Cc Cg (Jr _);delta Builtin.«sorted»;show ao (m:=checkCount "sorted" 1 1 _) (az (ao (FJ (A:=A.in1) x (by rw[gm];lia) λn v keep=>?_)));apply ao;show qg ?_ (by rw[gm];lia);have g1:(n.push (seqObj "list" ι.toArray 0)).get? n.objs.size=ab (seqObj "list" ι.toArray 0):=d_ _ rfl;show ao (i_ (jw Ca ⟨_,g1,rfl⟩ Ci (list_sort_tree g1 j p λout a I F z=>⟨_,rfl,?_⟩) (Js _)));obtain⟨e,g2⟩:=a1u (out:=out) g1;show az ⟨_,rfl,h _ s.toks _ out.toList a e (λb u q=>?_) v I F z ↑g2⟩;have d:=cf (keep b u q);rw[a1t (gp d) (by rw[oo];show vk d)];show cx _ (keep b u q)
variable{X:Cx}
def aD6(K:aq):List V->Hp->VK->Prop:=λxs H Q=>∃(a:ah) (ns:Q0e),xs=[.ref a]/\eJ K H a (ns.map V.int)/\⇑ns<64 /\∀d:Q0e,d.Perm ns->d.Pairwise (· <= ·) ->∀p,H p=af->Q (.ref p) (upd H p (.lst (d.map V.int)))
def IU:eX X (.builtin "sorted") (aD6 X.K):=by
 intro π s σ H xs us Q I r h;obtain⟨a,ns,rfl,z,A,q⟩:=h;obtain⟨u,rfl,x⟩:=vals1 r;cases x;obtain⟨O,v,y,U⟩:=I.tuple z;show IT y (intsAre_of v) A λh' p l out d e keep m J n F g=>?_;have j:⇑d<=br:=by rw[n.length_eq,gm];lia
 have L:=I.laid (t':=p) (a:=l) (o:=.lst (d.map V.int)) keep m ⟨by rw[bb];show j,out,e,fU J,by simpa[seqObj] using g⟩;show⟨.ref l,_,L,rfl,q d n F l (I.hok.fresh m)⟩
def VB(K:X.mg "sorted"=af)(U:wU X [e] t)(L:Gl X "sorted"<|>0)(O:Zq X e []<|>0):
  jS X (.Call (.Name "sorted" p) [e] [] ν) (cL lH t) :=
 imp (mC IU L K xk U ⋯ ⋯ O (by rfl)) λσ H Q Yh=>by
  obtain⟨S,ρ,Q3,Y,I,⟨d,h,J⟩,k⟩:=Yh;obtain⟨ds,o,h⟩:=bnd h;show⟨S,ρ,λz=>z=ds,Y,I,⟨_,o,rfl⟩,λvs H1 z q A q1=>?_⟩;subst q1;delta lH at h;split at h
  .rename_i a;obtain⟨ns,e1,h⟩:=bnd h;by_cases n:⇑ns<64
   .rw [Z_ n] at h;cases h;rw[ints_of e1] at A;obtain⟨v,r,rfl,y,h2⟩:=A.aY;erw[aM] at h2;subst h2;symm at y;obtain⟨t1,xs,rfl,x,dt⟩:=y;rw[aM.ints.mp dt] at x;show⟨t1,ns,rfl,eJ.of x,n,λm pm F l j=>?_⟩;have Z:m=sortI ns:=oH (pm.trans (mK _).symm) F (jQ _);subst Z;show k l _ _ _ (q.free j) aN (q.trans (aH j)) (aM.ints.mpr rfl) J
   .rw [Zz n] at h;cases h
  .cases h
end L6
namespace L7
open PySem.Spec PyProof.Rows L2 L3 L4 LL
def kI(ns:Q0e):List Key:=ns.map dq
def Yg(ns:Q0e):(kI ns).map kV=ns.map V.int:=by delta kI;rw[dg];rfl
section
variable(rd:List Int->List (List Int))
abbrev All:ah->Prop:=λ_=>True
end
def At(K:aq)(x:Q0a)(a:Q0e)(p:ah)(σ:L2.St)(H:Hp):Prop :=
 ∃d h,σ[0]?=ab (ab d)/\Dn K All H (aF x) d/\σ[1]?=ab (ab h)/\Dn K All H (τ a) h/\σ[2]?=ab (ab (.ref p))
def At.key{K:aq}{x:Q0a}{a:Q0e}{p:ah}{σ:L2.St}{H:Hp}(h:At K x a p σ H):∃b,σ[1]?=ab (ab (.ref b))/\H b=ab (.tup ((kI a).map kV)):=by obtain⟨n,o,v,h2,l,d,q⟩:=h;delta τ at d;symm at d;obtain⟨b,ys,rfl,j,m⟩:=d;rw[aM.ints.mp m] at j;show⟨b,l,by rw[Yg];show j⟩
section
variable{K:aq}{rd:List Int->List (List Int)}{x:Q0a}{Ok:List Int->Prop}{a:Q0e}{p:ah}{σ:L2.St}{H:Hp}{χ:List (List Key×V)}
structure Parts (K:aq) (rd:List Int->List (List Int)) (x:Q0a) (a:Q0e) (C1:TT) (T1:TE) (T3:TS):Prop where
 c1:∀p σ H Q,At K x a p σ H->(∀H',ξ H H'->Q (Zv (⇑a=⇑x)) H')->C1 σ H Q
 t1:∀σ H (Q:VK),(∀H',ξ H H'->Q (.int 1) H')->T1 σ H Q
 t3:∀p (D:Ends) σ H,⇑σ=4->At K x a p σ H->⇑a<⇑x->(∀(σ':L2.St) (H':Hp) (l:ah) (ps:List ah),ξ H H'->At K x a p σ' H'->σ'[3]?=ab (ab (.ref l))->H' l=ab (.lst (ps.map V.ref))->⇑ps=⇑(rd a) ->
  (∀(i:Nat) (q:ah) (b:Q0e),ps[i]?=ab q->(rd a)[i]?=ab b->H' q=ab (.tup (b.map V.int)))->D.nx σ' H')->T3 D σ H
variable{Ω:bh}{w:bg}{A:bt}{E:Q0c}{s:ak}{d it:ah}{o:ay}{es:Array xj}{ep i:Nat}
theorem PH(n:(d == sysModules)=ag)(ho:s.heap.get? d=ab o)(l:o.ExactDict)(m:o.data=.dict es ep)
  (h:Q (.ref ↥s) {s with heap:=s.heap.push {cls:=.type "dict_keyiterator",data:=.fields #[.ref d,.int 0 0,.int es.size 0,.int ep 0]} }):ax (au Ω w) A (pyIter (.ref d)) Q E s:=by
 have j:s.TypeIs (.ref d) "dict":=⟨o,ho,l.1⟩;show wpAny_pyIter_slot j a08 (jw a08 j F.entry_dict_iter ?_ (F.args_dict_iter_1 _))
 (delta Builtin.«dict.__iter__»;wp_walk)
 rw[l.1,Zz ⋯]
 wp_walk
 rw[m];show az ?_
 wp_walk
 rw[m];show az ?_
 wp_walk
 show⟨.ref ↥s,rfl,"dict_keyiterator",_,⟨_,d_ _ rfl,rfl⟩,xh.lookup,h⟩
theorem PJ(v:s.heap.IsKeyIter it d i es.size ep)(ho:s.heap.get? d=ab o)(y:o.data=.dict es ep)(z:i<es.size)
  (h:∀h',h'.IsKeyIter it d (i+1) es.size ep->r9 it s.heap h'->Q (ab es[i].key) {s with heap:=h' }):ax (au Ω w) A (pyNext (.ref it)) Q E s:=by
 have q:=v.typeIs;obtain⟨J,l,n,j⟩:=id v;delta pyNext;show ao (rh (pf (name:=jn "__next__") q xh (jw xh q a1b ?_ (a1g _))));delta Builtin.«dict_keyiterator.__next__»
 wp_walk
 rw[j,show((Bq "dict_keyiterator").elim "dict_keyiterator" λx=>x.tpName)="dict_keyiterator" by rw[Bd];kernel_rfl,Zz ⋯]
 wp_walk
 rw[y];show az ?_;rw[Zz (by simp)]
 wp_walk
 rw[y];show az ?_;rw[Zz (by simp)];show az ?_;dsimp only;rw[Zz ∅,gq,nz z];dsimp only
 wp_walk
 rw[j];dsimp only;simp only[show((Bq "dict_keyiterator").elim "dict_keyiterator" λx=>x.tpName)="dict_keyiterator" by rw[Bd];kernel_rfl,show a1n "dict_keyiterator"=ag from by decide,o_,if_false];generalize F:List.any _ _=bw;have I:bw=ag:=by rw[<- F];decide
 subst I;rw[Z_ (by simp),Zz ⋯];have g1:=u_ (Iu λx=>x.setIfInBounds (0+1) (rawInt ((i:Int)+1))) l (a00 (Bp j _));have m:(s.heap.update it (Iu λx=>x.setIfInBounds (0+1) (rawInt ((i:Int)+1)))).IsKeyIter it d (i+1) es.size ep:=⟨_,g1,(a01 ..).trans n,by rw[Bp j];simp[rawInt]⟩;have fin:=h _ m (mz ..);show wpAny_update l ?_;have t1:Shared.TypeIs {s with heap:=s.heap.update it (Iu λx=>x.setIfInBounds (0+1) (rawInt ((i:Int)+1)))} (.ref it) "dict_keyiterator":=m.typeIs;show ao (i_ (ao (wpAny_isOneOf_keyiter t1 ?_)));rw[Z_ ⋯];show az (az ⟨_,rfl,az fin⟩)
theorem VC(y:A.handled=af)(m:s.heap.IsKeyIter it d i es.size ep)(ho:s.heap.get? d=ab o)(n:o.data=.dict es ep)(v:es.size<=i)
  (h:∀h',Iy it s.heap h'->Q af {s with heap:=h' }):ax (au Ω w) A (pyNext (.ref it)) Q E s:=by
 have l:=m.typeIs;obtain⟨I,q,z,j⟩:=id m;delta pyNext;show ao (rh (pf (name:=jn "__next__") l xh (jw xh l a1b ?_ (a1g _))));delta Builtin.«dict_keyiterator.__next__»
 wp_walk
 rw[j,show((Bq "dict_keyiterator").elim "dict_keyiterator" λx=>x.tpName)="dict_keyiterator" by rw[Bd];kernel_rfl,Zz ⋯]
 wp_walk
 rw[n];show az ?_;rw[Zz (by simp)]
 wp_walk
 rw[n];show az ?_;rw[Zz (by simp)];show az ?_;dsimp only;rw[Zz ∅,gq,a2S v];dsimp only
 wp_walk
 rw[j];dsimp only;simp only[show((Bq "dict_keyiterator").elim "dict_keyiterator" λx=>x.tpName)="dict_keyiterator" by rw[Bd];kernel_rfl,show a1n "dict_keyiterator"=ag from by decide,o_,if_false];rw[Z_ (by simp)]
 wp_walk
 have F:A.in1.handled=af:=y;delta raiseNew;apply ao;apply a0k;rw[F];show ao (az (a0d (ao ?_)));show Bb (b:=ae) (T:="StopIteration") ?_ a0z ?_
 .exact ⟨_,d_ _ rfl,rfl⟩
 apply az;apply h;show((mz ..).extBut.push _).push _
end
end L7
namespace L8
open PySem.Spec PyProof.Rows L2
def gG(χ:List (KX×V×V))(k:KX):Option V:=(χ.find? λp=>Zv (p.1=k)).map (·.2.2)
def cV(χ:List (KX×V×V))(k:KX)(y v:V):List (KX×V×V):=if χ.any (λp=>Zv (p.1=k))=ae then χ.map (λp=>if p.1=k then(p.1,p.2.1,v) else p) else χ++[(k,y,v)]
def QD(H:Hp):KX->V->Prop
 |.inl k,y=>y=kV k
 |.inr ks,y=>∃b,y=.ref b/\l8 H ks b
def qC(χ:List (KX×V×V))(k:KX):Prop:=∀p∈χ,p.1.isLeft=k.isLeft
def FK(χ:List (KX×V×V))(k:KX)(y v:V):⇑(cV χ k y v)<=⇑χ+1:=by
 delta cV;split
 .rw [bb];lia
 .simp
abbrev PL:List (KX×V×V)->List (Key×ai)->Prop:=jo λp q=>p.1=.inl q.1/\p.2.1=kV q.1/\Ψ p.2.2 q.2
abbrev PT(H:Hp):List (KX×V×V)->List (N1×ah×ai)->Prop:=jo λp q=>p.1=.inr q.1/\p.2.1=.ref q.2.1/\l8 H q.1 q.2.1/\Ψ p.2.2 q.2.2
theorem PL.val(r:PL χ vs)(k:Key):l7 (gG χ (.inl k)) (valueAt vs k):=by
 induction r with
 |nil=>show ma
 | @cons p q ps qs h t ih =>
  by_cases e:q.1=k
  .have e1:p.1=.inl k:=by rw[h.1,e]
   have a:gG (p::ps) (.inl k)=ab p.2.2:=by delta gG;rw[jj,Zx e1];rfl
   have b:valueAt (q::qs) k=ab q.2:=by delta valueAt;rw[jj];simp[e]
   rw[a,b];show h.2.2
  .have e1:¬ p.1=.inl k:=λz=>e (by rw[h.1] at z;show uo z);have a:gG (p::ps) (.inl k)=gG ps (.inl k):=by delta gG;rw[jj,Zy e1]
   have b:valueAt (q::qs) k=valueAt qs k:=by delta valueAt;rw[jj];simp[e]
   rw[a,b];show ih
theorem PT.val(r:PT H χ xs)(k:N1):l7 (gG χ (.inr k)) ((atKey xs k).map (·.2)):=by
 induction r with
 |nil=>show ma
 | @cons p q ps qs h t ih =>
  by_cases e:q.1=k
  .have e1:p.1=.inr k:=by rw[h.1,e]
   have a:gG (p::ps) (.inr k)=ab p.2.2:=by delta gG;rw[jj,Zx e1];rfl
   have b:atKey (q::qs) k=ab q.2:=by delta atKey;rw[jj];simp[e]
   rw[a,b];show h.2.2.2
  .have e1:¬ p.1=.inr k:=λz=>e (by rw[h.1] at z;show Hq z);have a:gG (p::ps) (.inr k)=gG ps (.inr k):=by delta gG;rw[jj,Zy e1]
   have b:atKey (q::qs) k=atKey qs k:=by delta atKey;rw[jj];simp[e]
   rw[a,b];show ih
theorem VD(χ:List (KX×V×V))(k:KX):χ.any (λp=>Zv (p.1=k))=(gG χ k).isSome:=by
 delta gG;rw[xl]
 induction χ with
 |nil=>rfl
 |cons p ps ih =>
  rw[mj,jj,ih];cases Zv (p.1=k)<;>rfl
def PL.put(r:PL χ vs)(k:Key)(a:Ψ v u):PL (cV χ (.inl k) (kV k) v) (stored vs k u):=by
 have e:χ.any (λp=>Zv (p.1=.inl k))=vs.any (λd=>d.1=k):=by
  induction r with
  |nil=>rfl
  | @cons p q ps qs h t ih =>
   rw[mj,mj,ih,h.1];congr 1;show decide_eq_decide.2 ⟨λz=>uo z,λz=>by rw[z]⟩
 delta cV stored;rw[e];split
 .rename_i hc
  clear hc e
  induction r with
  |nil=>show .nil
  | @cons p q ps qs h t ih =>
   rw[bx,bx];show .cons ?_ ih;by_cases z:q.1=k
   .rw [Z_ z,Z_ (by rw[h.1,z])];show⟨h.1,h.2.1,a⟩
   .rw [Zz z,Zz (λy=>z (by rw[h.1] at y;show uo y))];show h
 .exact Bo r ⟨rfl,rfl,a⟩
def PT.put(r:PT H χ xs)(k:N1)(d:l8 H k b)(a:Ψ v u):PT H (cV χ (.inr k) (.ref b) v) (storedH xs k b u):=by
 have e:χ.any (λp=>Zv (p.1=.inr k))=(atKey xs k).isSome:=by rw[VD];have:=(PT.val r k).m6;rw[xl] at this;show this
 delta cV storedH;rw[e];split
 .rename_i hc
  clear hc e
  induction r with
  |nil=>show .nil
  | @cons p q ps qs h t ih =>
   rw[bx,bx];show .cons ?_ ih;delta putAt;by_cases z:q.1=k
   .rw [Z_ z,Z_ (by rw[h.1,z])];show⟨h.1,h.2.1,h.2.2.1,a⟩
   .rw [Zz z,Zz (λy=>z (by rw[h.1] at y;show Hq y))];show h
 .exact Bo r ⟨rfl,rfl,d,a⟩
section
variable{P:bh}{w:bg}{H:Hp}{h:a_}{a:ah}{o:ay}{χ:List (KX×V×V)}
def qD(ok:nE P w H h)(n:l8 H ks b):(iV P w).is h ks b:=by
 obtain⟨vs,e,r⟩:=n;obtain⟨_,l,d,⟨q,y,h2,m,x⟩,_⟩:=(show cQ P w H h b (.tup vs) from ok b _ e);have go:∀{ks:N1} {vs:List V} {us:Q0f},jo (vP H) ks vs->θ vs us->gB (aW P w) h ks us:=by
  intro ks vs us r
  induction r generalizing us with
  |nil=>intro d;cases d;show .nil
  | @cons k v ks vs i _ ih =>
   intro d
   cases d with
   | @cons _ u _ us j rt =>
    show .cons ?_ (ih rt)
    cases k with
    |inl k =>
     have i:v=kV k:=i;subst i;show sA j
    |inr k =>
     obtain⟨c,rfl,p⟩:=i;have j:u=.ref c:=j;show⟨c,j,B2 ok p⟩
 show⟨q,l.toArray,m,y,h2,x,by simpa using go r d⟩
def xC(x:xO P w H o χ)(ho:h.get? a=ab o)(v:∀p∈χ,p.1.isLeft=ae):∃vs,PL χ vs/\h.DictOf (aW P w) a vs:=by
 obtain⟨ex,j,l,m,n⟩:=x;rcases n with⟨vs,r,d,h2,z⟩|⟨xs,r,d,h2⟩
 .exact ⟨vs,r,o,j,l,ho,ex,m,d,h2,z⟩
 .cases r with
  |nil =>
   have e0:j.toList=[]:=d;have e1:j=#[]:=by simpa using e0
   subst e1;show⟨[],.nil,o,#[],l,ho,ex,m,(λ_ y=>by simp at y),.nil,vp⟩
  | @cons p q ps qs hq t =>
   have:=v p cz;rw[hq.1] at this;cases this
def CJ(ok:nE P w H h)(x:xO P w H o χ)(ho:h.get? a=ab o)(v:∀p∈χ,p.1.isLeft=ag):∃xs,PT H χ xs/\h.DictOfH (iV P w) a xs:=by
 obtain⟨ex,j,m,n,d⟩:=x;rcases d with⟨vs,r,l,h2,z⟩|⟨xs,r,l,h2⟩
 .cases r with
  |nil =>
   have e0:j.toList=[]:=La (by rw[⇑h2];rfl);show⟨[],.nil,o,j,m,ho,ex,n,e0,(λ_ y=>by simp at y),vp⟩
  | @cons p q ps qs hq t =>
   have:=v p cz;rw[hq.1] at this;cases this
 .refine ⟨xs,r,o,j,m,ho,ex,n,l,?_,h2⟩;have go:∀{χ:List (KX×V×V)} {xs:List (N1×ah×ai)},PT H χ xs ->∀x∈xs,(iV P w).is h x.1 x.2.1:=by
   intro χ xs r
   induction r with
   |nil=>intro x d;cases d
   |cons hq _ ih =>
    intro x d;rcases bu.1 d with e|d
    .subst e;show qD ok hq.2.2.1
    .exact ih x d
  show go r
variable{X:Cx}{π:Q0b}{σ:L2.St}{s:ak}{y v z:V}{u r:ai}{A:bt}{E:Q0c}{k:KX}
def FL(I:Φ X π σ H s)(e:H a=ab (.dX o χ)):⇑χ<=br/\(a == sysModules)=ag/\s.heap.get? a=ab o/\xO X.Ω X.w H o χ:=I.hok a _ e
def zt{k:Key}(kd:qC χ (.inl k)):∀p∈χ,p.1.isLeft=ae:=kd
def zr{k:N1}(kd:qC χ (.inr k)):∀p∈χ,p.1.isLeft=ag:=kd
theorem PK(J:A.units+2<di)(I:Φ X π σ H s)(e:H a=ab (.dX o χ))(j:QD H k y)(kd:qC χ k)(F:gG χ k=ab v)(q:Ψ y u)(h:∀d s',Φ X π σ H s'->Ψ v d->Q d s'):
  ax (au X.Ω X.w) A (getItem (.ref a) u) Q E s:=by
 obtain⟨z,O,ho,x⟩:=FL I e
 cases k with
 |inl k =>
  have j:y=kV k:=j;subst j;obtain⟨vs,rel,m⟩:=xC x ho (zt kd);obtain⟨d,hw,n⟩:=l7.some_of (v:=v) (o:=valueAt vs k) (by rw[<- F];show PL.val rel k);show a0l (sA q) m.mapOf hw (h d _ (I.tok _) n)
 |inr k =>
  obtain⟨b,rfl,L⟩:=j;obtain rfl:u=ft b:=q;obtain⟨xs,rel,m⟩:=CJ I.hok x ho (zr kd);obtain⟨d,hw,n⟩:=l7.some_of (v:=v) (o:=(atKey xs k).map (·.2)) (by rw[<- F];show PT.val rel k);obtain⟨p,K,l⟩:=jz.mp hw;show a0m (nest_room J) (qD I.hok L) m K ?_;rw[l];show h d _ (I.tok _) n
theorem Ov(neg:Bool)(p:A.units+2<di)(I:Φ X π σ H s)(e:H a=ab (.dX o χ))(l:QD H k y)(kd:qC χ k)(m:Ψ y u)(h:∀s',Φ X π σ H s'->Q (.bool (if neg then !(gG χ k).isSome else(gG χ k).isSome)) s'):
  ax (au X.Ω X.w) A (compareOp (if neg then .NotIn else .In) u (.ref a)) Q E s:=by
 obtain⟨z,j,ho,n⟩:=FL I e
 cases k with
 |inl k =>
  have l:y=kV k:=l;subst l;obtain⟨vs,rel,d⟩:=xC n ho (zt kd);have ev:(gG χ (.inl k)).isSome=(valueAt vs k).isSome:=(PL.val rel k).m6;rw[ev] at h
  cases neg with
  |false=>show wpAny_in_of (sA m) j d.mapOf (h _ (I.tok _))
  |true=>show wpAny_notIn_of (sA m) j d.mapOf (h _ (I.tok _))
 |inr k =>
  obtain⟨b,rfl,q⟩:=l;obtain rfl:u=ft b:=m;obtain⟨xs,rel,d⟩:=CJ I.hok n ho (zr kd);have ev:=(PT.val rel k).m6;rw[xl] at ev;rw[ev] at h
  cases neg with
  |false=>show wpAny_in_heap (nest_room p) (qD I.hok q) j d (h _ (I.tok _))
  |true=>show wpAny_notIn_heap (nest_room p) (qD I.hok q) j d (h _ (I.tok _))
def VE(I:Φ X π σ H s)(e:H a=ab (.dX o χ)):s.TypeIs (.ref a) "dict":=by obtain⟨z,j,ho,d⟩:=FL I e;show⟨o,ho,d.1.1⟩
def VF{P:bh}{w:bg}{h':a_}{H':Hp}{χ:List (KX×V×V)}{vs:List (Key×ai)}(rel:PL χ vs)(F:h'.DictOf (aW P w) a vs):∃d,h'.get? a=ab d/\xO P w H' d χ:=by obtain⟨d,q,x,p,h2,n,m,l,j⟩:=F;show⟨d,p,h2,q,x,n,.inl ⟨vs,rel,m,l,j⟩⟩
def aAE{P:bh}{w:bg}{h':a_}{H':Hp}{χ:List (KX×V×V)}{xs:List (N1×ah×ai)}(rel:PT H' χ xs)(x:h'.DictOfH (iV P w) a xs):∃d,h'.get? a=ab d/\xO P w H' d χ:=by obtain⟨d,p,q,n,h2,m,l,_,j⟩:=x;show⟨d,n,h2,p,q,m,.inr ⟨xs,rel,l,j⟩⟩
def aAF{H:Hp}{a:ah}{o:ay}{χ:List (KX×V×V)}{u:HO}(e:H a=ab (.dX o χ)):∀b ys,H b=ab (.tup ys)->upd H a u b=ab (.tup ys):=λb ys d=>by rw[aR (Ha d e (λz=>nomatch z))];show d
theorem PM(Y:A.units+2<di)(I:Φ X π σ H s)(e:H a=ab (.dX o χ))(m:QD H k y)(kd:qC χ k)(Z:⇑χ<br)(F:Ψ y u)(J:Ψ v r)(h:∀d s',Φ X π σ (upd H a (.dX d (cV χ k y v))) s'->Q () s'):
  ax (au X.Ω X.w) A (setItem (.ref a) u r) Q E s:=by
 obtain⟨z,U,ho,O⟩:=FL I e;have L:⇑(cV χ k y v)<=br:=by have:=FK χ k y v;lia
 have K:Mut (H a):=by rw[e];show ma
 cases k with
 |inl k =>
  have m:y=kV k:=m;subst m;obtain⟨vs,rel,x⟩:=xC O ho (zt kd);have q:⇑vs<=br:=by rw[<- uz rel];show z
  show a0e (hsz:=q) (sA F) x λh' j p=>?_;obtain⟨d,g1,g2⟩:=VF (H':=upd H a (.dX o (cV χ (.inl k) (kV k) v))) (PL.put rel k J) j;show h d _ (tY I K p ⟨d,g1⟩ ⟨L,U,g1,g2.stay λb ys n=>by
   by_cases l:b=a
   .subst l;rw[aN] at n;cases n
   .rw [aR l] at n ⊢;show n⟩)
 |inr k =>
  obtain⟨b,rfl,l⟩:=m;obtain rfl:u=ft b:=F;obtain⟨xs,rel,x⟩:=CJ I.hok O ho (zr kd);have q:⇑xs<=br:=by rw[<- uz rel];show z
  show a0f (hsz:=q) (nest_room Y) (qD I.hok l) x λh' j p=>?_;obtain⟨d,g1,g2⟩:=aAE (PT.put rel k l J) j;show h d _ (tY I K p ⟨d,g1⟩ ⟨L,U,g1,g2.stay (aAF e)⟩)
end
open L7
def Ge(h ty:TE):TE:=λσ H Q=>h σ H λx H1=>ty σ H1 λy d=>∃a o χ k v,x=.ref a/\d a=ab (.dX o χ)/\QD d k y/\qC χ k/\gG χ k=ab v/\Q v d
def zq(neg:Bool)(ty h:TE):TE:=λσ H Q=>ty σ H λy H1=>h σ H1 λx d=>∃a o χ k,x=.ref a/\d a=ab (.dX o χ)/\QD d k y/\qC χ k/\Q (.bl (if neg then !(gG χ k).isSome else(gG χ k).isSome)) d
def Xl(j ty h:TE):TS:=λD σ H=>h σ H λv H1=>j σ H1 λx m=>ty σ m λy d=>∃a o χ k,x=.ref a/\d a=ab (.dX o χ)/\QD d k y/\qC χ k/\⇑χ<br /\∀l,D.nx σ (upd d a (.dX l (cV χ k y v)))
def Xk:TE:=λ_ H Q=>∀p o,H p=af->Q (.ref p) (upd H p (.dX o []))
variable{X:Cx}
section
variable{o i e f value:av}{ν pos':bo}{td ty tv tz:TE}
def MF(q:X.A.units+2<di)(ho:PE X o td)(J:PE X i ty)(z:HS i):PE X (.Subscript o i ν) (Ge td ty):=by intro π s σ H Q I h;show LN a09.lookup z (dI (ho π s σ H _ I h) λu j ⟨x,H1,O,m,q1⟩=>?_);show dI (J π j σ H1 _ O q1) λiv Z K=>?_;obtain⟨y,U,d,l,a,ob,χ,k,v,ex,e,F,kd,p,q2⟩:=K;subst ex;obtain rfl:u=ft a:=m;show⟨VE d e,PK q d e F kd p l λY s3 L n=>⟨v,U,L,n,q2⟩⟩
def PN(m:X.A.units+2<di)(p:PE X i ty)(ho:PE X o td):PC X .NotIn i o (zq ae ty td):=by intro π s σ H Q I h;show dI (p π s σ H _ I h) λU d q=>?_;obtain⟨y,H1,J,j,q1⟩:=q;show dI (ho π d σ H1 _ J q1) λu L v=>?_;obtain⟨x,K,F,l,a,O,χ,k,ex,e,n,kd,q2⟩:=v;subst ex;obtain rfl:u=ft a:=l;show Ov ae m F e n kd j λs3 z=>⟨.bl _,K,z,rfl,q2⟩
def aAG(F:X.A.units+2<di)(ho:PE X o td)(O:PE X i ty)(z:PE X value tv)(J:g_ value (ab (.Subscript o i pos')) ν.line X.env=pure ag):PS X (.Assign [.Subscript o i pos'] value ν) (Xl td ty tv):=by intro π s σ H D I h;show a0s (dI (z π s σ H _ I h) λr j ⟨v,H1,I1,n,q1⟩=>?_) J;show dI (ho π j σ H1 _ I1 q1) λu d U=>?_;obtain⟨x,H2,I2,m,q2⟩:=U;show dI (O π d σ H2 _ I2 q2) λiv s3 Y=>?_;obtain⟨y,H3,I3,l,a,ob,χ,k,ex,e,L,kd,K,p⟩:=Y;subst ex;obtain rfl:u=ft a:=m;show PM F I3 e L kd K l n λq s4 Z=>⟨σ,_,Z,p q⟩
def VG(h:a_)(d:sysModules<h.objs.size):cQ P w H (h.push {cls:=.type "dict",data:=.dict #[]}) h.objs.size (.dX {cls:=.type "dict",data:=.dict #[]} []) :=
 ⟨ic _,beq_eq_false_iff_ne.mpr (fz (gp d)),d_ _ rfl,⟨rfl,rfl,rfl⟩,#[],0,rfl,.inl ⟨[],.nil,(λ_ a=>by simp at a),.nil,vp⟩⟩
def aAH:PE X (.Dict [] [] ν) Xk:=λπ s σ H Q I h =>
 a0r ⟨.ref ↥s,_,I.laid (t':=s.toks) (λ_ _ q=>cx _ q) (bq _) (VG s.heap I.big),rfl,h _ _ (I.hok.fresh (bq _))⟩
end
def Xe(h:(aW P w).is k u=ae):Ψ (kV k) u:=by
 rcases cB h with⟨i,t,rfl,rfl⟩|⟨i,t,rfl,rfl⟩
 .exact ⟨t,rfl⟩
 .exact ⟨t,rfl⟩
def VH(x:xO P w H o χ):∃d n,o.data=.dict d n/\θ (χ.map (·.2.1)) (d.toList.map (·.key)) /\∀p∈χ,QD H p.1 p.2.1:=by
 obtain⟨_,d,n,z,v⟩:=x;show⟨d,n,z,?_⟩;rcases v with⟨vs,r,_,h2,_⟩|⟨xs,r,y,_⟩
 .have go:∀{χ:List (KX×V×V)} {vs:List (Key×ai)} {l:List xj},PL χ vs->Pairs (aW P w) l vs->θ (χ.map (·.2.1)) (l.map (·.key)) /\∀p∈χ,QD H p.1 p.2.1:=by
   intro χ vs l r
   induction r generalizing l with
   |nil=>intro h2;cases h2;show⟨.nil,λp m=>by cases m⟩
   | @cons p q ps qs hq t ih =>
    intro h2
    cases h2 with
    |cons k1 k2 k3 =>
     obtain⟨j,h⟩:=ih k3;show⟨.cons ?_ j,λp' a=>?_⟩
     .dsimp only;rw[hq.2.1];show Xe k1
     .rcases bu.1 a with e|a
      .subst e;rw[hq.1,hq.2.1];rfl
      .exact h p' a
  show go r h2
 .have go:∀{χ:List (KX×V×V)} {xs:List (N1×ah×ai)},PT H χ xs->θ (χ.map (·.2.1)) ((xs.map (entryOfKey (iV P w))).map (·.key)) /\∀p∈χ,QD H p.1 p.2.1:=by
   intro χ xs r
   induction r with
   |nil=>show⟨.nil,λp m=>by cases m⟩
   | @cons p q ps qs hq t ih =>
    obtain⟨j,h⟩:=ih;show⟨.cons ?_ j,λp' a=>?_⟩
    .dsimp only;rw[hq.2.1];rfl
    .rcases bu.1 a with e|a
     .subst e;rw[hq.1,hq.2.1];show⟨_,rfl,hq.2.2.1⟩
     .exact h p' a
  rw[y];show go r
open L3 L4
section
variable{K:aq}{S:ah->Prop}{H:Hp}
def aAI(h:Dn K S H d v)(e:uF d=ab k):v=kV k:=by cases d<;>erw[uF] at e<;>cases e<;>symm at h<;>show h
theorem FN:∀{ds:List D} {xs:List V} {ks:List Key},aM K S H ds xs->yD ds=ab ks->xs=ks.map kV
 |[],xs,ks,h,e=>by erw[aM] at h;cases e;show h
 |d::ds,xs,ks,h,e=>by obtain⟨v,r,rfl,j,h2⟩:=h.aY;obtain⟨k,l,e⟩:=bnd e;obtain⟨a,m,rfl⟩:=oF e;rw[aAI j l,FN h2 m];rfl
theorem VI(h:Dn K S H d v)(e:QK d=ab k):vP H k v:=by
 cases d with
 |tup ds =>
  obtain⟨ks,l,rfl⟩:=oF e;symm at h;obtain⟨a,xs,rfl,j,dn⟩:=h;rw[FN dn l] at j;show⟨a,rfl,j⟩
 |int i=>cases e;symm at h;show h
 |str i=>cases e;symm at h;show h
 |_=>cases e
theorem zZ:∀{ds:List D} {xs:List V} {ks:N1},aM K S H ds xs->lI ds=ab ks->jo (vP H) ks xs
 |[],xs,ks,h,e=>by erw[aM] at h;cases e;subst h;show .nil
 |d::ds,xs,ks,h,e=>by obtain⟨v,r,rfl,j,h2⟩:=h.aY;obtain⟨k,l,e⟩:=bnd e;obtain⟨a,m,rfl⟩:=oF e;show .cons (VI j l) (zZ h2 m)
theorem t8(h:Dn K S H d v)(e:lJ d=ab k):QD H k v:=by
 cases d with
 |tup ds =>
  obtain⟨ks,l,rfl⟩:=oF e;symm at h;obtain⟨a,xs,rfl,j,dn⟩:=h;show⟨a,rfl,xs,j,zZ dn l⟩
 |int i=>cases e;symm at h;show h
 |str i=>cases e;symm at h;show h
 |_=>cases e
def VJ(k:Key):Dn K S H (dK k) (kV k):=by cases k<;>erw[dK,Dn]<;>rfl
theorem VL:∀ks:List Key,aM K S H (ks.map dK) (ks.map kV)
 |[]=>aM.nil
 |k::ks=>aM.cons (VJ k) (VL ks)
theorem z4:∀{ks:N1} {vs:List V},jo (vP H) ks vs->aM K S H (ks.map QL) vs
 |_,_,.nil=>aM.nil
 |k::ks,v::vs,.cons h t=>by
  show aM.cons ?_ (z4 t)
  cases k with
  |inl k =>
   have h:v=kV k:=h;subst h;show VJ k
  |inr k =>
   obtain⟨b,rfl,a⟩:=h;erw[QL,Dn];show⟨b,_,rfl,a,VL k⟩
theorem aDa(h:QD H k v):Dn K S H (pd k) v:=by
 cases k with
 |inl k =>
  have h:v=kV k:=h;subst h;show VJ k
 |inr k =>
  obtain⟨b,rfl,vs,a,r⟩:=h;erw[pd,Dn];show⟨b,vs,rfl,a,z4 r⟩
theorem xD:∀{χ:List (KX×V×V)} {ds:List D},aM K S H ds (χ.map (·.2.2))->(∀d,aS (χ.map (·.1)) ds k=ab d ->∃v,gG χ k=ab v/\Dn K S H d v)/\(aS (χ.map (·.1)) ds k=af->gG χ k=af)
 |[],ds,h=>⟨λd e=>by simp[aS] at e,λ_=>rfl⟩
 |p::χ,ds,h=>by
  cases ds with
  |nil=>show Zw h.len (by simp)
  |cons d0 ds =>
   obtain⟨v,r,e1,l,h2⟩:=h.aY;rw[bx] at e1;cases e1;have j:=xD (k:=k) (χ:=χ) (ds:=ds) h2;by_cases e:p.1=k
   .have a:aS ((p::χ).map (·.1)) (d0::ds) k=ab d0:=by simp[aS,e]
    have b:gG (p::χ) k=ab p.2.2:=by simp[gG,e]
    rw[a,b];show⟨λd m=>by cases m;show⟨_,rfl,l⟩,λz=>nomatch z⟩
   .have a:aS ((p::χ).map (·.1)) (d0::ds) k=aS (χ.map (·.1)) ds k:=by simp[aS,e]
    have b:gG (p::χ) k=gG χ k:=by simp[gG,e]
    rw[a,b];show j
def CK(h:kindB (χ.map (·.1)) k=ae):qC χ k:=λp a=>by delta kindB at h;rw[jd] at h;simpa using h p.1 (x_ a)
theorem Xd(a:Dn K S H d v):∀{χ:List (KX×V×V)} {ds:List D},aM K S H ds (χ.map (·.2.2)) ->
  (L8.cV χ k y v).map (·.1)=(L4.cV (χ.map (·.1)) ds k d).1/\aM K S H (L4.cV (χ.map (·.1)) ds k d).2 ((L8.cV χ k y v).map (·.2.2)):=by
 intro χ ds h;have e:(χ.map (·.1)).any (λq=>Zv (q=k))=χ.any (λp=>Zv (p.1=k)):=by rw[Cv];rfl
 delta L8.cV L4.cV;rw[e];split
 .refine ⟨?_,?_⟩
  .erw[dg];show mh λp _=>?_;show(if p.1=k then(p.1,p.2.1,v) else p).1=p.1;split<;>rfl
  .dsimp only;have go:∀{χ:List (KX×V×V)} {ds:List D},aM K S H ds (χ.map (·.2.2))->aM K S H (((χ.map (·.1)).zip ds).map λp=>if p.1=k then d else p.2) ((χ.map λp=>if p.1=k then(p.1,p.2.1,v) else p).map (·.2.2)):=by
    intro χ
    induction χ with
    |nil=>intro ds h;cases ds with
     |nil=>show aM.nil
     |cons d0 ds=>show Zw h.len (by simp)
    |cons p χ ih =>
     intro ds h
     cases ds with
     |nil=>show Zw h.len (by simp)
     |cons d0 ds =>
      obtain⟨u,r,e1,j,h2⟩:=h.aY;rw[bx] at e1;cases e1;show aM.cons ?_ (ih h2);by_cases z:p.1=k
      .simpa [z] using a
      .simpa [z] using j
   show go h
 .refine ⟨by simp,?_⟩;rw[h_];show h.append (aM.one a)
end
section
theorem Ou(I:X.A.units+2<di)(ho:bI X o fo)(K:bI X i fi)(J:HS i<|>8):bI X (.Subscript o i ν) (aC Fu fo fi):=imp (MF I ho K J) λσ H Q Xc=>by
 obtain⟨S,ρ,Q3,F,n,⟨d,e,q⟩,k⟩:=Xc;obtain⟨x,ex,e⟩:=bnd e;obtain⟨y,O,e⟩:=bnd e;show⟨S,ρ,λd=>d=x,F,n,⟨x,ex,rfl⟩,λv H1 d1 j h e1=>?_⟩;subst e1;show⟨S,ρ,λd=>d=y,bD F j,Sl.fits (.same j) n,⟨y,O,rfl⟩,λu H2 d2 p CS Y=>?_⟩;subst Y;have h:=Dn.fits (.same p) _ _ h
 cases d1 with
 |a8 q0 ks ds =>
  obtain⟨z,U,e⟩:=bnd e;symm at h;obtain⟨a,o,χ,rfl,L,sa,⟨rfl,_⟩,da⟩:=h;by_cases l:kindB (χ.map (·.1)) z=ae
  .rw [Z_ l] at e;obtain⟨m,ev,Z⟩:=(xD da).1 d e;show⟨a,o,χ,z,m,rfl,L,t8 CS U,CK l,ev,k m H2 d (j.trans p) Z q⟩
  .rw [Zz l] at e;cases e
 |_=>cases e
theorem VM(h:lift X.K (wE (aC (uL neg) fi fo)) σ H Q):zq neg (lift X.K (wE fi)) (lift X.K (wE fo)) σ H Q:=by
 obtain⟨S,ρ,Q3,A,p,⟨d,e,q⟩,k⟩:=h;obtain⟨x,ex,e⟩:=bnd e;obtain⟨y,L,e⟩:=bnd e;show⟨S,ρ,λd=>d=x,A,p,⟨x,ex,rfl⟩,λv H1 d1 l n e1=>?_⟩;subst e1;show⟨S,ρ,λd=>d=y,bD A l,Sl.fits (.same l) p,⟨y,L,rfl⟩,λu H2 Z z I Y=>?_⟩;subst Y;have n:=Dn.fits (.same z) _ _ n
 cases Z with
 |a8 q0 ks ds =>
  obtain⟨j,O,e⟩:=bnd (o:=lJ d1) e;symm at I;obtain⟨a,o,χ,rfl,J,sa,⟨rfl,_⟩,F⟩:=I;by_cases m:kindB (χ.map (·.1)) j=ae
  .rw [Z_ m] at e;cases e;have ev:(gG χ j).isSome=(aS (χ.map (·.1)) ds j).isSome:=by
    cases hl:aS (χ.map (·.1)) ds j with
    |none=>rw[(xD F).2 hl];rfl
    |some d3=>obtain⟨v3,U,_⟩:=(xD F).1 d3 hl;rw[U];rfl
   show⟨a,o,χ,j,rfl,J,t8 n O,CK m,?_⟩;rw[ev];show k _ H2 _ (l.trans z) (by symm) q
  .rw [Zz m] at e;cases e
 |_=>cases e
section
variable{o i:av}{ν:bo}{fo fi:EF}
def PQ(h:liftT X.K (wT (tV (aC (uL neg) fi fo))) σ H Q):tB (zq neg (lift X.K (wE fi)) (lift X.K (wE fo))) σ H Q:=by
 obtain⟨S,ρ,Q3,n,j,⟨b,e,q⟩,k⟩:=h;obtain⟨d,e1,A⟩:=bnd e;have p:d=.bl b:=by
  obtain⟨x,ex,e⟩:=bnd e1;obtain⟨y,F,e⟩:=bnd e
  cases y with
  |a8 q0 ks ds =>
   obtain⟨m,I,e⟩:=bnd (o:=lJ x) e;by_cases a:kindB ks m=ae
   .rw [Z_ a] at e;cases e;cases A;rfl
   .rw [Zz a] at e;cases e
  |_=>cases e
 subst p;show VM ⟨S,ρ,λd=>d=.bl b,n,j,⟨_,e1,rfl⟩,λv H1 d l dn z=>?_⟩;subst z;symm at dn;show⟨b,dn,k b H1 l q⟩
def IV(a:X.A.units+2<di)(h:bI X i fi)(ho:bI X o fo)(d:behindInMarks .NotIn o=ag<|>5):tH X (.Compare i [.NotIn] [o] ν) (tV (aC (uL ae) fi fo)):=TQ (aCD (PN a h ho) d) λ_ _ _=>PQ
end
end
def VN(hN:X.N.Nodup)(j:X.N[i]?=ab x<|>0)(m:Loc X.env.scope x<|>2)(q:g_ (.Dict [] [] p) (ab (.Name x pos')) ν.line X.env=pure ag<|>0)(v:Zp X x<|>2):
  sE X (.Assign [.Name x pos'] (.Dict [] [] p) ν) (JP i):=j6 (oB hN j m aAH q v) λB σ H ⟨H₀,S,w,ρ,G,E,h,l,n,ok⟩=>λp o a =>
 ok.nx _ _ _ _ (by rw[kb];show h) (l.HU (d:=.a8 hV [] []) (by rw[h];show iZ j) (aH a) a ⟨o,[],aN,⟨rfl,trivial⟩,aM.nil⟩) n
def jK(h:AB o=ab p):o=ab (.ow (.a8 p.1 p.2.1 p.2.2)):=by
 delta AB at h;split at h
 .cases h;rfl
 .cases h
theorem MG(hu:X.A.units+2<di)(he:OQ X e f)(hk:bI X k fk)
  (hN:X.N[i]?=ab x<|>0) (hv:xR X.env.scope x<|>3) (hd:Zu x<|>1) (U:Zt x<|>1)
  (hs:g_ e (ab (.Subscript (.Name x p) k pos')) ν.line X.env=pure ag<|>0):
  sE X (.Assign [.Subscript (.Name x p) k pos'] e ν) (iL i f fk):=j6 (aAG hu (iW hN hv hd U) hk he hs) λB σ H Xb=>by
 obtain⟨H₀,S,w,ρ,G,E,hl,st,I,ok⟩:=Xb;delta wS iL at I;cases h:((f ρ).bind λp=>(AB p.1[i]?).bind λkd=>(fk (bL p.1)).bind λL=>(lJ L).bind λm =>
  if kindB kd.2.1 m=ae/\⇑kd.2.2<k7 then ab (p.1.set i (.ow (.a8 (adr kd.1) (L4.cV kd.2.1 kd.2.2 m p.2).1 (L4.cV kd.2.1 kd.2.2 m p.2).2))) else af) with
 |none=>rw[h] at I;show I.elim
 |some ρ2 =>
  rw[h] at I;obtain⟨⟨ρ1,d1⟩,eq,h⟩:=bnd h;obtain⟨⟨q0,ks,ds⟩,ed,h⟩:=bnd h;obtain⟨L,ek,h⟩:=bnd h;obtain⟨m,e2,h⟩:=bnd h;have J:=jK ed;by_cases O:kindB ks m=ae/\⇑ds<k7
  .rw [Z_ O] at h;cases h;show⟨H₀,S,w,ρ,G,λj d=>j=ρ1/\d=d1,hl,st,⟨_,eq,rfl,rfl⟩,λn v H' j d l dv q'=>?_⟩;obtain⟨rfl,rfl⟩:=q';obtain⟨a0,_,_⟩:=l.own i _ J;show⟨_,a0,S,bL j,λy=>y=L,l.TN,l.all,⟨L,ek,rfl⟩,λy H2 y' Y dy ey=>?_⟩;subst ey;have q:=l.same Y;obtain⟨a,b,c⟩:=q.own i _ J;obtain⟨o,χ,hp,⟨e5,hq⟩,dn⟩:=c;subst e5;have nS:¬ SO S n j (n i):=λ⟨_,z⟩=>z i _ J rfl;show⟨n i,o,χ,m,rfl,hp,t8 dy e2,CK O.1,?_,λZ=>?_⟩
   .have:=dn.len;rw[bb] at this;rw[gm,<- this];show O.2
   .have F:Fits X.K (SO S n j) (SO S n j) H2 (upd H2 (n i) (.dX Z (L8.cV χ m y v))):=.upd (.inr (.inr ⟨_,_,hp⟩)) nS;obtain⟨p1,p2⟩:=Xd (k:=m) (y:=y) (Dn.fits (.same Y) _ _ dv) dn;show ok.nx n σ _ _ hl (q.write (d':=.a8 (adr q0) _ _) J ⟨Z,_,aN,⟨p1,o,hq⟩,aM.fits F _ _ p2⟩) I
  .rw [Zz O] at h;cases h
theorem rN{K:aq}{H₀ H H':Hp}{S:ah->Prop}{w:Nat->ah}{σ:L2.St}{ρ:bC}{G:List (D×V)}{i:Nat}{d d':D}(h:ST K H₀ S w σ H ρ G)(e:ρ[i]?=ab (Sv.ow d))(v:∀b u,b≠w i->H b=ab u->H' b=ab u)(q:tF K (SO S w ρ) H' d' (w i))(Z:(∀xs,d'≠.rws xs)<|>10):ST K H₀ S w σ H' (ρ.set i (.ow d')) G:=by
 obtain⟨a0,J,c0⟩:=h.own i d e;have wr:=c0.wr;have A:SO S w (ρ.set i (.ow d'))=SO S w ρ:=by
  funext a
  show propext ⟨λ⟨s,n⟩=>⟨s,λj f p=>?_⟩,λ⟨s,n⟩=>⟨s,λj f p=>?_⟩⟩
  .by_cases l:j=i
   .subst l;show n j d' (by rw[ox (de.1 e).1])
   .exact n j f (by rw[kc (fz l)];show p)
  .by_cases l:j=i
   .subst l;show n j d e
   .exact n j f (by rw[kc (fz l)] at p;show p)
 have I:∀a,SO S w ρ a->a≠w i:=λa z=>z.2 i d e;have U:∀a xs,H a=ab (.tup xs)->a≠w i:=λa xs z y=>by subst y;rcases wr with⟨_,k⟩|⟨_,k⟩|⟨_,_,k⟩<;>rw[z] at k<;>cases k
 have X:∀a o u,H a=ab (.tW o u)->a≠w i:=λa o u z y=>by subst y;rcases wr with⟨_,k⟩|⟨_,k⟩|⟨_,_,k⟩<;>rw[z] at k<;>cases k
 have F:Fits K (SO S w ρ) (SO S w ρ) H H':=⟨λa xs z=>v _ _ (U a xs z) z,λa ns z=>z.elim (λ⟨o,y⟩=>.inl ⟨o,v _ _ (X a o _ y) y⟩) .inr,λa xs z s=>⟨v _ _ (I a s) z,s⟩,λa xs z s=>⟨v _ _ (I a s) z,s⟩,λa o xs z s=>⟨v _ _ (I a s) z,s⟩⟩;show⟨h.fc,λb u z=>v b u (aT z J) (h.sm b u z),λj f p=>?_,λj k d1 e1 h1 h2 z=>?_,λj f p=>?_,λg hg=>by rw[A];show Dn.fits F _ _ (h.gh g hg),λj xs Y=>?_⟩
 rotate_right
 .rcases get_set Y with⟨_,z,_⟩|⟨l,z⟩
  .exact Zw (Sv.ow.inj z).symm (Z xs)
  .exact h.rwN z λO x=>v _ _ (λy=>l (h.inj _ _ _ _ z e y)) x
 .rw [A];rcases get_set p with⟨l,z,_⟩|⟨l,z⟩
  .cases z;subst l;show⟨a0,J,q⟩
  .obtain ⟨a,b,c⟩:=h.own j f z;show⟨a,b,c.fits F λO x=>v _ _ (λy=>l (h.inj _ _ _ _ z e y)) x⟩
 .have old:∀{m:Nat} {y:D},(ρ.set i (.ow d'))[m]?=ab (Sv.ow y) ->∃L,ρ[m]?=ab (Sv.ow L):=λ{m y} hm=>by
   rcases get_set hm with⟨l,_,_⟩|⟨_,z⟩
   .subst l;show⟨d,e⟩
   .exact ⟨_,z⟩
  obtain⟨_,g1⟩:=old h1;obtain⟨_,g2⟩:=old h2;show h.inj j k _ _ g1 g2 z
 .rw [A];rcases get_set p with⟨_,z,_⟩|⟨l,z⟩
  .cases z
  .obtain ⟨u,a,b⟩:=h.ro j f z;show⟨u,a,Dn.fits F f u b⟩
def x6(K:aq)(R:sR):Sp:=λvs H Q _=>∃(T:ah->Prop) (ds:List D) (us:List V) (p:ah) (o:ay) (χ:List (KX×V×V)) (xs:List D) (r:D×KD),vs=us++[.ref p]/\(∀a,H a=af->T a)/\¬ T p/\H p=ab (.dX o χ)/\aM K T H ds us/\aM K T H xs (χ.map (·.2.2))/\R ds (χ.map (·.1),xs)=.ok r /\
 ∀v H' h d,(∀b u,b≠p->H b=ab u->H' b=ab u)->H' p=ab (.dX h d)->d.map (·.1)=r.2.1->aM K T H' r.2.2 (d.map (·.2.2))->Dn K T H' r.1 v->Q v H'
inductive jR (K:aq) (t:AF) (j:Nat) (σ:L2.St) (H:Hp) (Q:(List V->Hp->Prop)):Prop
 |mk (S:ah->Prop) (ρ:cN) (ds:List D) (p:ah) (h1:(∀a,H a=af->S a)) (h2:Sl K S H ρ σ) (h3:t ρ=ab ds) (h4:σ[j]?=ab (ab (.ref p))) (h5:∀vs H',ξ H H'->aM K S H' ds vs->Q (vs++[.ref p]) H'):jR K t j σ H Q
def kD(x:bI X e f)(q:PA X es (jR X.K g j))(o:Zq X e es<|>0):PA X (e::es) (jR X.K (aA f g) j) :=
 TR (fC x q o) λσ H Q I=>by obtain⟨S,ρ,ds,p,n,l,a,A,k⟩:=I;obtain⟨d,F,a⟩:=bnd a;obtain⟨r,z,a⟩:=bnd a;cases a;show⟨S,ρ,λy=>y=d,n,l,⟨d,F,rfl⟩,λv H1 U h J e1=>?_⟩;subst e1;show⟨S,ρ,r,p,bD n h,Sl.fits (.same h) l,z,A,λvs L m O=>?_⟩;show k (v::vs) L (h.trans m) (aM.cons (Dn.fits (.same m) _ _ J) O)
def FO(hN:X.N[j]?=ab x<|>0)(d:xR X.env.scope x<|>3)(h:Zu x<|>1)(a:Zt x<|>1):PA X [.Name x ν] (jR X.K aG j) :=
 TR (fC (iW hN d h a) kR) λσ H Q n=>by obtain⟨S,ρ,ds,p,q,o,l,m,k⟩:=n;cases l;show⟨_,m,k [] H (ξ.refl H) aM.nil⟩
theorem rO{R:sR}{t:AF}{j:Nat}{H₀ H:Hp}{S:ah->Prop}{w:Nat->ah}{σ:L2.St}{ρ:bC}{G:List (D×V)}{r:(Nat->ay->Prop)×D×KD}{Q:VK}(l:ST X.K H₀ S w σ H ρ G)(h:stepM R t j ρ=ab r)
  (k:∀v H',ST X.K H₀ S w σ H' (ρ.set j (.ow (.a8 (adr r.1) r.2.2.1 r.2.2.2))) G->Dn X.K (SO S w ρ) H' r.2.1 v->Q v H'):LF (x6 X.K R) [] E0 (jR X.K t j) σ H Q:=by
 obtain⟨ds,F,h⟩:=bnd h;obtain⟨⟨q0,ks,xs⟩,I,h⟩:=bnd h;have m:=jK I
 cases hR:R ds (ks,xs) with
 |no=>dsimp only at h;rw[hR] at h;cases h
 |ex c=>dsimp only at h;rw[hR] at h;cases h
 |ok r0 =>
  dsimp only at h;rw[hR] at h;cases h;obtain⟨Z,b0,_⟩:=l.own j _ m;show⟨SO S w ρ,gI ρ,ds,w j,l.GG,l.rd,F,Z,λvs H1 p dn=>?_⟩;have a:=l.same p;obtain⟨_,_,⟨o,χ,y,⟨L,x⟩,Y⟩⟩:=a.own j _ m;subst L;show x6 X.K R ((vs++[V.ref (w j)])++[]) H1 Q E0;rw[lr];show⟨SO S w ρ,ds,vs,w j,o,χ,xs,r0,rfl,a.GG,λz=>z.2 j _ m rfl,y,dn,Y,hR,λv H' q d A n J O U=>?_⟩;show k v H' (rN a m A ⟨q,d,n,⟨J,o,x⟩,O⟩) U
theorem aDb(C:Cl X.Ω X.w X.K X.mg X.ω iB k y ps (x6 X.K R))(Z:d8 k X.A)(hij:i≠j)(hN:X.N.Nodup)
  (ha:PA X (e::es) (jR X.K t j)) (L:X.N[i]?=ab x<|>0) (U:Loc X.env.scope x<|>2) (hg:Gl X y<|>0) (I:Zu y<|>1) (he:Zq X e es<|>0) (n:Q0k X cpos es<|>0)
  (Y:g_ (.Call (.Name y p) (e::es) [] cpos) (ab (.Name x pos')) ν.line X.env=pure ag<|>0) (hf:Zp X x<|>2):
  sE X (.Assign [.Name x pos'] (.Call (.Name y p) (e::es) [] cpos) ν) (qK i R t j):=by
 obtain⟨F,o,hk,hb⟩:=C;show j6 (oB hN L U (m4 F Z hg o hk hb .nil zF ha I he n) Y hf) λB σ H Wz=>?_;obtain⟨H₀,S,w,ρ,G,E,J,O,d,ok⟩:=Wz;delta wS qK at d
 cases h:stepM R t j ρ with
 |none=>rw[h] at d;show d.elim
 |some r =>
  rw[h] at d;show rO O h λv H' l dv=>ok.nx w _ H' _ (by rw[kb];show J) (l.kU (by rw[J];show iZ L) (Dn.fits (.mono λa z=>?_) _ _ dv)) d;show⟨z.1,λm y o=>?_⟩;rcases get_set o with⟨hj,_,hlt⟩|⟨_,q⟩
  .subst hj;obtain⟨_,et,h⟩:=bnd h;obtain⟨⟨q0,ks,xs⟩,eo,h⟩:=bnd h;show z.2 m _ (jK eo)
  .exact z.2 m y q
theorem En(C:Cl X.Ω X.w X.K X.mg X.ω iB k y ps (x6 X.K R))(q:d8 k X.A)
  (U:PA X (e::es) (jR X.K t j)) (J:Gl X y<|>0) (m:Zu y<|>1) (L:Zq X e es<|>0) (l:Q0k X cpos es<|>0)
  (o:g_ (.Call (.Name y p) (e::es) [] cpos) af ν.line X.env=pure ag<|>0):
  sE X (.Expr (.Call (.Name y p) (e::es) [] cpos) ν) (M5 R t j):=by
 obtain⟨F,x,I,O⟩:=C;show j6 (K9 (m4 F q J x I O .nil zF U m L l) o) λB σ H Y=>?_;obtain⟨H₀,S,w,ρ,G,E,z,n,a,ok⟩:=Y;delta wS M5 at a
 cases h:stepM R t j ρ with
 |none=>rw[h] at a;show a.elim
 |some r =>
  rw[h] at a;show rO n h λv H' d _=>ok.nx w _ H' _ z d a
abbrev MH(K:aq)(j:Nat)(k:EF):TS:=Ag (Ge (sY j) (lift K (wE k)))
def VO{d:df}{b:SF}{j:Nat}{x:aj}{i:av}{k:EF}{p l pos':bo}(n:X.A.units+2<di)(h:sE X d b)(q:bI X i k)(hN:X.N[j]?=ab x<|>0)(m:xR X.env.scope x<|>3)(v:Zu x<|>1)(a:Zt x<|>1)(o:HS i<|>8):
  rE X [d,.Return (ab (.Subscript (.Name x p) i l)) pos'] (vT (iY X.K (XC X) ⇑X.N (wS b)) (MH X.K j k)):=pO h (BQ (HD (MF n (iW hN m v a) q o)))
theorem AR{j:df}{n:List df}{f g:SF}{o:TS}(y:sE X j f)(h2:rE X n (vT (iY X.K (XC X) ⇑X.N (wS g)) o)):rE X (j::n) (vT (iY X.K (XC X) ⇑X.N (wS (aK f g))) o):=ES (pO y h2) λB σ H z=>by
 obtain⟨H₀,S,w,ρ,G,E,x,j,a,ok⟩:=z;delta wS aK at a;show⟨H₀,S,w,ρ,G,{E with nx:=wS g E},x,j,?_,⟨λv p H' h m l q=>⟨H₀,S,v,h,G,E,m,l,q,ok⟩,ok.rt,ok.bk,ok.ct,ok.ex⟩⟩;delta wS
 cases hf:f ρ with
 |nx h=>rw[hf] at a;show a
 |rt d=>rw[hf] at a;show a
 |ex c=>rw[hf] at a;show a
 |no=>rw[hf] at a;show a
theorem Ot{P:bh}{w:bg}{K:aq}{mg:Q0d}{ω:a_}{x qual:aj}{Z:df}{f:ah}{fd:gw}{N ps:Q0g}{k n np:Nat}{b:SF}{key:EF}(F:WR K x qual Z f fd)(S:dR N ps (aL Z))(hn:⇑N=n)(hp:⇑ps=np)
  (X:∀(I:ai) (A:bt) (Γ:List fv) (s:ak) (H:Hp) (E:XK),d8 k (A.deeper (envOfC qual (aL Z) ↥s f I)) ->
   ∃xc,rE (lB iB P w K mg ω N qual (aL Z) f I A Γ s H E).EG (dF Z) (vT (iY K xc ⇑N (wS b)) (MH K (np-1) key))):jN P w K mg ω iB (k+1) f fd ps (x6 K (runM n np b key)):=by
 subst hn hp;show F.ok S (λvs H Q E h=>?_) λI A Γ s H vs Q E hr h=>?_
 .obtain ⟨T,ds,us,p,o,χ,xs,r,rfl,fc,np,hp,du,dx,hR,kk⟩:=h;have hb:=JQ hR hV;delta oQ at hb;split at hb
  .rename_i hl;rw[gk,<- du.len];show hl
  .cases hb
 .obtain ⟨xc,hb⟩:=X I A Γ s H E hr;obtain⟨T,ds,us,p,o,χ,xs,r,rfl,fc,nT,hp,du,dx,hR,kk⟩:=h;show⟨_,hb,?_⟩;have j:=JQ hR (λa _=>a=p);delta oQ at j;split at j
  case isFalse=>cases j
  rename_i hl;have hlu:=du.len;have hpN:⇑ps<=⇑N:=by have:=congrArg vv S.pre;rw[js] at this;lia
  have j0:⇑ps-1=⇑ds:=∅
  have sj:(startM ⇑N ds (λa _=>a=p) (χ.map (·.1),xs))[⇑ds]?=ab (Sv.ow (.a8 (λa _=>a=p) (χ.map (·.1)) xs)):=by delta startM;rw[ji (by simp)];simp
  have sv:∀i,i<⇑ds->(startM ⇑N ds (λa _=>a=p) (χ.map (·.1),xs))[i]?=(ds[i]?).map Sv.ro:=λi hi=>by delta startM;rw[kh ↑hi,c_]
  have sn:∀i,⇑ds<i ->∀y,(startM ⇑N ds (λa _=>a=p) (χ.map (·.1),xs))[i]?=ab y->y=Sv.no:=λi hi y e=>by
   delta startM at e;rw[ji (by simp;lia)] at e;obtain⟨m,hm⟩:∃m,i-⇑(Kr Sv.ro ds)=m+1:=⟨i-⇑ds-1,by simp;lia⟩;rw[hm,kg,mi] at e;split at e
   .cases e;rfl
   .cases e
  have ow:∀(i:Nat) (d:D),(startM ⇑N ds (λa _=>a=p) (χ.map (·.1),xs))[i]?=ab (Sv.ow d)->i=⇑ds/\d=.a8 (λa _=>a=p) (χ.map (·.1)) xs:=λi d e=>by
   rcases a1W i ⇑ds with h|h|h
   .rw [sv i h] at e;obtain⟨y,_,ey⟩:=jz.1 e;cases ey
   .subst h;rw[sj] at e;cases e;show⟨rfl,rfl⟩
   .cases sn i h _ e
  have so:∀a,T a->SO (λa=>T a\/a=p) (λ_=>p) (startM ⇑N ds (λa _=>a=p) (χ.map (·.1),xs)) a:=λa ta=>⟨.inl ta,λi d e z=>nT (by rw[<- show a=p from z];show ta)⟩;have J:L2.start N (us++[.ref p])=us.map ab++ab (.ref p)::cg (⇑N-(⇑us+1)) af:=by delta L2.start;simp
  cases hbs:b (startM ⇑N ds (λa _=>a=p) (χ.map (·.1),xs)) with
  |no=>rw[hbs] at j;cases j
  |rt d=>rw[hbs] at j;cases j
  |ex c=>rw[hbs] at j;cases j
  |nx ρ1 =>
   rw[hbs] at j;dsimp only at j;show⟨λc=>if c=p then af else H c,λa=>T a\/a=p,λ_=>p,startM ⇑N ds (λa _=>a=p) (χ.map (·.1),xs),[],{nx:=λρ=>ρ=ρ1,rt:=λ_=>False,bk:=λ_=>False,ct:=λ_=>False,ex:=λ_=>False},?_,?_,?_,?_⟩
   .rw [J];simp;lia
   .refine ⟨λa e=>?_,λc u e=>?_,λi d e=>?_,λi i' d d' h1 h2 _=>(ow i d h1).1.trans (ow i' d' h2).1.symm,λi d e=>?_,λg hg=>(by cases hg),λi xs e=>by have:=(ow i _ e).2;cases this⟩
    .by_cases z:a=p
     .exact .inr z
     .exact .inl (fc a (by simpa[z] using e))
    .by_cases z:c=p
     .simp [z] at e
     .simpa [z] using e
    .obtain ⟨rfl,rfl⟩:=ow i d e;show⟨?_,by simp,o,χ,hp,⟨rfl,rfl⟩,aM.fits (.mono so) _ _ dx⟩;rw[J,ji (by simp;lia)];simp[hlu]
    .by_cases hi:i<⇑ds
     .rw [sv i hi] at e;obtain⟨y,e1,ey⟩:=jz.1 e;cases ey;obtain⟨v,ev,dv⟩:=du.get e1;show⟨v,?_,Dn.fits (.mono so) _ _ dv⟩;have hv:i<⇑us:=(de.1 ev).1;rw[J,kh ↑hv,c_,ev];rfl
     .rcases xp ⇑ds i with h|h
      .cases sn i h _ e
      .have:i=⇑ds:=∅
       subst this;rw[sj] at e;cases e
   .delta wS;rw[hbs]
   .refine ⟨λw' σ' H' L hl' l e=>?_,λ_ _ _ _ _ z=>z.elim,λ_ _ _ _ _ _ z=>z.elim,λ_ _ _ _ _ _ z=>z.elim,λ_ _ _ z=>z.elim⟩;subst e;rw[j0] at j ⊢;obtain⟨⟨q',ks',Y⟩,eo,j⟩:=bnd j;obtain⟨kv,ek,j⟩:=bnd j;obtain⟨O,e2,j⟩:=bnd j;have o0:=jK eo;obtain⟨a0,b0,⟨o1,FP,hp1,⟨e5,hq1⟩,dk1⟩⟩:=l.own ⇑ds _ o0;split at j
    case isFalse=>cases j
    rename_i hc;obtain⟨d,ed,hq9⟩:=oF j;obtain⟨_,q⟩:=hc.2 _ _ hq1;have q:w' ⇑ds=p:=q;show⟨_,a0,SO (λa=>T a\/a=p) w' L,gI L,λy=>y=kv,l.GG,l.rd,⟨kv,ek,rfl⟩,λy H2 y' s2 dy ey=>?_⟩;subst ey;have st2:=l.same s2;obtain⟨_,_,⟨o2,IW,U,⟨e6,_⟩,ZN⟩⟩:=st2.own ⇑ds _ o0;have toT:∀a,SO (λa=>T a\/a=p) w' L a->T a:=λa z=>z.1.elim id λy=>Zw (y.trans q.symm) (z.2 _ _ o0);have e7:IW.map (·.1)=ks':=e6;have hk2:kindB (IW.map (·.1)) O=ae:=by rw[e7];show hc.1
    have ed2:aS (IW.map (·.1)) Y O=ab d:=by rw[e7];show ed
    obtain⟨v3,ev,dv⟩:=(xD ZN).1 d ed2;show⟨w' ⇑ds,o2,IW,O,v3,rfl,U,t8 dy e2,CK hk2,ev,?_⟩;have er:r=(d,ks',Y):=hq9.symm;subst er;rw[q] at U;show kk v3 H2 o2 IW (λc u ne hc=>s2 _ _ (l.sm c u (by simpa[ne] using hc))) U e7 (aM.fits (.mono toT) _ _ ZN) (Dn.fits (.mono toT) _ _ dv)
theorem fdM{P:bh}{w:bg}{K:aq}{mg:Q0d}{ω:a_}{x:aj}{a:df}{N j:Q0g}{k n l:Nat}{b:SF}{key:EF}(D:Df K mg x a j)
  (h:∀{f:ah} {d:ai} {A:bt} {Γ:List fv} {s:ak} {H:Hp} {E:XK},d8 k (A.deeper (envOfC x (aL a) ↥s f d))->N.Nodup ->∃xc,rE (lB iB P w K mg ω N x (aL a) f d A Γ s H E).EG (dF a) (vT (iY K xc ⇑N (wS b)) (MH K (l-1) key)))
  (S:dR N j (aL a)<|>7) (v:⇑N=n<|>0) (p:⇑j=l<|>0):Cl P w K mg ω iB (k+1) x j (x6 K (runM n l b key)):=by
 obtain⟨_,F,m,q⟩:=D;show⟨Ot F S v p λ_ _ _ _ _ _ o=>h o S.nd,m,F.kp,q⟩
def Ww{P:bh}{w:bg}{K:aq}{mg:Q0d}{ω:a_}{k:Nat}{f:ah}{fd:gw}{a:Q0g}:jN P w K mg ω iB k f fd a (x6 K λ_ _=>.no) :=
 ⟨λ_ _ _ _ h=>(by obtain⟨_,_,_,_,_,_,_,_,_,_,_,_,_,_,e,_⟩:=h;cases e),λ_ _ _ _ _ _ _ _ _ _ _ _ _ h=>(by obtain⟨_,_,_,_,_,_,_,_,_,_,_,_,_,_,e,_⟩:=h;cases e)⟩
def nnM{P:bh}{w:bg}{K:aq}{mg:Q0d}{ω:a_}{k:Nat}{x:aj}{d:df}{a:Q0g}(D:Df K mg x d a):Cl P w K mg ω iB k x a (x6 K λ_ _=>.no):=by obtain⟨_,F,m,q⟩:=D;show⟨Ww,m,F.kp,q⟩
def Em(j:X.mg "zip"=af)(m:wU X [a,b] t)(l:Gl X "zip"<|>0)(h:ar [a,b] X.env=[(ag,eval a X.env),(ag,eval b X.env)]<|>0)(d:ar [b] X.env=[(ag,eval b X.env)]<|>0):
  QB X (.Tuple es kk tp) (.Call (.Name "zip" p) [a,b] [] ν) (uM t):=cI (Rh j m l h d) λρ Q o=>by
 obtain⟨ds,e,q⟩:=o;obtain⟨as,n,e⟩:=bnd e;show⟨as,n,?_⟩;delta Hl at e;split at e<;>first|(cases e;show q)|cases e
open L5
def El:R2:=λx y H Q=>∃(a b:ah) (ns d:Q0e),x=.ref a/\y=.ref b/\H a=ab (.lst (ns.map V.int))/\H b=ab (.lst (d.map V.int))/\Q (.bl (Zv (ns=d))) H
def aDc(hu:X.A.units+1<di):iA X (compareOp .Eq) El:=by
 intro π s σ H x y v u Q I Z Y h;obtain⟨a,b,ns,l,rfl,rfl,ha,hb,q⟩:=h;cases Z;cases Y;obtain⟨z,o,n,r,hl,e⟩:=I.vY ha;obtain⟨z2,d,n2,r2,J,e2⟩:=I.vY hb;rw[bb] at hl J;have U:s.heap.IsList a o.toArray:=⟨_,e,rfl,n,rfl⟩;have m:s.heap.IsList b d.toArray:=⟨_,e2,rfl,n2,rfl⟩;by_cases hs:⇑ns=⇑l
 .refine a21 (e:=λj=>Zv (ns[j]?=l[j]?)) U m (by simp;lia) ∅ (λj F p=>?_) X.Ω X.w _ _ ⟨_,H,I,?_,q⟩
  .have F:j<⇑o:=by simpa using F
   have p:j<⇑d:=by simpa using p
   obtain⟨t,et⟩:=ints_get r F ∅;obtain⟨t2,O⟩:=ints_get r2 p ∅;have key:=uv (A:=X.A.in1) (s:=s) (ns[j]'∅) t (l[j]'∅) t2;have ee:(ns[j]'∅ == l[j]'∅)=Zv (ns[j]?=l[j]?):=by rw[cn ∅,cn ∅];simp[Li]
   rw[<- ee];simpa[et,O] using key
  .show L2.Ψ (.bl _) (.bool _);erw[L2.Ψ];congr 1;rw[jk];erw[jd,k_,decide_eq_true_eq,cu]
   constructor
   .intro L;apply qa;intro j;by_cases K:j<⇑o
    .exact L j K
    .rw [ig ∅,ig ∅]
   .intro L j _;rw[L]
 .refine a20 U m (by simp;lia) ∅ X.Ω X.w _ _ ⟨_,H,I,?_,q⟩;show L2.Ψ (.bl _) (.bool _);erw[L2.Ψ];rw[Zy (λz=>hs (by rw[z]))]
def Ej:F2:=λx y Q=>∃b,M4 x y=ab b/\Q (.bl b)
def aDd{K:aq}:O3 K El Ej:=by
 intro S H x y z v Q3 Q J h d n k;obtain⟨b,e,q⟩:=n;cases z<;>first|(cases e;done)|skip
 cases v<;>first|(cases e;done)|skip
 obtain⟨ns,o,e⟩:=bnd e;obtain⟨m,p,rfl⟩:=oF e;rw[ints_of o] at h;rw[ints_of p] at d;symm at h d;obtain⟨a,xs,rfl,l,I,F⟩:=h;obtain⟨c,ys,rfl,j,sc,A⟩:=d;rw[mM F] at l;rw[mM A] at j;show⟨a,c,ns,m,rfl,rfl,l,j,k _ H _ (ξ.refl H) (by symm) q⟩
def PR:Tells Ej QN:=λx y d Q e q=>by delta QN at e;obtain⟨b,e1,rfl⟩:=oF e;show⟨b,e1,q⟩
def Np(j:X.A.units+9<di)(h:bI X a fa)(d:bI X b fb):bI X (.Compare a [.Eq] [b] ν) (aC QN fa fb):=cE (OC (aDc ∅) aDd h d (g7 _)) (fV PR)
def Wu(d:0<=x)(a:0<=y):a1j x y=((x.toNat ||| y.toNat:Nat):Int):=by delta a1j;rw[bitAnd_nn (by delta Jj;lia) (by delta Jj;lia)];delta Jj;rw[show(-(-x-1)-1:Int)=x by lia,show(-(-y-1)-1:Int)=y by lia];lia
def aDe(d:0<=x)(a:0<=y):a1i x y=((x.toNat ||| y.toNat:Nat):Int)-((x.toNat &&& y.toNat:Nat):Int):=by delta a1i;rw[Wu d a,bitAnd_pp d a]
section
def CNN(i j:Int):Prop:=0<=i/\0<=j
def Gd(h:nnC i j=ae):CNN i j:=by delta nnC at h;rw[ij] at h;show⟨of_decide_eq_true h.1,of_decide_eq_true h.2⟩
def aAJ:iA X (binaryOp .BitAnd) (rI CNN λi j=>.int ((i.toNat &&& j.toNat:Nat):Int)):=opI λi j _ _ _ _ _ a q=>and_int (by rw[bitAnd_pp a.1 a.2];show q)
def aAK:iA X (binaryOp .BitXor) (rI CNN λi j=>.int (((i.toNat ||| j.toNat:Nat):Int)-((i.toNat &&& j.toNat:Nat):Int))):=opI λi j _ _ _ _ _ a q=>xor_int (by rw[aDe a.1 a.2];show q)
section
variable{a b:av}{fa fb:EF}{ν:bo}
def z5(l:bI X a fa)(d:bI X b fb):bI X (.BinOp a .BitAnd b ν) (aC jE fa fb):=cE (WU aAJ mE l d) (fV (eZ λi j h=>Gd h))
def Wt(l:bI X a fa)(d:bI X b fb):bI X (.BinOp a .BitXor b ν) (aC QO fa fb):=cE (WU aAK mE l d) (fV (eZ λi j h=>Gd h))
def Ei(l:bI X a fa)(d:bI X b fb):bI X (.BinOp a .RShift b ν) (aC M6 fa fb):=cE (WU aCX mE l d) (fV (eZ λi j h=>by simpa using h))
def VP(l:bI X a fa)(d:bI X b fb):bI X (.BinOp a .LShift b ν) (aC C2 fa fb):=cE (WU aCW mE l d) (fV (eZ λi j h=>by
 erw[ij,decide_eq_true_eq] at h;show⟨h.1.1,∅,?_⟩;have:(2:Nat)^64=18446744073709551616:=by decide
 rw[this];show h.2))
end
end
end L8
namespace L9
open PySem.Spec PyProof.Rows L2 L3 L4 L5
open PySem.SeqAt
abbrev vI(p:Int×iz):ai:=.int p.1 p.2
theorem aDf(l b:ah)(o m:List (Int×iz))(n X:Nat)(dd L:Option ah)(U J:Array (Option ai)):
  Meets (Builtin.«tuple.__lt__» ⟨[.ref l,.ref b],[]⟩) λA R s =>
   s.heap.get? l=ab ⟨.type "tuple",dd,.seq (o.map vI).toArray n,U⟩/\s.heap.get? b=ab ⟨.type "tuple",L,.seq (m.map vI).toArray X,J⟩/\R (.ok (.ret (.bool (fN (o.map (·.1)) (m.map (·.1)))))) s :=
 .of_wp λΩ w A R s h=>by
  obtain⟨I,g,d,z,F⟩:=s;obtain⟨Y,Z,h⟩:=h;have f2:=a3O
  wp_walk using a0i Y,a0i Z,wpAny_forIn_list _ (λO c s'=>c.1=af/\s'=⟨I,g,d,z,F⟩ /\∃us vs:List (Int×iz),O=(us.map vI).zip (vs.map vI)/\⇑us+⇑m=⇑vs+⇑o/\R (.ok (.ret (.bool (fN (us.map (·.1)) (vs.map (·.1)))))) ⟨I,g,d,z,F⟩) _
  case turn =>
   rintro⟨x,y⟩ O c s' ⟨K,rfl,us,vs,j,v,a⟩
   cases us with
   |nil=>cases j
   |cons p us =>
    cases vs with
    |nil=>cases j
    |cons q vs =>
     rw[bx,bx,Kf] at j;injection j with h1 h2;obtain⟨rfl,rfl⟩:=Jv h1;rw[bx,bx,fN] at a;show ao (uv p.1 p.2 q.1 q.2 Ω w _ _ ?_);by_cases e:p.1=q.1
     .rw [Z_ e] at a;rw[show(p.1 == q.1)=ae from beq_iff_eq.2 e]
      wp_walk
      show⟨rfl,rfl,us,vs,h2,by erw[eg] at v;lia,a⟩
     .rw [Zz e] at a;rw[show(p.1 == q.1)=ag from beq_eq_false_iff_ne.2 e];have step:∀{A:bt} {Q:Q0c} {E:Q0c},Q (.bool (Zv (p.1<q.1))) ⟨I,g,d,z,F⟩->ax (au Ω w) A (richCompare .Lt (vI p) (vI q)) Q E ⟨I,g,d,z,F⟩:=λh=>Cd h
      wp_walk using step
      show⟨_,rfl,a⟩
  case fin =>
   rintro⟨b1,b2⟩ s' ⟨K,rfl,us,vs,j,v,a⟩;simp only at K;subst K;have e:fN (us.map (·.1)) (vs.map (·.1))=Zv (⇑o<⇑m):=by
    cases us with
    |nil =>
     cases vs with
     |nil =>
      show(Zy ?_).symm;erw[lj] at v;lia
     |cons q vs =>
      show(Zx ?_).symm;erw[lj,eg] at v;lia
    |cons p us =>
     cases vs with
     |nil =>
      show(Zy ?_).symm;erw[lj,eg] at v;lia
     |cons q vs=>cases j
   rw[e] at a
   wp_walk
   show⟨_,rfl,by simpa[a3K] using a⟩
  show⟨rfl,rfl,o,m,rfl,∅,h⟩
variable{X:Cx}
theorem fU:∀{is:Q0e} {us:Q0f},θ (is.map V.int) us ->∃a:List (Int×iz),us=a.map vI/\a.map (·.1)=is
 |[],_,.nil=>⟨[],rfl,rfl⟩
 |i::is,_,.cons r t=>by obtain⟨a,e,h⟩:=fU t;obtain⟨k,d⟩:=r;show⟨(i,k)::a,by rw[e,d];rfl,by rw[bx,h]⟩
end L9
namespace L4
open PySem.Spec PyProof.Rows L2 L3 PySem.W LM
variable{X:Cx}
section
variable{π:Q0b}{σ:L2.St}{H:Hp}{s:ak}
def Fp(X:Cx)(π:Q0b)(b:ah):Prop :=
 b≠X.env.locals/\b∉X.fs/\(b∈X.ex\/↥X.s₀<=b)/\(∀x c,X.env.cells.lookup x=ab c->c≠b) /\∀p∈X.pn++π,p.1≠b
def IX(I:Φ X π σ H s)(a:↥s<=b):Fp X π b:=(I.vU (H':=H) a (I.hok.fresh a)).2
def t9(I:Φ X π σ H s)(f:Fp X π b)(h:H b=af)(e:s.heap.get? b=ab o)(d:∀v,o.data≠.cell v):Φ X (π++[(b,o)]) σ H s:=by
 show I.BP λp a=>?_;rcases ie.1 a with z|z
 .exact I.pin p (ir _ z)
 .rw [dh.1 z];show⟨e,h,f.1,f.2.1,d⟩
def k5(I:Φ X (π++[(b,o)]) σ H s):s.heap.get? b=ab o/\H b=af:=by obtain⟨e,n,_⟩:=I.pin (b,o) (ir _ (ir _ (dh.2 rfl)));show⟨e,n⟩
theorem qE(I:Φ X (π++[(b,o)]) σ H s)(f:Fp X π b)(k:∀c u,c≠b->s.heap.get? c=ab u->h'.get? c=ab u)(e:h'.get? b=ab o')(d:∀v,o'.data≠.cell v):
  Φ X (π++[(b,o')]) σ H {s with heap:=h',toks:=t' }:=by
 obtain⟨l,m,j,h,a⟩:=id f;show t9 (I.gZ.turned (t':=t') k (k5 I).2 l j h a) f (k5 I).2 e d
end
def wj(X:Cx)(σ:L2.St)(P:Q0b)(f:ai)(t:V->Hp->VK->Prop):Prop :=
 ∀(π:Q0b) (s:ak) (H:Hp) (v:V) (u:ai) (Q:VK),Φ X π σ H s->(∀p∈P,p∈π)->Ψ v u->t v H Q ->
  ax (au X.Ω X.w) X.A.in1.in1 (call f [u]) (EP X π σ Q) (λ_ _=>False) s
def jL(X:Cx)(n:Nat)(lt:Nat->Nat->Bool)(ks:List V)(H:Hp):Prop :=
 ∀(π:Q0b) (σ:L2.St) (s:ak) (us:Q0f),Φ X π σ H s->θ ks us ->
  ∃a,(∀Q:nc->ak->Prop,Q a s->ax (au X.Ω X.w) X.A.in1.in1 (keyKind' us.toArray) Q (λ_ _=>False) s) /\
   ∀(i j:Nat) (C:Bool->ak->Prop),i<n->j<n->C (lt i j) s->rm X.Ω X.w X.A.in1.in1 a us i j C s
theorem z6(r:Ψ k u):∀{ks:List V} {us:Q0f},θ ks us->θ (ks++[k]) (us++[u])
 |_,_,.nil=>.cons r .nil
 |_,_,.cons q h=>.cons q (z6 r h)
theorem i6:∀{ks:List V} {us:Q0f},θ ks us->⇑ks=⇑us
 |_,_,.nil=>rfl
 |_,_,.cons q h=>by rw[eg,eg,i6 h]
theorem rP(r:θ xs us):∀a:List Nat,(∀i∈a,i<⇑us)->θ (a.map λi=>xs.getD i .non) (a.map λi=>us.getD i ik)
 |[],_=>.nil
 |i::a,h=>by
  have l:=h i cz;have d:=i6 r;obtain⟨u,n,m⟩:=r.get (i:=i) (x:=xs[i]'∅) (by simp[d,l]);have e1:xs.getD i .non=xs[i]'∅:=by simp[d,l]
  have p:us.getD i ik=u:=by rw[ll,n];rfl
  show .cons ?_ (rP r a λj o=>h j (fq _ o));show Ψ (xs.getD i .non) (us.getD i ik);rw[e1,p];show m
section
variable{π:Q0b}{σ:L2.St}{H:Hp}{s:ak}{P:Q0b}{f:ai}{t:V->Hp->VK->Prop}{xs:List V}{us:Q0f}{a kS:ah}{e1:Nat}{E:Q0c}
 {W:Nat->List V->Hp->Prop}
end
abbrev IY(q:aj)(sc:gn)(a:List (aj×ah))(L f:ah)(cd:ai):fv:=envX q sc L f cd a
def FQ(X:Cx)(N:Q0g)(q:aj)(sc:gn)(a:List (aj×ah))(L f:ah)(cd:ai)(s₀:ak)(H₀:Hp):Cx :=
 {X with N:=N,s₀:=s₀,H₀:=H₀,env:=IY q sc a L f cd,A:=X.A.in1.in1.deeper (IY q sc a L f cd),Γ:=X.stack,stack:=IY q sc a L f cd::X.stack,ex:=[],fn:=λ_=>ag,calm:=ae,pn:=[],xe:=λ_ _=>False}
structure MI (X:Cx) (x:aj) (fs:Q0g) (fr:List Nat) (sc:gn):Prop where
 kind:sc.kind=.function
 co:sc.isCoroutine=ag
 gen:sc.isGenerator=ag
 par:sc.names.lookup x=ab .local
 VQ:∀y∈sc.names,y.2≠.cell
 free:∀y∈sc.names,y.2=.free->X.env.kindOf y.1=ab .cell\/X.env.kindOf y.1=ab .free
 slot:∀(k:Nat) (y:aj),fs[k]?=ab y ->∃j,fr[k]?=ab j/\X.N[j]?=ab y/\(y,kl)∈sc.names/\sc.names.lookup y=ab .free
 B7:⇑fr=⇑fs
def PU(v:V)(fr:List Nat)(σ:L2.St):L2.St:=ab v::fr.map λj=>(σ[j]?).join
section
variable{π:Q0b}{σ:L2.St}{H:Hp}{s:ak}
theorem aAM(hc:X.calm=ae)(B:MI X x fs fr sc)(I:Φ X π σ H s)
  (J:∀y∈sc.names,y.2=.free->cl.lookup y.1=X.env.cells.lookup y.1) (K:∀y c,cl.lookup y=ab c->X.env.cells.lookup y=ab c) (r:Ψ v u)
  (hn:O.Ns ↥s λy=>[(x,u)].reverse.lookup y) (L:∀b o,s.heap.get? b=ab o->O.get? b=ab o):
  Φ (FQ X (x::fs) q sc cl ↥s f cd s H) [] (PU v fr σ) H {s with heap:=O,toks:=t' }:=by
 have ok:(FQ X (x::fs) q sc cl ↥s f cd s H).Ok:=by
  show⟨I.ok.mod,B.kind,rfl,rfl,bq _,λy z c O h2=>I.ok.inj y z c (K y c O) (K z c h2),λy a=>?_,(λy c h=>by cases h),λ_=>I.ok.hd hc,a1p (A:=X.A.in1.in1) I.ok.frames,.inr ⟨rfl,rfl⟩,(λb z=>by cases z),λb o e=>I.bs b o e,jb I.ok.WQ I.sz,(λb o _ z=>by cases z),(λb z=>by cases z),I.stack,I.BO,I.tab⟩;have a:sc.names.lookup y=ab .cell\/sc.names.lookup y=ab .free:=a;rcases a with a|a
  .exact Zw rfl (B.VQ _ (mf a))
  .have n:=mf a;obtain⟨c,e⟩:=I.ok.has y (B.free _ n rfl);show⟨c,(J _ n rfl).trans e⟩
 show⟨ok,rfl,I.bare,Un.kept L,⟨_,hn,λi y w e1 m e3=>?_⟩,λy c e=>?_,I.hok.fresh (bq _),λy c e=>I.k8 y c (K y c e),(λp hp=>by cases hp),I.hok.kept L,?_⟩
 .cases i with
  |zero =>
   have e1:x=y:=dm e1;have m:v=w:=dm (dm m);subst e1 m;show⟨u,r,.inl ⟨B.par,by simp⟩⟩
  |succ i =>
   have e1:fs[i]?=ab y:=e1;obtain⟨j,ej,eN,n,Z⟩:=B.slot i y e1;have U:(σ[j]?).join=ab w:=by have m:(fr.map λj=>(σ[j]?).join)[i]?=ab (ab w):=m;rw[c_,ej] at m;show dm m
   have e5:σ[j]?=ab (ab w):=by
    cases q:σ[j]? with
    |none=>rw[q] at U;cases U
    |some o=>rw[q] at U;rw[show o=ab w from U]
   have F:=B.free _ n rfl;obtain⟨mm,_,hl⟩:=I.loc;obtain⟨z,rz,l⟩:=hl j y w eN e5 (.inr F);show⟨z,rz,?_⟩;rcases l with⟨k1,_⟩|⟨k1,c,ec,zc⟩
   .rcases F with y1|y1<;>rw[k1] at y1<;>cases y1
   .obtain ⟨Y,d,hd⟩:=zc;show .inr ⟨.inr Z,c,(J _ n rfl).trans ec,Y,L _ _ d,hd⟩
 .obtain ⟨w,Y,d,hd⟩:=I.cell y c (K y c e);show⟨w,Y,L _ _ d,hd⟩
 .show ⇑(PU v fr σ)=⇑(x::fs);delta PU;rw[eg,bb,B.B7,eg]
def sJ(H:Hp)(c:ah)(q:aj):Prop:=∃a vs t,H c=ab (BM a)/\a.data=.fields vs/\vs[1]?=ab (.str q t)
def sJ.rec(x:sJ H c q)(ok:nE P w H h):h.CodeRec (.ref c) q:=by obtain⟨a,vs,t,e,d,v⟩:=x;show⟨c,a,vs,t,rfl,(ok c _ e).1,d,v⟩
def sJ.same(x:sJ H c q)(a:ξ H H'):sJ H' c q:=by obtain⟨h,vs,t,e,d,v⟩:=x;show⟨h,vs,t,a _ _ e,d,v⟩
theorem aAN(hc:X.calm=ae)(B:MI X x fs fr sc)(a:X.A.depth<recursionLimit)
  (m:∀y∈sc.names,y.2=.free->cl.lookup y.1=X.env.cells.lookup y.1) (F:∀y c,cl.lookup y=ab c->X.env.cells.lookup y=ab c)
  (hb:∀u,bindArgs (Bi "<lambda>" q params body sc cl pm (.ref c) ct) ⟨[u],[]⟩=pure [(x,u)]) (Z:∀L s H,PE (FQ X (x::fs) q sc cl L f (.ref c) s H) body te):
  wj X σ [(f,Bh "<lambda>" q params body sc cl pm c ct)] (.ref f) (λv H Q=>sJ H c q/\te (PU v fr σ) H Q):=by
 intro π s H v u Q I U r ⟨cq,O⟩;have ef:=(I.pin _ (ir _ (U _ cz))).1;show wpAny_call (kla_callFunE (fd:=Bi "<lambda>" q params body sc cl pm (.ref c) ct) a ef rfl B.co B.gen rfl (cq.rec I.hok) ?_);rw[hb u];show az (wpAny_newFunctionEnv B.VQ (λy K=>?_) (λh1 l d=>⟨I.nolimit.fresh _ d,?_⟩) B.kind)
 .rw [dh.1 K];show B.par
 .have Y:∀b o,s.heap.get? b=ab o->h1.get? b=ab o:=λb o e=>d.extBut b o (gp (cf e)) (cx _ e);have J:=aAM (q:=q) (f:=f) (cd:=.ref c) (t':=s.toks+1) hc B I m F r l Y;show kla_codeExpr ?_;show jl (Z ↥s s H [] _ (PU v fr σ) H Q J O) (λw s' h=>?_) λ_ _ z=>z.elim;obtain⟨y,H',j,n,p⟩:=h;show⟨y,H',I.call' (s':=s') (ch:=[]) j.os j.ω j.hok j.bare (λb z=>by cases z),n,p⟩
theorem xE{m p2:bo}{c j:ai}:∀(l:Q0f),TriplesOk l->codeAmong p2 (l++[rawInt m.line,rawInt m.col,c])=ab j->codeAmong p2 l=ab j\/j=c
 |[],_,h=>by
  erw[vq,codeAmong,rawInt] at h;split at h
  .exact .inr (dm h).symm
  .cases h
 |.int a t::.int b u::d::r,hT,h=>by
  erw[Cs,codeAmong] at h ⊢;split at h
  .rename_i hp;rw[Z_ hp];show .inl h
  .rename_i hn;rw[Zz hn];show xE r hT h
theorem VR(I:Φ X π σ H s)(hx:(x0,c,P)∈dE X.K)(hq:X.env.qual++"<lambda>"=l9 x0)
  (j:X.env.code=.ref c) (B:MI X x fs fr sc) (hdef:defaultsOf params X.env=([],[]))
  (h:∀(f a:ah) (ct:ai) (O:List (aj×ah)) (H':Hp) (s':ak),ξ H H'->sJ H' a (l9 x0)->(∀y∈sc.names,y.2=.free->O.lookup y.1=X.env.cells.lookup y.1)->(∀y c,O.lookup y=ab c->X.env.cells.lookup y=ab c) ->
   Φ X (π++[(f,Bh "<lambda>" (l9 x0) params body sc O ((X.mg "__name__").getD .none) a ct)]) σ H' s'->Q (.ref f) s'):
  ax (au X.Ω X.w) X.A (eval (.Lambda params body sc ν) X.env) Q E s:=by
 obtain⟨hC,hP⟩:=I.tab _ hx;dsimp only at hC hP;obtain⟨ps,eP,hT,hA⟩:=I.hok P _ hP;have C:=hC.keeps I.bk;obtain⟨bm,ob,b1,b2,b3,b4,b5,b6⟩:=I.mod.bm;have F:=I.mod.glob.keeps I.bk;have hgP:iw≠P:=λz=>by obtain⟨o,es,ep,eo,U,_⟩:=F;rw[z,eP] at eo;cases eo;cases U
 have l:=I.bk _ _ b3;have J:bm≠P:=λz=>by rw[z,eP] at l;cases l;cases b4
 have hbG:bm≠iw:=λz=>by obtain⟨o,es,ep,eo,U,_⟩:=F;rw[z,eo] at l;cases l;rw[U] at b6;cases b6
 have Dy:s.heap.BuiltinsAt X.mg P:=⟨bm,ob,b1,b2,hbG,J,l,b4,b5,b6⟩;obtain⟨O,ecl,hcl,j7⟩:=wM (scope:=sc) (env:=X.env) λy hy hf=>I.ok.has _ (B.free y hy hf);show kla_eval hdef ?_;rw[hq]
 -- behind the making: the function object is laid and pinned
 have fin:∀(a:ah) (ct:ai) (H':Hp) (h':a_) (p:iz),ξ H H'->sJ H' a (l9 x0)->Φ X π σ H' {s with heap:=h',toks:=p} ->
   Q (.ref h'.objs.size) {s with heap:=h'.push (Bh "<lambda>" (l9 x0) params body sc O ((X.mg "__name__").getD .none) a ct),toks:=p}:=λa ct H' h' p m cq I'=>by
  have I2:=I'.kept (t':=p) (h':=h'.push (Bh "<lambda>" (l9 x0) params body sc O ((X.mg "__name__").getD .none) a ct)) λb u e=>cx _ e;show h _ a ct O H' _ m cq hcl j7 (t9 I2 (IX I' (bq _)) (I'.hok.fresh (bq _)) (d_ _ rfl) (λv z=>by cases z))
 cases hf:codeAmong ν ps.toList with
 |some cv =>
  obtain⟨a,L,vs,t,rfl,e1,e2,e3⟩:=hA ν cv hf;show kla_makeFunctionHit (mg:=X.mg) ecl I.ok.glob F j C eP hT hf Dy λct h' p hk hsz=>?_;show fin a ct H h' p (λ_ _ e=>e) ⟨L,vs,t,e1,e2,e3⟩ (I.kept hk)
 |none =>
  show kla_makeFunction (mg:=X.mg) ecl I.ok.glob F j C eP hT hf hgP Dy λa ct h' p hX hge hlt Z Y=>?_;obtain⟨c2,L,vs,t,e2,hoc,U,hv⟩:=Z;cases e2;have hfr:H a=af:=I.hok.fresh hge;have nC:∀{b:ah} {o:HO},H b=ab o->b≠a:=λe=>aT e hfr;have nP:∀{b:ah},H b=af->b≠P:=λe z=>by rw[z,hP] at e;cases e
  have m:ξ H (upd H a (BM L)):=λb o e=>by rw[aR (nC e)];show e
  show fin a ct (upd H a (BM L)) h' p m ⟨L,vs,t,aN,U,hv⟩ (I.un (t':=p) ⟨λb o e n _ _=>hX b o (nP n) e,λb o e n _ _=>⟨o.slots,hX b o (nP n) e⟩,λb o e n _=>?_,λb o e _=>?_,λb xs e=>m _ _ e,λb o u e=>m _ _ e,λb q e=>m _ _ e⟩ λb u e=>?_)
  .rw [aR (gp (gu (cf e) hge))];show n
  .by_cases hb:b=P
   .exact ⟨_,hb▸Y⟩
   .exact ⟨o,hX b o hb e⟩
  .by_cases hb:b=a
   .subst hb;rw[aN] at e;cases e;show⟨hoc,trivial,⟨L,hoc⟩,λ_ _ _ _=>trivial⟩
   .rw [aR hb] at e;by_cases J:b=P
    .subst J;rw[hP] at e;cases e;show⟨_,Y,?_,λp2 cv e=>?_⟩
     .rw [uf];show TriplesOk_snoc _ _ _ _ hT
     .rw [uf] at e;rcases xE _ hT e with z|z
      .obtain ⟨c3,oc3,vs3,t3,y1,y2,y3⟩:=hA p2 cv z;show⟨c3,oc3,vs3,t3,y1,m _ _ y2,y3⟩
      .exact ⟨a,L,vs,t,z,aN,U,hv⟩
    .refine (I.hok b u e).stay (λd w hc q=>hX d w ?_ q) (λd q=>m _ _ q) (λd xs q=>m _ _ q) λd o u q=>m _ _ q;rcases hc with z|z
     .rw [z];show J
     .intro y;rw[y,hP] at z;cases z
def track(I:Φ X (π++[(b,o)]) σ H s)(f:Fp X π b)(new:cQ X.Ω X.w (upd H b u) s.heap b u):Φ X π σ (upd H b u) s:=by
 obtain⟨y,A,x,v,p⟩:=f;have j:=(k5 I).2;have J:=I.gZ;have a:∀{d:ah} {w:HO},H d=ab w->upd H b u d=ab w:=λ{d w} e=>by rw[aR (aT e j)];show e
 have q:=J.step (s:=s) (H':=upd H b u) (h':=s.heap) (g':=s.gens) (t':=s.toks) (d':=s.drawn) (ch:=[b]) (λd h=>?_) (λd w _ _ _ e _=>e) (λd w _ _ _ e _=>⟨w.slots,e⟩) (λd w h e n=>?_) (λd w _ e=>⟨w,e⟩) (λd xs e=>a e) (λd o u e=>a e) (λd q e=>a e) (λm l=>l) (λd w e=>?_) J.bare
 .exact q
 .rw [dh.1 h];show⟨x,y,v,p⟩
 .rw [aR λz=>h (dh.2 z)];show n
 .by_cases h:d=b
  .subst h;rw[aN] at e;cases e;show new
  .rw [aR h] at e;show(J.hok d w e).stay (λ_ _ _ q=>q) (λ_ q=>a q) (λ_ _ q=>a q) λ_ _ _ q=>a q
theorem aDg{K:aq}{S:ah->Prop}{H H':Hp}{ρ:cN}{σ:L2.St}{fr:List Nat}{d:D}{v:V}(l:Sl K S H ρ σ)(h:ξ H H')(x:Dn K S H' d v):Sl K S H' ((benv 1 fr ρ).set 0 (ab d)) (PU v fr σ):=by
 intro i e a
 cases i with
 |zero=>cases a;show⟨v,rfl,x⟩
 |succ i =>
  have a:(fr.map λj=>(ρ[j]?).join)[i]?=ab (ab e):=a;rw[c_] at a
  cases ej:fr[i]? with
  |none=>rw[ej] at a;cases a
  |some j =>
   rw[ej] at a;have a:(ρ[j]?).join=ab e:=dm a;have n:ρ[j]?=ab (ab e):=by
    cases q:ρ[j]? with
    |none=>rw[q] at a;cases a
    |some o=>rw[q] at a;rw[show o=ab e from a]
   obtain⟨w,m,p⟩:=l j e n;show⟨w,?_,Dn.fits (Fits.same h) e w p⟩;show(fr.map λj=>(σ[j]?).join)[i]?=ab (ab w);rw[c_,ej,vi,m];rfl
end
def wg(Γ:List (aj×jy))(sc:gn)(N:Q0g)(x:aj)(fs:Q0g)(fr:List Nat):Bool :=
 (sc.kind == .function) && !sc.isCoroutine && !sc.isGenerator&&Zv (sc.names.lookup x=ab .local)&&sc.names.all (λy=>Zv (y.2≠.cell)) &&
 sc.names.all (λy=>Zv (y.2=.free->(Γ.lookup y.1=ab .cell\/Γ.lookup y.1=ab .free)))&&Zv (⇑fr=⇑fs) &&
 (fs.zip fr).all (λy=>Zv (N[y.2]?=ab y.1)&&sc.names.contains (y.1,kl)&&Zv (sc.names.lookup y.1=ab .free))
def MJ(h:wg X.env.scope.names sc X.N x fs fr=ae):MI X x fs fr sc:=by
 delta wg at h;erw[ij,jd,decide_eq_true_eq,yl] at h;obtain⟨⟨⟨⟨⟨⟨⟨q,h2⟩,p⟩,o⟩,n⟩,m⟩,l⟩,j⟩:=h;show⟨eq_of_beq q,h2,p,o,n,m,λk y e=>?_,l⟩;have v:k<⇑fs:=(de.mp e).1;have d:(y,fr[k]'∅)∈fs.zip fr:=by
  have:(fs.zip fr)[k]?=ab (y,fr[k]'∅):=by rw[yc];show⟨e,by simp⟩
  show j_ this
 obtain⟨⟨a,b⟩,c⟩:=j _ d;show⟨fr[k]'∅,by simp,a,↑b,c⟩
def VS{K:aq}{x0:aj}{f c n:ah}{j:ai}{h:Option ah}{fd:gw}{d:Array (Option ai)}(l:nsIn K iw x0=ab (ab (.ref f)))(m:K.lookup f=ab ⟨j,h,.func fd,d⟩)(a:tabIn K x0=ab (c,n)):fd.code=.ref c:=by
 delta tabIn at a;rw[l] at a;dsimp only at a;rw[m] at a;dsimp only at a;split at a
 .rename_i c2 hc;split at a
  .split at a
   .cases a;show hc
   .cases a
  .cases a
 .cases a
def aDh{K:aq}{x0:aj}{c a:ah}(d:x0∈EB)(h:tabIn K x0=ab (c,a)):(x0,c,a)∈dE K:=ya.2 ⟨x0,d,by rw[h];rfl⟩
theorem Ws{P:bh}{w:bg}{K:aq}{mg:Q0d}{ω:a_}{x qual:aj}{m:df}{f c Pt:ah}{fd:gw}{N j:Q0g}{k n z:Nat}{b:SF}(F:WR K x qual m f fd)(Z:nsIn K iw x=ab (ab (.ref f)))(ht:tabIn K x=ab (c,Pt))(S:dR N j (aL m))(hn:⇑N=n)(L:⇑j=z)
  (a:∀(A:bt) (Γ:List fv) (s:ak) (H:Hp) (E:XK),d8 k (A.deeper (envOfC qual (aL m) ↥s f (.ref c))) ->
   oD (lB iB P w K mg ω N qual (aL m) f (.ref c) A Γ s H E).EG (dF m) b):jN P w K mg ω iB (k+1) f fd j (GI K (c8 n z b)):=by
 subst hn L;obtain⟨oc,od,kV,doc,pm,an,y,ct,Y,rfl,I,p⟩:=F.ex;have ec:y=.ref c:=VS Z I ht;subst ec;show Gv I p S (λvs H Q E h=>?_) λA Γ s H vs Q E hr h=>?_
 .obtain ⟨S',ds,Q3,O,dn,⟨d,e,q⟩,_⟩:=h;rw[<- dn.len];delta c8 at e;by_cases h:⇑ds=⇑j
  .exact h
  .rw [Zz h] at e;cases e
 .obtain ⟨S',ds,Q3,O,dn,⟨d,e,q⟩,J⟩:=h;have l:=a A Γ s H E hr;delta c8 at e;by_cases h:⇑ds=⇑j
  case neg=>rw[Zz h] at e;cases e
  rw[Z_ h] at e;show⟨_,L2.rE.EG l,H,S',λ_=>0,jO N ds,[],{nx:=λ_=>Q3 .non,rt:=Q3},?_,ET O dn,?_,⟨λw' U H' X _ o q=>?_,λv H' d s' d' q=>J v H' d s' d' q,λ_ _ _ _ _ _ q=>q,λ_ _ _ _ _ _ q=>q,λ_ _ _ q=>q.elim⟩⟩
  .have hl2:=dn.len;have L:⇑j<=⇑N:=by have:=congrArg vv S.pre;rw[js] at this;lia
   delta L2.start;show _=⇑N;rw[gk,bb,p_];lia
  .have e2:jO N ds=eG ⇑N ds:=rfl;delta wS;rw[e2]
   cases l:b (eG ⇑N ds) with
   |rt d'=>rw[l] at e;cases e;show q
   |nx ρ=>rw[l] at e;cases e;show q
   |no=>rw[l] at e;cases e
   |ex c=>rw[l] at e;cases e
  .exact J .non H' .non o.sm (by symm) q
theorem aAP:∀(us:Q0f),⇑us=1 ->∃a,us=[a]
 |[a],_=>⟨a,rfl⟩
theorem aAQ:∀(us:Q0f),⇑us=2 ->∃d a,us=[d,a]
 |[d,a],_=>⟨d,a,rfl⟩
theorem aAR:∀(us:Q0f),⇑us=3 ->∃h d a,us=[h,d,a]
 |[h,d,a],_=>⟨h,d,a,rfl⟩
theorem aAS:∀(us:Q0f),⇑us=4 ->∃j h d a,us=[j,h,d,a]
 |[j,h,d,a],_=>⟨j,h,d,a,rfl⟩
theorem Nm{P:bh}{w:bg}{K:aq}{mg:Q0d}{ω:a_}{x:aj}{d:df}{c z:ah}{N j:Q0g}{k n l:Nat}{b:SF}(D:Df K mg x d j)(o:tabIn K x=ab (c,z))
  (h:∀{f:ah} {A:bt} {Γ:List fv} {s:ak} {H:Hp} {E:XK},d8 k (A.deeper (envOfC x (aL d) ↥s f (.ref c)))->N.Nodup->oD (lB iB P w K mg ω N x (aL d) f (.ref c) A Γ s H E).EG (dF d) b)
  (S:dR N j (aL d)<|>7) (y:⇑N=n<|>0) (v:⇑j=l<|>0):Cl P w K mg ω iB (k+1) x j (GI K (c8 n l b)):=by
 obtain⟨a,F,m,q⟩:=D;show⟨Ws F a o S y v λ_ _ _ _ _ p=>h p S.nd,m,F.kp,q⟩
def qF{K:aq}{x:aj}(h:nsIn K iw x=ab af):tabIn K x=af:=by delta tabIn;rw[h]
theorem FR{K:aq}{x:aj}{f c j:ah}{n h:ai}{m d:Option ah}{fd:gw}{vs:Array ai}{l a:Array (Option ai)}(v:nsIn K iw x=ab (ab (.ref f)))(h2:K.lookup f=ab ⟨n,m,.func fd,l⟩)(q:fd.code=.ref c)
  (p:K.lookup c=ab ⟨h,d,.fields vs,a⟩) (o:vs[11]?=ab (.ref j)):tabIn K x=ab (c,j):=by
 delta tabIn;rw[v];dsimp only;rw[h2];dsimp only;rw[q];dsimp only;rw[p];dsimp only;rw[o]
theorem PV{K:aq}{r1 j h d a:Option (ah×ah)}(o:tabIn K "going_of"=r1)(h2:tabIn K "count_of_chain"=j)(n:tabIn K "cut_paper"=h)(m:tabIn K "downsets"=d)(l:tabIn K "strictest_chains"=a):
  dE K=([("going_of",r1),("count_of_chain",j),("cut_paper",h),("downsets",d),("strictest_chains",a)]:List (aj×Option (ah×ah))).filterMap λp=>p.2.map λt=>(p.1,t.1,t.2):=by
 subst o h2 n m l;rfl
def tabs_ok{K:aq}{q:bh}{L:List (aj×ah×ah)}(h:dE K=L)(nd:(L.map (·.2.2)).Nodup)(rc:∀t∈L,∃e,(recsOf q).find? (λe=>e.name == t.1)=ab e):TabsOk K q:=⟨by rw[h];show nd,by rw[h];show rc⟩
section
variable{Ω:bh}{w:bg}{A:bt}{E:Q0c}{s:ak}{z TI TO i1 i2:ah}{f1 f2:List ah}{n1 n2 k:Nat}{P1 P2:Nat->ai->Prop}{S1 S2:Nat->a_->Prop}{a b:ai}
structure MK (z TI TO i1 i2:ah) (f1 f2:List ah):Prop where
 zO:z≠TO
 zI:z≠TI
 OI:TO≠TI
 m1:i1∈f1
 m2:i2∈f2
 z1:z∉f1
 z2:z∉f2
 o1:TO∉f1
 o2:TO∉f2
 c1:i1∉f2
 c2:i2∉f1
 I1:TI≠i1
 I2:TI≠i2
def MK.q1(p:MK z TI TO i1 i2 f1 f2):z≠i1:=λe=>p.z1 (e▸p.m1)
def MK.q2(p:MK z TI TO i1 i2 f1 f2):z≠i2:=λe=>p.z2 (e▸p.m2)
def MK.p1(p:MK z TI TO i1 i2 f1 f2):TO≠i1:=λe=>p.o1 (e▸p.m1)
def MK.p2(p:MK z TI TO i1 i2 f1 f2):TO≠i2:=λe=>p.o2 (e▸p.m2)
def eD{it c:ah}{j:List ah}{n:Nat}{P:Nat->ai->Prop}{S:Nat->a_->Prop}{h h':a_}(D:km Ω w A it j n P S)(x:S k h)(m:c∉j)(e:Iy c h h'):S k h' :=
 D.frame k h h' x λd l o q=>e d o (λy=>m (y▸l)) q
theorem ML{Q:Q0c}(n:km Ω w A i1 f1 n1 P1 S1)(m:km Ω w A i2 f2 n2 P2 S2)(p:MK z TI TO i1 i2 f1 f2)(J:iq s.heap z TI TO .none)(hI:gj s.heap TI (.ref i1) (.ref i2))(hO:gj s.heap TO a b)
  (x1:S1 k s.heap) (x2:S2 k s.heap) (k1:k<n1) (k2:k<n2)
  (q:∀x y h' tk,P1 k x->P2 k y->iq h' z TI TO (rawInt ↥s)->gj h' TO x y->S1 (k+1) h'->S2 (k+1) h'->gj h' ↥s x y ->
   (∀c o,c≠z->c≠TO->c≠i1->c≠i2->s.heap.get? c=ab o->h'.get? c=ab o)->Q (.ref ↥s) {s with heap:=h',toks:=tk}):
  ax (au Ω w) A (Builtin.«zip.__next__» ⟨[.ref z],[]⟩) (λfi s2=>∃v,fi=.done (.ret v)/\Q v s2) E s:=by
 delta Builtin.«zip.__next__»;apply ao;apply az;apply ao;show jv J rfl rfl ?_;apply ao;show jv J rfl rfl ?_;apply ao;show n_ hI rfl ?_;show ax (au Ω w) A (Bx (.ref z) >>= _) _ E s;apply ao
 (delta Bx)
 apply ao;show jv J rfl rfl (az ?_);rw[Z_ (by first|rfl|simp)];apply ao;apply je;apply ao;show jv J rfl rfl ?_
 try dsimp only
 apply ao;show uq J (by simp) λga Y I=>?_
 replace Y:iq ga z TI TO .ellipsis:=Y
 apply ao;rw[show(#[ft i1,ft i2]:Array ai).toList.zipIdx=[(.ref i1,0),(.ref i2,1)] from rfl,oy];apply ao;apply ao;apply Az;show ax _ _ (do let v <- vd (.ref i1);pure (ab v)) _ _ _;apply ao;show n.item k {s with heap:=ga} _ _ k1 (eD n x1 p.z1 I.extBut) λx gb tb px y1 l=>az ?_
 try dsimp only at gb l ⊢
 have ob:gj gb TO a b:=l.extBut _ _ p.p1 (I.extBut _ _ p.zO.symm hO);apply ao;show n_ ob rfl ?_
 try dsimp only
 apply ao;show Hs ob λgc Z sc=>?_
 replace Z:gj gc TO x b:=Z
 apply ao;show og (az ?_)
 try dsimp only
 rw[oy];apply ao;apply ao;apply Az;show ax _ _ (do let v <- vd (.ref i2);pure (ab v)) _ _ _;apply ao;have y2:S2 k gc:=eD m (eD m (eD m x2 p.z2 I.extBut) p.c1 l.extBut) p.o2 sc.extBut;show m.item k {s with heap:=gc,toks:=tb} _ _ k2 y2 λy gd td py z2 j=>az ?_
 try dsimp only at gd j ⊢
 have od:gj gd TO x b:=j.extBut _ _ p.p2 Z;apply ao;show n_ od rfl ?_
 try dsimp only
 apply ao;show Hs od λd L F=>?_
 replace L:gj d TO x y:=L
 apply ao;show og (az ?_)
 try dsimp only
 rw[ye];show az ?_
 try dsimp only
 apply ao;show n_ L rfl ?_
 try dsimp only
 apply ao;show A_ ?_;have ze:iq d z TI TO .ellipsis:=F.extBut _ _ p.zO (j.extBut _ _ p.q2 (sc.extBut _ _ p.zO (l.extBut _ _ p.q1 Y)));have len:d.objs.size=↥s:=by rw[F.1,j.1,sc.1,l.1,I.1]
 have ke:∀c o,c≠z->c≠TO->c≠i1->c≠i2->s.heap.get? c=ab o->d.get? c=ab o:=λc o h U c3 c4 e=>F.extBut _ _ U (j.extBut _ _ c4 (sc.extBut _ _ U (l.extBut _ _ c3 (I.extBut _ _ h e))));have w1:S1 (k+1) d:=eD n (eD n (eD n y1 p.o1 sc.extBut) p.c2 j.extBut) p.o1 F.extBut;have w2:S2 (k+1) d:=eD m z2 p.o2 F.extBut;have zl:z≠d.objs.size:=gp (cf ze);apply ao
 (delta a3L)
 have zf:iq (d.push {cls:=.type "tuple",data:=.seq #[x,y]}) z TI TO .ellipsis:=cx _ ze;apply ao;show uq zf (by simp) λgg X sg=>?_
 replace X:iq gg z TI TO (rawInt d.objs.size):=X
 show uq X (by simp) λO K sh=>?_
 replace K:iq O z TI TO (rawInt d.objs.size):=K
 have up:∀c o,c≠z->d.get? c=ab o->O.get? c=ab o:=λc o h e=>sh.extBut _ _ h (sg.extBut _ _ h (cx _ e));have pr:gj O d.objs.size x y:=sh.extBut _ _ zl.symm (sg.extBut _ _ zl.symm (d_ _ rfl));apply az;show⟨_,rfl,?_⟩;rw[len] at K pr;show Q (.ref d.objs.size) _;rw[len];show q x y O td px py K (up _ _ p.zO.symm L) (n.frame _ _ _ w1 λc hc o e=>up c o (λy=>p.z1 (y▸hc)) e) (m.frame _ _ _ w2 λc hc o e=>up c o (λy=>p.z2 (y▸hc)) e) pr λc o h U c3 c4 e=>up c o h (ke c o h U c3 c4 e)
theorem aDi{Q:Iz->ak->Prop}(L:km Ω w A i1 f1 n1 P1 S1)(K:km Ω w A i2 f2 n2 P2 S2)(p:MK z TI TO i1 i2 f1 f2)(l:iq s.heap z TI TO .none)(hI:gj s.heap TI (.ref i1) (.ref i2))(hO:gj s.heap TO a b)
  (x1:S1 k s.heap) (x2:S2 k s.heap) (X:k=n1\/(k<n1/\k=n2))
  (q:∀h' e tk,(∀c o,c≠z->c≠TO->c≠i1->c≠i2->s.heap.get? c=ab o->h'.get? c=ab o)->(∃o,h'.get? e=ab o/\o.cls=.type "StopIteration")->E (.ref e) {s with heap:=h',toks:=tk}):
  ax (au Ω w) A (Builtin.«zip.__next__» (⟨[.ref z],[]⟩:Args)) Q E s:=by
 delta Builtin.«zip.__next__»;apply ao;apply az;apply ao;show jv l rfl rfl ?_;apply ao;show jv l rfl rfl ?_;apply ao;show n_ hI rfl ?_;show ax (au Ω w) A (Bx (.ref z) >>= _) _ E s;apply ao
 (delta Bx)
 apply ao;show jv l rfl rfl (az ?_);rw[Z_ (by first|rfl|simp)];apply ao;apply je;apply ao;show jv l rfl rfl ?_
 try dsimp only
 apply ao;show uq l (by simp) λZ F j=>?_
 replace F:iq Z z TI TO .ellipsis:=F
 apply ao;rw[show(#[ft i1,ft i2]:Array ai).toList.zipIdx=[(.ref i1,0),(.ref i2,1)] from rfl,oy];apply ao;apply ao;apply Az;show ax _ _ (do let v <- vd (.ref i1);pure (ab v)) _ _ _;apply ao;rcases X with rfl|⟨X,rfl⟩
 .refine L.done {s with heap:=Z} _ _ (eD L x1 p.z1 j.extBut) λJ e d Y=>?_;obtain⟨O,h,m⟩:=Y;have zb:iq J z TI TO .ellipsis:=d _ _ p.q1 F;have U:e≠z:=λy=>by rw[y,zb] at h;cases h;simp at m
  show uq zb (by simp) λI _ sc=>?_;show q I e s.toks (λc o n _ c3 _ y=>sc.extBut _ _ n (d _ _ c3 (j.extBut _ _ n y))) ⟨O,sc.extBut _ _ U h,m⟩
 .refine L.item k {s with heap:=Z} _ _ X (eD L x1 p.z1 j.extBut) λx J tb px y1 d=>az ?_
  try dsimp only at J d ⊢
  have ob:gj J TO a b:=d.extBut _ _ p.p1 (j.extBut _ _ p.zO.symm hO);apply ao;show n_ ob rfl ?_
  try dsimp only
  apply ao;show Hs ob λI oc sc=>?_;apply ao;show og (az ?_)
  try dsimp only
  rw[oy];apply ao;apply ao;apply Az;show ax _ _ (do let v <- vd (.ref i2);pure (ab v)) _ _ _;apply ao;have y2:S2 k I:=eD K (eD K (eD K x2 p.z2 j.extBut) p.c1 d.extBut) p.o2 sc.extBut;show K.done {s with heap:=I,toks:=tb} _ _ y2 λgd e sd Y=>?_;obtain⟨O,h,m⟩:=Y;have zd:iq gd z TI TO .ellipsis:=sd _ _ p.q2 (sc.extBut _ _ p.zO (d.extBut _ _ p.q1 F));have U:e≠z:=λy=>by rw[y,zd] at h;cases h;simp at m
  show uq zd (by simp) λgf _ sf=>?_;show q gf e tb (λc o n c2 c3 c4 y=>sf.extBut _ _ n (sd _ _ c4 (sc.extBut _ _ c2 (d.extBut _ _ c3 (j.extBut _ _ n y))))) ⟨O,sf.extBut _ _ U h,m⟩
theorem IZ(K:km Ω w A.in1 i1 f1 n1 P1 S1)(J:km Ω w A.in1 i2 f2 n2 P2 S2)(p:MK z TI TO i1 i2 f1 f2):
  WalksT Ω w A z (z::TI::TO::(f1++f2)) [z,TO,i1,i2] (min n1 n2) (λi vals=>∃x y,P1 i x/\P2 i y/\vals=#[x,y])
   (λi h=>iq h z TI TO .none/\gj h TI (.ref i1) (.ref i2)/\(∃a b,gj h TO a b)/\S1 i h/\S2 i h)
   (λi T h=>(iq h z TI TO (rawInt T)/\gj h TI (.ref i1) (.ref i2)/\(∃a b,gj h TO a b)/\S1 (i+1) h/\S2 (i+1) h)/\T≠z/\T≠TO/\T≠i1/\T≠i2) where
 sub:=λc d=>by
  have m1:=p.m1;have m2:=p.m2;erw[bu,ie,jh,or_false] at d ⊢;rcases d with rfl|rfl|rfl|rfl
  .exact .inl rfl
  .exact .inr (.inr (.inl rfl))
  .exact .inr (.inr (.inr (.inl m1)))
  .exact .inr (.inr (.inr (.inr m2)))
 frame:=λi h h' ⟨l,I,⟨x,y,F⟩,n,m⟩ k=>by
  show⟨k _ (by simp) _ l,k _ (by simp) _ I,⟨x,y,k _ (by simp) _ F⟩,K.frame _ _ _ n λc d o e=>k c ?_ o e,J.frame _ _ _ m λc d o e=>k c ?_ o e⟩
  .exact .tail _ (.tail _ (.tail _ (lh _ d)))
  .exact .tail _ (.tail _ (.tail _ (ir _ d)))
 item:=λi s Q E hi ⟨l,I,⟨x,y,F⟩,n,m⟩ q=>by have ty:s.TypeIs (.ref z) "zip":=⟨_,l,rfl⟩;delta pyNext;show ao (rh (pf (name:=jn "__next__") ty vb (jw vb ty Jb ?_ (Jf _))));show ML K J p l I F n m ∅ ∅ λu v h' O pu Z b1 b2 b3 b4 b5 L=>az ?_;have fresh:∀{c:ah} {o:ay},s.heap.get? c=ab o->↥s≠c:=λe=>ni (cf e);obtain⟨o1,e1⟩:=K.live _ _ n;obtain⟨o2,e2⟩:=J.live _ _ m;show q ↥s #[u,v] h' O ⟨u,v,pu,Z,rfl⟩ (bq _) ⟨_,b5,rfl,_,rfl⟩ ⟨⟨b1,L _ _ p.zI.symm p.OI.symm p.I1 p.I2 I,⟨_,_,b2⟩,b3,b4⟩,fresh l,fresh F,fresh e1,fresh e2⟩ λc o d e=>?_;erw[bu,jh,or_false,not_or] at d;show L c o d.1 d.2.1 d.2.2.1 d.2.2.2 e
 go:=λelts k ν i T s Q E ⟨⟨l,I,⟨x,y,F⟩,n,m⟩,_⟩ q=>by show wpAny_letOwnedTupleGo_zip l λh' U j=>q h' ⟨U,j.extBut _ _ p.zI.symm I,⟨x,y,j.extBut _ _ p.zO.symm F⟩,eD K n p.z1 j.extBut,eD J m p.z2 j.extBut⟩ λc o d e=>?_;erw[bu,jh,or_false,not_or] at d;show j.extBut _ _ d.1 e
 apart:=λi T h ⟨_,t1,t2,t3,t4⟩ X=>by
  erw[bu,jh,or_false] at X;rcases X with e|e|e|e
  .exact t1 e
  .exact t2 e
  .exact t3 e
  .exact t4 e
 done:=λs Q E ⟨l,I,⟨x,y,F⟩,n,m⟩ q=>by have ty:s.TypeIs (.ref z) "zip":=⟨_,l,rfl⟩;delta pyNext;show ao (rh (pf (name:=jn "__next__") ty vb (jw vb ty Jb ?_ (Jf _))));show aDi K J p l I F n m ∅ λh' e O L he=>?_;obtain⟨oe,ge,ce⟩:=he;show ao (Bb (T:="StopIteration") (b:=ae) ⟨oe,ge,ce⟩ a0z (az (q h' O λc o d e=>?_)));erw[bu,jh,or_false,not_or] at d;show L c o d.1 d.2.1 d.2.2.1 d.2.2.2 e
 self:=λi s Q E Y q=>wq Y.1 q
theorem JA(L:km Ω w A.in1 i1 f1 n1 P1 S1)(K:km Ω w A.in1 i2 f2 n2 P2 S2)(p:MK z TI TO i1 i2 f1 f2):
  E4 Ω w A z [z,TO,i1,i2] (min n1 n2) (λi vals=>∃x y,P1 i x/\P2 i y/\vals=#[x,y])
   (λi h=>iq h z TI TO .none/\gj h TI (.ref i1) (.ref i2)/\(∃a b,gj h TO a b)/\S1 i h/\S2 i h)
   (λi T h=>(iq h z TI TO (rawInt T)/\gj h TI (.ref i1) (.ref i2)/\(∃a b,gj h TO a b)/\S1 (i+1) h/\S2 (i+1) h)/\T≠z/\T≠TO/\T≠i1/\T≠i2):=by
 intro i s Q E hi ⟨j,J,⟨x,y,I⟩,F,n⟩ q;have ty:s.TypeIs (.ref z) "zip":=⟨_,j,rfl⟩;delta pyNext;show ao (rh (pf (name:=jn "__next__") ty vb (jw vb ty Jb ?_ (Jf _))));show ML L K p j J I F n ∅ ∅ λu v h' O X U b1 Z b3 b4 m l=>az ?_;have fresh:∀{c:ah} {o:ay},s.heap.get? c=ab o->↥s≠c:=λe=>ni (cf e);obtain⟨o1,e1⟩:=L.live _ _ F;obtain⟨o2,Y⟩:=K.live _ _ n;show q ↥s #[u,v] h' O ⟨u,v,X,U,rfl⟩ (bq _) ⟨_,m,rfl,_,rfl⟩ (BL.is m rfl) ⟨⟨b1,l _ _ p.zI.symm p.OI.symm p.I1 p.I2 J,⟨_,_,Z⟩,b3,b4⟩,fresh j,fresh I,fresh e1,fresh Y⟩ λc o d e=>?_;erw[bu,jh,or_false,not_or] at d;show l c o d.1 d.2.1 d.2.2.1 d.2.2.2 e
end
open PySem.SeqAt
end L4
namespace L9
open PySem.SeqAt PySem.Spec PyProof.Rows L2 L3 L4 L5
open MeetsSeq3 MeetsSeq2 MeetsSeq
open AutoSeq1 (wpAny_loadPart')  -- objects read
def Eh(A:bt)(s:ak)(x y:ai)(r:Bool):Prop :=
 ∀(Ω:bh) (w:bg) (E:Q0c) (Q:Q0c),Q (.bool r) s->ax (au Ω w) A (richCompare .Lt x y) Q E s
variable{X:Cx}
def Nl{K:aq}{S:ah->Prop}{H:Hp}{a b:D}{xs:List V}(h:aM K S H [a,b] xs):∃u w,xs=[u,w]/\Dn K S H a u/\Dn K S H b w:=by erw[aM] at h;obtain⟨u,r,rfl,d,w,j,rfl,h2,rfl⟩:=h;show⟨u,w,rfl,d,h2⟩
end L9
namespace L9
open PySem.SeqAt PySem.Spec PyProof.Rows L2 L3 L4 L5 PySem.W LM
variable{X:Cx}
def map_getD{α:Type}(xs:List α)(z:α):(cj ⇑xs).map (λi=>xs.getD i z)=xs:=by
 show qa λi=>?_;rw[c_];by_cases h:i<⇑xs
 .rw [qr h];simp[h]
 .rw [ig ↑h,ig ↑h];rfl
end L9
namespace L4
open PySem.SeqAt PySem.Spec PyProof.Rows L2 L3
open PySem.W
abbrev eK(a:nc)(it:Array fj)(p:Array Nat)(q:Array (Nat×Nat×Nat))(g:Nat):dj:=pk a (p.map (b_ it)) q g af
def Asks(Ω:bh)(w:bg)(A:bt)(s:ak)(a:nc)(it:Array fj)(n:Nat)(lt:Nat->Nat->Bool):Prop :=
 ∀(i j:Nat) (C:Bool->ak->Prop),i<n->j<n->C (lt i j) s->kas_cmp Ω w A a it i j C s
def uA:Bool->fj->Array fj->Nat->Nat->Nat->StateT dj gr (Option Nat):=sortPriv% PySem.Builtin.gallop
section
variable{Ω:bh}{w:bg}{A:bt}{E:Q0c}{s:ak}{κ:nc}{it:Array fj}{n:Nat}{lt:Nat->Nat->Bool}
theorem FT(m:Asks Ω w A s κ it n lt)(d:i<n)(a:j<n)(h:Q (ab (lt i j)) (eK κ it p q g)):
  wpS (au Ω w) A E s (lt' (b_ it i) (b_ it j)) Q (eK κ it p q g):=by
 rw[lt'_eq];show bj (oq ?_);show bj (r_ (rh (jl (m i j (λc s'=>c=lt i j/\s'=s) d a ⟨rfl,rfl⟩) (λc s' l=>?_) λ_ _ z=>z.elim)));obtain⟨rfl,rfl⟩:=l;show⟨rfl,cc h⟩
def fA{a:Array Nat}{i:Nat}{d:dj}{Q:fj->dj->Prop}(j:i<a.size)(h:Q (b_ it (a.getD i 0)) d):wpS (au Ω w) A E s (elem' (a.map (b_ it)) i) Q d:=by
 rw[elem'_eq];have e:(a.map (b_ it))[i]?=ab (b_ it (a.getD i 0)):=by simp[mq,j]
 rw[e];show cc h
theorem z7{left:Bool}{key:Nat}{arr:Array Nat}{ω cnt hint:Nat}{p:Array Nat}{q:Array (Nat×Nat×Nat)}{g:Nat}{Q:Option Nat->dj->Prop}(hA:Asks Ω w A s κ it n lt)(hk:key<n)(J:ω+cnt<=arr.size)(hn:∀i,i<arr.size->arr.getD i 0<n)(hh:hint<cnt)
  (B:Nat->Bool) (hB:∀i,i<cnt->B i=if left=ae then lt (arr.getD (ω+i) 0) key else !lt key (arr.getD (ω+i) 0)) (mono:∀i j,i<=j->j<cnt->B j=ae->B i=ae)
  (h:∀k,k<=cnt->(∀i,i<k->B i=ae)->(∀i,k<=i->i<cnt->B i=ag)->Q (ab k) (eK κ it p q g)):
  wpS (au Ω w) A E s (uA left (b_ it key) (arr.map (b_ it)) ω cnt hint) Q (eK κ it p q g):=by
 have ask:∀(i:Nat) (R:Option Bool->dj->Prop),i<cnt->R (ab (B i)) (eK κ it p q g)->wpS (au Ω w) A E s (do
   let x <- elem' (arr.map (b_ it)) (ω+i)
   if left then lt' x (b_ it key) else return (<- lt' (b_ it key) x).map (!·)) R (eK κ it p q g):=λi R F O=>by
  show bj (fA ∅ ?_);rw[hB i F] at O
  cases left with
  |true=>show FT hA (hn _ ∅) hk O
  |false=>show bj (FT hA hk (hn _ ∅) (cc O))
 have fin:∀lo F:Nat,lo<=F->F<=cnt->(∀i,i<lo->B i=ae)->(∀i,F<=i->i<cnt->B i=ag) ->∀R:Option (Option Nat)×Nat×Nat->dj->Prop,(∀l k,k<=cnt->(∀i,i<k->B i=ae)->(∀i,k<=i->i<cnt->B i=ag)->R (af,l,k) (eK κ it p q g))->wpS (au Ω w) A E s (forIn [0:cnt] ((af,lo,F):Option (Option Nat)×Nat×Nat) λ_ c=>if c.2.1 >= c.2.2 then pure (.done (af,c.2.1,c.2.2)) else do
   let x <- (do
    let x <- elem' (arr.map (b_ it)) (ω+(c.2.1+(c.2.2-c.2.1)/2))
    if left then lt' x (b_ it key) else return (<- lt' (b_ it key) x).map (!·):StateT dj gr (Option Bool))
   match x with
   |some m=>if m=ae then pure (.yield (af,c.2.1+(c.2.2-c.2.1)/2+1,c.2.2)) else pure (.yield (af,c.2.1,c.2.1+(c.2.2-c.2.1)/2))
   |_=>pure (.done (ab af,c.2.1,c.2.2))) R (eK κ it p q g):=λlo F U h2 h3 h4 R O=>by
  show jq (I:=λx c d=>d=eK κ it p q g /\∃l k,c=(af,l,k)/\l<=k/\k<=cnt/\k-l<=cnt-x/\(∀i,i<l->B i=ae)/\(∀i,k<=i->i<cnt->B i=ag)) ?_ ?_ ⟨rfl,lo,F,rfl,U,h2,∅,h3,h4⟩
  .rintro x c d _ hx ⟨rfl,l,k,rfl,X,v,y,a,L⟩;dsimp only;by_cases K:l >= k
   .rw [Z_ K];show cc (O l k v (λi F=>a i ∅) L)
   .rw [Zz K];show bj (ask _ _ ∅ ?_)
    cases J:B (l+(k-l)/2) with
    |true =>
     show cc ⟨rfl,_,_,rfl,∅,v,∅,λi F=>?_,L⟩;show mono i _ ∅ ∅ J
    |false =>
     show cc ⟨rfl,_,_,rfl,∅,∅,∅,a,λi U h2=>?_⟩
     cases hb2:B i with
     |false=>rfl
     |true=>rw[mono _ i U h2 hb2] at J;cases J
  .rintro c d ⟨rfl,l,k,rfl,X,v,y,a,L⟩;show O l k v (λi F=>a i ∅) L
 delta uA;show bj (ask hint _ hh ?_)
 cases hr:B hint with
 |true =>
  show bj (kn (jq (I:=λx c d=>d=eK κ it p q g /\∃l o,c=(af,l,o)/\x<o/\l<o/\hint+l<cnt/\B (hint+l)=ae) (Q:=λc d=>d=eK κ it p q g /\∃l o,c=(af,l,o)/\l<o/\hint+l<cnt/\B (hint+l)=ae/\(o<cnt-hint->B (hint+o)=ag)) ?_ ?_ ⟨rfl,0,1,rfl,∅,∅,∅,hr⟩) ?_)
  .rintro x c d _ hx ⟨rfl,l,o,rfl,X,v,y,a⟩;dsimp only;by_cases K:o >= cnt-hint
   .rw [Z_ K];show cc ⟨rfl,l,o,rfl,v,y,a,λz=>∅⟩
   .rw [Zz K];show bj (ask _ _ ∅ ?_)
    cases J:B (hint+o) with
    |true=>show cc ⟨rfl,_,_,rfl,∅,∅,∅,J⟩
    |false=>show cc ⟨rfl,l,o,rfl,v,y,a,λ_=>J⟩
  .rintro c d ⟨rfl,l,o,rfl,X,v,y,a⟩;show⟨rfl,l,o,rfl,v,y,a,λz=>∅⟩
  .rintro c d ⟨rfl,l,o,rfl,v,y,a,L⟩;dsimp only;show bj (fin _ _ ∅ ∅ (λi F=>mono i (hint+l) ∅ y a) (λi U h2=>?_) _ λl k k1 Z Y=>cc (h k k1 Z Y))
   cases hb2:B i with
   |false=>rfl
   |true =>
    have:=L ∅;rw[mono _ i ∅ h2 hb2] at this;cases this
 |false =>
  show bj (kn (jq (I:=λx c d=>d=eK κ it p q g /\∃l o,c=(af,l,o)/\x<o/\l<o/\l<=hint/\B (hint-l)=ag) (Q:=λc d=>d=eK κ it p q g /\∃l o,c=(af,l,o)/\l<o/\l<=hint/\B (hint-l)=ag/\(o<hint+1->B (hint-o)=ae)) ?_ ?_ ⟨rfl,0,1,rfl,∅,∅,∅,hr⟩) ?_)
  .rintro x c d _ hx ⟨rfl,l,o,rfl,X,v,y,a⟩;dsimp only;by_cases K:o >= hint+1
   .rw [Z_ K];show cc ⟨rfl,l,o,rfl,v,y,a,λz=>∅⟩
   .rw [Zz K];show bj (ask _ _ ∅ ?_)
    cases J:B (hint-o) with
    |true=>show cc ⟨rfl,l,o,rfl,v,y,a,λ_=>J⟩
    |false=>show cc ⟨rfl,_,_,rfl,∅,∅,∅,J⟩
  .rintro c d ⟨rfl,l,o,rfl,X,v,y,a⟩;show⟨rfl,l,o,rfl,v,y,a,λz=>∅⟩
  .rintro c d ⟨rfl,l,o,rfl,v,y,a,L⟩;dsimp only;show bj (fin _ _ ∅ ∅ (λi F=>mono i (hint-o) ∅ ∅ (L ∅)) (λi U h2=>?_) _ λl k k1 Z Y=>cc (h k k1 Z Y))
   cases hb2:B i with
   |false=>rfl
   |true =>
    rw[mono _ i U h2 hb2] at a;cases a
end
def FU:Array fj->Array fj->StateT dj gr (Array fj):=sortPriv% PySem.Builtin.mergeLo
def FV:Array fj->Array fj->StateT dj gr (Array fj):=sortPriv% PySem.Builtin.mergeHi
section
variable{lt:Nat->Nat->Bool}{all out xs ys u v:List Nat}
abbrev UpL(lt:Nat->Nat->Bool)(l:List Nat):Prop:=l.Pairwise λa b=>lt b a=ag
structure Mg (lt:Nat->Nat->Bool) (all out xs ys:List Nat):Prop where
 pm:(out++(xs++ys)).Perm all
 ux:UpL lt (out++xs)
 uy:UpL lt (out++ys)
def Mg.swap(h:Mg lt all out xs ys):Mg lt all out ys xs:=⟨((List.perm_append_comm).append_left out).trans h.pm,h.uy,h.ux⟩
def Mg.mv(h:Mg lt all out (u++v) ys)(n:∀a∈u,∀b∈ys,lt b a=ag):Mg lt all (out++u) v ys:=by
 obtain⟨pm,j,m⟩:=h;have e:=Cu out u v;show⟨↑pm,by rw[e];show j,?_⟩;rw[<- e] at j;have a:=xx.1 m;show xx.2 ⟨(xx.1 j).1,a.2.1,λx d y l=>?_⟩;rcases ie.1 d with d|d
 .exact a.2.2 x d y l
 .exact n x d y l
end
def xF:UpL lt a.toList↔Up lt a a.size:=by
 delta UpL Up;rw[xw];show⟨λh i j d l=>?_,λh i j m l d=>?_⟩
 .have:=h i j (by simp;lia) ↑l d;simpa[mq,l,xo d l] using this
 .have l:j<a.size:=by simpa using l
  have:=h i j d l;simpa[mq,l,xo d l] using this
def uB{a:Array Nat}{i x:Nat}(h:x∈a.toList.drop i):∃j,i<=j/\j<a.size/\x=a.getD j 0:=by obtain⟨k,d,e⟩:=qq h;rw[tu,iu] at d;show⟨i+k,∅,∅,?_⟩;rw[<- e,Kw];simp[mq,show i+k<a.size by lia]
def aAT{a:Array Nat}{i x:Nat}(h:x∈a.toList.take i):∃j,j<i/\j<a.size/\x=a.getD j 0:=by obtain⟨k,d,e⟩:=qq h;rw[js,iu] at d;show⟨k,∅,∅,?_⟩;rw[<- e,Kv];simp[mq,show k<a.size by lia]
def VT{a:Array Nat}{j:Nat}(h:j<a.size):a.getD j 0∈a.toList:=by simp[mq,h]
def Mk(lt:Nat->Nat->Bool)(it:Array fj)(all:List Nat)(a b:Array Nat)(c:Nat)(out:Array fj)(i j:Nat):Prop :=
 ∃o:Array Nat,out=o.map (b_ it)/\Mg lt all o.toList (a.toList.drop i) (b.toList.drop j)/\c<=o.size
def Res(lt:Nat->Nat->Bool)(it:Array fj)(all:List Nat)(r:Array fj):Prop:=∃m:Array Nat,r=m.map (b_ it)/\m.toList.Perm all/\UpL lt m.toList
section
variable{lt:Nat->Nat->Bool}{it:Array fj}{all:List Nat}{a b:Array Nat}{c i j k:Nat}{out:Array fj}
def Mk.swap(h:Mk lt it all a b c out i j):Mk lt it all b a c out j i:=by obtain⟨o,e,m,d⟩:=h;show⟨o,e,m.swap,d⟩
def Mk.few(h:Mk lt it all a b c out i j)(l:d<=c):Mk lt it all a b d out i j:=by obtain⟨o,e,m,n⟩:=h;show⟨o,e,m,∅⟩
def Mk.size(h:Mk lt it all a b c out i j):c+(a.size-i)+(b.size-j)<=⇑all:=by obtain⟨o,e,m,d⟩:=h;have:=m.pm.length_eq;erw[gk,tu,iu] at this;lia
theorem Mk.mv(h:Mk lt it all a b c out i j)(F:i+k<=a.size)(p:∀x y,i<=x->x<i+k->j<=y->y<b.size->lt (b.getD y 0) (a.getD x 0)=ag):
  Mk lt it all a b (c+k) (out++(a.map (b_ it)).extract i (i+k)) (i+k) j:=by
 obtain⟨o,e,m,I⟩:=h;have z:a.toList.drop i=(a.extract i (i+k)).toList++a.toList.drop (i+k):=by rw[ym,yf,a12,<- List.drop_drop,vm]
 rw[z] at m;show⟨o++a.extract i (i+k),by rw[e,Di,v_],?_,?_⟩
 .rw [uf];show m.mv λx d y n=>?_;obtain⟨A,y1,l,rfl⟩:=uB n;rw[ym,yf,a12] at d;obtain⟨q,v,e⟩:=qq d;rw[js,tu,iu] at v;have:x=a.getD (i+q) 0:=by rw[<- e,Kv,Kw];simp[mq,show i+q<a.size by lia]
  rw[this];show p _ _ ∅ ∅ y1 l
 .simp [Lk];lia
def Mk.push(h:Mk lt it all a b c out i j)(d:i<a.size)(m:∀y,j<=y->y<b.size->lt (b.getD y 0) (a.getD i 0)=ag):Mk lt it all a b (c+1) (out.push (b_ it (a.getD i 0))) (i+1) j:=by
 have:=h.mv (k:=1) ∅ λx y x1 n y1 l=>by rw[show x=i by lia];show m y y1 l
 have e:(a.map (b_ it)).extract i (i+1)=#[b_ it (a.getD i 0)]:=by rw[a2U ∅ ↑d];have e0:(a.map (b_ it)).extract i i=#[]:=qw (bq _);rw[e0];simp[mq,d]
 rwa [e] at this
def Mk.fin(h:Mk lt it all a b c out i j)(d:b.size<=j):Res lt it all (out++(a.map (b_ it)).extract i a.size++(b.map (b_ it)).extract j b.size):=by
 obtain⟨o,e,m,q⟩:=h;have n:b.toList.drop j=[]:=vw ↑d;have l:(a.extract i a.size).toList=a.toList.drop i:=by rw[ym,yf,<- iu,<- tu,tj]
 have p:(b.map (b_ it)).extract j b.size=#[]:=by simp[d]
 show⟨o++a.extract i a.size,by rw[e,p,uh,Di,v_],?_,?_⟩
 .have:=m.pm;rw[n,lr] at this
  rwa [uf,l]
 .rw [uf,l];show m.ux
def Mk.fin'(h:Mk lt it all a b c out i j)(d:a.size<=i):Res lt it all (out++(a.map (b_ it)).extract i a.size++(b.map (b_ it)).extract j b.size):=by have r:=h.swap.fin d;rw[show(a.map (b_ it)).extract i a.size=#[] from qw d,uh] at r ⊢;show r
def Mk.last(h:Mk lt it all a b c out i j)(o:i+1=a.size)(d:∀y∈b.toList,lt (a.getD (a.size-1) 0) y=ag):Res lt it all (out++(b.map (b_ it)).extract j b.size++(a.map (b_ it)).extract i a.size):=by
 by_cases n:j<=b.size
 .have:=h.swap.mv (k:=b.size-j) ∅ λx y x1 m y1 l=>by rw[show y=a.size-1 by lia];show d _ (VT ∅)
  rw[show j+(b.size-j)=b.size by lia] at this;have r:=this.swap.fin (bq _)
  rwa [show(b.map (b_ it)).extract b.size b.size=#[] from qw (bq _),uh] at r
 .have r:=h.fin ∅;rw[show(b.map (b_ it)).extract j b.size=#[] from qw ∅,uh] at r ⊢;show r
variable{Ω:bh}{w:bg}{A:bt}{E:Q0c}{s:ak}{κ:nc}{n:Nat}
def aU{α:Type}{c:Prop}[Decidable c]{t e:StateT dj gr α}{Q:α->dj->Prop}{d:dj}{M:r6}(l:c->wpS M A E s t Q d)(h2:¬ c->wpS M A E s e Q d):wpS M A E s (if c then t else e) Q d:=by
 by_cases h:c
 .rw [Z_ h];show l h
 .rw [Zz h];show h2 h
def rQ{α l h:Type}{F:l->h->StateT dj gr α}{P:l->h->Prop}{m:StateT dj gr α}{Q:α->dj->Prop}{d:dj}{M:r6}(o:∀x y,P x y->wpS M A E s (F x y) Q d)(h2:(∀x y,P x y->wpS M A E s (F x y) Q d)->wpS M A E s m Q d):wpS M A E s m Q d:=h2 o
theorem VU{key:Nat}{arr:Array Nat}{ω cnt hint:Nat}{p:Array Nat}{q:Array (Nat×Nat×Nat)}{g:Nat}{Q:Option Nat->dj->Prop}(I:Asks Ω w A s κ it n lt)(O:fY lt)(x:key<n)(F:ω+cnt<=arr.size)(v:∀i,i<arr.size->arr.getD i 0<n)(z:hint<cnt)(up:∀i j,ω<=i->i<j->j<ω+cnt->lt (arr.getD j 0) (arr.getD i 0)=ag)
  (h:∀k,k<=cnt->(∀i,ω<=i->i<ω+k->lt key (arr.getD i 0)=ag)->(∀i,ω+k<=i->i<ω+cnt->lt key (arr.getD i 0)=ae)->Q (ab k) (eK κ it p q g)):
  wpS (au Ω w) A E s (uA ag (b_ it key) (arr.map (b_ it)) ω cnt hint) Q (eK κ it p q g):=by
 show z7 I x F v z (λi=>!lt key (arr.getD (ω+i) 0)) (λ_ _=>rfl) (λi j y K d=>?_) λk o m l=>h k o (λi J h2=>?_) λi J h2=>?_
 .by_cases e:i=j
  .rw [e];show d
  .have d:lt key (arr.getD (ω+j) 0)=ag:=by simpa using d
   have:=O.tr _ _ _ (up (ω+i) (ω+j) ∅ ∅ ∅) d;simpa using this
 .have:=m (i-ω) ∅;rw[show ω+(i-ω)=i by lia] at this;simpa using this
 .have:=l (i-ω) ∅ ∅;rw[show ω+(i-ω)=i by lia] at this;simpa using this
theorem VV{key:Nat}{arr:Array Nat}{ω cnt hint:Nat}{p:Array Nat}{q:Array (Nat×Nat×Nat)}{g:Nat}{Q:Option Nat->dj->Prop}(I:Asks Ω w A s κ it n lt)(O:fY lt)(x:key<n)(F:ω+cnt<=arr.size)(v:∀i,i<arr.size->arr.getD i 0<n)(z:hint<cnt)(up:∀i j,ω<=i->i<j->j<ω+cnt->lt (arr.getD j 0) (arr.getD i 0)=ag)
  (h:∀k,k<=cnt->(∀i,ω<=i->i<ω+k->lt (arr.getD i 0) key=ae)->(∀i,ω+k<=i->i<ω+cnt->lt (arr.getD i 0) key=ag)->Q (ab k) (eK κ it p q g)):
  wpS (au Ω w) A E s (uA ae (b_ it key) (arr.map (b_ it)) ω cnt hint) Q (eK κ it p q g):=by
 show z7 I x F v z (λi=>lt (arr.getD (ω+i) 0) key) (λ_ _=>rfl) (λi j y K d=>?_) λk o m l=>h k o (λi J h2=>?_) λi J h2=>?_
 .by_cases e:i=j
  .rw [e];show d
  .cases hc:lt (arr.getD (ω+i) 0) key with
   |true=>rfl
   |false =>
    have:=O.tr _ _ _ hc (up (ω+i) (ω+j) ∅ ∅ ∅);rw[this] at d;cases d
 .have:=m (i-ω) ∅
  rwa [show ω+(i-ω)=i by lia] at this
 .have:=l (i-ω) ∅ ∅
  rwa [show ω+(i-ω)=i by lia] at this
inductive On {R A B C β:Type} (S:Nat->dj) (P:A->B->C->Prop):Option R×A×B×C×β->dj->Prop
 |mk (g:Nat) (x:A) (y:B) (z:C) (r:β) (h:P x y z):On S P (af,x,y,z,r) (S g)
inductive Fn {R A B C β:Type} (S:Nat->dj) (F:R->Prop) (P:A->B->C->Prop):Option R×A×B×C×β->dj->Prop
 |fin (g:Nat) (x:A) (y:B) (z:C) (r:β) (w:R) (h:F w):Fn S F P (ab w,x,y,z,r) (S g)
 |on (g:Nat) (x:A) (y:B) (z:C) (r:β) (h:P x y z):Fn S F P (af,x,y,z,r) (S g)
structure Jl (lt:Nat->Nat->Bool) (it:Array fj) (all:List Nat) (a b:Array Nat) (c:Nat) (out:Array fj) (i j:Nat):Prop where
 M:Mk lt it all a b c out i j
 i1:i+1<a.size
 j1:j<b.size
theorem Wq{a b:Array Nat}{p:Array Nat}{q:Array (Nat×Nat×Nat)}{g:Nat}{Q:Array fj->dj->Prop}(hA:Asks Ω w A s κ it n lt)(O:fY lt)(ha:1<=a.size)(hb:1<=b.size)(an:∀i,i<a.size->a.getD i 0<n)(bn:∀i,i<b.size->b.getD i 0<n)
  (ua:Up lt a a.size) (ub:Up lt b b.size) (h1:∀i,i<a.size->lt (a.getD i 0) (b.getD 0 0)=ag) (h2:∀y∈b.toList,lt (a.getD (a.size-1) 0) y=ag)
  (h:∀(r:Array fj) (g:Nat),Res lt it (a.toList++b.toList) r->Q r (eK κ it p q g)):
  wpS (au Ω w) A E s (FU (a.map (b_ it)) (b.map (b_ it))) Q (eK κ it p q g):=by
 obtain⟨all,U⟩:∃l,l=a.toList++b.toList:=⟨_,rfl⟩;have tot:⇑all=a.size+b.size:=by rw[U];simp
 rw[<- U] at h;have M0:Mk lt it all a b 0 #[] 0 0:=⟨#[],by simp,⟨by rw[U];simp,by simpa using xF.2 ua,by simpa using xF.2 ub⟩,by simp⟩;have M1:=(M0.swap.push ∅ λy _ hy=>h1 y hy).swap;rw[ql] at M1;have b0:#[].push (b_ it (b.getD 0 0))=#[b_ it (b.getD 0 0)]:=rfl;rw[b0] at M1
 -- whose turn it is
 have bw:∀{i j:Nat},j<b.size->lt (b.getD j 0) (a.getD i 0)=ae ->∀y,i<=y->y<a.size->lt (a.getD y 0) (b.getD j 0)=ag:=λ{i j} o Y y y1 y2=>by
  by_cases e:y=i
  .rw [e];show O.as _ _ Y
  .exact O.tr _ _ _ (O.as _ _ Y) (ua i y ∅ y2)
 have aw:∀{i j:Nat},i<a.size->lt (b.getD j 0) (a.getD i 0)=ag ->∀y,j<=y->y<b.size->lt (b.getD y 0) (a.getD i 0)=ag:=λ{i j} K Y y y1 y2=>by
  by_cases e:y=j
  .rw [e];show Y
  .exact O.tr _ _ _ Y (ub j y ∅ y2)
 delta FU;show bj (r_ (je ⟨rfl,?_⟩));show bj (fA ∅ ?_);simp -zeta -zetaHave only[Lj,beq_iff_eq]
 extract_lets out ia ib
 by_cases e1:1=b.size
 .rw [Z_ e1];show cc (h _ g (M1.fin ∅))
 rw[Zz e1];by_cases e2:0+1=a.size
 .rw [Z_ e2];show cc (h _ g (M1.last e2 h2))
 rw[Zz e2];show bj (oq ?_)
 extract_lets mg
 show bj (kn (jq (I:=λx=>On (eK κ it p q) (Jl lt it all a b (x+1))) (Q:=Fn (eK κ it p q) (Res lt it all) λ_ _ _=>False) ?_ ?_ (On.mk _ _ _ _ _ ⟨M1,show 0+1<a.size by lia,show 1<b.size by lia⟩)) ?_)
 .rintro x _ _ _ hx ⟨g,out,i,j,mg,M,K,o⟩
  extract_lets
  show bj (kn (jq (I:=λy=>On (eK κ it p q) (Jl lt it all a b (x+1+y))) (Q:=Fn (eK κ it p q) (Res lt it all) (Jl lt it all a b (x+2))) ?_ ?_ (On.mk _ _ _ _ _ ⟨M,K,o⟩)) ?_)
  .rintro y _ _ _ hy ⟨g,out,i,j,⟨ac,bc⟩,M,K,o⟩;dsimp only;show bj (fA o (bj (fA (show i<a.size by lia) (bj (FT hA (bn _ o) (an _ ∅) ?_)))))
   cases Y:lt (b.getD j 0) (a.getD i 0) with
   |true =>
    have J:=(M.swap.push o (bw o Y)).swap;show bj (fA o ?_);show aU (λe=>cc (.fin _ _ _ _ _ _ (J.fin ∅))) λe=>aU (λ_=>cc (.on _ _ _ _ _ ⟨J.few (d:=x+2) ∅,K,show j+1<b.size by lia⟩)) λ_=>cc (.mk _ _ _ _ _ ⟨J,K,show j+1<b.size by lia⟩)
   |false =>
    have J:=M.push ∅ (aw ∅ Y);show bj (fA (show i<a.size by lia) ?_);show aU (λe=>cc (.fin _ _ _ _ _ _ (J.last e h2))) λe=>aU (λ_=>cc (.on _ _ _ _ _ ⟨J.few (d:=x+2) ∅,show i+1+1<a.size by lia,o⟩)) λ_=>cc (.mk _ _ _ _ _ ⟨J,show i+1+1<a.size by lia,o⟩)
  .rintro _ _ ⟨g,out,i,j,_,M,K,o⟩;have:=M.size;lia
  .rintro _ _ (⟨g,out,i,j,⟨ac,bc⟩,z,hz⟩|⟨g,out,i,j,⟨ac,bc⟩,M,K,o⟩)
   .exact cc (.fin _ _ _ _ _ _ hz)
   .refine bj (r_ (je ⟨rfl,?_⟩))
    extract_lets
    show bj (kn (jq (I:=λy=>On (eK κ it p q) (Jl lt it all a b (x+2+y))) (Q:=Fn (eK κ it p q) (Res lt it all) (Jl lt it all a b (x+2))) ?_ ?_ (On.mk _ _ _ _ _ ⟨M,K,o⟩)) ?_)
    .rintro y _ _ _ hy ⟨g,out,i,j,⟨mg,ac,bc⟩,M,K,o⟩
     extract_lets -merge
     rename_i jp _;show rQ (F:=jp) (P:=λ_ _=>True) (λ_ m _=>?_) λX=>aU (λ_=>X () _ trivial) λ_=>X () _ trivial;show bj (pj (bj (fA o (bj (VU (ω:=i) (cnt:=a.size-i) (hint:=0) hA O (bn _ o) ∅ an ∅ (λx y _ h2 h3=>ua x y h2 ∅) λk k1 k2 Z=>?_)))));have J:=M.mv (k:=k) ∅ λu v u1 u2 v1 v2=>aw ∅ (k2 u u1 u2) v v1 v2
     dsimp -zeta -zetaHave only
     extract_lets -merge
     rename_i jp2 _ _;show rQ (F:=jp2 ()) (P:=λout L=>Mk lt it all a b (x+2+y) out L j/\L+1<a.size /\∀u,L<=u->u<a.size->lt (b.getD j 0) (a.getD u 0)=ae) (λout L ⟨M,K,gt⟩=>?_) λX=>aU (λ(e:k>0)=>?_) λ(e:¬ k>0)=>?_
     .have J:=(M.swap.push o λu u1 u2=>O.as _ _ (gt u u1 u2)).swap;show bj (fA o ?_)
      extract_lets
      show aU (λ(e:j+1=b.size)=>cc (.fin _ _ _ _ _ _ (J.fin ∅))) λ(e:¬ j+1=b.size)=>?_;show bj (fA (show L<a.size by lia) (bj (VV (ω:=j+1) (cnt:=b.size-(j+1)) (hint:=0) hA O (an _ ∅) ∅ bn ∅ (λx y _ h2 h3=>ub x y h2 ∅) λk k1 k2 Z=>?_)));have M3:=(J.swap.mv (k:=k) ∅ λu v u1 u2 v1 v2=>bw ∅ (k2 u u1 u2) v v1 v2).swap
      dsimp -zeta -zetaHave only
      extract_lets -merge
      rename_i jp3 _ _;show rQ (F:=jp3 ()) (P:=λout j'=>Mk lt it all a b (x+2+y) out L j'/\j'<b.size /\∀u,j'<=u->u<b.size->lt (b.getD u 0) (a.getD L 0)=ag) (λout j' ⟨M,o,gt⟩=>?_) λX=>aU (λ(e:k>0)=>?_) λ(e:¬ k>0)=>?_
      .have J:=M.push ∅ λu u1 u2=>gt u u1 u2;show bj (fA (show L<a.size by lia) ?_);show aU (λ(e:L+1+1=a.size)=>cc (.fin _ _ _ _ _ _ (J.last e h2))) λ(e:¬ L+1+1=a.size)=>aU (λ_=>cc (.on _ _ _ _ _ ⟨J.few (d:=x+2) ∅,show L+1+1<a.size by lia,o⟩)) λ_=>cc (.mk _ _ _ _ _ ⟨J,show L+1+1<a.size by lia,o⟩)
      .extract_lets
       show aU (λ(e:j+1+k=b.size)=>cc (.fin _ _ _ _ _ _ (M3.fin ∅))) λ(e:¬ j+1+k=b.size)=>X _ _ ⟨M3.few ∅,show j+1+k<b.size by lia,λu u1 u2=>Z u u1 ∅⟩
      .have:k=0:=∅
       subst this;show X _ _ ⟨J.few ∅,show j+1<b.size by lia,λu u1 u2=>Z u u1 ∅⟩
     .extract_lets
      show aU (λ(e:i+k+1=a.size)=>cc (.fin _ _ _ _ _ _ (J.last e h2))) λ(_:¬ i+k+1=a.size)=>aU (λ(e:i+k=a.size)=>cc (.fin _ _ _ _ _ _ (J.fin' ∅))) λ(e:¬ i+k=a.size)=>X _ _ ⟨J.few ∅,show i+k+1<a.size by lia,λu u1 u2=>Z u u1 ∅⟩
     .have:k=0:=∅
      subst this;show X _ _ ⟨M,K,λu u1 u2=>Z u u1 ∅⟩
    .rintro _ _ ⟨g,out,i,j,_,M,K,o⟩;have:=M.size;lia
    .rintro _ _ (⟨g,out,i,j,⟨mg,ac,bc⟩,z,hz⟩|⟨g,out,i,j,⟨mg,ac,bc⟩,M,K,o⟩)
     .exact cc (.fin _ _ _ _ _ _ hz)
     .refine bj (pj ?_);show cc (.mk _ _ _ _ _ ⟨M,K,o⟩)
 .rintro _ _ ⟨g,out,i,j,_,M,K,o⟩;have:=M.size;lia
 .rintro _ _ (⟨g,out,i,j,mg,z,hz⟩|⟨g,out,i,j,mg,hz⟩)
  .exact cc (h _ _ hz)
  .exact hz.elim
end
def Mh(lt:Nat->Nat->Bool)(it:Array fj)(all:List Nat)(a b:Array Nat)(c:Nat)(out:Array fj)(i j:Nat):Prop :=
 ∃o:Array Nat,out=o.map (b_ it)/\Mg (λx y=>lt y x) all o.toList (a.toList.take i).reverse (b.toList.take j).reverse/\c<=o.size
section
variable{lt:Nat->Nat->Bool}{it:Array fj}{all:List Nat}{a b:Array Nat}{c i j k:Nat}{out:Array fj}
def Mh.swap(h:Mh lt it all a b c out i j):Mh lt it all b a c out j i:=by obtain⟨o,e,m,d⟩:=h;show⟨o,e,m.swap,d⟩
def Mh.few(h:Mh lt it all a b c out i j)(l:d<=c):Mh lt it all a b d out i j:=by obtain⟨o,e,m,n⟩:=h;show⟨o,e,m,∅⟩
def Mh.size(h:Mh lt it all a b c out i j):c+min i a.size+min j b.size<=⇑all:=by obtain⟨o,e,m,d⟩:=h;have:=m.pm.length_eq;erw[gk,List.length_reverse,js,iu] at this;lia
theorem Mh.mv(h:Mh lt it all a b c out i j)(z:k<=i)(I:i<=a.size)(p:∀x y,k<=x->x<i->y<j->y<b.size->lt (a.getD x 0) (b.getD y 0)=ag):
  Mh lt it all a b (c+(i-k)) (out++((a.map (b_ it)).extract k i).reverse) k j:=by
 obtain⟨o,e,m,J⟩:=h;have e0:(a.extract k i).toList=(a.toList.take i).drop k:=by rw[ym,yf,List.drop_take]
 have A:(a.toList.take i).reverse=(a.extract k i).toList.reverse++(a.toList.take k).reverse:=by
  rw[e0,<- List.reverse_append];congr 1
  conv=>lhs;rw[<- vm k (a.toList.take i)]
  rw[List.take_take,a1V z]
 rw[A] at m;show⟨o++(a.extract k i).reverse,by rw[e,Di,a2Q,v_],?_,?_⟩
 .rw [uf,Array.toList_reverse];show m.mv λx d y n=>?_;obtain⟨F,y1,l,rfl⟩:=aAT (a2e.1 n);rw[a2e,e0] at d;obtain⟨q,v,e⟩:=qq d;rw[tu,js,iu] at v;have:x=a.getD (k+q) 0:=by rw[<- e,Kw,Kv];simp[mq,show k+q<a.size by lia]
  rw[this];show p _ _ ∅ ∅ y1 l
 .simp [Lk];lia
def Mh.push(h:Mh lt it all a b c out i j)(o:1<=i)(n:i<=a.size)(l:∀y,y<j->y<b.size->lt (a.getD (i-1) 0) (b.getD y 0)=ag):Mh lt it all a b (c+1) (out.push (b_ it (a.getD (i-1) 0))) (i-1) j:=by
 have:=h.mv (k:=i-1) ∅ ∅ λx y x1 m y1 d=>by rw[show x=i-1 by lia];show l y y1 d
 obtain⟨i,rfl⟩:∃k,i=k+1:=⟨i-1,∅⟩;rw[Nat.add_sub_cancel] at this ⊢;have e:((a.map (b_ it)).extract i (i+1)).reverse=#[b_ it (a.getD i 0)]:=by rw[a2U ∅ (by simp;lia)];have e0:(a.map (b_ it)).extract i i=#[]:=qw (bq _);rw[e0];simp[mq,show i<a.size by lia]
 rw[e,show i+1-i=1 by lia] at this;show this
def Mh.fin(h:Mh lt it all a b c out i 0):Res lt it all ((a.map (b_ it)).extract 0 i++(b.map (b_ it)).extract 0 0++out.reverse):=by
 obtain⟨o,e,m,p⟩:=h;have l:(a.extract 0 i).toList=a.toList.take i:=by rw[ym,yf,qt,xn]
 have n:(b.map (b_ it)).extract 0 0=#[]:=qw (bq _);have d:(a.extract 0 i++o.reverse).toList=(o.toList++(a.toList.take i).reverse).reverse:=by simp[l]
 show⟨a.extract 0 i++o.reverse,by rw[e,n,uh,Di,v_,a2Q],?_,?_⟩
 .rw [d];have:=m.pm;rw[a17,List.reverse_nil,lr] at this;show(Kj _).trans this
 .rw [d];show Kn.2 m.ux
def Mh.we(h:Mh lt it all a b c out i j)(d:i=0):Res lt it all ((a.map (b_ it)).extract 0 i++(b.map (b_ it)).extract 0 j++out.reverse):=by
 subst d;have r:=h.swap.fin;rw[show(a.map (b_ it)).extract 0 0=#[] from qw (bq _)] at r ⊢
 rwa [uh,<- a2X (xs:=(b.map (b_ it)).extract 0 j)] at r
def Mh.Nk(h:Mh lt it all a b c out i j)(d:j=0):Res lt it all ((a.map (b_ it)).extract 0 i++(b.map (b_ it)).extract 0 j++out.reverse):=by subst d;show h.fin
def Mh.last(h:Mh lt it all a b c out i j)(l:j=1)(m:i<=a.size)(p:1<=b.size)(d:∀x,x<a.size->lt (a.getD x 0) (b.getD 0 0)=ag):Res lt it all ((b.map (b_ it)).extract 0 j++(a.map (b_ it)).extract 0 i++out.reverse):=by
 subst l;have:=h.mv (k:=0) ∅ m λx y x1 o y1 n=>by rw[show y=0 by lia];show d _ ∅
 have r:=this.swap.fin;rw[show(a.map (b_ it)).extract 0 0=#[] from qw (bq _),uh,Array.reverse_append,Array.reverse_reverse,<- Array.append_assoc] at r;show r
variable{Ω:bh}{w:bg}{A:bt}{E:Q0c}{s:ak}{κ:nc}{n:Nat}
structure Jh (lt:Nat->Nat->Bool) (it:Array fj) (all:List Nat) (a b:Array Nat) (c:Nat) (i j:Nat) (out:Array fj):Prop where
 M:Mh lt it all a b c out i j
 i1:1<=i
 i2:i<=a.size
 j1:2<=j
 j2:j<=b.size
theorem Wo(hA:Asks Ω w A s κ it n lt)(O:fY lt)(ha:1<=a.size)(hb:1<=b.size)(an:∀i,i<a.size->a.getD i 0<n)(bn:∀i,i<b.size->b.getD i 0<n)
  (ua:Up lt a a.size) (ub:Up lt b b.size) (h1:∀i,i<a.size->lt (a.getD i 0) (b.getD 0 0)=ag) (h2:∀y,y<b.size->lt (a.getD (a.size-1) 0) (b.getD y 0)=ag)
  (h:∀(r:Array fj) (g:Nat),Res lt it (a.toList++b.toList) r->Q r (eK κ it p q g)):
  wpS (au Ω w) A E s (FV (a.map (b_ it)) (b.map (b_ it))) Q (eK κ it p q g):=by
 obtain⟨all,Y⟩:∃l,l=a.toList++b.toList:=⟨_,rfl⟩;have tot:⇑all=a.size+b.size:=by rw[Y];simp
 rw[<- Y] at h;have M0:Mh lt it all a b 0 #[] a.size b.size:=by
  show⟨#[],by simp,⟨?_,?_,?_⟩,by simp⟩
  .rw [Y,<- iu,<- iu,tj,tj];show(Kj _).append (Kj _)
  .rw [<- iu,tj];show Kn.2 (xF.2 ua)
  .rw [<- iu,tj];show Kn.2 (xF.2 ub)
 have M1:=M0.push ∅ ∅ λy _ hy=>h2 y hy;rw[ql] at M1;have b0:#[].push (b_ it (a.getD (a.size-1) 0))=#[b_ it (a.getD (a.size-1) 0)]:=rfl;rw[b0] at M1
 -- whose turn it is
 have aw:∀{u j:Nat},1<=j->j<=b.size->lt (b.getD (j-1) 0) (a.getD u 0)=ae ->∀y,y<j->y<b.size->lt (a.getD u 0) (b.getD y 0)=ag:=λ{u j} h0 hj hl y y1 y2=>by
  by_cases e:y=j-1
  .rw [e];show O.as _ _ hl
  .exact O.tr _ _ _ (ub y (j-1) ∅ ∅) (O.as _ _ hl)
 have bw:∀{i v:Nat},1<=i->i<=a.size->lt (b.getD v 0) (a.getD (i-1) 0)=ag ->∀x,x<i->x<a.size->lt (b.getD v 0) (a.getD x 0)=ag:=λ{i v} h0 hi hl x x1 x2=>by
  by_cases e:x=i-1
  .rw [e];show hl
  .exact O.tr _ _ _ (ua x (i-1) ∅ ∅) hl
 delta FV;show bj (r_ (je ⟨rfl,?_⟩));simp -zeta -zetaHave only[Lj,beq_iff_eq]
 extract_lets
 show bj (fA (show a.size-1<a.size by lia) ?_)
 extract_lets
 show aU (λ(e:a.size-1=0)=>cc (h _ g ?_)) λ(e1:¬ a.size-1=0)=>aU (λ(e:b.size=1)=>cc (h _ g ?_)) λ(e2:¬ b.size=1)=>?_
 .exact M1.we e
 .exact M1.last e ∅ hb h1
 show bj (oq ?_)
 extract_lets
 show bj (kn (jq (I:=λx=>On (eK κ it p q) (Jh lt it all a b (x+1))) (Q:=Fn (eK κ it p q) (Res lt it all) λ_ _ _=>False) ?_ ?_ (On.mk _ _ _ _ _ ⟨M1,show 1<=a.size-1 by lia,show a.size-1<=_ by lia,show 2<=b.size by lia,bq _⟩)) ?_)
 .rintro x _ _ _ hx ⟨g,i,j,out,mg,M,L,o,X,J⟩
  extract_lets
  show bj (kn (jq (I:=λy=>On (eK κ it p q) (Jh lt it all a b (x+1+y))) (Q:=Fn (eK κ it p q) (Res lt it all) (Jh lt it all a b (x+2))) ?_ ?_ (On.mk _ _ _ _ _ ⟨M,L,o,X,J⟩)) ?_)
  .rintro y _ _ _ hy ⟨g,i,j,out,⟨ac,bc⟩,M,L,o,X,J⟩;dsimp only;show bj (fA (show j-1<b.size by lia) (bj (fA (show i-1<a.size by lia) (bj (FT hA (bn _ ∅) (an _ ∅) ?_)))))
   cases hl:lt (b.getD (j-1) 0) (a.getD (i-1) 0) with
   |true =>
    have K:=M.push L o (aw ∅ J hl);show bj (fA (show i-1<a.size by lia) ?_);show aU (λe=>cc (.fin _ _ _ _ _ _ (K.we e))) λe=>aU (λ_=>cc (.on _ _ _ _ _ ⟨K.few (d:=x+2) ∅,show 1<=i-1 by lia,show i-1<=_ by lia,X,J⟩)) λ_=>cc (.mk _ _ _ _ _ ⟨K,show 1<=i-1 by lia,show i-1<=_ by lia,X,J⟩)
   |false =>
    have K:=(M.swap.push ∅ J (bw ∅ o hl)).swap;show bj (fA (show j-1<b.size by lia) ?_);show aU (λe=>cc (.fin _ _ _ _ _ _ (K.last e o hb h1))) λe=>aU (λ_=>cc (.on _ _ _ _ _ ⟨K.few (d:=x+2) ∅,L,o,show 2<=j-1 by lia,show j-1<=_ by lia⟩)) λ_=>cc (.mk _ _ _ _ _ ⟨K,L,o,show 2<=j-1 by lia,show j-1<=_ by lia⟩)
  .rintro _ _ ⟨g,i,j,out,_,M,L,o,X,J⟩;have:=M.size;lia
  .rintro _ _ (⟨g,i,j,out,⟨ac,bc⟩,z,hz⟩|⟨g,i,j,out,⟨ac,bc⟩,M,L,o,X,J⟩)
   .exact cc (.fin _ _ _ _ _ _ hz)
   .refine bj (r_ (je ⟨rfl,?_⟩))
    extract_lets
    show bj (kn (jq (I:=λy=>On (eK κ it p q) (Jh lt it all a b (x+2+y))) (Q:=Fn (eK κ it p q) (Res lt it all) (Jh lt it all a b (x+2))) ?_ ?_ (On.mk _ _ _ _ _ ⟨M,L,o,X,J⟩)) ?_)
    .rintro y _ _ _ hy ⟨g,i,j,out,⟨mg,ac,bc⟩,M,L,o,X,J⟩
     extract_lets -merge
     rename_i jp _;show rQ (F:=jp) (P:=λ_ _=>True) (λ_ m _=>?_) λZ=>aU (λ_=>Z () _ trivial) λ_=>Z () _ trivial;show bj (pj (bj (fA (show j-1<b.size by lia) (bj (VU (ω:=0) (cnt:=i) (hint:=i-1) hA O (bn (j-1) ∅) ∅ an ∅ (λx y _ h2 h3=>ua x y h2 ∅) λk k1 k2 k3=>?_)))));have K:=M.mv (k:=k) ∅ o λu v u1 u2 v1 v2=>aw ∅ J (k3 u ∅ ∅) v v1 v2
     dsimp -zeta -zetaHave only
     extract_lets -merge
     rename_i jp2 _ _;show rQ (F:=jp2 ()) (P:=λU out=>Mh lt it all a b (x+2+y) out U j/\1<=U/\U<=a.size /\∀u,u<U->u<a.size->lt (b.getD (j-1) 0) (a.getD u 0)=ag) (λU out ⟨M,L,o,gt⟩=>?_) λZ=>aU (λ(e:i-k>0)=>?_) λ(e:¬ i-k>0)=>?_
     .have K:=(M.swap.push ∅ J gt).swap;show bj (fA (show j-1<b.size by lia) ?_)
      extract_lets
      show aU (λ(e:j-1=1)=>cc (.fin _ _ _ _ _ _ (K.last e o hb h1))) λ(e:¬ j-1=1)=>?_;show bj (fA (show U-1<a.size by lia) (bj (VV (ω:=0) (cnt:=j-1) (hint:=j-1-1) hA O (an (U-1) ∅) ∅ bn ∅ (λx y _ h2 h3=>ub x y h2 ∅) λk k1 k2 k3=>?_)));have M3:=(K.swap.mv (k:=k) ∅ ∅ λu v u1 u2 v1 v2=>bw L o (k3 u ∅ ∅) v v1 v2).swap
      dsimp -zeta -zetaHave only
      extract_lets -merge
      rename_i jp3 _ _;show rQ (F:=jp3 ()) (P:=λj' out=>Mh lt it all a b (x+2+y) out U j'/\2<=j'/\j'<=b.size /\∀u,u<j'->u<b.size->lt (b.getD u 0) (a.getD (U-1) 0)=ae) (λj' out ⟨M,X,J,gt⟩=>?_) λZ=>aU (λ(e:j-1-k>0)=>?_) λ(e:¬ j-1-k>0)=>?_
      .have K:=M.push L o λu u1 u2=>O.as _ _ (gt u u1 u2);show bj (fA (show U-1<a.size by lia) ?_);show aU (λ(e:U-1=0)=>cc (.fin _ _ _ _ _ _ (K.we e))) λ(e:¬ U-1=0)=>aU (λ_=>cc (.on _ _ _ _ _ ⟨K.few (d:=x+2) ∅,show 1<=U-1 by lia,show U-1<=_ by lia,X,J⟩)) λ_=>cc (.mk _ _ _ _ _ ⟨K,show 1<=U-1 by lia,show U-1<=_ by lia,X,J⟩)
      .extract_lets
       show aU (λ(e:k=1)=>cc (.fin _ _ _ _ _ _ (M3.last e o hb h1))) λ(_:¬ k=1)=>aU (λ(e:k=0)=>cc (.fin _ _ _ _ _ _ (M3.Nk e))) λ(e:¬ k=0)=>Z _ _ ⟨M3.few ∅,show 2<=k by lia,show k<=_ by lia,λu u1 u2=>k2 u ∅ ∅⟩
      .have:k=j-1:=∅
       subst this;show Z (j-1) _ ⟨K.few ∅,show 2<=j-1 by lia,show j-1<=_ by lia,λu u1 u2=>k2 u ∅ ∅⟩
     .extract_lets
      show aU (λ(e:k=0)=>cc (.fin _ _ _ _ _ _ (K.we e))) λ(e:¬ k=0)=>Z _ _ ⟨K.few ∅,show 1<=k by lia,show k<=_ by lia,λu u1 u2=>k2 u ∅ ∅⟩
     .have:k=i:=∅
      subst this;show Z k _ ⟨M,L,o,λu u1 u2=>k2 u ∅ ∅⟩
    .rintro _ _ ⟨g,i,j,out,_,M,L,o,X,J⟩;have:=M.size;lia
    .rintro _ _ (⟨g,i,j,out,⟨mg,ac,bc⟩,z,hz⟩|⟨g,i,j,out,⟨mg,ac,bc⟩,M,L,o,X,J⟩)
     .exact cc (.fin _ _ _ _ _ _ hz)
     .refine bj (pj ?_);show cc (.mk _ _ _ _ _ ⟨M,L,o,X,J⟩)
 .rintro _ _ ⟨g,i,j,out,_,M,L,o,X,J⟩;have:=M.size;lia
 .rintro _ _ (⟨g,i,j,out,mg,z,hz⟩|⟨g,i,j,out,mg,hz⟩)
  .exact cc (h _ _ hz)
  .exact hz.elim
end
abbrev Pn(n:Nat)(p:Array Nat):Prop:=p.Perm (cj n).toArray
abbrev CT(lt:Nat->Nat->Bool)(p:Array Nat)(lo m:Nat):Prop:=∀i j,lo<=i->i<j->j<lo+m->lt (p.getD j 0) (p.getD i 0)=ag
abbrev DnS(lt:Nat->Nat->Bool)(p:Array Nat)(lo m:Nat):Prop:=∀i j,lo<=i->i<j->j<lo+m->lt (p.getD i 0) (p.getD j 0)=ag
section
variable{n lo:Nat}{p p':Array Nat}{lt:Nat->Nat->Bool}
def Pn.size(h:Pn n p):p.size=n:=by have:=h.size_eq;simpa using this
def Pn.bd(h:Pn n p)(d:i<n):p.getD i 0<n:=by
 have a:=h.size;have:p.getD i 0∈p:=by simp[mq,a,d]
 simpa using h.mem_iff.1 this
abbrev Kp(p p':Array Nat)(lo:Nat):Prop:=∀i,i<lo->p'.getD i 0=p.getD i 0
def JB(h:k<p.size)(j:d<=k)(i:Nat):(bubble p k d).getD i 0=if i=k-d then p.getD k 0 else if k-d<i/\i<=k then p.getD (i-1) 0 else p.getD i 0:=by
 rw[cR,cR,cR,cR,a1A h d j];by_cases a:i=k-d
 .rw [Z_ a,Z_ a]
 .rw [Zz a,Zz a];by_cases h2:k-d<i/\i<=k
  .rw [Z_ h2,Z_ h2]
  .rw [Zz h2,Zz h2]
end
section
variable{Ω:bh}{w:bg}{A:bt}{E:Q0c}{s:ak}{κ:nc}{it:Array fj}{n:Nat}{lt:Nat->Nat->Bool}{p:Array Nat}{q:Array (Nat×Nat×Nat)}{g:Nat}
def FW(m:Asks Ω w A s κ it n lt)(a:Pn n p)(l:i<n)(d:j<n)(h:Q (ab (lt (p.getD i 0) (p.getD j 0))) (eK κ it p q g)):wpS (au Ω w) A E s (ltAt' i j) Q (eK κ it p q g):=by have o:=a.size;rw[ltAt'_eq];show bj (oq (bj (fA ∅ (bj (fA ∅ (FT m (a.bd l) (a.bd d) h))))))
def CL(h:Q () (eK κ it (iy p i j) q g)):wpS (au Ω w) A E s (reverseSlice' i j) Q (eK κ it p q g):=by rw[reverseSlice'_eq];show pj ?_;have e:mirror (p.map (b_ it)) i j ((j-i)/2)=(iy p i j).map (b_ it):=a0N (b_ it) (λk=>i+k) (λk=>j-1-k) _ p;show Q () (pk κ (mirror (p.map (b_ it)) i j ((j-i)/2)) q g af);rw[e];show h
def aAV(h:Q () (eK κ it (bubble p k (k-l)) q g)):wpS (au Ω w) A E s (moveDown' k l) Q (eK κ it p q g):=by rw[moveDown'_eq];show pj ?_;have e:bubble (p.map (b_ it)) k (k-l)=(bubble p k (k-l)).map (b_ it):=a0N (b_ it) (λi=>k-i) (λi=>k-i-1) _ p;show Q () (pk κ (bubble (p.map (b_ it)) k (k-l)) q g af);rw[e];show h
theorem aDj{lo m ok:Nat}{Q:Bool->dj->Prop}(hA:Asks Ω w A s κ it n lt)(O:fY lt)(Y:Pn n p)(hm:lo+m<=n)(v:1<=ok)(Z:ok<=m)(X:CT lt p lo ok)
  (h:∀p',Pn n p'->Kp p p' lo->CT lt p' lo m->Q ae (eK κ it p' q g)):wpS (au Ω w) A E s (binarySort' lo m ok) Q (eK κ it p q g):=by
 delta binarySort';show bj (kn (jq (I:=λk c o=>c.1=af /\∃p',o=eK κ it p' q g/\Pn n p'/\Kp p p' lo/\CT lt p' lo k/\k<=m) (Q:=λc o=>c.1=af /\∃p',o=eK κ it p' q g/\Pn n p'/\Kp p p' lo/\CT lt p' lo m) ?_ ?_ ⟨rfl,p,rfl,Y,λ_ _=>rfl,by rw[show max ok 1=ok by lia];show X,∅⟩) ?_)
 .rintro k ⟨_,_⟩ o k1 k2 ⟨rfl,p',rfl,y,hk,u,_⟩;have hs:=y.size;dsimp only;show bj (kn (jq (I:=λx c o=>o=eK κ it p' q g /\∃l r,c=(af,l,r)/\l<=r/\r<=k/\r-l<=k-x/\(∀i,lo<=i->i<lo+l->lt (p'.getD (lo+k) 0) (p'.getD i 0)=ag) /\∀i,lo+r<=i->i<lo+k->lt (p'.getD i 0) (p'.getD (lo+k) 0)=ag)
   (Q:=λc o=>o=eK κ it p' q g /\∃l r,c=(af,l,r)/\l<=k/\(∀i,lo<=i->i<lo+l->lt (p'.getD (lo+k) 0) (p'.getD i 0)=ag) /\∀i,lo+l<=i->i<lo+k->lt (p'.getD i 0) (p'.getD (lo+k) 0)=ag) ?_ ?_ ⟨rfl,0,k,rfl,∅,∅,∅,λi v h2=>∅,λi v h2=>∅⟩) ?_)
  .rintro x c o _ hx ⟨rfl,l,r,rfl,U,a2,a3,F,z⟩;dsimp only;show aU (λe=>cc ⟨rfl,l,r,rfl,∅,F,λi v h2=>z i ∅ h2⟩) λe=>bj (FW hA y ∅ ∅ ?_)
   cases hl:lt (p'.getD (lo+k) 0) (p'.getD (lo+(l+r)/2) 0) with
   |true =>
    show cc ⟨rfl,l,(l+r)/2,rfl,∅,∅,∅,F,λi v h2=>?_⟩;by_cases J:i=lo+(l+r)/2
    .rw [J];show O.as _ _ hl
    .exact O.tr _ _ _ (O.as _ _ hl) (u _ i ∅ ∅ h2)
   |false =>
    show cc ⟨rfl,(l+r)/2+1,r,rfl,∅,∅,∅,λi v h2=>?_,z⟩;by_cases J:i=lo+(l+r)/2
    .rw [J];show hl
    .exact O.tr _ _ _ (u i _ v ∅ ∅) hl
  .rintro c o ⟨rfl,l,r,rfl,U,a2,a3,F,z⟩;show⟨rfl,l,r,rfl,∅,F,λi v h2=>z i ∅ h2⟩
  .rintro c o ⟨rfl,l,r,rfl,U,F,z⟩;dsimp only;show bj (aAV (cc ⟨rfl,_,rfl,(Jo _ _ _).trans y,?_,?_,∅⟩))
   all_goals rw[show lo+k-(lo+l)=k-l by lia]
   .intro i hi;rw[JB ∅ ∅,Zz ∅,Zz ∅];show hk i hi
   .intro i j v h2 h3;rw[JB ∅ ∅,JB ∅ ∅];by_cases L:i=lo+k-(k-l)
    .rw [Z_ L,Zz ∅,Z_ ∅];show z _ ∅ ∅
    .rw [Zz L];by_cases K:j=lo+k-(k-l)
     .rw [Z_ K,Zz ∅];show F _ v ∅
     .rw [Zz K];split<;>split<;>show u _ _ ∅ ∅ ∅
 .rintro ⟨_,_⟩ o ⟨rfl,p',rfl,a,b,c,d⟩;show⟨rfl,p',rfl,a,b,by rwa [show max (max ok 1) m=m by lia] at c⟩
 .rintro ⟨_,_⟩ o ⟨rfl,p',rfl,a,b,c⟩;show cc (h p' a b c)
theorem VW{lo a:Nat}{Q:Option (Option Nat)×Nat->dj->Prop}(y:Asks Ω w A s κ it n lt)(O:fY lt)(v:Pn n p)(l:1<=a)(K:lo+a<=n)(o:CT lt p lo a)
  (h:∀m,a<=m->lo+m<=n->CT lt p lo m->(lo+m<n->lt (p.getD (lo+m) 0) (p.getD (lo+m-1) 0)=ae)->Q (af,m) (eK κ it p q g)):
  wpS (au Ω w) A E s (forIn [a:n-lo] ((af,a):Option (Option Nat)×Nat) λ_ c=>do
   let z <- ltAt' (lo+c.2) (lo+c.2-1)
   match z with
   |some b=>if b=ae then pure (.done (af,c.2)) else pure (.yield (af,c.2+1))
   |_=>pure (.done (ab af,c.2))) Q (eK κ it p q g):=by
 show jq (I:=λx c d=>d=eK κ it p q g/\c=(af,x)/\CT lt p lo x) ?_ ?_ ⟨rfl,rfl,o⟩
 .rintro x c d x1 J ⟨rfl,rfl,u⟩;show bj (FW y v (show lo+x<n by lia) (show lo+x-1<n by lia) ?_)
  cases hl:lt (p.getD (lo+x) 0) (p.getD (lo+x-1) 0) with
  |true=>show cc (h x x1 ∅ u λ_=>hl)
  |false =>
   show cc ⟨rfl,rfl,λi j l h2 L=>?_⟩;by_cases e:j=lo+x
   .subst e;by_cases F:i=lo+x-1
    .rw [F];show hl
    .exact O.tr _ _ _ (u i (lo+x-1) l ∅ ∅) hl
   .exact u i j l h2 ∅
 .rintro c d ⟨rfl,rfl,u⟩;rw[show max a (n-lo)=n-lo by lia] at u ⊢;show h _ ∅ ∅ u λz=>by lia
abbrev Ls(lt:Nat->Nat->Bool)(p:Array Nat)(e k:Nat):Prop:=∀i j,e-(k+1)<=i->i<e->e-(k+1)<=j->j<e->lt (p.getD i 0) (p.getD j 0)=ag
def VX{lo m k:Nat}(O:fY lt)(a:lo+m<=p.size)(y:k+1<=m)(d:DnS lt p lo m)(v:Ls lt p (lo+m) k):DnS lt (iy p (lo+m-(k+1)) (lo+m)) lo m:=λi j h h2 x=>by
 rw[cD a,cD a];by_cases o:lo+m-(k+1)<=i/\i<lo+m
 .rw [Z_ o,Z_ ∅];show v _ _ ∅ ∅ ∅ ∅
 .rw [Zz o];by_cases l:lo+m-(k+1)<=j/\j<lo+m
  .rw [Z_ l];show d _ _ h ∅ ∅
  .rw [Zz l];show d _ _ h h2 x
theorem VY{lo:Nat}{Q:Option Nat->dj->Prop}(hA:Asks Ω w A s κ it n lt)(O:fY lt)(K:Pn n p)(hlo:lo<n)
  (h:∀m p',Pn n p'->Kp p p' lo->1<=m->lo+m<=n->CT lt p' lo m->Q (ab m) (eK κ it p' q g)):wpS (au Ω w) A E s (countRun' lo (n-lo)) Q (eK κ it p q g):=by
 have hs:=K.size
 -- they fall: turned about
 have tail:∀(m:Nat) (p':Array Nat) (F:Option (Option Nat)×Nat->StateT dj gr (Option Nat)),Pn n p'->Kp p p' lo->1<=m->lo+m<=n->DnS lt p' lo m->(∀m,F (af,m)=pure (ab m))->wpS (au Ω w) A E s (do
   reverseSlice' lo (lo+m)
   let c <- forIn [m:n-lo] ((af,m):Option (Option Nat)×Nat) λ_ c=>do
    let z <- ltAt' (lo+c.2) (lo+c.2-1)
    match z with
    |some b=>if b=ae then pure (.done (af,c.2)) else pure (.yield (af,c.2+1))
    |_=>pure (.done (ab af,c.2))
   F c) Q (eK κ it p' q g):=λm p' F l o m1 m2 v hF=>by
  have Z:=l.size;have hp2:Pn n (iy p' lo (lo+m)):=(d9 _ _ _).trans l;show bj (CL (bj (VW hA O hp2 m1 m2 (λi j Y h2 h3=>?_) λm' a b u _=>?_)))
  .rw [cD ∅,cD ∅,Z_ ∅,Z_ ∅];show v _ _ ∅ ∅ ∅
  .rw [hF];show cc (h m' _ hp2 (λi X=>?_) ∅ b u);rw[cD ∅,Zz ∅];show o i X
 delta countRun';show bj (VW hA O K (bq 1) ∅ (λi j Y h2 h3=>∅) λm m1 m2 u J=>?_)
 dsimp -zeta -zetaHave only
 extract_lets -merge
 rename_i jp;have sL:∀p',Pn n p'->Kp p p' lo->lo+m<n->DnS lt p' lo (m+1)->wpS (au Ω w) A E s (jp ()) Q (eK κ it p' q g):=λp' l o hm v=>by
  show bj (r_ (je ⟨rfl,?_⟩));show bj (kn (jq (I:=λx c L=>∃p' k,L=eK κ it p' q g/\c=(af,x,k)/\Pn n p'/\Kp p p' lo/\DnS lt p' lo x/\k+1<=x/\Ls lt p' (lo+x) k) (Q:=λc L=>∃x p' k,L=eK κ it p' q g/\c=(af,x,k)/\Pn n p'/\Kp p p' lo/\DnS lt p' lo x/\k+1<=x/\lo+x<=n/\Ls lt p' (lo+x) k) ?_ ?_ ⟨p',0,rfl,rfl,l,o,v,show 0+1<=m+1 by lia,λi j (a:lo+(m+1)-1<=i) (b:i<lo+(m+1)) c d=>by rw[show i=j by lia];show O.GC _⟩) ?_)
  .rintro x c L (x1:m+1<=x) x2 ⟨p',k,rfl,rfl,l,o,v,U,ls⟩;have Z:=l.size;have one:∀P:Array Nat,DnS lt P lo x->lt (P.getD (lo+x-1) 0) (P.getD (lo+x) 0)=ag->DnS lt P lo (x+1):=λP hP y i j Y h2 h3=>by
    by_cases e:j=lo+x
    .subst e;by_cases e2:i=lo+x-1
     .rw [e2];show y
     .exact O.tr _ _ _ y (hP i (lo+x-1) Y ∅ ∅)
    .exact hP i j Y h2 ∅
   dsimp only;show bj (FW hA l (show lo+x<n by lia) (show lo+x-1<n by lia) ?_)
   cases y:lt (p'.getD (lo+x) 0) (p'.getD (lo+x-1) 0) with
   |true =>
    dsimp only;rw[Z_ rfl];have l1:∀P:Array Nat,Ls lt P (lo+(x+1)) 0:=λP i j a b c d=>by rw[show i=j by lia];show O.GC _
    show aU (λ(e:k>0)=>bj (CL (cc ⟨_,0,rfl,rfl,(d9 _ _ _).trans l,λi X=>?_,one _ (VX O ∅ U v ls) ?_,∅,l1 _⟩))) λ(e:¬ k>0)=>cc ⟨_,0,rfl,rfl,l,o,one _ v (O.as _ _ y),∅,l1 _⟩
    .rw [cD (show lo+x<=p'.size by lia),Zz ∅];show o i X
    .rw [cD (show lo+x<=p'.size by lia),cD (show lo+x<=p'.size by lia),Z_ ∅,Zz ∅];have a:=O.as _ _ y;by_cases e2:lo+x-(k+1)+(lo+x)-1-(lo+x-1)=lo+x-1
     .rw [e2];show a
     .exact O.tr _ _ _ a (ls _ _ ∅ ∅ ∅ ∅)
   |false =>
    show bj (FW hA l (show lo+x-1<n by lia) (show lo+x<n by lia) ?_)
    cases hl2:lt (p'.getD (lo+x-1) 0) (p'.getD (lo+x) 0) with
    |true=>show cc ⟨x,p',k,rfl,rfl,l,o,v,U,∅,ls⟩
    |false =>
     show cc ⟨p',k+1,rfl,rfl,l,o,one _ v hl2,∅,λi j a b c d=>?_⟩;have f1:lt (p'.getD i 0) (p'.getD (lo+x-1) 0)=ag:=by
      by_cases e:i=lo+x
      .rw [e];show y
      .exact ls _ _ ∅ ∅ ∅ ∅
     have f2:lt (p'.getD (lo+x-1) 0) (p'.getD j 0)=ag:=by
      by_cases e:j=lo+x
      .rw [e];show hl2
      .exact ls _ _ ∅ ∅ ∅ ∅
     show O.tr _ _ _ f2 f1
  .rintro c L ⟨p',k,rfl,rfl,l,o,v,U,ls⟩;show⟨_,p',k,rfl,rfl,l,o,v,U,show lo+max (m+1) (n-lo)<=n by lia,ls⟩
  .rintro c L ⟨x,p',k,rfl,rfl,l,o,v,U,J,ls⟩;have Z:=l.size;dsimp only;show aU (λ(e:k>0)=>bj (CL (tail x _ _ ((d9 _ _ _).trans l) (λi X=>?_) ∅ J (VX O ∅ U v ls) λ_=>rfl))) λ(e:¬ k>0)=>tail x _ _ l o ∅ J v λ_=>rfl;rw[cD (show lo+x<=p'.size by lia),Zz ∅];show o i X
 show aU (λe=>cc (h m p K (λ_ _=>rfl) m1 m2 u)) λe=>?_;have e:¬ m=n-lo:=by simpa using e
 have J:=J ∅;show aU (λ(e1:m>1)=>bj (FW hA K hlo (show lo+m-1<n by lia) ?_)) λ(e1:¬ m>1)=>sL p K (λ_ _=>rfl) ∅ λi j Y h2 h3=>?_
 .cases y:lt (p.getD lo 0) (p.getD (lo+m-1) 0) with
  |true=>show cc (h m p K (λ_ _=>rfl) m1 m2 u)
  |false =>
   show bj (CL (sL _ ((d9 _ _ _).trans K) (λi X=>?_) ∅ λi j Y h2 h3=>?_))
   .rw [cD (show lo+m<=p.size by lia),Zz ∅]
   .rw [cD (show lo+m<=p.size by lia),cD (show lo+m<=p.size by lia),Z_ ∅];by_cases e:j=lo+m
    .rw [Zz ∅,e];show O.tr _ _ _ (O.as _ _ J) (O.tr _ _ _ y ?_);by_cases e2:lo+(lo+m)-1-i=lo
     .rw [e2];show O.GC _
     .exact u _ _ ∅ ∅ ∅
    .rw [Z_ ∅];show u _ _ ∅ ∅ ∅
 .rw [show i=lo+m-1 by lia,show j=lo+m by lia];show O.as _ _ J
variable{α:Type}
theorem qG(L:Nat):∀(m:List α) (d:Nat) (arr:Array α) (i:Nat),L+d+⇑m<=arr.size->((m.zipIdx d).foldl (λa q=>a.setIfInBounds (L+q.2) q.1) arr)[i]?=if L+d<=i/\i<L+d+⇑m then m[i-(L+d)]? else arr[i]?
 |[],d,arr,i,h=>by rw[Zz (by simp)];rfl
 |x::m,d,arr,i,h=>by
  rw[eg] at h ⊢;rw[a16,lp,qG L m (d+1) _ i (by rw[Array.size_setIfInBounds];lia)];by_cases e:i=L+d
  .rw [Zz ∅,Z_ ∅,e,a2R,Z_ rfl,Z_ (by show L+d<_;lia)];simp
  .by_cases c:L+(d+1)<=i/\i<L+(d+1)+⇑m
   .rw [Z_ c,Z_ ∅,show i-(L+d)=i-(L+(d+1))+1 by lia,kg]
   .rw [Zz c,Zz ∅,a2R,Zz (λz=>e z.symm)]
end
def seg(p:Array Nat)(L:Nat)(m:Array Nat):Array Nat:=(m.toList.zipIdx 0).foldl (λa q=>a.setIfInBounds (L+q.2) q.1) p
def aAW(it:Array fj)(h:L+m.size<=p.size):(((m.map (b_ it)).toList.zipIdx 0).foldl (λa q=>a.setIfInBounds (L+q.2) q.1) (p.map (b_ it)))=(seg p L m).map (b_ it):=by apply a2V;intro i;delta seg;rw[qG L _ 0 _ i ↑h,Lm,Lm,qG L _ 0 _ i ↑h];erw[a2O,bb,c_,Lm];split<;>rfl
def CM(h:L+m.size<=p.size):(seg p L m).getD i 0=if L<=i/\i<L+m.size then m.getD (i-L) 0 else p.getD i 0:=by delta seg;rw[cR,cR,cR,qG L _ 0 _ i ↑h];erw[xq,iu,ug];split<;>rfl
def VZ(h:L+m.size<=p.size)(a:m.Perm (p.extract L (L+m.size))):(seg p L m).Perm p:=by
 have e:seg p L m=p.extract 0 L++m++p.extract (L+m.size) p.size:=by
  apply a2V;intro i;delta seg;rw[qG L _ 0 _ i ↑h];erw[xq,iu,ug,Array.getElem?_append,Ln,Lk,Array.size_append,a1U]
  repeat' split
  all_goals first|rfl|(exfalso;lia)|(congr 1;lia)|(simp;lia)
 have d:p=p.extract 0 L++p.extract L (L+m.size)++p.extract (L+m.size) p.size:=by simp[show L<=L+m.size by lia,h]
 rw[e]
 conv=>rhs;rw[d]
 show((qd _).append a).append (qd _)
section
variable{Ω:bh}{w:bg}{A:bt}{E:Q0c}{s:ak}{κ:nc}{it:Array fj}{n:Nat}{lt:Nat->Nat->Bool}{p:Array Nat}{q:Array (Nat×Nat×Nat)}{g:Nat}
def aAX{d a:dj}{Q:PUnit->dj->Prop}{M:r6}(h:Q ⟨⟩ a):wpS M A E s (set a:StateT dj gr PUnit) Q d:=by delta wpS;rw[StateT.run_set];show az ⟨rfl,h⟩
theorem V0{i d l pw F pw':Nat}{Q:Bool->dj->Prop}(hA:Asks Ω w A s κ it n lt)(O:fY lt)(I:Pn n p)(q1:q[i]?=ab (d,l,pw))(q2:q[i+1]?=ab (d+l,F,pw'))(h1:1<=l)(h2:1<=F)(hn:d+l+F<=n)
  (L:CT lt p d l) (K:CT lt p (d+l) F)
  (h:∀p' g',Pn n p'->(∀j,j<d\/d+l+F<=j->p'.getD j 0=p.getD j 0)->CT lt p' d (l+F)->Q ae (eK κ it p' ((q.setIfInBounds i (d,l+F,pw)).eraseIdxIfInBounds (i+1)) g')):
  wpS (au Ω w) A E s (mergeAt' i) Q (eK κ it p q g):=by
 have hs:=I.size;delta mergeAt';show bj (oq ?_);dsimp only;rw[q1,q2];dsimp only;obtain⟨Y,hq⟩:∃z,z=(q.setIfInBounds i (d,l+F,pw)).eraseIdxIfInBounds (i+1):=⟨_,rfl⟩;rw[<- hq] at h ⊢;show bj (aAX ?_);show bj (fA (show d+l<p.size by lia) (bj (VU (ω:=d) (cnt:=l) (hint:=0) hA O (I.bd ∅) ∅ (λi J=>I.bd ∅) ∅ (λi j a b c=>L i j a b c) λk k1 k2 k3=>?_)))
 -- below the first of the second run
 have F2:∀u v,d<=u->u<d+k->d+l<=v->v<d+l+F->lt (p.getD v 0) (p.getD u 0)=ag:=λu v u1 u2 v1 o=>by
  by_cases e:v=d+l
  .rw [e];show k2 u u1 u2
  .exact O.tr _ _ _ (k2 u u1 u2) (K (d+l) v (bq _) ∅ o)
 show aU (λe=>cc (h p g I (λ_ _=>rfl) λu v u1 u2 o=>?_)) λe=>?_
 .have e:l-k=0:=by simpa using e
  by_cases c1:v<d+l
  .exact L u v u1 u2 c1
  .by_cases c2:u<d+l
   .exact F2 u v u1 ∅ ∅ ∅
   .exact K u v ∅ u2 ∅
 have e:¬ l-k=0:=by simpa using e
 show bj (fA (show d+k+(l-k)-1<p.size by lia) ?_);rw[show d+k+(l-k)-1=d+l-1 by lia];show bj (VV (ω:=d+l) (cnt:=F) (hint:=F-1) hA O (I.bd ∅) ∅ (λi J=>I.bd ∅) ∅ (λi j a b c=>K i j a b c) λc c1 c2 c3=>?_);have F3:∀u v,d<=u->u<d+l->d+l+c<=v->v<d+l+F->lt (p.getD v 0) (p.getD u 0)=ag:=λu v u1 u2 v1 o=>by
  by_cases e:u=d+l-1
  .rw [e];show c3 v v1 o
  .exact O.tr _ _ _ (L u (d+l-1) u1 ∅ ∅) (c3 v v1 o)
 show aU (λe=>cc (h p g I (λ_ _=>rfl) λu v u1 u2 o=>?_)) λe2=>?_
 .have e:c=0:=by simpa using e
  by_cases c1:v<d+l
  .exact L u v u1 u2 c1
  .by_cases c2:u<d+l
   .exact F3 u v u1 ∅ ∅ ∅
   .exact K u v ∅ u2 ∅
 have e2:¬ c=0:=by simpa using e2
 -- what the merge leaves
 let x:=p.extract (d+k) (d+l)
 let y:=p.extract (d+l) (d+l+c)
 have xs:x.size=l-k:=by simp[x];lia
 have ys:y.size=c:=by simp[y];lia
 have X:∀i,i<x.size->x.getD i 0=p.getD (d+k+i) 0:=λi J=>by rw[cR,cR,Ln,Z_ ∅]
 have U:∀i,i<y.size->y.getD i 0=p.getD (d+l+i) 0:=λi J=>by rw[cR,cR,Ln,Z_ ∅]
 have fin:∀(r:Array fj) (g':Nat),Res lt it (x.toList++y.toList) r->wpS (au Ω w) A E s (do
   modify λs=>setArr s (r.toList.zipIdx.foldl (λa z=>a.setIfInBounds (d+k+z.2) z.1) (arrOf s))
   return (failedOf (<- get)).isNone) Q (eK κ it p Y g'):=λr g' Wn=>by
  obtain⟨m,er,pm,um⟩:=Wn;have ms:m.size=l-k+c:=by have:=pm.length_eq;simpa[xs,ys] using this
  have Z:d+k+m.size<=p.size:=∅
  show bj (pj (bj (oq (cc ?_))));have es:setArr (eK κ it p Y g') (r.toList.zipIdx.foldl (λa z=>a.setIfInBounds (d+k+z.2) z.1) (arrOf (eK κ it p Y g')))=eK κ it (seg p (d+k) m) Y g':=by rw[er];show pk κ _ Y g' af=pk κ _ Y g' af;rw[<- aAW it Z]
  rw[es];have mp:∀u,u<m.size ->∃v,d+k<=v/\v<d+l+c/\m.getD u 0=p.getD v 0:=λu hu=>by
   have:=pm.mem_iff.1 (VT hu);rcases ie.1 this with z|z
   .obtain ⟨v,_,o,e⟩:=uB (i:=0) z;rw[e,X v o];show⟨_,∅,∅,rfl⟩
   .obtain ⟨v,_,o,e⟩:=uB (i:=0) z;rw[e,U v o];show⟨_,∅,∅,rfl⟩
  have um:=xF.1 um;show h _ g' ((VZ Z ?_).trans I) (λj hj=>by rw[CM Z,Zz ∅]) λu v u1 u2 o=>?_
  .have:x++y=p.extract (d+k) (d+k+m.size):=by rw[show d+k+m.size=d+l+c by lia];erw[x,y];rw[Array.extract_append_extract,a1V ∅,Nat.max_eq_right ∅]
   rw[<- this,Array.perm_iff_toList_perm,uf];show pm
  .rw [CM Z,CM Z];by_cases a1:u<d+k
   .rw [Zz (show ¬ (d+k<=u/\u<d+k+m.size) by lia)];have F4:∀v,d+k<=v->v<d+l+F->lt (p.getD v 0) (p.getD u 0)=ag:=λv v1 o=>by
     by_cases z:v<d+l
     .exact L u v u1 ∅ z
     .exact F2 u v u1 a1 ∅ o
    by_cases a2:d+k<=v/\v<d+k+m.size
    .rw [Z_ a2];obtain⟨z,z1,z2,e⟩:=mp (v-(d+k)) ∅;rw[e];show F4 z z1 ∅
    .rw [Zz a2];by_cases a3:v<d+k
     .exact L u v u1 u2 ∅
     .exact F4 v ∅ ∅
   .by_cases a2:u<d+k+m.size
    .rw [Z_ (show d+k<=u/\u<d+k+m.size by lia)];by_cases a3:v<d+k+m.size
     .rw [Z_ (show d+k<=v/\v<d+k+m.size by lia)];show um _ _ ∅ ∅
     .rw [Zz (show ¬ (d+k<=v/\v<d+k+m.size) by lia)];obtain⟨z,z1,z2,e⟩:=mp (u-(d+k)) ∅;rw[e];by_cases z3:z<d+l
      .exact F3 z v ∅ z3 ∅ ∅
      .exact K z v ∅ ∅ ∅
    .rw [Zz (show ¬ (d+k<=u/\u<d+k+m.size) by lia),Zz (show ¬ (d+k<=v/\v<d+k+m.size) by lia)];show K u v ∅ u2 ∅
 have ex:(p.map (b_ it)).extract (d+k) (d+l)=x.map (b_ it):=by rw[v_]
 have ey:(p.map (b_ it)).extract (d+l) (d+l+c)=y.map (b_ it):=by rw[v_]
 rw[ex,ey];have an:∀i,i<x.size->x.getD i 0<n:=λi J=>by rw[X i J];show I.bd ∅
 have bn:∀i,i<y.size->y.getD i 0<n:=λi J=>by rw[U i J];show I.bd ∅
 have ux:Up lt x x.size:=λi j a b=>by rw[X i ∅,X j b];show L _ _ ∅ ∅ ∅
 have uy:Up lt y y.size:=λi j a b=>by rw[U i ∅,U j b];show K _ _ ∅ ∅ ∅
 have g1:∀i,i<x.size->lt (x.getD i 0) (y.getD 0 0)=ag:=λi J=>by rw[X i J,U 0 ∅];show O.as _ _ (k3 _ ∅ ∅)
 have g2:∀j,j<y.size->lt (x.getD (x.size-1) 0) (y.getD j 0)=ag:=λj hj=>by rw[X _ ∅,U j hj,show d+k+(x.size-1)=d+l-1 by lia];show O.as _ _ (c2 _ ∅ ∅)
 show aU (λ_=>bj (Wq hA O ∅ ∅ an bn ux uy g1 (λz hz=>?_) fin)) λ_=>bj (Wo hA O ∅ ∅ an bn ux uy g1 g2 fin);obtain⟨j,_,j2,e⟩:=uB (i:=0) hz;rw[e];show g2 j j2
end
theorem z8{α:Type}{x y z:α}{h:List α}:∀d:List α,((d++x::y::h).set ⇑d z).eraseIdx (⇑d+1)=d++z::h
 |[]=>rfl
 |a::d=>congrArg (a :: ·) (z8 d)
noncomputable def Rn(lt:Nat->Nat->Bool)(p:Array Nat):List (Nat×Nat×Nat)->Nat->Nat->Prop
 |[],a,b=>a=b
 |r::l,a,b=>r.1=a/\1<=r.2.1/\CT lt p a r.2.1/\Rn lt p l (a+r.2.1) b
section
variable{lt:Nat->Nat->Bool}{p p':Array Nat}
theorem Rn.len:∀{l:List (Nat×Nat×Nat)} {a b:Nat},Rn lt p l a b->a+⇑l<=b
 |[],a,b,h=>p0 h
 |r::l,a,b,⟨_,h1,_,h⟩=>by have:=Rn.len h;rw[eg];lia
theorem Rn.keep:∀{l:List (Nat×Nat×Nat)} {a b:Nat},Rn lt p l a b->(∀i,a<=i->i<b->p'.getD i 0=p.getD i 0)->Rn lt p' l a b
 |[],a,b,h,_=>h
 |r::l,a,b,⟨e,h1,u,h⟩,k=>by have:=Rn.len h;show⟨e,h1,λi j m d n=>?_,h.keep λi m d=>k i ∅ d⟩;rw[k i m ∅,k j ∅ ∅];show u i j m d n
theorem Rn.same:∀{l m:List (Nat×Nat×Nat)} {a b:Nat},Rn lt p l a b->l.map (λr=>(r.1,r.2.1))=m.map (λr=>(r.1,r.2.1))->Rn lt p m a b
 |[],m,a,b,h,e=>by
  cases m with
  |nil=>show h
  |cons _ _=>cases e
 |r::l,m,a,b,⟨e1,h1,u,h⟩,e=>by
  cases m with
  |nil=>cases e
  |cons r' m =>
   rw[bx,bx,Ct,Prod.mk.injEq] at e;obtain⟨⟨n,d⟩,j⟩:=e;show⟨n▸e1,d▸h1,d▸u,?_⟩;rw[<- d];show h.same j
theorem Rn.split:∀{l m:List (Nat×Nat×Nat)} {a b:Nat},Rn lt p (l++m) a b ->∃c,Rn lt p l a c/\Rn lt p m c b
 |[],m,a,b,h=>⟨a,rfl,h⟩
 |r::l,m,a,b,⟨e,h1,u,h⟩=>by obtain⟨c,x,y⟩:=Rn.split h;show⟨c,⟨e,h1,u,x⟩,y⟩
theorem Rn.join:∀{l m:List (Nat×Nat×Nat)} {a b c:Nat},Rn lt p l a c->Rn lt p m c b->Rn lt p (l++m) a b
 |[],m,a,b,c,h,k=>by cases h;show k
 |r::l,m,a,b,c,⟨e,h1,u,h⟩,k=>⟨e,h1,u,h.join k⟩
end
section
variable{Ω:bh}{w:bg}{A:bt}{E:Q0c}{s:ak}{κ:nc}{it:Array fj}{n:Nat}{lt:Nat->Nat->Bool}{p:Array Nat}{q:Array (Nat×Nat×Nat)}{g:Nat}
theorem MM{i lo:Nat}{Q:Bool->dj->Prop}(hA:Asks Ω w A s κ it n lt)(O:fY lt)(hp:Pn n p)(Y:Rn lt p q.toList 0 lo)(hlo:lo<=n)(K:i+1<q.size)
  (h:∀p' F g',Pn n p'->(∀j,lo<=j->p'.getD j 0=p.getD j 0)->Rn lt p' F.toList 0 lo->F.size+1=q.size->Q ae (eK κ it p' F g')):
  wpS (au Ω w) A E s (mergeAt' i) Q (eK κ it p q g):=by
 obtain⟨⟨a,m,d⟩,Z⟩:∃x,q[i]?=ab x:=⟨_,nz ∅⟩;obtain⟨⟨L,l,o⟩,h2⟩:∃x,q[i+1]?=ab x:=⟨_,nz K⟩;have g1:q.toList[i]?=ab (a,m,d):=by rw[ug];show Z
 have g2:q.toList[i+1]?=ab (L,l,o):=by rw[ug];show h2
 obtain⟨v,I,e,hl⟩:∃v I,q.toList=v++(a,m,d)::(L,l,o)::I/\⇑v=i:=by
  show⟨q.toList.take i,q.toList.drop (i+2),?_,by simp;lia⟩;obtain⟨hx,ex⟩:=de.1 g1;obtain⟨hy,ey⟩:=de.1 g2
  conv=>lhs;rw[<- vm i q.toList,nu hx,nu hy,ex,ey]
 rw[e] at Y;obtain⟨c,r1,e1,X,u1,e2,U,u2,z⟩:=Y.split;dsimp only at e1 X u1 e2 U u2 z;subst e1;subst e2;have b1:=r1.len;have b2:=z.len;show V0 hA O hp Z h2 X U ∅ u1 u2 λp' g' J k u=>h p' _ g' J (λj y=>k j ∅) ?_ ?_
 .have eq:((q.setIfInBounds i (a,m+l,d)).eraseIdxIfInBounds (i+1)).toList=v++(a,m+l,d)::I:=by
   have:((q.setIfInBounds i (a,m+l,d)).eraseIdxIfInBounds (i+1)).toList=(q.toList.set i (a,m+l,d)).eraseIdx (i+1):=by simp[a2W,K]
   rw[this,e,<- hl];show z8 v
  rw[eq];show Rn.join (c:=a) (r1.keep λj _ y=>k j (.inl y)) ⟨rfl,by dsimp only;lia,u,?_⟩;dsimp only;rw[<- Kd];show z.keep λj y _=>k j (.inr y)
 .simp [a2W,K];lia
def V1{α h d:Type}{F:h->d->StateT dj gr α}{P:d->dj->Prop}{m:StateT dj gr α}{Q:α->dj->Prop}{a:dj}{M:r6}(j:∀x y a,P y a->wpS M A E s (F x y) Q a)(h2:(∀x y a,P y a->wpS M A E s (F x y) Q a)->wpS M A E s m Q a):wpS M A E s m Q a:=h2 j
theorem aAY{Q:Unit->dj->Prop}(hA:Asks Ω w A s κ it n lt)(O:fY lt)(hp:Pn n p)(h1:1<=n)
  (h:∀p' v g',Pn n p'->CT lt p' 0 n->Q () (eK κ it p' v g')):wpS (au Ω w) A E s sortRuns' Q (eK κ it p #[] g):=by
 have hs:=hp.size;delta sortRuns';show bj (oq ?_);simp -zeta -zetaHave only[Lj,hs]
 extract_lets
 show bj (kn (jq (I:=λx c o=>∃p' v g' lo,o=eK κ it p' v g'/\c=(af,lo)/\Pn n p'/\Rn lt p' v.toList 0 lo/\lo<=n/\(x<=lo\/lo=n)) (Q:=λc o=>∃p' v g',o=eK κ it p' v g'/\c=(af,n)/\Pn n p'/\Rn lt p' v.toList 0 n) ?_ ?_ ⟨p,#[],g,0,rfl,rfl,hp,rfl,∅,.inl (bq _)⟩) ?_)
 .rintro x c o _ (hx:x<n) ⟨p',v,g',lo,rfl,rfl,K,hq,hlo,hxl⟩
  extract_lets -merge
  rename_i jp fo _;show aU (λ(e:lo >= n)=>by
   have e2:lo=n:=∅
   subst e2;show cc ⟨p',v,g',rfl,rfl,K,hq⟩) λ(e:¬ lo >= n)=>?_
  show bj (VY hA O K ∅ λm p1 J k1 m1 m2 u1=>?_);have z:=hq.keep (p':=p1) λi _ hi=>k1 i hi
  dsimp -zeta -zetaHave only
  extract_lets -merge
  show V1 (F:=jp) (P:=λm o=>∃p1,o=eK κ it p1 v g'/\Pn n p1/\Rn lt p1 v.toList 0 lo/\1<=m/\lo+m<=n/\CT lt p1 lo m) (λ_ m o ⟨p1,X,J,z,m1,m2,u1⟩=>?_) λY=>aU (λe2=>?_) λe2=>Y () m _ ⟨p1,rfl,J,z,m1,m2,u1⟩
  .subst X;show bj (oq ?_)
   extract_lets -merge
   rename_i jp2;show V1 (F:=λ_:Unit=>jp2) (P:=λ_ o=>∃p2 q2 g2,o=eK κ it p2 q2 g2/\Pn n p2/\Rn lt p2 q2.toList 0 lo/\CT lt p2 lo m) (λ_ _ o ⟨p2,q2,g2,X,d,a,u2⟩=>?_) λY=>?_
   .subst X;show bj (pj (cc ⟨p2,q2.push (lo,m,0),g2,lo+m,rfl,rfl,d,?_,m2,∅⟩));rw[Array.toList_push];show a.join ⟨rfl,m1,u2,rfl⟩
   .show wpS _ _ _ _ (match v.back? with|some (s1,n1,_)=>_|_=>_) _ _
    cases hb:v.back? with
    |none=>show Y () () _ ⟨p1,v,g',rfl,J,z,u1⟩
    |some r =>
     obtain⟨s1,n1,z1⟩:=r
     dsimp -zeta -zetaHave only
     extract_lets pw
     show bj (kn (jq (I:=λx c o=>c.1=af /\∃p2 q2 g2,o=eK κ it p2 q2 g2/\Pn n p2/\Rn lt p2 q2.toList 0 lo/\CT lt p2 lo m) (Q:=λc o=>c.1=af /\∃p2 q2 g2,o=eK κ it p2 q2 g2/\Pn n p2/\Rn lt p2 q2.toList 0 lo/\CT lt p2 lo m) ?_ (λc o h=>h) ⟨rfl,p1,v,g',rfl,J,z,u1⟩) ?_)
     .rintro y ⟨_,_⟩ o _ hy ⟨rfl,p2,q2,g2,rfl,d,a,u2⟩;show bj (oq ?_);show wpS _ _ _ _ (match if q2.size>1 then q2[q2.size-2]? else af with|some (_,_,older)=>_|_=>_) _ _;by_cases c1:q2.size>1
      .rw [Z_ c1];obtain⟨⟨r1,r2,r3⟩,er⟩:∃r,q2[q2.size-2]?=ab r:=⟨_,nz ∅⟩;rw[er];show aU (λ_=>cc ⟨rfl,p2,q2,g2,rfl,d,a,u2⟩) λ_=>bj (MM hA O d a ∅ (show q2.size-2+1<q2.size by lia) λp3 q3 g3 U k3 L _=>cc ⟨rfl,p3,q3,g3,rfl,U,L,λi j i1 i2 i3=>?_⟩);rw[k3 i i1,k3 j ∅];show u2 i j i1 i2 i3
      .rw [Zz c1];show cc ⟨rfl,p2,q2,g2,rfl,d,a,u2⟩
     .rintro ⟨_,_⟩ o ⟨rfl,p2,q2,g2,rfl,d,a,u2⟩;show bj (pj (Y () () _ ⟨p2,_,g2,rfl,d,a.same ?_,u2⟩));show qa λi=>?_;rw[c_,c_,ug,ug];show _=a1I _ (q2.modify _ _)[i]?;rw[Array.getElem?_modify];split
      .cases q2[i]?<;>rfl
      .rfl
  .refine bj (r_ (je ⟨rfl,?_⟩));have f1:m<=fo:=by show m<=min (n-lo) _;have:m<_:=e2;lia
   have f2:lo+fo<=n:=by show lo+min (n-lo) _<=n;lia
   show bj (aDj hA O J f2 m1 f1 u1 λp2 d k2 u2=>Y () fo _ ⟨p2,rfl,d,z.keep λi _ hi=>k2 i hi,∅,f2,u2⟩)
 .rintro c o ⟨p',v,g',lo,rfl,rfl,K,hq,hlo,(hxl:max 0 n<=lo\/lo=n)⟩;have e:lo=n:=∅
  subst e;show⟨p',v,g',rfl,rfl,K,hq⟩
 .rintro c o ⟨p1,q1,g1,rfl,rfl,J,z⟩;show bj (kn (jq (I:=λx c o=>c.1=af /\∃p2 q2 g2,o=eK κ it p2 q2 g2/\Pn n p2/\Rn lt p2 q2.toList 0 n/\(q2.size<=1\/q2.size+x<=n)) (Q:=λc o=>c.1=af /\∃p2 q2 g2,o=eK κ it p2 q2 g2/\Pn n p2/\Rn lt p2 q2.toList 0 n/\q2.size<=1) ?_ ?_ ⟨rfl,p1,q1,g1,rfl,J,z,.inr (by have:=z.len;rw[iu] at this;lia)⟩) ?_)
  .rintro y ⟨_,_⟩ o _ hy ⟨rfl,p2,q2,g2,rfl,d,a,Z⟩;show bj (oq ?_)
   extract_lets
   show aU (λ(e:q2.size<=1)=>cc ⟨rfl,p2,q2,g2,rfl,d,a,e⟩) λ(e:¬ q2.size<=1)=>?_;rename_i i1 bf i;have hi:∀(c:Prop) [Decidable c],(if c then q2.size-2-1 else q2.size-2)+1<q2.size:=λc _=>by split<;>lia
   show bj (MM hA O d a (bq _) (hi _) λp3 q3 g3 U _ L z3=>cc ⟨rfl,p3,q3,g3,rfl,U,L,∅⟩)
  .rintro ⟨_,_⟩ o ⟨rfl,p2,q2,g2,rfl,d,a,(Z:q2.size<=1\/q2.size+max 0 n<=n)⟩;show⟨rfl,p2,q2,g2,rfl,d,a,∅⟩
  .rintro ⟨_,_⟩ o ⟨rfl,p2,q2,g2,rfl,d,a,Z⟩;show cc (h p2 q2 g2 d ?_);rw[<- iu] at Z
   cases hl:q2.toList with
   |nil =>
    rw[hl] at a;have:0=n:=a;lia
   |cons r l =>
    rw[hl] at a Z
    cases l with
    |cons _ _=>simp at Z
    |nil =>
     obtain⟨_,_,u,e⟩:=a;have e:0+r.2.1=n:=e;rw[ql] at e
     rwa [e] at u
end
end L4
namespace L8
open PySem.Spec PyProof.Rows L2 L3 L4
def V2{K:aq}{T:ah->Prop}{H H':Hp}{p:ah}(wr:Wr H p)(m:¬ T p)(d:∀b u,b≠p->H b=ab u->H' b=ab u):Fits K T T H H':=by
 have h:∀a,T a->a≠p:=λa t e=>m (e▸t);have j:∀a xs,H a=ab (.tup xs)->a≠p:=λa xs z y=>by subst y;rcases wr with⟨_,k⟩|⟨_,k⟩|⟨_,_,k⟩<;>rw[z] at k<;>cases k
 have l:∀a o u,H a=ab (.tW o u)->a≠p:=λa o u z y=>by subst y;rcases wr with⟨_,k⟩|⟨_,k⟩|⟨_,_,k⟩<;>rw[z] at k<;>cases k
 show⟨λa xs z=>d _ _ (j a xs z) z,λa ns z=>z.elim (λ⟨o,y⟩=>.inl ⟨o,d _ _ (l a o _ y) y⟩) .inr,λa xs z s=>⟨d _ _ (h a s) z,s⟩,λa xs z s=>⟨d _ _ (h a s) z,s⟩,λa o xs z s=>⟨d _ _ (h a s) z,s⟩⟩
theorem z9:∀{l:List D} {kd:KD} {r:List D×KD},foldM R o l kd=ab r->⇑r.1=⇑l
 |[],kd,r,h=>by cases h;rfl
 |v::l,kd,r,h=>by
  delta foldM at h;split at h
  .obtain ⟨p,e,rfl⟩:=jz.1 h;rw[eg,eg,z9 e]
  .cases h
section
variable{K:aq}{R:sR}{io il j:Nat}{H₀ H:Hp}{S:ah->Prop}{w:Nat->ah}{σ:L2.St}{ρ:bC}{G:List (D×V)}{o:D}{vs xs:List D}{q0:Nat->ay->Prop}{ks:List rV}{r:List D×KD}{ns:Q0e}{Q:VK}
abbrev Gb(K:aq)(R:sR)(io il j:Nat):TE:=EX 1 [io,j] (SM K (sY il)) (yZ 0) (λ_ H Q=>Q ae H) (LF (x6 K R) [] E0 (rX (sY 1) (rX (sY 0) (rX (sY 2) Y0))))
theorem V3(Y:ST K H₀ S w σ H ρ G)(A:bF io (gI ρ)=ab o)(F:bF il (gI ρ)=ab (.lst vs))(o0:ρ[j]?=ab (.ow (.a8 q0 ks xs)))(hf:foldM R o vs (ks,xs)=ab r)(hn:r.1=ns.map D.int)(hz:⇑vs<br)
  (k:∀m H',H' m=ab (.lst (ns.map V.int))->ST K H₀ S w σ H' (ρ.set j (.ow (.a8 (adr q0) r.2.1 r.2.2))) G->Q (.ref m) H'):Gb K R io il j σ H Q:=by
 obtain⟨a0,b0,ob,χ,Z,⟨X,hq⟩,dk⟩:=Y.own j _ o0;subst X;have wr:Wr H (w j):=.inr (.inr ⟨_,_,Z⟩);have nT:¬ SO S w ρ (w j):=λz=>z.2 j _ o0 rfl;have nl:⇑ns=⇑vs:=by have:=z9 hf;rw[hn,bb] at this;show this
 have rd:=Y.rd;obtain⟨vo,so,dno⟩:=rd io o (by delta bF at A;cases h:(gI ρ)[io]? with|none=>rw[h] at A;cases A|some z=>rw[h] at A;cases z with|none=>cases A|some z=>cases A;rfl);obtain⟨vl,sl,dl⟩:=rd il _ (by delta bF at F;cases h:(gI ρ)[il]? with|none=>rw[h] at F;cases F|some z=>rw[h] at F;cases z with|none=>cases F|some z=>cases F;rfl);symm at dl;obtain⟨l,us,rfl,hl,tl,du⟩:=dl;have lw:l≠w j:=λz=>nT (z▸tl);have ul:⇑us=⇑vs:=du.len.symm;show⟨_,sl,l,rfl,⟨_,c7.of hl⟩,λm p=>?_⟩;have al:l≠m:=λz=>by rw[z,p] at hl;cases hl
 have ap:w j≠m:=λz=>by rw[z,p] at Z;cases Z
 let T:ah->Prop:=λa=>SO S w ρ a/\a≠m
 have Mx:¬ T (w j):=λz=>nT z.1;have F0:Fits K (SO S w ρ) T H (upd H m (.lst [])):=(Fits.fresh p).trans (.same (aH p));show⟨λi mm H1 ys=>i+mm=⇑vs /\∃kd1 r1,foldM R o (vs.drop i) kd1=ab r1/\r1.1=(ns.drop i).map D.int/\r1.2=r.2/\ys=(ns.take i).map V.int/\H1 m=ab (.lst ys)/\(∀b u,b≠w j->H b=ab u->H1 b=ab u) /\∃o1 I,H1 (w j)=ab (.dX o1 I)/\I.map (·.1)=kd1.1/\aM K T H1 kd1.2 (I.map (·.2.2)),
  ⟨⇑vs,∅,(χ.map (λz:KX×V×V=>z.1),xs),r,by rw[qt];show hf,hn,rfl,rfl,aN,λb u n h=>by rw[aR (aT h p)];show h,ob,χ,by rw[aR ap];show Z,rfl,aM.fits F0 _ _ dk⟩,?_⟩
 rintro i mm H1 ys ⟨e1,kd1,r1,q,e3,e4,X,e6,U,o1,I,e8,e9,D_⟩;show⟨e6,?_⟩;have x:=U _ _ lw hl;by_cases hi:i<⇑vs
 .refine .inr ⟨⟨_,us[i],c7.of x,by simp[ul,hi]⟩,λv H2 hy=>?_⟩;obtain⟨rfl,hy⟩:=hy;have hv:=hy _ (c7.of x);rw[cn ∅] at hv;cases hv;rw[nu hi] at q;have O:i<⇑ns:=∅
  rw[nu O,bx] at e3;delta foldM at q;split at q
  case h_2=>cases q
  rename_i r2 hR;obtain⟨r3,Nf,er⟩:=jz.1 q;subst er;injection e3 with e3 e3';have F1:Fits K (SO S w ρ) (SO S w ρ) H H2:=V2 wr nT U;have F2:Fits K (SO S w ρ) T H H2:=⟨F1.t,F1.s,λa xs z s=>⟨(F1.l a xs z s).1,s,aT z p⟩,λa xs z s=>⟨(F1.d a xs z s).1,s,aT z p⟩,λa o xs z s=>⟨(F1.e a o xs z s).1,s,aT z p⟩⟩;obtain⟨ui,L,dvi⟩:=du.get (cn hi);rw[cn ∅] at L;cases L;show⟨by show[(σ[io]?).join,(σ[j]?).join]=_;rfl,?_⟩;show(if ae=ae then _ else _);rw[Z_ rfl];show⟨vo,by show ab ((σ[io]?).join)=_;rw[so];rfl,us[i],rfl,.ref (w j),by show ab ((σ[j]?).join)=_;rw[a0];rfl,?_⟩;show⟨T,[o,vs[i]],[vo,us[i]],w j,o1,I,kd1.2,r2,rfl,λa z=>⟨Y.GG a ?_,λy=>by rw[y,e6] at z;cases z⟩,Mx,e8,aM.cons (Dn.fits F2 _ _ dno) (aM.cons (Dn.fits F2 _ _ dvi) aM.nil),D_,by rw[e9];show hR,λv2 H' o' J hb hp' ek dx dv=>?_⟩
  .cases h:H a with
   |none=>rfl
   |some u =>
    have na:a≠w j:=λy=>by rw[y,e8] at z;cases z
    rw[U a u na h] at z;cases z
  .rw [e3] at dv;symm at dv;subst dv;have ea:=hb _ _ ap.symm e6;have F3:Fits K T T H' (upd H' m (.lst (ys++[V.int ns[i]]))):=.upd (.inl ⟨_,ea⟩) λz=>z.2 rfl;show⟨ea,by rw[X,bb,js];lia,mm-1,∅,∅,r2.2,r3,Nf,e3',e4,by rw[X,List.take_succ_eq_append_getElem O,h_];rfl,aN,λb u n h=>?_,o',J,by rw[aR ap];show hp',ek,aM.fits F3 _ _ dx⟩;rw[aR (aT h p)];show hb _ _ n (U _ _ n h)
 .refine .inl ⟨⟨_,c7.of x,∅⟩,k m H1 ?_ (rN Y o0 U ⟨o1,I,e8,⟨?_,ob,hq⟩,?_⟩)⟩
  .rw [e6,X,s_ ∅]
  .rw [vw ∅] at q;cases q;rw[e9,<- e4]
  .rw [vw ∅] at q;cases q;rw[<- e4];show aM.fits (.mono λa z=>z.1) _ _ D_
end
theorem Wm(C:Cl X.Ω X.w X.K X.mg X.ω iB k y ps (x6 X.K R))(hr:d8 k X.A)(U:X.calm=ae)(hm:X.mg "sum"=af)
  (hi:PI X tg iter (SM X.K (sY il))) (hg:∀a C pn ex s H,PG (blk X ([v]++fs) sc a C pn ex s H) tg (yZ 0)) (L:∀a C pn ex s H,PA (blk X ([v]++fs) sc a C pn ex s H) (e::es) (rX (sY 1) (rX (sY 0) (rX (sY 2) Y0))))
  (z:∀a C pn ex s H,Gl (blk X ([v]++fs) sc a C pn ex s H) y) (he:∀a C pn ex s H,ar (e::es) (blk X ([v]++fs) sc a C pn ex s H).env=(ag,eval e (blk X ([v]++fs) sc a C pn ex s H).env)::ar es (blk X ([v]++fs) sc a C pn ex s H).env) (n:∀a C pn ex s H,(e_ cpos (ar es (blk X ([v]++fs) sc a C pn ex s H).env)).any (·.1)=ag) (J:Zu y)
  (B:WV X.env.scope.names sc X.N [v] fs [io,j]=ae<|>0) (hs:Zn X iter<|>4) (I:Gl X "sum"<|>0):OQ X (.Call (.Name "sum" p) [.ListComp (.Call (.Name y p2) (e::es) [] cpos) [⟨tg,iter,[],0⟩] sc ν] [] spos) (RR R io il j):=by
 obtain⟨F,x,hk,hb⟩:=C;show imp (mC (zQ U) I hm a1D (fC (LV (g:=yZ 0) (tf:=λ_ H Q=>Q ae H) U (oC B) hi hg (λa C pn ex s H=>LU) (λa C pn ex s H=>m4 F hr (z a C pn ex s H) x hk hb .nil zF (L a C pn ex s H) J (he a C pn ex s H) (n a C pn ex s H)) hs) kR)) ?_;rintro σ H Q ⟨H₀,S,w,ρ,G,Q3,hl2,st,⟨r,e,q⟩,k⟩;obtain⟨o,eo,f1⟩:=bnd e;obtain⟨l,el,f2⟩:=bnd f1;obtain⟨vs,ev,f3⟩:=bnd f2;obtain⟨⟨q0,ks,xs⟩,ed,Z⟩:=bnd f3;obtain⟨r2,ef,Y⟩:=bnd Z;obtain⟨ns,en,d⟩:=bnd Y
 clear e f1 f2 f3 Z Y
 have O:l=.lst vs:=by cases l<;>first|cases ev;rfl|cases ev
 subst O;by_cases m:⇑vs<k7
 .rw [Z_ m] at d;cases d;show Gb X.K R io il j σ H λu H1=>zm [u] H1 Q;show V3 st eo el (jK ed) ef (ints_of en) (by rw[gm];show m) λψ H' L h=>⟨ψ,ns,rfl,L,k w (.int ns.sum) H' _ (.int ns.sum) h (by symm) q⟩
 .rw [Zz m] at d;cases d
end L8
namespace L9
open PySem.Spec PyProof.Rows L2 L3 L4 L5 L8
def NSs(K:aq)(C:ah):List ah->Prop
 |[]=>True
 |D::ds=>aD3 K C D/\NSs K C ds
structure RO (K:aq) (R:ah):Prop where
 a:Bf K (.ref R) (.type "BaseException")=ab ae
 b:PySem.W.isClsIn K R=ae
 c:PySem.W.typeIn K (.ref R)=ab (.type "type")
structure XO (K:aq) (R C:ah) (ds:List ah):Prop where
 q:Ex K C
 v:Bf K (.ref C) (.type "ValueError")=ab ae
 r:Bf K (.ref C) (.ref R)=ab ae
 d:NSs K C ds
structure HO6 (X:Cx) (e C:ah) (ds:List ah):Prop where
 g:aD2 X e C
 q:Ex X.K C
 v:Bf X.K (.ref C) (.type "ValueError")=ab ae
 d:NSs X.K C ds
 i:X.mg "isinstance"=af
 w:X.mg "ValueError"=af
def XO.ho(z:XO X.K R C ds)(h:oe.cls=.ref C)(i:X.mg "isinstance"=af)(w:X.mg "ValueError"=af):HO6 (hcx X (ab (.ref e)) (pn++[(e,oe)])) e C ds :=
 ⟨⟨oe,ir _ cz,h⟩,z.q,z.v,z.d,i,w⟩
inductive Ph (P:bh) (w:bg) (ω:a_):Prop
 |mk:Ph P w ω
section
variable{P:bh}{w:bg}{K:aq}{mg:Q0d}{ω:a_}{x:aj}{st:df}{ps:Q0g}{n np:Nat}{b:SF}{key:EF}
def PX(c:Cl P w K mg ω CX j x ps sp)(k n:Nat)(h:j<=k<|>1):Cl P w K mg ω CX (k+n) x ps sp:=c.up (jb h (ou k n))
theorem oJ(l:Ph P w ω)(k:Nat)(F:kE)(e:F=c8 n np b)(N:Q0g)(D:Df K mg x st ps)
  (h:∀{f:ah} {a:ai} {A:bt} {Γ:List fv} {s:ak} {H:Hp} {E:XK},d8 k (A.deeper (envOfC x (aL st) ↥s f a))->N.Nodup->oD (lB iB P w K mg ω N x (aL st) f a A Γ s H E).EG (dF st) b)
  (S:dR N ps (aL st)<|>7) (j:⇑N=n<|>0) (d:⇑ps=np<|>0):Cl P w K mg ω iB (k+1) x ps (GI K F):=e▸fd4 D h S j d
theorem fqM(l:Ph P w ω)(k:Nat)(F:sR)(e:F=runM n np b key)(N:Q0g)(D:Df K mg x st ps)
  (h:∀{f:ah} {a:ai} {A:bt} {Γ:List fv} {s:ak} {H:Hp} {E:XK},d8 k (A.deeper (envOfC x (aL st) ↥s f a))->N.Nodup ->∃xc,rE (lB iB P w K mg ω N x (aL st) f a A Γ s H E).EG (dF st) (vT (iY K xc ⇑N (wS b)) (MH K (np-1) key)))
  (S:dR N ps (aL st)<|>7) (j:⇑N=n<|>0) (d:⇑ps=np<|>0):Cl P w K mg ω iB (k+1) x ps (x6 K F):=e▸fdM D h S j d
theorem rc4(a:Ph P w ω)(k:Nat)(F:Nat->kE)(D:Df K mg x st ps)(h:∀n,Cl P w K mg ω iB (k+n) x ps (GI K (F n))->Cl P w K mg ω iB (k+n+1) x ps (GI K (F (n+1))))(e:F 0=(λ_=>.no)<|>0):∀n,Cl P w K mg ω iB (k+n) x ps (GI K (F n))
 |0=>e▸nn4 D
 |n+1=>h n (rc4 a k F D h e n)
theorem rcM(a:Ph P w ω)(k:Nat)(F:Nat->sR)(D:Df K mg x st ps)(h:∀n,Cl P w K mg ω iB (k+n) x ps (x6 K (F n))->Cl P w K mg ω iB (k+n+1) x ps (x6 K (F (n+1))))(e:F 0=(λ_ _=>.no)<|>0):∀n,Cl P w K mg ω iB (k+n) x ps (x6 K (F n))
 |0=>e▸nnM D
 |n+1=>h n (rcM a k F D h e n)
variable{X:Cx}{i:Nat}{ν:bo}
def xv(hN:X.N[i]?=ab x<|>0)(d:xR X.env.scope x<|>3)(h:Zu x<|>1)
  (a:Zt x<|>1):bI X (.Name x ν) (bF i):=x4 i hN d h a
def y1(hN:X.N[i]?=ab x<|>0)(d:xR X.env.scope x<|>3)(h:Zu x<|>1)
  (a:Zt x<|>1):wU X [.Name x ν] (bO i):=aE (x4 i hN d h a) bA
end
variable{X:Cx}
section
variable{l m:aj}{fr:List Nat}{sc:gn}{iter elt c:av}{ν pt p1 p2:bo}{kk:Nat}{it:AF}{t:TF}{e:EF}
abbrev oK(X:Cx)(fr:List Nat):List aj:=fr.map λi=>X.N.getD i ""
def PY(j:QB X (.Name l pt) iter it)(n:∀{cl C pn ex s H},bI (blk X ([l]++oK X fr) sc cl C pn ex s H) elt e)(o:X.calm=ae<|>0)
  (d:(∀{cl C pn ex s H},Loc (blk X ([l]++oK X fr) sc cl C pn ex s H).env.scope l)<|>2) (a:(∀{cl C pn ex s H},(blk X ([l]++oK X fr) sc cl C pn ex s H).fn l=ae\/(blk X ([l]++oK X fr) sc cl C pn ex s H).env.scope.names.lookup l=ab .local)<|>6)
  (B:WV X.env.scope.names sc X.N [l] (oK X fr) fr=ae<|>0) (h:Zn X iter<|>4):bI X (.ListComp elt [⟨.Name l pt,iter,[],0⟩] sc ν) (bE 1 fr it (g1 0) bQ e) :=
 jS.pe (UW (ls:=[l]) o j (λ_ _ _ _ _ _ nd=>w9 (i:=0) nd a1S rfl d a) (λ_ _ _ _ _ _=>zS) (λ_ _ _ _ _ _=>n) B h)
def V4(j:QB X (.Name l pt) iter it)(n:∀{cl C pn ex s H},tH (blk X ([l]++oK X fr) sc cl C pn ex s H) c t)(o:∀{cl C pn ex s H},bI (blk X ([l]++oK X fr) sc cl C pn ex s H) elt e)(p:X.calm=ae<|>0)
  (d:(∀{cl C pn ex s H},Loc (blk X ([l]++oK X fr) sc cl C pn ex s H).env.scope l)<|>2) (a:(∀{cl C pn ex s H},(blk X ([l]++oK X fr) sc cl C pn ex s H).fn l=ae\/(blk X ([l]++oK X fr) sc cl C pn ex s H).env.scope.names.lookup l=ab .local)<|>6)
  (B:WV X.env.scope.names sc X.N [l] (oK X fr) fr=ae<|>0) (h:Zn X iter<|>4):bI X (.ListComp elt [⟨.Name l pt,iter,[c],0⟩] sc ν) (bE 1 fr it (g1 0) t e) :=
 jS.pe (UW (ls:=[l]) p j (λ_ _ _ _ _ _ nd=>w9 (i:=0) nd a1S rfl d a) (λ_ _ _ _ _ _=>UU n) (λ_ _ _ _ _ _=>o) B h)
def cp4(d:QB X (.Tuple [.Name l p1,.Name m p2] kk pt) iter it)(n:∀{cl C pn ex s H},bI (blk X ([l,m]++oK X fr) sc cl C pn ex s H) elt e)(o:X.calm=ae<|>0)
  (h:∀{cl C pn ex s H},(blk X ([l,m]++oK X fr) sc cl C pn ex s H).N.Nodup->UT (blk X ([l,m]++oK X fr) sc cl C pn ex s H) 2 (.Tuple [.Name l p1,.Name m p2] kk pt) (g2 0 1):=by show λnd=>IL (i:=0) (j:=1) rfl nd ⋯ ⋯)
  (B:WV X.env.scope.names sc X.N [l,m] (oK X fr) fr=ae<|>0) (a:Zn X iter<|>4):bI X (.ListComp elt [⟨.Tuple [.Name l p1,.Name m p2] kk pt,iter,[],0⟩] sc ν) (bE 2 fr it (g2 0 1) bQ e) :=
 jS.pe (UW (ls:=[l,m]) o d (λ_ _ _ _ _ _ nd=>h nd) (λ_ _ _ _ _ _=>zS) (λ_ _ _ _ _ _=>n) B a)
end
end L9
namespace L6
open PySem.Spec PyProof.Rows L2 L3 L4 PySem.W LM
section
variable{Ω:bh}{w:bg}{A:bt}{E:Q0c}{s:ak}{vs us:Q0f}{lt:Nat->Nat->Bool}
theorem FX(a:s.heap.get? t=ab o)(j:o.cls=.type "list")(d:o.data=.seq ι.toArray n)(m:⇑ι<=br)
  (h:∀h',↥s<=h'.objs.size->(∀b u,s.heap.get? b=ab u->h'.get? b=ab u)->Q ι {s with heap:=h' }):ax (au Ω w) A (collect (.ref t)) Q E s:=by
 delta collect;show ao (Hx (mx Jd ?_));rw[m_ Ja]
 wp_walk
 show⟨mw vc _,mx Je ?_⟩;rw[m_ vc];have l:(s.heap.push {cls:=.type "list",data:=.seq #[]}).get? ↥s=ab {cls:=.type "list",data:=.seq #[] 0}:=d_ _ rfl;show a0n (R:=wants _ _) (s:={s with heap:=s.heap.push {cls:=.type "list",data:=.seq #[]} }) ↥s t _ 0 (.inl rfl) l (cx _ a) j d ?_ ↑m;have g1:=u_ (fu (· ++ ι.toArray)) l rfl;show ao (Ba g1 (az ?_));simpa using h ((s.heap.push {cls:=.type "list",data:=.seq #[]}).update ↥s (fu (· ++ ι.toArray))) (nj (cf g1)) λb u e=>(Bs _ _ (ni (cf e))).trans (cx _ e)
theorem MN{l:nc}{Q:dj->ak->Prop}(q:⇑us=⇑vs)(O:fY lt)(I:1<=⇑vs)(x:∀(i j:Nat) (C:Bool->ak->Prop),i<⇑vs->j<⇑vs->C (lt i j) s->rm Ω w A l us i j C s)
  (h:∀(d:dj) (p:List Nat),(arrOf d).map (·.2)=(p.map λi=>vs.getD i ik).toArray->failedOf d=af->p.Perm (cj ⇑vs)->(∀i j:Nat,i<j->j<⇑vs->lt (p.getD j 0) (p.getD i 0)=ag)->Q d s):
  ax (au Ω w) A (sortRuns'.run (pk l (us.toArray.zip vs.toArray) #[] 7 af)) (λr s'=>Q r.2 s') E s:=by
 have J:pk l (us.toArray.zip vs.toArray) #[] 7 af=eK l (us.toArray.zip vs.toArray) (cj ⇑vs).toArray #[] 7:=by
  have e:=kas_range (us.toArray.zip vs.toArray);have z:(us.toArray.zip vs.toArray).size=⇑vs:=by simp[q]
  rw[z] at e;delta eK;rw[e]
 rw[J];rw[kat_ask_eq q] at x;show jl (aAY (n:=⇑vs) (lt:=lt) (Q:=λ_ d=>∃p' o g',d=eK l (us.toArray.zip vs.toArray) p' o g'/\Pn ⇑vs p'/\CT lt p' 0 ⇑vs) x O (qd _) I λp' o g' a b=>⟨p',o,g',rfl,a,b⟩) ?_ λ_ _ z=>z;rintro⟨⟨⟩,d⟩ s' ⟨rfl,p',o,g',m,y,F⟩;dsimp only at m ⊢;subst m;show h _ p'.toList (kat_snds q rfl) rfl ↑y.toList λi j v L=>?_;have K:=y.size;have:=F i j (ic _) v ∅;simpa[mq,show i<p'.size by lia,show j<p'.size by lia] using this
theorem PZ(ho:s.heap.get? a=ab (seqObj "list" vs.toArray n))(h2:2<=⇑vs)(hz:⇑vs<=5000)(O:fY lt)
  (ask:∀m,(∀b u,b≠a->s.heap.get? b=ab u->m.get? b=ab u) ->∃p,(∀Q:nc->ak->Prop,Q p {s with heap:=m}->ax (au Ω w) A (keyKind' vs.toArray) Q (λ_ _=>False) {s with heap:=m}) /\∀(i j:Nat) (C:Bool->ak->Prop),i<⇑vs->j<⇑vs->C (lt i j) {s with heap:=m}->rm Ω w A p vs i j C {s with heap:=m})
  (h:∀d:List Nat,d.Perm (cj ⇑vs)->(∀i j:Nat,i<j->j<⇑vs->lt (d.getD j 0) (d.getD i 0)=ag)->P (.done (.ret .none)) {s with heap:=sortedHeap s.heap a vs (d.map λi=>vs.getD i ik).toArray}):ax (au Ω w) A (Builtin.«list.sort» ⟨[.ref a],[]⟩) P E s:=by
 have ha:=cf ho;have F:=mz s.heap a (fu λ_=>(#[]:Array ai));obtain⟨e1,o1⟩:∃e1,(s.heap.update a (fu λ_=>#[])).get? a=ab (seqObj "list" #[] e1):=⟨_,qk ho λ_=>#[]⟩;have o2:=cx (seqObj "list" #[] 0) (cx (seqObj "tuple" vs.toArray 0) o1);have zl:br=16777216:=rfl;rw[a1y];show ao (Ce ho rfl (ao (qj ho rfl (ao (vg o1 rfl (ao (A_ (ao (qg (i_ ?_) (ic _))) (by show ⇑vs<=_;lia))))) (by rw[cu];lia) (ic _))));have v:¬ vs.toArray.size<2:=by rw[cu];lia
 dsimp only;rw[Zz v,Zz v];obtain⟨p,I,J⟩:=ask _ λb u L q=>cx (seqObj "list" #[] 0) (cx (seqObj "tuple" vs.toArray 0) ((F.2 b L).trans q));show ao (jl (I _ ?_) (λ_ _ z=>z) λ_ _ z=>z.elim);show ao (jl (MN (us:=vs) (vs:=vs) (lt:=lt) (Q:=λo s'=>s' = {s with heap:=((s.heap.update a (fu λ_=>#[])).push (seqObj "tuple" vs.toArray 0)).push (seqObj "list" #[] 0)} /\∃d:List Nat,(arrOf o).map (·.2)=(d.map λi=>vs.getD i ik).toArray/\failedOf o=af/\d.Perm (cj ⇑vs) /\∀i j:Nat,i<j->j<⇑vs->lt (d.getD j 0) (d.getD i 0)=ag) rfl O ∅ J λo d Z Y X U=>⟨rfl,d,Z,Y,X,U⟩) ?_ λ_ _ z=>z);rintro⟨⟨⟩,o⟩ s' ⟨rfl,d,l,y,x,K⟩;dsimp only at l y ⊢;rw[l,y];show ao (vg o2 rfl (ao (qj o2 rfl ?_ (ic _) (by rw[cu,bb,x.length_eq,jt];lia))));show ax _ _ (if(e1 !=e1)=ae then _ else _) _ _ _;rw[Zz (by simp)];show az (h d x K)
variable{X:Cx}
def MO(X:Cx):List V->Hp->VK->Prop:=λxs H Q=>∃(a:ah) (ys:List V) (lt:Nat->Nat->Bool),xs=[.ref a]/\H a=ab (.lst ys)/\2<=⇑ys/\⇑ys<=5000/\fY lt/\jL X ⇑ys lt ys H /\
 ∀d:List Nat,d.Perm (cj ⇑ys)->(∀i j:Nat,i<j->j<⇑ys->lt (d.getD j 0) (d.getD i 0)=ag) ->∀q,H q=af->Q (.ref q) (upd H q (.lst (d.map λi=>ys.getD i .non)))
def x8:eX X (.builtin "sorted") (MO X):=by
 intro π s σ H xs us Q I r h;obtain⟨a,ys,lt,rfl,ha,h2,Y,O,ask,q⟩:=h;obtain⟨u,rfl,K⟩:=vals1 r;cases K;obtain⟨d,v,L,hz⟩:=I.list (c7.of ha);have x:⇑d=⇑ys:=(i6 v).symm;obtain⟨o,ho,hc,n,hd⟩:=L.isList;have zl:br=16777216:=rfl;apply Ji Cf Cc Cg (Jr _);delta Builtin.«sorted»;show ao (m:=checkCount "sorted" 1 1 _) (az (ao (FX (A:=X.A.in1) ho hc hd ∅ λl F keep=>?_)));apply ao;show qg ?_ ∅;have g1:(l.push (seqObj "list" d.toArray 0)).get? l.objs.size=ab (seqObj "list" d.toArray 0):=d_ _ rfl;show ao (i_ (jw Ca ⟨_,g1,rfl⟩ Ci (PZ (lt:=lt) g1 ∅ ∅ O (λh2 U=>?_) λj p J=>⟨_,rfl,?_⟩) (Js _)))
 .have I2:=I.kept (t':=s.toks) (h':=h2) λb u q=>U b u (gp (cf (keep b u q))) (cx _ (keep b u q));rw[x];show ask _ _ _ d I2 v
 .rw [x] at p J;obtain⟨e,g2⟩:=a1u (out:=(j.map λi=>d.getD i ik).toArray) g1;show az ⟨_,rfl,?_⟩;have y:∀i∈j,i<⇑d:=λi Z=>by rw[x];simpa using p.mem_iff.1 Z
  show⟨.ref l.objs.size,upd H l.objs.size (.lst (j.map λi=>ys.getD i .non)),I.laid (t':=s.toks) (a:=l.objs.size) (λb u q=>?_) F ⟨by rw[bb,p.length_eq,jt];lia,_,e,rP v j y,g2⟩,rfl,q j p J _ (I.hok.fresh F)⟩;have z:=cf (keep b u q);rw[a1t (gp z) (by rw[oo];show vk z)];show cx _ (keep b u q)
end
end L6
namespace L9
open PySem.SeqAt PySem.Spec PyProof.Rows L2 L3 L4 L5 L6 PySem.W LM
theorem kts:∀{us:Q0f} {x0 x1:Nat->ai},(∀i,i<⇑us ->∃a,us[i]?=ab (.ref a)/\h.IsTuple a #[x0 i,x1 i])->KatTups h us ((cj ⇑us).map x0)
 |[],_,_,_=>KatTups.nil
 |u::us,x0,x1,q=>by obtain⟨a,e,o,ho,l,n,j⟩:=q 0 (by simp);erw[yd,a3W] at e;subst e;rw[eg,xu,bx,dg];show a0T ho l j rfl (kts (x0:=x0∘a1M) (x1:=x1∘a1M) λi d=>by simpa using q (i+1) ↑d)
structure Prs (X:Cx) (b:Bool) (n:Nat) (e0 e1 r0 r1:Nat->Nat->Bool) (s:ak) (us:Q0f) (x0 x1:Nat->ai):Prop where
 at_:∀i,i<n ->∃a,us[i]?=ab (.ref a)/\s.heap.IsTuple a #[x0 i,x1 i]
 q0:∀i j,i<n->j<n->xa X.A.in1.in1 s (x0 i) (x0 j) (e0 i j)
 l0:∀i j,i<n->j<n ->∀Q:Bool->ak->Prop,Q (r0 i j) s->ax (au X.Ω X.w) X.A.in1.in1 (oneLt' b (x0 i) (x0 j)) Q (λ_ _=>False) s
 q1:∀i j,i<n->j<n->xa X.A.in1.in1 s (x1 i) (x1 j) (e1 i j)
 l1:∀i j,i<n->j<n->Eh X.A.in1.in1 s (x1 i) (x1 j) (r1 i j)
theorem aDk(Y:⇑ys=n)(h2:0<n)
  (h:∀(π:Q0b) (σ:L2.St) (s:ak) (us:Q0f),L2.Φ X π σ H s->θ ys us ->∃x0 x1,Prs X (jm T !=jm "tuple") n e0 e1 r0 r1 s us x0 x1 /\∀i,i<n->Looks (au X.Ω X.w) s.heap (typeOf (x0 i)) (.type T)):
  jL X n (λi j=>if e0 i j=ae then(if e1 i j=ae then ag else r1 i j) else r0 i j) ys H:=by
 intro π σ s us I r;obtain⟨x0,x1,P,o⟩:=h π σ s us I r;have Z:=i6 r;show⟨_,λQ q=>kat_kind (T:=.type T) (kts (x1:=x1) λi d=>P.at_ i ∅) (by simp;lia) (λv p=>?_) (by simp) q,λi j C d m l=>?_⟩
 .obtain ⟨i,d,rfl⟩:=gx.1 p;show o i (by have:=k_.1 d;lia)
 obtain⟨a,A,L,y,_,U,J⟩:=P.at_ i d;obtain⟨b,z,K,x,_,O,F⟩:=P.at_ j m;dsimp only at l;delta rm;rw[ll,ll,A,z];show kat_lt y J x F ?_;show Io (P.q0 i j d m _ _ _ _ (kat_go (λe=>?_) (λe=>?_)))
 .rw [Z_ e] at l;show Im (Io (P.q1 i j d m _ _ _ _ (kat_go (λe=>?_) (λe=>?_))))
  .rw [Z_ e] at l;show Im (kat_nil l)
  .rw [Zz (by simp[e])] at l;show kat_no ?_;rw[show((jm T !=jm "tuple")&&(0+1 == 0))=ag from by simp];show kat_one _ _ (P.l1 i j d m _ _ _ _ (show W.BoolBack C (w_ _) s from l))
 .rw [Zz (by simp[e])] at l;show kat_no ?_;rw[show((jm T !=jm "tuple")&&(0 == 0))=(jm T !=jm "tuple") from by simp];show P.l0 i j d m _ l
structure FY {α:Type} [DecidableEq α] (X:Cx) (m:Nat) (g:α->D) (lt:α->α->Bool):Prop where
 inj:∀{S:ah->Prop} {H:Hp} {x y:α} {v:V},Dn X.K S H (g x) v->Dn X.K S H (g y) v->x=y
 at_:∀{S:ah->Prop} {π:Q0b} {σ:L2.St} {H:Hp} {s:ak} {x y:α} {vx vy:V} {u v:ai} {A:bt},L2.Φ X π σ H s->A.units+m<di->Dn X.K S H (g x) vx->Dn X.K S H (g y) vy->L2.Ψ vx u->L2.Ψ vy v ->
  xa A s u v (Zv (x=y))/\Eh A s u v (lt x y)
def FZ{x y:Q0e}(h:x.map V.int=y.map V.int):x=y:=(List.map_inj_right (λa b h=>V.int.inj h)).1 h
variable{X:Cx}
def MP:FY X 0 D.int GD:=by
 show⟨λh k=>?_,?_⟩
 .symm at h k;subst h;cases k;rfl
 intro S π σ H s x y n m u v A I o d a l j;symm at d a;subst d a;obtain⟨t,rfl⟩:=l;obtain⟨t2,rfl⟩:=j;show⟨uv x t y t2,λΩ w E Q h=>Cd h⟩
def MQ:FY X 1 (λl:List Int=>.tup (l.map D.int)) (sS GD):=by
 show⟨λh k=>?_,?_⟩
 .symm at h k;obtain⟨a,xs,rfl,o,da⟩:=h;obtain⟨b,ys,e,n,db⟩:=k;cases e;rw[aM.ints.1 da] at o;rw[aM.ints.1 db,o] at n;show FZ (HO.tup.inj (dm n))
 intro S π σ H s x y vx vy u v A I hu hx hy rx ry;rw[<- JS];symm at hx hy;obtain⟨a,xs,rfl,o,da⟩:=hx;obtain⟨b,ys,rfl,n,db⟩:=hy;rw[aM.ints.1 da] at o;rw[aM.ints.1 db] at n;cases rx;cases ry;obtain⟨t1,v1,p1,_⟩:=I.tuple (eJ.of o);obtain⟨t2,v2,p2,_⟩:=I.tuple (eJ.of n);obtain⟨d,e1,f1⟩:=fU v1;obtain⟨m,e2,Z⟩:=fU v2;subst e1 e2;have lx:⇑x=⇑d:=by rw[<- f1,bb]
 have ly:⇑y=⇑m:=by rw[<- Z,bb]
 show⟨?_,λΩ w E Q h=>?_⟩
 .by_cases e:a=b
  .subst e;rw[o] at n;rw[Zx (FZ (HO.tup.inj (dm n)))];show Ir _
  .refine EqAt.of_refs e ?_;have R:=RcAt.tuples (A:=A) (e:=λj=>Zv (x[j]?=y[j]?)) (show s.heap.IsTuple a (d.map vI).toArray from p1) (show s.heap.IsTuple b (m.map vI).toArray from p2) ∅ (λj Y U=>by
    have Y:j<⇑d:=by simpa using Y
    have U:j<⇑m:=by simpa using U
    have key:=uv (A:=A.in1) (s:=s) (d[j]).1 (d[j]).2 (m[j]).1 (m[j]).2;have ee:((d[j]).1 == (m[j]).1)=Zv (x[j]?=y[j]?):=by rw[<- f1,<- Z,c_,c_,cn Y,cn U];simp[Li]
    rw[<- ee];simpa using key)
   have ev:((cj (min (d.map vI).toArray.size (m.map vI).toArray.size)).all (λj=>Zv (x[j]?=y[j]?))&&(d.map vI).toArray.size == (m.map vI).toArray.size)=Zv (x=y):=by
    rw[jk];erw[ij,jd,k_,decide_eq_true_eq,cu,bb,beq_iff_eq]
    constructor
    .rintro ⟨hj,hs⟩;apply qa;intro j;by_cases hjl:j<⇑d
     .exact hj j ∅
     .rw [ig ∅,ig ∅]
    .rintro rfl;show⟨λ_ _=>rfl,∅⟩
   rw[ev] at R;show R
 obtain⟨⟨c1,d1,g1,O⟩,o1,K,n1,q⟩:=id (show s.heap.IsTuple a (d.map vI).toArray from p1);obtain⟨⟨c2,d2,g2,L⟩,o2,J,n2,p⟩:=id (show s.heap.IsTuple b (m.map vI).toArray from p2);simp only at K q J p;subst K q J p;show richCompare_meets_room (op:=.Lt) ⟨_,o1,rfl⟩ ⟨_,o2,rfl⟩ F.slot_tuple_lt F.entry_tuple_lt (F.args_tuple_lt_2 _ _) (aDf a b d m n1 n2 d1 d2 O L) ⟨o1,o2,?_⟩ ∅;rw[f1,Z];show⟨(λz=>by cases z),h⟩
def V5{K:aq}{S:ah->Prop}{π:Q0b}{σ:L2.St}{H:Hp}{s:ak}{d e:D}{n:V}{u:ai}(z:K=X.K)(I:L2.Φ X π σ H s)(h:Dn K S H (.tup [d,e]) n)(r:L2.Ψ n u):∃a l j m u1,u=.ref a/\n=.ref a/\s.heap.IsTuple a #[m,u1]/\Dn K S H d l/\Dn K S H e j/\L2.Ψ l m/\L2.Ψ j u1:=by symm at h;obtain⟨a,xs,rfl,p,q⟩:=h;obtain⟨l,j,rfl,x,v⟩:=Nl q;cases r;obtain⟨t1,o,y,_⟩:=I.tuple (eJ.of p);obtain⟨m,u1,rfl,r0,r1⟩:=vals2 o;show⟨a,l,j,m,u1,rfl,rfl,y,x,v,r0,r1⟩
structure Eg {α:Type} (X:Cx) (m:Nat) (T:String) (g:α->D) (lt:α->α->Bool):Prop where
 at_:∀{S:ah->Prop} {π:Q0b} {σ:L2.St} {H:Hp} {s:ak} {x y:α} {vx vy:V} {u v:ai} {A:bt},L2.Φ X π σ H s->A.units+m<di->Dn X.K S H (g x) vx->Dn X.K S H (g y) vy->L2.Ψ vx u->L2.Ψ vy v ->
  Looks (au X.Ω X.w) s.heap (typeOf u) (.type T) /\∀Q:Bool->ak->Prop,Q (lt x y) s->ax (au X.Ω X.w) A (oneLt' (jm T !=jm "tuple") u v) Q (λ_ _=>False) s
def MR:Eg X 0 "int" D.int GD:=by
 constructor
 intro S π σ H s x y m l u v A I n d a j h;symm at d a;subst d a;obtain⟨t,rfl⟩:=j;obtain⟨t2,rfl⟩:=h;show⟨a0S rfl,λQ q=>oneLt_int q⟩
def JC{S:ah->Prop}{H:Hp}{K:aq}{α:Type}{g:α->D}{z:α}{T:List α}{ys:List V}(h:aM K S H (T.map g) ys){i:Nat}(l:i<⇑ys):∃v,ys[i]?=ab v/\Dn K S H (g (T.getD i z)) v:=by
 have j:⇑T=⇑ys:=by simpa using h.len
 obtain⟨v,ev,a⟩:=h.get (i:=i) (d:=g (T.getD i z)) (by rw[c_,cn ∅,ll,cn ∅];rfl);show⟨v,ev,a⟩
theorem Ga{α L:Type}[DecidableEq α][DecidableEq L]{T0:String}{m:Nat}{g:α->D}{h:L->D}{lt:α->α->Bool}{O:L->L->Bool}(c1:FY X m g lt)(o1:Eg X m T0 g lt)(c2:FY X m h O)(O2:TO O)(hu:X.A.units+2+m<di)
  {S:ah->Prop} {H:Hp} {z:α×L} {T:List (α×L)} {ys:List V} (hd:aM X.K S H (T.map λp=>.tup [g p.1,h p.2]) ys) (h2:0<⇑ys):jL X ⇑ys (λi j=>iM lt O (T.getD i z) (T.getD j z)) ys H:=by
 have eu:X.A.in1.in1.units=X.A.units+2:=rfl;have key:=aDk (X:=X) (T:=T0) (n:=⇑ys) (H:=H) (ys:=ys) (e0:=λi j=>Zv ((T.getD i z).1=(T.getD j z).1)) (e1:=λi j=>Zv ((T.getD i z).2=(T.getD j z).2)) (r0:=λi j=>lt (T.getD i z).1 (T.getD j z).1) (r1:=λi j=>O (T.getD i z).2 (T.getD j z).2) rfl h2 (λπ σ s us I r=>by
  have hl:=i6 r;have all:∀i:Nat,∃p:ai×ai,i<⇑ys ->∃a o l,us[i]?=ab (.ref a)/\s.heap.IsTuple a #[p.1,p.2]/\Dn X.K S H (g (T.getD i z).1) o/\Dn X.K S H (h (T.getD i z).2) l/\L2.Ψ o p.1/\L2.Ψ l p.2:=λi=>by
   by_cases d:i<⇑ys
   .obtain ⟨v,ev,dv⟩:=JC (z:=z) hd d;obtain⟨u,eu,ru⟩:=r.get ev;obtain⟨a,o,l,u0,u1,rfl,_,P1,y,F,r0,r1⟩:=V5 rfl I dv ru;show⟨(u0,u1),λ_=>⟨a,o,l,eu,P1,y,F,r0,r1⟩⟩
   .exact ⟨(ik,ik),λq=>Zw q d⟩
  obtain⟨f,x⟩:=a34 all;show⟨λi=>(f i).1,λi=>(f i).2,⟨λi d=>?_,λi j d J=>?_,λi j d J Q q=>?_,λi j d J=>?_,λi j d J=>?_⟩,λi d=>?_⟩
  .obtain ⟨a,o,l,e,t,_⟩:=x i d;show⟨a,e,t⟩
  .obtain ⟨a,o,l,e,t,y,F,r0,r1⟩:=x i d;obtain⟨a',w0,Z,e',t',d0,Y,U,q1⟩:=x j J;show(c1.at_ I ∅ y d0 r0 U).1
  .obtain ⟨a,o,l,e,t,y,F,r0,r1⟩:=x i d;obtain⟨a',w0,Z,e',t',d0,Y,U,q1⟩:=x j J;show(o1.at_ I ∅ y d0 r0 U).2 Q q
  .obtain ⟨a,o,l,e,t,y,F,r0,r1⟩:=x i d;obtain⟨a',w0,Z,e',t',d0,Y,U,q1⟩:=x j J;show(c2.at_ I ∅ F Y r1 q1).1
  .obtain ⟨a,o,l,e,t,y,F,r0,r1⟩:=x i d;obtain⟨a',w0,Z,e',t',d0,Y,U,q1⟩:=x j J;show(c2.at_ I ∅ F Y r1 q1).2
  .obtain ⟨a,o,l,e,t,y,F,r0,r1⟩:=x i d;show(o1.at_ (A:=X.A.in1.in1) I ∅ y y r0 r0).1)
 have ef:(λi j=>iM lt O (T.getD i z) (T.getD j z))=λi j=>if Zv ((T.getD i z).1=(T.getD j z).1)=ae then(if Zv ((T.getD i z).2=(T.getD j z).2)=ae then ag else O (T.getD i z).2 (T.getD j z).2) else lt (T.getD i z).1 (T.getD j z).1:=by
  funext i j
  delta iM;by_cases e:(T.getD i z).1=(T.getD j z).1
  .rw [Z_ e,Z_ (Zx e)];by_cases e2:(T.getD i z).2=(T.getD j z).2
   .rw [Z_ (Zx e2),e2,O2.GC]
   .rw [Zz ↑e2]
  .rw [Zz e,Zz ↑e]
 rw[ef];show key
def V6(X:Cx):List V->Hp->VK->Prop:=λxs H Q=>E1 xs H Q\/CG xs H Q\/MO X xs H Q
def CN:eX X (.builtin "sorted") (V6 X):=by
 intro π s σ H xs us Q I r h;rcases h with h|h|h
 .exact kX π s σ H xs us Q I r h
 .exact qB π s σ H xs us Q I r h
 .exact x8 π s σ H xs us Q I r h
theorem V7{α:Type}{f:D->Option α}{g:α->D}{lt:α->α->Bool}(z:α)(O:TO lt)(back:∀d x,f d=ab x->d=g x)
  (ask:∀{S:ah->Prop} {H:Hp} {T:List α} {ys:List V},aM X.K S H (T.map g) ys->0<⇑ys->jL X ⇑ys (λi j=>lt (T.getD i z) (T.getD j z)) ys H):C3F X.K (V6 X) (λds Q=>∃d,AH f g lt ds=ab d/\Q d):=by
 intro S H xs ds Q3 Q fc hd ⟨d,e,q⟩ k;delta AH at e;split at e
 .rename_i es;obtain⟨T,e1,e⟩:=bnd e;by_cases I:⇑T<=5000
  .rw [Z_ I] at e;cases e;have e1:=mP back e1;subst e1;obtain⟨v,r,rfl,h1,h2⟩:=hd.aY;erw[aM] at h2;subst h2;symm at h1;obtain⟨a,ys,rfl,o,sa,m⟩:=h1;have n:⇑T=⇑ys:=by simpa using m.len
   match T,ys,n,m,o,I,q with
   |[],[],n,m,o,I,q =>
    show .inl ⟨a,[],rfl,o,⋯,λL F _ p h=>?_⟩;have:L=[]:=Kl.mp F;subst this;show k p [] _ [] h aN (aH h) aM.nil q
   |[t],[y],n,m,o,I,q =>
    show .inr (.inl ⟨a,y,rfl,o,λl h=>k l [y] _ [g t] h aN (aH h) (aM.fits ((Fits.fresh h).trans (.same (aH h))) _ _ m) q⟩)
   |t1::t2::ts,ys,n,m,o,I,q =>
    generalize hT:t1::t2::ts=T at *;have h2:2<=⇑ys:=by rw[<- n,<- hT];simp
    show .inr (.inr ⟨a,ys,λi j=>lt (T.getD i z) (T.getD j z),rfl,o,h2,∅,⟨λx y a=>O.as _ _ a,λx y z a b=>O.tr _ _ _ b a⟩,ask m ∅,λJ F Z l h=>?_⟩);rw[<- n] at F Z;have es:lK lt T=J.map (λi=>T.getD i z):=by
     show tM O ((eF T).trans ?_) (mO O T) ?_
     .have:=(F.map λi=>T.getD i z).symm;rw[map_getD] at this;show this
     .have hlen:⇑J=⇑T:=by rw[F.length_eq,jt]
      rw[UpB,vn,xw];intro i j Y hj U;have:=Z i j U ∅;simpa[Y,hj] using this
    have dn:∀A:List Nat,(∀i∈A,i<⇑ys)->aM X.K S H (A.map λi=>g (T.getD i z)) (A.map λi=>ys.getD i .non):=by
     intro A
     induction A with
     |nil=>intro _;show aM.nil
     |cons i A ih =>
      intro OK;obtain⟨v,ev,dv⟩:=JC (z:=z) m (OK i cz);show aM.cons ?_ (ih λx hx=>OK x (fq _ hx));dsimp only;rw[ll (l:=ys),ev];show dv
    show k l _ _ (J.map λi=>g (T.getD i z)) h aN (aH h) (aM.fits ((Fits.fresh h).trans (.same (aH h))) _ _ (dn J λi Y=>by rw[<- n];simpa using F.mem_iff.mp Y)) ?_;rw[es,dg] at q;show q
  .rw [Zz I] at e;cases e
 .cases e
def P0(d:D)(x:W6)(h:JT d=ab x):d=W7 x:=by
 delta JT at h;split at h
 .obtain ⟨l,e,rfl⟩:=jz.1 h;rw[L4.ints_of e]
 .cases h
def FY.up{α:Type}[DecidableEq α]{m k:Nat}{g:α->D}{lt:α->α->Bool}(c:FY X m g lt)(h:m<=k):FY X k g lt:=⟨c.inj,λI a=>c.at_ I ∅⟩
def aAZ{p a:bo}{e:av}{t:AF}(j:X.A.units+9<di)(l:X.mg "sorted"=af)(o:wU X [e] t)(m:Gl X "sorted"<|>0)(n:Zq X e []<|>0):jS X (.Call (.Name "sorted" p) [e] [] a) (cL GS t) :=
 cF (B6 CN (V7 (0,[]) AI P0 λd h=>Ga (MP.up (ic 1)) ⟨λI j=>MR.at_ I ∅⟩ MQ (AG lM) ∅ d h) xk m l o ⋯ ⋯ n (by rfl)) (xX λds d Q e q=>⟨d,e,q⟩)
end L9
namespace L6
open PySem.Spec PyProof.Rows L2 L3 L4 PySem.W LM
variable{X:Cx}
section
variable{π:Q0b}{σ:L2.St}{H:Hp}{s:ak}{P:Q0b}{f:ai}{t:V->Hp->VK->Prop}{xs:List V}{us:Q0f}{a kS:ah}{e1:Nat}{E:Q0c}
 {W:Nat->List V->Hp->Prop}
theorem sM{j:dj}{e:Nat}{y:Q0f}{out:Q0f}{Pf:Iz->ak->Prop}(I:Φ X ((π++[(a,seqObj "list" #[] e1)])++[(kS,seqObj "list" y.toArray e)]) σ H s)(Z:Fp X π a)(Y:Fp X (π++[(a,seqObj "list" #[] e1)]) kS)
  (d:(arrOf j).map (·.2)=out.toArray) (hz:⇑out<=5000) (hk:⇑y<=5000) (U:failedOf j=af)
  (h:∀s' c,Φ X (π++[(a,seqObj "list" out.toArray c)]) σ H s'->Pf (.done (.ret .none)) s'):ax (au X.Ω X.w) X.A.in1.in1 (ksk_tail a ag e1 (.ref kS) j) Pf E s:=by
 have x:=(k5 I).1;have K:=mz s.heap kS (fu λ_=>(#[]:Array ai));obtain⟨F,m⟩:∃F,(s.heap.update kS (fu λ_=>(#[]:Array ai))).get? kS=ab (seqObj "list" #[] F):=⟨_,qk x λ_=>#[]⟩;have I1:=qE (h':=s.heap.update kS (fu λ_=>(#[]:Array ai))) (t':=s.toks) I Y (λb u o q=>(K.2 b o).trans q) m (λv z=>by cases z);have J:=I1.gZ;have l:=(k5 J).1;obtain⟨O,e2⟩:∃g,s.heap.update kS (fu λ_=>(#[]:Array ai))=g:=⟨_,rfl⟩;have L:=mz (s.heap.update kS (fu λ_=>(#[]:Array ai))) a (fu λ_=>out.toArray);obtain⟨p,n⟩:∃p,((s.heap.update kS (fu λ_=>(#[]:Array ai))).update a (fu λ_=>out.toArray)).get? a=ab (seqObj "list" out.toArray p):=⟨_,qk l λ_=>out.toArray⟩;have I3:=qE (t':=s.toks) J Z (λb u o q=>(L.2 b o).trans q) n (λv z=>by cases z);delta ksk_tail;dsimp only;rw[d];show ao (qj x rfl ?_ (by rw[cu,gm];lia) (ic _));show ao (og (ao (vg l rfl ?_)));show ao (qj l rfl ?_ (ic _) (by show(if ag=ae then _ else _:Array ai).size<=_;rw[Zz bz,cu,gm];lia));rw[U];erw[if_false,bne_self_eq_false,o_];show az (h _ p I3)
theorem JD{lt:Nat->Nat->Bool}{ks:List V}{e:Nat}{m:Q0f}{Pf:Iz->ak->Prop}(I:Φ X ((π++[(a,seqObj "list" #[] e1)])++[(kS,seqObj "list" m.toArray e)]) σ H s)(J:Fp X π a)(F:Fp X (π++[(a,seqObj "list" #[] e1)]) kS)
  (r:θ ks m) (U:⇑m=⇑us) (y:⇑us<=5000) (O:fY lt) (ask:2<=⇑us->jL X ⇑us lt ks H)
  (h:∀(l:List Nat) s' c,l.Perm (cj ⇑us)->(∀i j:Nat,i<j->j<⇑us->lt (l.getD j 0) (l.getD i 0)=ag) ->
   Φ X (π++[(a,seqObj "list" (l.map λi=>us.getD i ik).toArray c)]) σ H s'->Pf (.done (.ret .none)) s'):
  ax (au X.Ω X.w) X.A.in1.in1 (ksk_end a ag us.toArray e1 (.ref kS) m.toArray) Pf E s:=by
 delta ksk_end;dsimp only;erw[if_false,o_];by_cases h2:⇑us<2
 .have o:us.toArray.size<2:=by rw[cu];show h2
  rw[Z_ o,Z_ o];apply ao;apply az;apply ao;apply az;have d:(arrOf (pk general' (m.toArray.zip us.toArray) #[] 7 af)).map (·.2)=us.toArray:=by show(m.toArray.zip us.toArray).map (·.2)=_;apply Array.toList_inj.mp;rw[a2O,ksk_zip,List.map_snd_zip (by rw[List.toList_toArray];lia)]
  show sM I J F d y ∅ rfl λs' c q=>h (cj ⇑us) s' c (a2y _) (λi j Y hj=>∅) ?_;have:(cj ⇑us).map (λi=>us.getD i ik)=us:=by
   show qa λi=>?_;rw[c_];by_cases p:i<⇑us
   .rw [qr p];simp[p]
   .rw [ig ↑p,ig ↑p];rfl
  rw[this];show q
 .have o:¬ us.toArray.size<2:=by rw[cu];show h2
  rw[Zz o,Zz o];obtain⟨κ,K,L⟩:=ask ∅ _ _ s m I r;show ao (jl (K _ ?_) (λ_ _ z=>z) λ_ _ z=>z.elim);show ao (jl (MN (us:=m) (vs:=us) (lt:=lt) (Q:=λn s'=>s'=s /\∃l:List Nat,(arrOf n).map (·.2)=(l.map λi=>us.getD i ik).toArray/\failedOf n=af/\l.Perm (cj ⇑us) /\∀i j:Nat,i<j->j<⇑us->lt (l.getD j 0) (l.getD i 0)=ag) U O ∅ L λst l a1 a2 a3 Z=>⟨rfl,l,a1,a2,a3,Z⟩) ?_ λ_ _ z=>z);rintro⟨⟨⟩,n⟩ s' ⟨rfl,l,d,x,v,o⟩;dsimp only at d x ⊢;show sM I J F d (by rw[bb,v.length_eq,jt];show y) ∅ x λs' c q=>h l s' c v o q
theorem F5(hK:wj X σ P f t)(hP:∀p∈P,p∈π)(I:Φ X ((π++[(a,seqObj "list" #[] e1)])++[(kS,seqObj "list" #[] 0)]) σ H s)(fa:Fp X π a)(fk:Fp X (π++[(a,seqObj "list" #[] e1)]) kS)
  (r:θ xs us) (gy:⇑us<=5000) (O:fY lt) (w0:W 0 [] H) (ws:∀(i:Nat) (x:V) (ks:List V) (H':Hp),xs[i]?=ab x->W i ks H'->t x H' λk H''=>W (i+1) (ks++[k]) H'')
  (ask:∀ks H',W ⇑us ks H'->2<=⇑us->jL X ⇑us lt ks H')
  (h:∀(n:List Nat) (ks:List V) (H':Hp) s' c,W ⇑us ks H'->n.Perm (cj ⇑us)->(∀i j:Nat,i<j->j<⇑us->lt (n.getD j 0) (n.getD i 0)=ag) ->
   Φ X (π++[(a,seqObj "list" (n.map λi=>us.getD i ik).toArray c)]) σ H' s'->Pf (.done (.ret .none)) s'):
  ax (au X.Ω X.w) X.A.in1.in1 (ksk_rest a f ag us.toArray e1 (.ref kS)) Pf E s:=by
 delta ksk_rest;show ao (je ?_);rw[List.forIn_toArray];show ao (ksk_fold (λi s'=>∃(H':Hp) (ks:List V) (l:Q0f) (e:Nat),Φ X ((π++[(a,seqObj "list" #[] e1)])++[(kS,seqObj "list" l.toArray e)]) σ H' s'/\θ ks l/\⇑l=i/\W i ks H') us 0 s ⟨H,[],[],0,I,.nil,rfl,w0⟩ ?_ ?_)
 .rintro j u s' hu ⟨H',ks,l,e,U,Y,K,m⟩;rw[ql] at K m ⊢;have hj:j<⇑us:=(de.mp hu).1;have F:=i6 r;obtain⟨u',J,ru⟩:=r.get (i:=j) (x:=xs[j]'∅) (by simp[F,hj]);rw[hu] at J;cases J;have q:=hK _ s' H' (xs[j]'∅) u _ U (λp Z=>lh _ (lh _ (hP p Z))) ru (ws j _ ks H' (by simp[F,hj]) m);show ao (rh (jl q (λd y h2=>?_) λ_ _ z=>z.elim));obtain⟨k,H2,L,rk,w2⟩:=h2;dsimp only;have nk:=(k5 L).1;have sk:=mz y.heap kS (fu (·.push d));have ea:l.toArray.push d=(l++[d]).toArray:=by simp
  obtain⟨c2,hc2⟩:∃c2,(y.heap.update kS (fu (·.push d))).get? kS=ab (seqObj "list" (l++[d]).toArray c2):=⟨_,by rw[<- ea];show qk nk (·.push d)⟩;show ao (qj nk rfl ?_ (by rw[cu,gm];lia) (by rw[ea,cu,gk,Ku,gm];lia));show az ⟨rfl,H2,ks++[k],l++[d],c2,?_,z6 rk Y,by rw[gk,Ku,K],w2⟩;show qE (t':=y.toks) L fk (λb o hb q=>(sk.2 b hb).trans q) hc2 (λv z=>by cases z)
 .rintro s' ⟨H',ks,l,e,U,Y,K,m⟩;rw[ql] at K m;show ao (Ce (k5 U).1 rfl ?_);show JD U fa fk Y K gy O (ask ks H' m) λn y c Z hs L=>h n ks H' y c m Z hs L
theorem F6(hK:wj X σ P f t)(Z:∀p∈P,p∈π)(I:Φ X π σ H s)(o:Fp X π a)(U:H a=af)(ho:s.heap.get? a=ab (seqObj "list" us.toArray n))
  (r:θ xs us) (gy:⇑us<=5000) (O:fY lt) (K:W 0 [] H) (ws:∀(i:Nat) (x:V) (ks:List V) (H':Hp),xs[i]?=ab x->W i ks H'->t x H' λk F=>W (i+1) (ks++[k]) F)
  (ask:∀ks H',W ⇑us ks H'->2<=⇑us->jL X ⇑us lt ks H')
  (h:∀(m:List Nat) (ks:List V) (H':Hp) s' c,W ⇑us ks H'->m.Perm (cj ⇑us)->(∀i j:Nat,i<j->j<⇑us->lt (m.getD j 0) (m.getD i 0)=ag) ->
   Φ X (π++[(a,seqObj "list" (m.map λi=>us.getD i ik).toArray c)]) σ H' s'->Pf (.done (.ret .none)) s'):
  ax (au X.Ω X.w) X.A.in1.in1 (ksk_tree a f ag) Pf E s:=by
 have L:=mz s.heap a (fu λ_=>(#[]:Array ai));obtain⟨d,l⟩:∃d,(s.heap.update a (fu λ_=>(#[]:Array ai))).get? a=ab (seqObj "list" #[] d):=⟨_,qk ho λ_=>#[]⟩;have I0:=t9 I o U ho (λv z=>by cases z);have I1:=qE (h':=s.heap.update a (fu λ_=>(#[]:Array ai))) (t':=s.toks) I0 o (λb u Y q=>(L.2 b Y).trans q) l (λv z=>by cases z);delta ksk_tree;apply ao;show Ce ho rfl ?_;apply ao;show qj ho rfl ?_ (by rw[cu,gm];lia) (ic _);apply ao;show vg l rfl ?_;show ao (A_ ?_ (by show ⇑us<=_;rw[gm];lia));apply ao;show qg ?_ (ic _);show i_ ?_;have y:=I1.kept (t':=s.toks) (h':=((s.heap.update a (fu λ_=>(#[]:Array ai))).push (seqObj "tuple" us.toArray 0))) λb u q=>cx _ q;have I3:=y.kept (t':=s.toks) (h':=((s.heap.update a (fu λ_=>(#[]:Array ai))).push (seqObj "tuple" us.toArray 0)).push (seqObj "list" #[] 0)) λb u q=>cx _ q;have J:Fp X (π++[(a,seqObj "list" #[] d)]) ((s.heap.update a (fu λ_=>(#[]:Array ai))).push (seqObj "tuple" us.toArray 0)).objs.size:=IX y (bq _);have I4:=t9 I3 J (y.hok.fresh (bq _)) (d_ _ rfl) (λv z=>by cases z);show F5 hK Z I4 o J r gy O K ws ask h
theorem F7{π:Q0b}{σ:L2.St}{H:Hp}{s:ak}{P:Q0b}{r f:ah}{t:V->Hp->VK->Prop}{W:Nat->List V->Hp->Prop}{lt:Nat->Nat->Bool}{xs:List V}{Q:VK}(I:Φ X π σ H s)
  (hK:wj X σ P (.ref f) t) (hP:∀p∈P,p∈π) (Y:⇑xs<=5000) (O:fY lt)
  (zi:∀Qc:List ai->ak->Prop,(∀(us:Q0f) (h':a_) (v:Nat),(∀b o,s.heap.get? b=ab o->h'.get? b=ab o)->θ xs us->Qc us {s with heap:=h',toks:=v})->ax (au X.Ω X.w) X.A.in1 (collect (.ref r)) Qc X.xe s)
  (w0:W 0 [] H) (ws:∀(i:Nat) (x:V) (ks:List V) (H':Hp),xs[i]?=ab x->W i ks H'->t x H' λk L=>W (i+1) (ks++[k]) L)
  (ask:∀ks H',W ⇑xs ks H'->2<=⇑xs->jL X ⇑xs lt ks H')
  (h:∀(d:List Nat) (ks:List V) (H':Hp) (D:ah),W ⇑xs ks H'->d.Perm (cj ⇑xs)->(∀i j:Nat,i<j->j<⇑xs->lt (d.getD j 0) (d.getD i 0)=ag)->H D=af->H' D=af ->
   Q (.ref D) (upd H' D (.lst (d.map λi=>xs.getD i .non)))):
  ax (au X.Ω X.w) X.A (call (.builtin "sorted") [.ref r] [(jn "key",.ref f)]) (EP X π σ Q) X.xe s:=by
 show call_function_entry_kw Cf Cc Cg (ksk_s1 _ _) ?_;delta Builtin.«sorted»;apply ao (m:=checkCount "sorted" 1 1 _);apply az;show ao (zi _ λus h' v kp y=>?_);have U:=i6 y;have J:=I.kept (t':=v) kp;apply ao;show qg ?_ (by rw[gm];lia);have I2:=J.kept (t':=v) (h':=h'.push (seqObj "list" us.toArray 0)) λb u q=>cx _ q;have l:(h'.push (seqObj "list" us.toArray 0)).get? h'.objs.size=ab (seqObj "list" us.toArray 0):=d_ _ rfl;have n:H h'.objs.size=af:=J.hok.fresh (bq _);have Z:Fp X π h'.objs.size:=IX J (bq _);show ao (i_ (wpAny_call_entry_kw Ca ⟨_,l,rfl⟩ Ci ?_ (ksk_l1 _ _)));show ax (au X.Ω X.w) X.A.in1.in1 (Builtin.«list.sort» ⟨[.ref h'.objs.size],[(jn "key",.ref f)]⟩) _ _ _;rw[ksk_t1];rw[U] at Y;rw[U] at ask h;show F6 hK hP I2 Z n l y Y O w0 ws ask λd ks H' s' c w' z hs K=>?_;have F:=(k5 K).2;show⟨_,rfl,az ⟨_,rfl,.ref h'.objs.size,upd H' h'.objs.size (.lst (d.map λi=>xs.getD i .non)),track K Z ?_,rfl,h d ks H' _ w' z hs n F⟩⟩;show⟨?_,d.map λi=>us.getD i ik,c,rP y d λi hi=>by simpa using z.mem_iff.mp hi,(k5 K).1⟩;rw[bb,z.length_eq,jt,gm];lia
end
end L6
namespace L9
open PySem.SeqAt PySem.Spec PyProof.Rows L2 L3 L4 L5 L6 L7 L8 PySem.W LM
variable{X:Cx}
structure Src (X:Cx) (items:D->Option (List D)):Prop where
 at_:∀{S:ah->Prop} {π:Q0b} {σ:L2.St} {H:Hp} {s:ak} {d:D} {v:V} {ds:List D},L2.Φ X π σ H s->X.A.handled=af->Dn X.K S H d v->items d=ab ds ->∃(r:ah) (xs:List V),v=.ref r/\aM X.K S H ds xs/\⇑xs<=br /\
  ∀Qc:List ai->ak->Prop,(∀(us:Q0f) (h':a_) (tk:Nat),(∀b o,s.heap.get? b=ab o->h'.get? b=ab o)->θ xs us->Qc us {s with heap:=h',toks:=tk})->ax (au X.Ω X.w) X.A.in1 (collect (.ref r)) Qc X.xe s
theorem aA0(I:(d == sysModules)=ag)(p:o.ExactDict)(x:o.data=.dict es ep):KdlSrc Ω w "dict" d d es.size (λi v=>∃h:i<es.size,v=es[i].key) (λh=>h.get? d=ab o) where
 type:=λ_ a=>⟨o,a,p.1⟩
 there:=λ_ a=>⟨cf a,cf a⟩
 keep:=λ_ _ a J=>J d (.inl rfl) o a
 notList:=by decide
 notTuple:=by decide
 hint:=λ_ _ _ _ a q=>kdl_hint_dict ⟨o,a,p.1⟩ q
 iter:=λA s K a=>⟨_,λi h=>h.IsKeyIter ↥s d i es.size ep/\h.get? d=ab o,(λ_ _ q=>PH I a p x q),
  ⟨λb L=>bu.2 (.inl (dh.1 L)),λi h h' j k=>⟨j.1.at λl e=>k _ cz l e,k d (fq _ cz) o j.2⟩,
   λi s' Q E F j h=>PJ j.1 j.2 x F λh' m y=>h _ h' s'.toks ⟨F,rfl⟩ ⟨m,(y.2 d (gp (cf a))).trans j.2⟩ λb l n e=>(y.2 b λz=>n (dh.2 z)).trans e,
   λs' Q E j h=>VC K j.1 j.2 x (bq _) λh' O=>h h' s'.toks λb l n e=>O b l (λz=>n (dh.2 z)) e,
   λi s' Q E j h=>wpAny_pyIter_keyiter j.1 h⟩,⟨⟨_,d_ _ rfl,rfl,by simp⟩,cx _ a⟩⟩
theorem F8{K:aq}{S:ah->Prop}{H:Hp}:∀χ:List (KX×V×V),(∀p∈χ,QD H p.1 p.2.1)->aM K S H ((χ.map (·.1)).map pd) (χ.map (·.2.1))
 |[],_=>aM.nil
 |p::l,h=>aM.cons (aDa (h p cz)) (F8 l λq a=>h q (fq _ a))
theorem Wl:Src X QM:=⟨λ{S π σ H s d v ds} I L p y=>by
 cases d with
 |a8 q0 ks xs =>
  cases y;symm at p;obtain⟨a,o,χ,rfl,O,Y,⟨rfl,_⟩,da⟩:=p;obtain⟨m,F,ho,n⟩:=FL I O;obtain⟨l,Z,U,ks,K⟩:=VH n;have J:l.size=⇑χ:=by have:=⇑ks;simp at this;lia
  show⟨a,χ.map (·.2.1),rfl,?_,by rw[bb];show m,λQc q=>?_⟩
  .exact F8 χ K
  .refine kdu_collect (aA0 F n.1 U) L ho (by rw[J];show m) λh' z j A hit=>q _ h' z A ?_;have:j.toList=l.toList.map (·.key):=by
    apply qa;intro i;by_cases x:i<l.size
    .have h:i<j.size:=by rw[hit.1];show x
     obtain⟨_,e⟩:=hit.2 i j[i] (by simp[h]);simp[x,h,e]
    .rw [ig (by rw[iu,hit.1];lia),ig (by simp;lia)]
   rw[this];show ks
 |_=>cases y⟩
def V8{a:Type}{f:D->Option a}{g:a->D}(h:∀d x,f d=ab x->d=g x)(d:D)(x:Int×a)(e:W8 f d=ab x):d=.tup [.int x.1,g x.2]:=by
 delta W8 at e;split at e
 .obtain ⟨b,e1,rfl⟩:=jz.1 e;rw[h _ _ e1]
 .cases e
theorem aA1{Y:Type}[DecidableEq Y]{fd:D->Option Y}{g:Y->D}{lt:Y->Y->Bool}{items:D->Option (List D)}{m:Nat}(zb:Y)(back:∀d x,fd d=ab x->d=g x)(O:TO lt)(cb:FY X (m+1) g lt)(sr:Src X items)
  {x0 x:aj} {fs:Q0g} {fr:List Nat} {c Pt:ah} {a body:av} {fa fk:EF} {params:B_} {sc:gn} {p ν y_ kp:bo} {k:Nat} (hc:X.calm=ae) (hr:d8 k X.A) (hu:X.A.units+2+(m+1)<di) (hm:X.mg "sorted"=af)
  (hx:(x0,c,Pt)∈dE X.K) (Z:X.env.code=.ref c) (ha:bI X a fa) (hk:∀cl L f cd s H,bI (FQ X (x::fs) (l9 x0) sc cl L f cd s H) body fk) (B:wg X.env.scope.names sc X.N x fs fr=ae<|>0)
  (hb:∀(cl:List (aj×ah)) (pm cd ct u:ai),bindArgs (Bi "<lambda>" (l9 x0) params body sc cl pm cd ct) ⟨[u],[]⟩=pure [(x,u)]:=by intro _ _ _ _ _;rfl)
  (hq:X.env.qual++"<lambda>"=l9 x0<|>0) (hdef:defaultsOf params X.env=([],[])<|>0)
  (hg:Gl X "sorted"<|>0) (he:Zq X a []<|>0) (he2:(e_ ν (ar [a] X.env)=(ag,eval a X.env)::e_ ν (ar [] X.env))<|>0) (hpl:(e_ ν (ar [a] X.env)).any (λx=>x.fst)=ag<|>0):
  jS X (.Call (.Name "sorted" p) [a] [⟨ab "key",.Lambda params body sc y_,kp⟩] ν) (AJ fd g lt items fr fa fk):=by
 intro π s σ H Q I ⟨S,ρ,Q3,fc,sl,⟨d,n,q3⟩,kk⟩;obtain⟨da,e1,n⟩:=bnd n;obtain⟨ds,e2,n⟩:=bnd n;obtain⟨bs,e5,n⟩:=bnd n;obtain⟨kd,e3,n⟩:=bnd n;obtain⟨T,e4,n⟩:=bnd n;by_cases ht:⇑T<=5000/\T.map (·.2)=bs
 case neg=>rw[Zz ht] at n;cases n
 rw[Z_ ht] at n;cases n;obtain⟨ht5,htb⟩:=ht;subst htb;have ekd:=mP (V8 back) e4;have eds:=mP back e5;rw[dg] at eds;have lds:⇑ds=⇑T:=by rw[eds,bb]
 have lkd:⇑kd=⇑T:=by rw[ekd,bb]
 have hA:PA X [a] _:=fC ha kR he;show wx (iX I hg hm xk ?_);show a1C (dI (hA ν π s σ H (λvs H1=>∃v,vs=[v]/\ξ H H1/\Dn X.K S H1 da v) I ⟨S,ρ,λd=>d=da,fc,sl,⟨da,e1,rfl⟩,λv H1 d' s1 d1 q1=>?_⟩) λus s1 ⟨vs,H1,I1,r1,q1⟩=>?_) he2 (hplain:=hpl)
 .subst q1;show⟨v,rfl,s1,d1⟩
 obtain⟨v,rfl,sm1,dv1⟩:=q1;obtain⟨u,rfl,ru⟩:=vals1 r1;have hd0:X.A.handled=af:=I.ok.hd hc;show kws_cons (VR I1 hx hq Z (MJ B) hdef λf c' ct cl H2 s2 sm2 cq hcl j7 I2=>kws_nil ?_);have sm:=sm1.trans sm2;obtain⟨r,xs,rfl,F,hxz,zi⟩:=sr.at_ I2 hd0 (Dn.fits (.same sm2) _ _ dv1) e2;cases ru;show ax (au X.Ω X.w) X.A (call (.builtin "sorted") [.ref r] [(jn "key",.ref f)]) _ _ s2;have o:⇑xs=⇑T:=by rw[<- lds];show F.len.symm
 have key:=aAN (te:=lift X.K (wE fk)) (σ:=σ) (q:=l9 x0) (params:=params) (f:=f) (c:=c') (pm:=(X.mg "__name__").getD .none) (ct:=ct) hc (MJ B) (by have:=hr.dp;lia) hcl j7 (λu=>hb cl _ _ _ u) λL s H=>hk cl L f (.ref c') s H;have main:=F7 (Q:=Q) (W:=λi ks H'=>ξ H2 H'/\aM X.K S H' (kd.take i) ks) (lt:=λi j=>iM GD lt (T.getD i (0,zb)) (T.getD j (0,zb))) (xs:=xs) (r:=r) I2 key (λp hp=>ir _ hp) (by rw[o];show ht5) ⟨λx y a=>(lL lM O).as _ _ a,λx y z a b=>(lL lM O).tr _ _ _ b a⟩
  zi ⟨ξ.refl _,by rw[a17];show aM.nil⟩ (λi x ks H' hxi ⟨h,dk⟩=>?_) (λks H' ⟨h,dk⟩ h2=>?_) λix ks H' Dd ⟨h,dk⟩ hp hs hD hD'=>?_
 .exact dI main λv s' ⟨y,H',J,ry,qy⟩=>⟨y,H',J.gZ,ry,qy⟩
 .have U:i<⇑ds:=by have:=(de.1 hxi).1;lia
  obtain⟨v,ev,dv⟩:=F.get (i:=i) (d:=ds[i]) (cn U);rw[hxi] at ev;cases ev;obtain⟨kv,ek,ek2⟩:=yE e3 (cn U);show⟨cq.same h,S,_,λd=>d=kv,bD fc (sm.trans h),aDg (d:=ds[i]) sl (sm.trans h) (Dn.fits (.same h) _ _ dv),⟨kv,ek2,rfl⟩,λv H'' d s3 dv n=>?_⟩;subst n;show⟨h.trans s3,?_⟩;rw[List.take_add_one,ek];show aM.append (aM.fits (Fits.same s3) _ _ dk) (aM.one dv)
 .rw [o,s_ ∅,ekd] at dk;have hl:=dk.len;rw[bb] at hl;rw[o,hl];show Ga (MP.up (ic _)) ⟨λI hu=>MR.at_ I ∅⟩ cb O hu dk ∅
 .rw [o] at hp hs;have hH:H Dd=af:=sm.free hD;have es:lK (iM GD lt) T=ix.map (λi=>T.getD i (0,zb)):=by
   show tM (lL lM O) ((eF T).trans ?_) (mO (lL lM O) T) ?_
   .have:=(hp.map λi=>T.getD i (0,zb)).symm;rw[map_getD] at this;show this
   .have hlen:⇑ix=⇑T:=by rw[hp.length_eq,jt]
    rw[UpB,vn,xw];intro i j U hj hij;have:=hs i j hij ∅;simpa[U,hj] using this
  show kk Dd _ _ ((lK (iM GD lt) T).map λt=>g t.2) hH aN ((sm.trans h).trans (aH hD')) ?_ q3;rw[es,dg];have dn:∀jx:List Nat,(∀i∈jx,i<⇑xs)->aM X.K S H2 (jx.map ((λt=>g t.2)∘λi=>T.getD i (0,zb))) (jx.map λi=>xs.getD i .non):=by
   intro jx
   induction jx with
   |nil=>intro _;show aM.nil
   |cons i jx ih =>
    intro OK;have U:=OK i cz;obtain⟨v,ev,dv⟩:=JC (z:=(0,zb)) (g:=(λt:Int×Y=>g t.2)) (by rw[eds] at F;show F) U;show aM.cons ?_ (ih λx hx=>OK x (fq _ hx));dsimp only;rw[ll (l:=xs),ev];show dv
  show aM.fits ((Fits.same h).trans ((Fits.fresh hD').trans (.same (aH hD')))) _ _ (dn ix λi U=>by rw[o];simpa using hp.mem_iff.mp U)
def V9(d:D)(x:Q0e)(h:GU d=ab x):d=qz x:=by
 delta GU at h;split at h
 .rw [L4.ints_of h]
 .cases h
theorem aDo{x0 x:aj}{fs:Q0g}{fr:List Nat}{c Pt:ah}{a body:av}{v q:EF}{params:B_}{sc:gn}{p j y z:bo}{k:Nat}(hc:X.calm=ae)(I:d8 k X.A)(hu:X.A.units+9<di)(O:X.mg "sorted"=af)
  (F:(x0,c,Pt)∈dE X.K) (d:X.env.code=.ref c) (ha:bI X a v) (U:∀o L f cd s H,bI (FQ X (x::fs) (l9 x0) sc o L f cd s H) body q) (B:wg X.env.scope.names sc X.N x fs fr=ae<|>0)
  (hb:∀(o:List (aj×ah)) (pm cd ct u:ai),bindArgs (Bi "<lambda>" (l9 x0) params body sc o pm cd ct) ⟨[u],[]⟩=pure [(x,u)]:=by intro _ _ _ _ _;rfl)
  (J:X.env.qual++"<lambda>"=l9 x0<|>0) (h:defaultsOf params X.env=([],[])<|>0)
  (Y:Gl X "sorted"<|>0) (Z:Zq X a []<|>0) (n:(e_ j (ar [a] X.env)=(ag,eval a X.env)::e_ j (ar [] X.env))<|>0) (l:(e_ j (ar [a] X.env)).any (λx=>x.fst)=ag<|>0):
  jS X (.Call (.Name "sorted" p) [a] [⟨ab "key",.Lambda params body sc y,z⟩] j) (AK fr v q) :=
 aA1 (m:=0) [] V9 (AG lM) MQ Wl hc I ∅ O F d ha U B hb J h Y Z n l
end L9
namespace L4
open PySem.Spec PyProof.Rows L2 L3 PySem.W LM
section
variable{Ω:bh}{w:bg}{A:bt}{It S:ah}{fp wr:List ah}{n:Nat}{P:Nat->ai->Prop}{St:Nat->a_->Prop}
def Ef(n:Nat)(val:Nat->Int)(d v:ai):Prop:=(n=0/\v=d) \/∃i t,i<n/\v=.int (val i) t /\∀k,k<n->val k<=val i
def Ee(j:Nat)(val:Nat->Int)(old:Q0f):Prop:=(j=0/\old=[]) \/∃i t,i<j/\old=[.int (val i) t,.int (val i) t] /\∀k,k<j->val k<=val i
theorem aA2(val:Nat->Int)(d:ai)(W:Walks Ω w A.in1 It fp wr n P St)(hP:∀i v,P i v ->∃t,v=.int (val i) t)(Dw:S∉fp){s0:ak}{R:Bn->ak->Prop}
  (hR:∀v h' I,Ef n val d v->(∀b o,b∉wr->b≠S->s0.heap.get? b=ab o->h'.get? b=ab o)->R (.ok (.ret v)) {s0 with heap:=h',toks:=I}):
  ∀(r j:Nat) (h:a_) (I:Nat) (old:Q0f) (c:Nat),n<j+r->j<=n->St j h->h.get? S=ab (seqObj "list" old.toArray c)->Ee j val old ->
   (∀b o,b∉wr->b≠S->s0.heap.get? b=ab o->h.get? b=ab o) ->
   oh (au Ω w) A (.builtin "max.loop" ⟨[.ref It,.none,.ref S],[(jn "default",d)]⟩) R {s0 with heap:=h,toks:=I}:=by
 have L:toString "max"++toString ".loop"=("max.loop":String):=by decide
 have Dv:S∉wr:=λz=>Dw (W.sub _ z);intro r
 induction r with
 |zero=>intro j h I old c hr hj;lia
 |succ r ih =>
  intro j h I old c hr hj Y O hu kept;apply mx PySem.F.entry_max_loop;rw[(m_ xi _)];show ax (au Ω w) A.in1 (seqItems? (.ref S) >>= _) _ _ _;apply ao;show n_ O rfl ?_;show ax _ A.in1 (tryCatch (pyNext (.ref It)) _ >>= _) _ _ _;by_cases e:j=n
  .subst e;show ao (Hu (W.done _ _ _ Y λy a p=>?_));have q:=p S _ Dv O;rcases hu with⟨z,rfl⟩|⟨i,t,hi,rfl,x⟩
   .show ax _ A.in1 (rule _ >>= _) _ _ _;show ao (je (az (hR d y a (.inl ⟨z,rfl⟩) λb o hw l e=>p b o hw (kept b o hw l e))))
   .show ax _ A.in1 (updateSeq S (λ_=>#[]) >>= _) _ _ _;have s1:=mz y S (fu λ_=>(#[]:Array ai));show ao (Ht q rfl (ao (og (az (hR _ _ a (.inr ⟨i,t,hi,rfl,x⟩) λb o hw l e=>(s1.2 b l).trans (p b o hw (kept b o hw l e)))))))
  .refine ao (Hu (W.item j _ _ _ ∅ Y λv y a hv K p=>?_));have q:=p S _ Dv O;obtain⟨m,rfl⟩:=hP _ _ hv;have put:∀h2:a_,(∀b o,b≠S->y.get? b=ab o->h2.get? b=ab o) ->∀J U,h2.get? S=ab (seqObj "list" (xr J) U)->Ee (j+1) val J ->
     oh (au Ω w) A (.builtin "max.loop" ⟨[.ref It,.none,.ref S],[(jn "default",d)]⟩) R {s0 with heap:=h2,toks:=a}:=λh2 Z J U g2 u2 =>
    ih (j+1) h2 a J U ∅ ∅ (W.frame _ _ _ K λb x o e=>Z b o (λz=>Dw (z▸x)) e) g2 u2 λb o hw l e=>Z b o l (p b o hw (kept b o hw l e))
   have X:=λxs:Array ai=>(mz y S (fu λ_=>xs)).2;rcases hu with⟨z,rfl⟩|⟨i,t,hi,rfl,x⟩
   .show ax _ A.in1 (updateSeq S (λ_=>#[.int (val j) m,.int (val j) m]) >>= _) _ _ _;show ao (Ht q rfl ?_);rw[L];show az ⟨mw xi _,put _ (λb o l e=>(X _ b l).trans e) _ _ (qk q λ_=>#[.int (val j) m,.int (val j) m]) (.inr ⟨j,m,∅,rfl,λk p=>?_⟩)⟩;rw[show k=j by lia];show Le _
   .show ax _ A.in1 (tryCatch (holding [_,_] (richCompare .Gt _ _ >>= _)) _ >>= _) _ _ _;show ao (Hu (i_ (ao (CmpOf.ints_gt (prog:=Ω) (w:=w) (A:=A.in1) (P:=λi v=>∃t,v=.int (val i) t) val (λi v h=>h) j i _ _ _ _ _ ⟨m,rfl⟩ ⟨t,rfl⟩ ?_))));show ao (i_ (mr (ao (og (az ?_)))));by_cases hg:val j>val i
    .erw[hg,decide_true,if_true];show ao (Ht q rfl (ao (og ?_)));rw[L];show az ⟨mw xi _,put _ (λb o l e=>(X _ b l).trans e) _ _ (qk q λ_=>#[.int (val j) m,.int (val j) m]) (.inr ⟨j,m,∅,rfl,λk p=>?_⟩)⟩;by_cases e:k=j
     .subst e;show Le _
     .have:=x k ∅;lia
    .erw[hg,decide_false,o_,if_false];show ao (og ?_);rw[L];show az ⟨mw xi _,put y (λ_ _ _ e=>e) _ c q (.inr ⟨i,t,∅,rfl,λk p=>?_⟩)⟩;by_cases e:k=j
     .subst e;lia
     .exact x k ∅
def P4(a v:ai):argsOk "max" ⟨[a],[(jn "default",v)]⟩:=by delta argsOk;kernel_rfl
variable{X:Cx}{σ:L2.St}{π:Q0b}{H:Hp}{s:ak}{Q:VK}
theorem WB{n:Nat}{zs:Nat->Int}{ns:Q0e}{k:Int}{o:iz}{v:ai}(q:⇑ns=n)(p:∀j,j<n->zs j=ns.getD j 0)(h:Ef n zs (.int k o) v):∃t,v=.int (lN k ns) t:=by
 rcases h with⟨z,rfl⟩|⟨i,t,x,rfl,m⟩
 .have:ns=[]:=qp.1 (q.trans z);show⟨o,by delta lN;rw[Z_ this]⟩
 show⟨t,?_⟩;have get:∀j (a:j<⇑ns),zs j=ns[j]:=λj a=>by rw[p j ∅,ll,cn a];rfl
 have mem:zs i∈ns:=by rw[get i ∅];show yb _
 have top:∀b∈ns,b<=zs i:=λb d=>by obtain⟨j,a,e⟩:=qq d;have:=m j ∅;rw[get j a,e] at this;show this
 cases ns with
 |nil=>cases mem
 |cons c l =>
  have:lN k (c::l)=zs i:=L5.CI l c _ (bu.mp mem) (top c (by simp)) λb m=>top b (by simp[m]);rw[this]
theorem P5{a:ah}{ns:Q0e}{k:Int}{p:iz}(hc:X.calm=ae)(I:Φ X π σ H s)(ha:eJ X.K H a (ns.map V.int))(q:Q (.int (lN k ns)) H):
  ax (au X.Ω X.w) X.A (call (.builtin "max") [.ref a] [(jn "default",.int k p)]) (EP X π σ Q) X.xe s:=by
 have nm:toString "max"++toString ".loop"=("max.loop":String):=by decide
 obtain⟨Y,rv,pt,hz⟩:=I.tuple ha;have L:=intsAre_of rv;obtain⟨zs,O⟩:=L.allInts.items;have U:zs.toList.map (·.1)=ns:=by rw[<- a0w,<- O];show L.numsOf
 have sz:zs.size=⇑ns:=by rw[<- U,bb,iu]
 have J:s.heap.IsTuple a (intItems zs):=O▸(show s.heap.IsTuple a Y.toArray from pt);have x:a<↥s:=by obtain⟨_,e,_⟩:=J;show cf e
 apply kmk_tree PySem.F.kind_max PySem.F.plain_max PySem.F.entry_max (P4 _ _);show ax _ X.A.in1 (a1o "max" ["key","default"] 0 ⟨[],[(jn "default",.int k p)]⟩ >>= _) _ _ s;show ao (wpAny_of_eq (show a1o "max" ["key","default"] 0 ⟨[],[(jn "default",.int k p)]⟩=pure [af,ab (.int k p)] from rfl) ?_);show ao (az (ao (ur J (ao (qg ?_ (ic _))))));rw[nm];have W:=Walks.tuple (prog:=X.Ω) (w:=X.w) (A:=X.A.in1) (I.ok.hd hc) ↥s a (gp x) (intItems zs);obtain⟨d,y⟩:∃d:ay,d={cls:=.type "tuple_iterator",data:=.fields #[.ref a,.int 0 0]}:=⟨_,rfl⟩;rw[<- y];have m:(s.heap.push d).objs.size=↥s+1:=oo _ _;show az ⟨mw xi _,aA2 (numAt zs) (.int k p) W (λ_ _=>intItems_at) (s0:={s with heap:=s.heap.push d}) ?_ (λv h' Z ht hk=>?_) (zs.size+1) 0 _ _ [] 0 (by simp[intItems]) (ic _) ⟨⟨d,cx _ (d_ _ (by subst y;rfl)),by subst y;rfl,by subst y;rfl⟩,(J.push _).push _⟩ (d_ _ rfl) (.inl ⟨rfl,rfl⟩) λ_ _ _ _ e=>cx _ e⟩
 .intro h;erw[jh,or_false,bu] at h;rcases h with z|z
  .have z:(s.heap.push d).objs.size=↥s:=z;rw[m] at z;show Ka _ z
  .have z:(s.heap.push d).objs.size=a:=z;rw[m] at z;show jr _ (gu (z▸x) (qm _))
 .obtain ⟨t,rfl⟩:=WB (ns:=ns) (by simp[intItems,sz]) (λj _=>by rw[numAt_eq,U]) ht;show⟨.int (lN k ns),H,I.kept λb o e=>hk b o (λh=>?_) (λh=>?_) (cx _ e),⟨t,rfl⟩,q⟩
  .have:b=↥s:=by simpa using h
   show jr _ (this▸cf e)
  .have l:=cf e;have h:b=(s.heap.push d).objs.size:=h;rw[h,m] at l;show jr _ (xo (Cp _) l)
def Wk{a b:av}{q fb:EF}{p m kp:bo}(hc:X.calm=ae)(hm:X.mg "max"=af)(ha:bI X a q)(hb:bI X b fb)(hg:Gl X "max"<|>0)(he:Zq X a []<|>0)
  (L:(e_ m (ar [a] X.env)=(ag,eval a X.env)::e_ m (ar [] X.env))<|>0) (O:(e_ m (ar [a] X.env)).any (·.1)=ag<|>0):
  bI X (.Call (.Name "max" p) [a] [⟨ab "default",b,kp⟩] m) (aC JU q fb):=by
 intro π s σ H Q I ⟨S,ρ,Q3,fc,Z,⟨d,z,q3⟩,kk⟩;obtain⟨x,ex,z⟩:=bnd z;obtain⟨y,ey,j⟩:=bnd z
 clear z
 delta JU at j;split at j
 case h_2=>cases j
 rename_i ds k;obtain⟨ns,en,j⟩:=bnd j;cases j;have:=ints_of en;subst this;have hA:wU X [a] (aA q aG):=aE ha bA he;show wx (iX I hg hm a1E ?_);show a1C (dI (hA m π s σ H (λvs H1=>∃l,vs=[.ref l]/\ξ H H1/\H1 l=ab (.tup (ns.map V.int))) I ⟨S,ρ,λes=>es=[.tup (ns.map D.int)],fc,Z,⟨[.tup (ns.map D.int)],(by show((q ρ).bind λd=>(ab ([]:List D)).bind λds=>ab (d::ds))=_;rw[ex];rfl),rfl⟩,λvs H1 es K d1 q1=>?_⟩) λus K ⟨vs,H1,I1,r1,q1⟩=>?_) L O
 .subst q1;obtain⟨v,r,rfl,h1,h2⟩:=d1.aY;erw[aM] at h2;subst h2;symm at h1;obtain⟨l,xs,rfl,U,dn⟩:=h1;have Y:=aM.ints.mp dn;subst Y;show⟨l,rfl,K,U⟩
 obtain⟨l,rfl,h,U⟩:=q1;obtain⟨u,rfl,ru⟩:=vals1 r1;cases ru;show kws_cons (dI (hb π K σ H1 (λv F=>v=.int k/\ξ H1 F) I1 ⟨S,ρ,λd=>d=.int k,bD fc h,Sl.fits (.same h) Z,⟨_,ey,rfl⟩,λv F d J dv eq=>?_⟩) λu J ⟨v,F,I2,r2,Y,o⟩=>kws_nil ?_)
 .subst eq;symm at dv;show⟨dv,J⟩
 subst Y;obtain⟨tk,rfl⟩:=r2;show ax (au X.Ω X.w) X.A (call (.builtin "max") [.ref l] [(jn "default",.int k tk)]) _ _ J;show P5 hc I2 (eJ.of (o _ _ U)) (kk (.int (lN k ns)) F (.int (lN k ns)) (h.trans o) (by symm) q3)
end
end L4
namespace L8
open PySem.Spec PyProof.Rows L2 L3 L4
variable{X:Cx}
theorem Ni{k:Nat}{Z:Q0g}{R:sR}{j:Nat}{y:aj}{p U bp h:bo}{c e:av}{o:List av}{n:TF}{t:AF}{u v:List df}{f g:SF}(hc:tH X c n)(C:Cl X.Ω X.w X.K X.mg X.ω iB k y Z (x6 X.K R))(hr:d8 k X.A)
  (ha:PA X (e::o) (jR X.K t j)) (hu:oD X u f) (hv:oD X v g) (hg:Gl X y<|>0) (J:Zu y<|>1) (he:Zq X e o<|>0) (I:Q0k X h o<|>0):
  sE X (.If (.BoolOp .And [c,.Call (.Name y p) (e::o) [] h] bp) u v U) (QQ n R t j f g):=by
 obtain⟨F,hm,hk,hb⟩:=C;show j6 (G_ (PW.pt (SH hc (K8 (aCE (m4 F hr hg hm hk hb .nil zF ha J he I))))) hu hv) λB σ H Wj=>?_;obtain⟨H₀,S,w,ρ,G,E,L,x,hw,ok⟩:=Wj;delta wS QQ at hw
 cases hB:JV n R t j ρ with
 |none=>rw[hB] at hw;show hw.elim
 |some r =>
 obtain⟨b,l⟩:=r;rw[hB] at hw;have go:∀H',ST X.K H₀ S w σ H' l G->if b=ae then iY X.K (XC X) ⇑X.N (wS f) B σ H' else iY X.K (XC X) ⇑X.N (wS g) B σ H':=λH' a=>by
  cases b with
  |true=>rw[Z_ rfl];show⟨H₀,S,w,l,G,E,L,a,hw,ok⟩
  |false=>rw[Zz bz];show⟨H₀,S,w,l,G,E,L,a,hw,ok⟩
 delta JV at hB
 cases h1:n (bL ρ) with
 |none=>rw[h1] at hB;cases hB
 |some c1 =>
 rw[h1] at hB;show⟨S,bL ρ,λz=>z=c1,x.TN,x.all,⟨c1,h1,rfl⟩,λd H1 Y q1=>?_⟩;subst q1;have m:=x.same Y
 cases d with
 |false=>cases hB;rw[Zz bz];show go H1 m
 |true =>
  rw[Z_ rfl];dsimp only at hB;split at hB
  .rename_i q b' kd h2;cases hB;show rO m h2 λv H' a O=>?_;symm at O;show⟨b,O,go H' a⟩
  .cases hB
abbrev MS(K:aq)(e:EF):TS:=Ag (lift K (wE e))
def Wi{a:df}{b:SF}{e:av}{f:EF}{d:bo}(h:sE X a b)(j:bI X e f):rE X [a,.Return (ab e) d] (vT (iY X.K (XC X) ⇑X.N (wS b)) (MS X.K f)):=pO h (BQ (HD j))
def aDp{a:List D}{d:D}(h:M8 a d=ae):∃i ds,d=.lst (.int i::ds)/\lD ds=ae/\(a=[] \/∃xs r,a=.tup xs::r):=by
 delta M8 at h;split at h
 .exact ⟨_,_,rfl,h,.inl rfl⟩
 .exact ⟨_,_,rfl,h,.inr ⟨_,_,rfl⟩⟩
 .cases h
def aDq{K:aq}{H:Hp}{T m:ah->Prop}{a:ah}{x:List D}{d:D}{v:V}(h:M8 x d=ae)(L:∀b,T b->b≠a->m b)(ho:tF K m H (.lst x) a)(n:Dn K T H d v):Dn K m H d v:=by
 obtain⟨ys,A,l⟩:=ho;obtain⟨i,ds,rfl,J,F⟩:=aDp h;symm at n ⊢;obtain⟨p,xs,rfl,j,y,O⟩:=n;obtain⟨Y,r0,rfl,q,I⟩:=O.aY;symm at q;subst q;show⟨p,_,rfl,j,L p y λe=>?_,.cons (by symm) (I.CP J)⟩;subst e;rw[A] at j;cases j;rcases F with rfl|⟨zs,r,rfl⟩
 .erw[aM] at l;cases l
 .obtain ⟨U,r1,e1,o,_⟩:=l.aY;cases e1;symm at o;obtain⟨_,_,z,_⟩:=o;cases z
theorem JE{R:sR}{t:AF}{a j:Nat}{H₀ H:Hp}{S:ah->Prop}{w:Nat->ah}{σ:L2.St}{ρ:bC}{G:List (D×V)}{r:(Nat->ay->Prop)×D×KD}{Q:VK}(y:a≠j)(m:ST X.K H₀ S w σ H ρ G)(h:C5 R t a j ρ=ab r)
  (k:∀v H',ST X.K H₀ S w σ H' (ρ.set j (.ow (.a8 (adr r.1) r.2.2.1 r.2.2.2))) G->Dn X.K (SO S w ρ) H' r.2.1 v->Q v H'):LF (x6 X.K R) [] E0 (jR X.K t j) σ H Q:=by
 obtain⟨Y,F,h⟩:=bnd h;obtain⟨ds,et,h⟩:=bnd h;obtain⟨⟨Z,ks,xs⟩,eo,h⟩:=bnd h;have n:=jK eo;have A:ρ[a]?=ab (.ow (.lst Y)):=by
  delta lG at F;split at F
  .rename_i z;cases F;show z
  .cases F
 cases hR:R ds (ks,xs) with
 |no=>dsimp only at h;rw[hR] at h;cases h
 |ex c=>dsimp only at h;rw[hR] at h;cases h
 |ok r0 =>
  dsimp only at h;rw[hR] at h;dsimp only at h;split at h
  case isFalse=>cases h
  rename_i hc;cases h;obtain⟨a0,b0,_⟩:=m.own j _ n;obtain⟨aa,ba,ca⟩:=m.own a _ A;have O:w a≠w j:=λe=>y (m.inj _ _ _ _ A n e);have sub:∀b,SO S w ρ b->SO S w ρ b\/b=w a:=λb z=>.inl z;show⟨λb=>SO S w ρ b\/b=w a,(gI ρ).set a (ab (.lst Y)),ds,w j,λb e=>.inl (m.GG b e),λi d e=>?_,et,a0,λvs H1 s1 dn=>?_⟩
  .by_cases x:a=i
   .subst x;rw[ox (by delta gI;rw[bb];show(de.1 A).1)] at e;cases e;obtain⟨ys,J,U⟩:=ca;show⟨_,aa,?_⟩;symm;show⟨_,ys,rfl,J,.inr rfl,aM.fits (.mono sub) _ _ U⟩
   .rw [kc x] at e;obtain⟨v,e1,e2⟩:=m.rd i d e;show⟨v,e1,Dn.fits (.mono sub) _ _ e2⟩
  have l:=m.same s1;obtain⟨_,_,⟨o,χ,hp,⟨e5,hq⟩,dk⟩⟩:=l.own j _ n;subst e5;show x6 X.K R ((vs++[V.ref (w j)])++[]) H1 Q E0;rw[lr];show⟨λb=>SO S w ρ b\/b=w a,ds,vs,w j,o,χ,xs,r0,rfl,λb e=>.inl (l.GG b e),λz=>z.elim (λz=>z.2 j _ n rfl) λz=>O z.symm,hp,dn,aM.fits (.mono sub) _ _ dk,hR,λv H' o' q hb L ek dx dv=>?_⟩;have p:=rN (d':=.a8 (adr Z) r0.2.1 r0.2.2) l n hb ⟨o',q,L,⟨ek,o,hq⟩,dx.CP hc.2⟩;show k v H' p (aDq hc.1 (λb z hz=>z.resolve_right hz) ?_ dv);have I:(ρ.set j (.ow (.a8 (adr Z) r0.2.1 r0.2.2)))[a]?=ab (.ow (.lst Y)):=by rw[kc (fz y)];show A
  obtain⟨_,_,ys,J,U⟩:=p.own a _ I;show⟨ys,J,aM.fits (.mono λb z=>⟨z.1,λi d e=>?_⟩) _ _ U⟩;by_cases x:j=i
  .subst x;show z.2 j _ (by rw[ox (de.1 n).1])
  .exact z.2 i d (by rw[kc x];show e)
theorem aDr{k:Nat}{ps:Q0g}{R:sR}{i a j:Nat}{x y:aj}{p ν pos' n ip:bo}{c e e2:av}{I:List av}{L:TF}{t:AF}{f2:EF}(hc:tH X c L)(C:Cl X.Ω X.w X.K X.mg X.ω iB k y ps (x6 X.K R))(hr:d8 k X.A)(hij:i≠j)(haj:a≠j)(hN:X.N.Nodup)
  (ha:PA X (e::I) (jR X.K t j)) (h2:bI X e2 f2) (hi:X.N[i]?=ab x<|>0) (hx:Loc X.env.scope x<|>2) (hg:Gl X y<|>0) (hdb:Zu y<|>1) (he:Zq X e I<|>0) (Y:Q0k X n I<|>0)
  (hs:g_ (.IfExp c (.Call (.Name y p) (e::I) [] n) e2 ip) (ab (.Name x pos')) ν.line X.env=pure ag<|>0) (hf:Zp X x<|>2):
  sE X (.Assign [.Name x pos'] (.IfExp c (.Call (.Name y p) (e::I) [] n) e2 ip) ν) (uP i L R t a j f2):=by
 obtain⟨F,Z,hk,hb⟩:=C;show j6 (oB hN hi hx (EE hc (m4 F hr hg Z hk hb .nil zF ha hdb he Y) h2) hs hf) λB σ H Wh=>?_;obtain⟨H₀,S,w,ρ,G,E,J,U,l,ok⟩:=Wh;delta wS uP at l
 cases h1:L (bL ρ) with
 |none=>rw[h1] at l;show l.elim
 |some c1 =>
 rw[h1] at l;show⟨S,bL ρ,λz=>z=c1,U.TN,U.all,⟨c1,h1,rfl⟩,λd H1 s1 q1=>?_⟩;subst q1;have o:=U.same s1
 cases d with
 |true =>
  rw[Z_ rfl];dsimp only at l
  cases h:C5 R t a j ρ with
  |none=>rw[h] at l;show l.elim
  |some r =>
   rw[h] at l;show JE haj o h λv H' O dv=>ok.nx w _ H' _ (by rw[kb];show J) (O.kU (by rw[J];show iZ hi) (Dn.fits (.mono λb z=>?_) _ _ dv)) l;show⟨z.1,λm y Z=>?_⟩;rcases get_set Z with⟨hj,_,hlt⟩|⟨_,q⟩
   .subst hj;obtain⟨_,_,h⟩:=bnd h;obtain⟨_,_,h⟩:=bnd h;obtain⟨⟨q0,ks,xs⟩,eo,h⟩:=bnd h;show z.2 m _ (jK eo)
   .exact z.2 m y q
 |false =>
  rw[Zz bz];dsimp only at l
  cases h:f2 (gI ρ) with
  |none=>rw[h] at l;show l.elim
  |some d =>
   rw[h] at l;show⟨SO S w ρ,gI ρ,λz=>z=d,o.GG,o.rd,⟨d,h,rfl⟩,λv H' d' s2 dn e=>?_⟩;subst e;show ok.nx w _ H' _ (by rw[kb];show J) ((o.same s2).kU (by rw[J];show iZ hi) dn) l
theorem Nh{P:bh}{w:bg}{K:aq}{mg:Q0d}{ω:a_}{x qual:aj}{U:df}{f:ah}{fd:gw}{N X:Q0g}{k n np:Nat}{b:SF}{e0:EF}(F:WR K x qual U f fd)(S:dR N X (aL U))(hn:⇑N=n)(hp:⇑X=np)
  (O:∀(I:ai) (A:bt) (Γ:List fv) (s:ak) (H:Hp) (E:XK),d8 k (A.deeper (envOfC qual (aL U) ↥s f I)) ->
   ∃xc,rE (lB iB P w K mg ω N qual (aL U) f I A Γ s H E).EG (dF U) (vT (iY K xc ⇑N (wS b)) (MS K e0))):jN P w K mg ω iB (k+1) f fd X (x6 K (C4 n np b e0)):=by
 subst hn hp;show F.ok S (λvs H Q E h=>?_) λI A Γ s H vs Q E hr h=>?_
 .obtain ⟨T,ds,us,p,o,χ,xs,r,rfl,fc,np,hp,du,dx,hR,kk⟩:=h;have Z:=JW hR hV;delta uO at Z;split at Z
  .rename_i hl;rw[gk,<- du.len];show hl
  .cases Z
 .obtain ⟨xc,Z⟩:=O I A Γ s H E hr;obtain⟨T,ds,us,p,o,χ,xs,r,rfl,fc,nT,hp,du,dx,hR,kk⟩:=h;show⟨_,Z,?_⟩;have j:=JW hR (λa _=>a=p);delta uO at j;split at j
  case isFalse=>cases j
  rename_i hl;have hlu:=du.len;have hpN:⇑X<=⇑N:=by have:=congrArg vv S.pre;rw[js] at this;lia
  have j0:⇑X-1=⇑ds:=∅
  have sj:(startM ⇑N ds (λa _=>a=p) (χ.map (·.1),xs))[⇑ds]?=ab (Sv.ow (.a8 (λa _=>a=p) (χ.map (·.1)) xs)):=by delta startM;rw[ji (by simp)];simp
  have sv:∀i,i<⇑ds->(startM ⇑N ds (λa _=>a=p) (χ.map (·.1),xs))[i]?=(ds[i]?).map Sv.ro:=λi hi=>by delta startM;rw[kh ↑hi,c_]
  have sn:∀i,⇑ds<i ->∀y,(startM ⇑N ds (λa _=>a=p) (χ.map (·.1),xs))[i]?=ab y->y=Sv.no:=λi hi y e=>by
   delta startM at e;rw[ji (by simp;lia)] at e;obtain⟨m,hm⟩:∃m,i-⇑(Kr Sv.ro ds)=m+1:=⟨i-⇑ds-1,by simp;lia⟩;rw[hm,kg,mi] at e;split at e
   .cases e;rfl
   .cases e
  have ow:∀(i:Nat) (d:D),(startM ⇑N ds (λa _=>a=p) (χ.map (·.1),xs))[i]?=ab (Sv.ow d)->i=⇑ds/\d=.a8 (λa _=>a=p) (χ.map (·.1)) xs:=λi d e=>by
   rcases a1W i ⇑ds with h|h|h
   .rw [sv i h] at e;obtain⟨y,_,ey⟩:=jz.1 e;cases ey
   .subst h;rw[sj] at e;cases e;show⟨rfl,rfl⟩
   .cases sn i h _ e
  have so:∀a,T a->SO (λa=>T a\/a=p) (λ_=>p) (startM ⇑N ds (λa _=>a=p) (χ.map (·.1),xs)) a:=λa ta=>⟨.inl ta,λi d e z=>nT (by rw[<- show a=p from z];show ta)⟩;have J:L2.start N (us++[.ref p])=us.map ab++ab (.ref p)::cg (⇑N-(⇑us+1)) af:=by delta L2.start;simp
  cases hbs:b (startM ⇑N ds (λa _=>a=p) (χ.map (·.1),xs)) with
  |no=>rw[hbs] at j;cases j
  |rt d=>rw[hbs] at j;cases j
  |ex c=>rw[hbs] at j;cases j
  |nx ρ1 =>
   rw[hbs] at j;dsimp only at j;show⟨λc=>if c=p then af else H c,λa=>T a\/a=p,λ_=>p,startM ⇑N ds (λa _=>a=p) (χ.map (·.1),xs),[],{nx:=λρ=>ρ=ρ1,rt:=λ_=>False,bk:=λ_=>False,ct:=λ_=>False,ex:=λ_=>False},?_,?_,?_,?_⟩
   .rw [J];simp;lia
   .refine ⟨λa e=>?_,λc u e=>?_,λi d e=>?_,λi i' d d' h1 h2 _=>(ow i d h1).1.trans (ow i' d' h2).1.symm,λi d e=>?_,λg hg=>(by cases hg),λi xs e=>by have:=(ow i _ e).2;cases this⟩
    .by_cases z:a=p
     .exact .inr z
     .exact .inl (fc a (by simpa[z] using e))
    .by_cases z:c=p
     .simp [z] at e
     .simpa [z] using e
    .obtain ⟨rfl,rfl⟩:=ow i d e;show⟨?_,by simp,o,χ,hp,⟨rfl,rfl⟩,aM.fits (.mono so) _ _ dx⟩;rw[J,ji (by simp;lia)];simp[hlu]
    .by_cases hi:i<⇑ds
     .rw [sv i hi] at e;obtain⟨y,e1,ey⟩:=jz.1 e;cases ey;obtain⟨v,ev,dv⟩:=du.get e1;show⟨v,?_,Dn.fits (.mono so) _ _ dv⟩;have hv:i<⇑us:=(de.1 ev).1;rw[J,kh ↑hv,c_,ev];rfl
     .rcases xp ⇑ds i with h|h
      .cases sn i h _ e
      .have:i=⇑ds:=∅
       subst this;rw[sj] at e;cases e
   .delta wS;rw[hbs]
   .refine ⟨λw' σ' H' L hl' l e=>?_,λ_ _ _ _ _ z=>z.elim,λ_ _ _ _ _ _ z=>z.elim,λ_ _ _ _ _ _ z=>z.elim,λ_ _ _ z=>z.elim⟩;subst e;rw[j0] at j;obtain⟨⟨q',ks',xs'⟩,eo,j⟩:=bnd j;obtain⟨d,ed,j⟩:=bnd j;have o0:=jK eo;obtain⟨a0,b0,⟨o1,FP,hp1,⟨e5,hq1⟩,dk1⟩⟩:=l.own ⇑ds _ o0;split at j
    case isFalse=>cases j
    rename_i hc;obtain⟨_,q⟩:=hc _ _ hq1;have q:w' ⇑ds=p:=q;show⟨SO (λa=>T a\/a=p) w' L,gI L,λy=>y=d,l.GG,l.rd,⟨d,ed,rfl⟩,λy H2 y' s2 dy ey=>?_⟩;subst ey;have st2:=l.same s2;obtain⟨_,_,⟨o2,IW,Y,⟨e6,_⟩,ZN⟩⟩:=st2.own ⇑ds _ o0;have toT:∀a,SO (λa=>T a\/a=p) w' L a->T a:=λa z=>z.1.elim id λy=>Zw (y.trans q.symm) (z.2 _ _ o0);have er:r=(y',ks',xs'):=(dm j).symm;subst er;rw[q] at Y;show kk y H2 o2 IW (λc u ne hc=>s2 _ _ (l.sm c u (by simpa[ne] using hc))) Y e6 (aM.fits (.mono toT) _ _ ZN) (Dn.fits (.mono toT) _ _ dy)
theorem fdV{P:bh}{w:bg}{K:aq}{mg:Q0d}{ω:a_}{x:aj}{a:df}{N j:Q0g}{k n l:Nat}{b:SF}{e0:EF}(D:Df K mg x a j)
  (h:∀{f:ah} {d:ai} {A:bt} {Γ:List fv} {s:ak} {H:Hp} {E:XK},d8 k (A.deeper (envOfC x (aL a) ↥s f d))->N.Nodup ->∃xc,rE (lB iB P w K mg ω N x (aL a) f d A Γ s H E).EG (dF a) (vT (iY K xc ⇑N (wS b)) (MS K e0)))
  (S:dR N j (aL a)<|>7) (v:⇑N=n<|>0) (p:⇑j=l<|>0):Cl P w K mg ω iB (k+1) x j (x6 K (C4 n l b e0)):=by
 obtain⟨_,F,m,q⟩:=D;show⟨Nh F S v p λ_ _ _ _ _ _ o=>h o S.nd,m,F.kp,q⟩
end L8
namespace L9
open PySem.Spec PyProof.Rows L2 L3 L4 L5 L8
section
variable{P:bh}{w:bg}{K:aq}{mg:Q0d}{ω:a_}{x:aj}{st:df}{ps:Q0g}{n np:Nat}{b:SF}{key:EF}
theorem fqV(l:Ph P w ω)(k:Nat)(F:sR)(e:F=C4 n np b key)(N:Q0g)(D:Df K mg x st ps)
  (h:∀{f:ah} {a:ai} {A:bt} {Γ:List fv} {s:ak} {H:Hp} {E:XK},d8 k (A.deeper (envOfC x (aL st) ↥s f a))->N.Nodup ->∃xc,rE (lB iB P w K mg ω N x (aL st) f a A Γ s H E).EG (dF st) (vT (iY K xc ⇑N (wS b)) (MS K key)))
  (S:dR N ps (aL st)<|>7) (j:⇑N=n<|>0) (d:⇑ps=np<|>0):Cl P w K mg ω iB (k+1) x ps (x6 K F):=e▸fdV D h S j d
end
end L9
namespace L4
open PySem.Spec PyProof.Rows L2 L3
section
variable{Ω:bh}{w:bg}{A:bt}{E:Q0c}{s:ak}
abbrev zl1(h:a_)(t:ah):a_:=h.push {cls:=.type "list_iterator",data:=.fields #[.ref t,.int 0 0]}
abbrev zl0(h:a_)(t:ah):a_:=h.push {cls:=.type "tuple_iterator",data:=.fields #[.ref t,.int 0 0]}
abbrev zl2(h:a_)(t u:ah):a_:=zl0 (zl1 h t) u
abbrev zl3(h:a_)(t u:ah):a_:=(zl2 h t u).push {cls:=.type "tuple",data:=.seq #[.ref h.objs.size,.ref (zl1 h t).objs.size]}
abbrev zl4(h:a_)(t u:ah):a_:=(zl3 h t u).push {cls:=.type "tuple",data:=.seq #[.none,.none]}
abbrev zl5(h:a_)(t u:ah):a_:=(zl4 h t u).push {cls:=.type "zip",data:=.fields #[.none,.bool ag,.bool ag,.ref (zl2 h t u).objs.size,.ref (zl3 h t u).objs.size]}
def JF(t u:ah)(xs ys:Array ai):Meets (Builtin.«zip.__new__» ⟨[.type "zip",.ref t,.ref u],[]⟩) (λ_ R s=>s.heap.IsList t xs/\s.heap.IsTuple u ys/\R (.ok (.ret (.ref (zl4 s.heap t u).objs.size))) {s with heap:=zl5 s.heap t u}):=by
 show .of_wp λp0 x z y s h=>?_;obtain⟨q,p,h⟩:=h;obtain⟨l,v,m,a,d⟩:=s;have n:=sub_zip;have j:Heap.IsTuple (Shared.heap ⟨zl1 l t,v,m,a,d⟩) u ys:=by obtain⟨o,e,r⟩:=p;show⟨o,cx _ e,r⟩
 wp_walk using wt q,ur j
 show⟨_,rfl,h⟩
theorem JG{t u:ah}{xs ys:Array ai}{Q:Q0c}(I:s.heap.IsList t xs)(z:s.heap.IsTuple u ys)
  (h:∀a:a_,iq a (↥s+4) (↥s+2) (↥s+3) .none->gj a (↥s+2) (.ref ↥s) (.ref (↥s+1)) ->
   gj a (↥s+3) .none .none->a.IsListIter ↥s t 0->a.IsTupleIter (↥s+1) u 0 ->
   (∀c o,s.heap.get? c=ab o->a.get? c=ab o)->Q (.ref (↥s+4)) {s with heap:=a}):
  ax (au Ω w) A (call (.type "zip") [.ref t,.ref u]) Q E s:=by
 show Ij F.called_zip ⋯ (F.typeCall_zip_2 _ _) (F.newCall_zip_2 _ _) (λobj=>F.args_object_init_3 obj _ _) F.entry_zip_new (JF t u xs ys) ⟨I,z,?_⟩;have m:(zl1 s.heap t).objs.size=↥s+1:=oo ..;have l:(zl2 s.heap t u).objs.size=↥s+2:=(oo ..).trans (by rw[m]);have j:(zl3 s.heap t u).objs.size=↥s+3:=(oo ..).trans (by rw[l]);have d:(zl4 s.heap t u).objs.size=↥s+4:=(oo ..).trans (by rw[j]);have keep:∀{p:a_} {o:ay} (b:ah) (x:ay),p.get? b=ab x->(p.push o).get? b=ab x:=λ_ _ e=>cx _ e;have n:(zl5 s.heap t u).get? (zl4 s.heap t u).objs.size=ab {cls:=.type "zip",data:=.fields #[.none,.bool ag,.bool ag,.ref (zl2 s.heap t u).objs.size,.ref (zl3 s.heap t u).objs.size]}:=d_ _ rfl;have q:(zl5 s.heap t u).get? (zl3 s.heap t u).objs.size=ab {cls:=.type "tuple",data:=.seq #[.none,.none]}:=keep _ _ (d_ _ rfl);have v:(zl5 s.heap t u).get? (zl2 s.heap t u).objs.size=ab {cls:=.type "tuple",data:=.seq #[.ref ↥s,.ref (zl1 s.heap t).objs.size]}:=keep _ _ (keep _ _ (d_ _ rfl));have y:(zl5 s.heap t u).get? (zl1 s.heap t).objs.size=ab {cls:=.type "tuple_iterator",data:=.fields #[.ref u,.int 0 0]}:=keep _ _ (keep _ _ (keep _ _ (d_ _ rfl)));have e1:(zl5 s.heap t u).get? ↥s=ab {cls:=.type "list_iterator",data:=.fields #[.ref t,.int 0 0]}:=keep _ _ (keep _ _ (keep _ _ (keep _ _ (d_ _ rfl))));rw[d,l,j] at n;rw[j] at q;rw[l,m] at v;rw[m] at y;show⟨⟨_,by rw[d];show n,rfl⟩,?_⟩;show Q (.ref (zl4 s.heap t u).objs.size) _;rw[d];show h _ n v q ⟨_,e1,rfl,rfl⟩ ⟨_,y,rfl,rfl⟩ λc o x=>keep _ _ (keep _ _ (keep _ _ (keep _ _ (keep _ _ x))))
end
def yz(K:aq)(l m:ah):It:=Itp (λi H=>∃xs ys v u,c7 K H l xs/\eJ K H m ys/\xs[i]?=ab v/\ys[i]?=ab u) (λi H vs=>∃v u,vs=[v,u]/\(∀xs,c7 K H l xs->xs[i]?=ab v) /\∀ys,eJ K H m ys->ys[i]?=ab u)
 (λi H=>∃xs ys,c7 K H l xs/\eJ K H m ys/\min ⇑xs ⇑ys=i)
theorem JH{P:bh}{w:bg}{K:aq}{es:List av}{kk:Nat}{tp:bo}{z TI TO F n l m:ah}(p:MK z TI TO F n [F,l] [n,m]):
  Turn P w K (.Tuple es kk tp) (yz K l m) [z,TI,TO,F,n] z (λi h=>iq h z TI TO .none/\gj h TI (.ref F) (.ref n)/\(∃a b,gj h TO a b)/\h.IsListIter F l i/\h.IsTupleIter n m i):=by
 show kZ (by simp) (λi h j b U=>?_) (λi h h2 j k=>?_) (λX hP hw hK hc i π s σ H I j hg=>?_) (λA i s Q E j q=>?_)
 .obtain ⟨Z,Y,⟨x,y,a3⟩,⟨o4,c4,_,d4⟩,o5,c5,_,d5⟩:=j;erw[bu,or_false,jh] at U;rcases U with e|e|e|e|e<;>subst e
  .exact ⟨_,Z,λv y=>nomatch y⟩
  .exact ⟨_,Y,λv y=>nomatch y⟩
  .exact ⟨_,a3,λv y=>nomatch y⟩
  .exact ⟨o4,c4,λv y=>by rw[d4] at y;cases y⟩
  .exact ⟨o5,c5,λv y=>by rw[d5] at y;cases y⟩
 .obtain ⟨Z,Y,⟨x,y,a3⟩,⟨o4,c4,r4⟩,o5,c5,r5⟩:=j;show⟨k _ (by simp) _ Z,k _ (by simp) _ Y,⟨x,y,k _ (by simp) _ a3⟩,⟨o4,k F (by simp) _ c4,r4⟩,o5,k n (by simp) _ c5,r5⟩
 .subst hP hw hK;obtain⟨xs,ys,q1,q2⟩:∃xs ys,c7 X.K H l xs/\eJ X.K H m ys:=by
   rcases hg with⟨xs,ys,_,_,a,b,_⟩|⟨xs,ys,a,b,_⟩
   .exact ⟨xs,ys,a,b⟩
   .exact ⟨xs,ys,a,b⟩
  obtain⟨us,r1,t1,_⟩:=I.list q1
  replace t1:=t1.isList
  obtain⟨vs,r2,t2,_⟩:=I.tuple q2;have n1:=⇑r1;have n2:=⇑r2;have nl:l≠F:=λe=>by obtain⟨_,_,_,⟨o,c,d,_⟩,_⟩:=j;obtain⟨o2,L,O,_⟩:=t1;rw[e] at L;rw[c] at L;cases L;rw[d] at O;simp at O
  have nm:m≠n:=λe=>by obtain⟨_,_,_,_,o,c,d,_⟩:=j;obtain⟨o2,L,O,_⟩:=t2;rw[e] at L;rw[c] at L;cases L;rw[d] at O;simp at O
  have D1:km X.Ω X.w X.A.in1 F [F,l] us.toArray.size (λi v=>us.toArray[i]?=ab v) (λi h=>h.IsListIter F l i/\h.IsList l us.toArray):=Draws.list (show X.A.in1.handled=af from I.ok.hd hc) F l nl us.toArray;have D2:km X.Ω X.w X.A.in1 n [n,m] vs.toArray.size (λi v=>vs.toArray[i]?=ab v) (λi h=>h.IsTupleIter n m i/\h.IsTuple m vs.toArray):=UN (show X.A.in1.handled=af from I.ok.hd hc) n m nm vs.toArray;show⟨_,_,_,_,_,_,⟨IZ D1 D2 p,JA D1 D2 p⟩,⟨j.1,j.2.1,j.2.2.1,⟨j.2.2.2.1,t1⟩,j.2.2.2.2,t2⟩,λb U=>?_,λh q=>⟨q.1,q.2.1,q.2.2.1,q.2.2.2.1.1,q.2.2.2.2.1⟩,λg=>?_,λg=>?_⟩
  .erw[bu,jh,or_false] at U ⊢;rcases U with e|e|e|e
   .exact .inl e
   .exact .inr (.inr (.inl e))
   .exact .inr (.inr (.inr (.inl e)))
   .exact .inr (.inr (.inr (.inr e)))
  .obtain ⟨x',y',v,u,h1,h2,hv,hu⟩:=g;obtain rfl:=I.d7 h1 q1;obtain rfl:=I.gO h2 q2;obtain⟨Z,ea1,ra1⟩:=r1.get hv;obtain⟨Y,ea2,ra2⟩:=r2.get hu;have b1:i<⇑x':=(de.mp hv).1;have b2:i<⇑y':=(de.mp hu).1;show⟨by rw[cu,cu];lia,λvals q=>?_⟩;obtain⟨c1,O,d1,d2,rfl⟩:=q;have f1:us[i]?=ab c1:=by simpa using d1
   have f2:vs[i]?=ab O:=by simpa using d2
   rw[ea1] at f1;rw[ea2] at f2;cases f1;cases f2;show⟨[v,u],pZ,.cons ra1 (.cons ra2 .nil),v,u,rfl,λws J=>by rw[I.d7 J q1];show hv,λws J=>by rw[I.gO J q2];show hu⟩
  .obtain ⟨x',y',h1,h2,e⟩:=g;obtain rfl:=I.d7 h1 q1;obtain rfl:=I.gO h2 q2;rw[cu,cu,<- n1,<- n2,e]
 .exact wq j.1 q
variable{X:Cx}
section
variable{es:List av}{kk:Nat}{tp:bo}
def WC{a b:av}{ta:TA}{p Z:bo}(hg:Gl X "zip")(Y:X.mg "zip"=af)(ha:PA X [a,b] ta)(hs:ar [a,b] X.env=[(ag,eval a X.env),(ag,eval b X.env)]<|>0)(J:ar [b] X.env=[(ag,eval b X.env)]<|>0):
  PI X (.Tuple es kk tp) (.Call (.Name "zip" p) [a,b] [] Z) (λσ H R=>ta σ H λvs H1=>∃l m xs ys,vs=[.ref l,.ref m]/\c7 X.K H1 l xs/\eJ X.K H1 m ys/\R (yz X.K l m) H1):=by
 intro π s σ H R I h;show vh (iX I hg Y boot_zip (sx (dI (ha Z π s σ H _ I h) λus z ⟨vs,H1,L,r1,q1⟩=>?_) (by rw[hs,J]) (by rw[J];rfl)));obtain⟨l,m,xs,ys,rfl,q1,q2,q⟩:=q1;obtain⟨u,u2,rfl,ru,O⟩:=vals2 r1;cases ru;cases O;obtain⟨ι,_,t1,_⟩:=L.list q1;obtain⟨F,_,t2,_⟩:=L.tuple q2;have b1:l<↥z:=by obtain⟨o,n,e,_⟩:=t1;show cf e
 have b2:m<↥z:=t2.lt;show JG (xs:=ι.toArray) (ys:=F.toArray) t1.isList t2 λh' hZ hI hO j1 j2 hk=>wq hZ ?_;generalize hN:↥z=N at *;have apart:MK (N+4) (N+2) (N+3) N (N+1) [N,l] [N+1,m]:=by
  have nl:∀j,N+j≠l:=λj e=>by have:N+j<N:=(by rw[e];show b1);lia
  have U:∀j,N+j≠m:=λj e=>by have:N+j<N:=(by rw[e];show b2);lia
  have d:∀{i j:Nat},i≠j->N+i≠N+j:=λh e=>h (a13 e);have A:∀{i:Nat},i≠0->N+i≠N:=λh e=>h (a13 (k:=0) e);have v:∀{x y t:ah},x≠y->x≠t->x∉[y,t]:=λh1 h2 Y=>by
   rcases bu.1 Y with e|e
   .exact h1 e
   .exact h2 (dh.1 e)
  show⟨d ⋯,d ⋯,d ⋯,cz,cz,v (A ⋯) (nl 4),v (d ⋯) (U 4),v (A ⋯) (nl 3),v (d ⋯) (U 3),v (fz (A ⋯)) (U 0),v (A ⋯) (nl 1),A ⋯,d ⋯⟩
 show⟨N+4,_,_,_,H1,rfl,L.kept (t':=z.toks) hk,JH apart,⟨hZ,hI,⟨_,_,hO⟩,j1,j2⟩,λb hb=>?_,q⟩;have hle:↥z<=b:=by
  rw[hN];erw[bu,or_false,jh] at hb;rcases hb with e|e|e|e|e<;>rw[e]
  .exact ou _ 4
  .exact ou _ 2
  .exact ou _ 3
  .exact bq _
  .exact ou _ 1
 show L.vU hle (L.hok.fresh hle)
end
theorem P6{K:aq}{a c:ah}{ds q:List D}:Wlk K (yz K a c) (IG ds q) [(.lst ds,.ref a),(.tup q,.ref c)] where
 go:=λS H fc n i d e=>by have h:=n (.lst ds,.ref a) (by simp);have h2:=n (.tup q,.ref c) (by simp);symm at h h2;obtain⟨b,xs,l,p,_,dn⟩:=h;obtain⟨U,ys,m,j,A⟩:=h2;injection l with l;injection m with m;subst l m;obtain⟨x0,X,e0,e1,rfl⟩:=E7 e;obtain⟨v,ev,L⟩:=dn.get e0;obtain⟨u,F,O⟩:=A.get e1;show⟨⟨xs,ys,v,u,c7.of p,eJ.of j,ev,F⟩,λx H' y=>?_⟩;obtain⟨T,vs,rfl,fr,rfl,Y,Z,rfl,I,z⟩:=y;have ex:=I xs (c7.of p);have o:=z ys (eJ.of j);rw[ev] at ex;rw[F] at o;cases ex;cases o;show⟨aH fr,t6 fr L O⟩
 stop:=λS H n i J=>by have h:=n (.lst ds,.ref a) (by simp);have h2:=n (.tup q,.ref c) (by simp);symm at h h2;obtain⟨b,xs,l,p,_,dn⟩:=h;obtain⟨U,ys,m,j,A⟩:=h2;injection l with l;injection m with m;subst l m;show⟨xs,ys,c7.of p,eJ.of j,by rw[<- dn.len,<- A.len,<- J];simp[IG]⟩
section
variable{es:List av}{kk:Nat}{tp:bo}
def aDt{a b:av}{t:AF}{p A:bo}(K:X.mg "zip"=af)(O:wU X [a,b] t)(d:Gl X "zip"<|>0)(J:ar [a,b] X.env=[(ag,eval a X.env),(ag,eval b X.env)]<|>0)(h:ar [b] X.env=[(ag,eval b X.env)]<|>0):
  QB X (.Tuple es kk tp) (.Call (.Name "zip" p) [a,b] [] A) (AL t) :=
 HZ (WC d K O J h) λσ H R Wg=>by
  obtain⟨S,ρ,Q3,U,F,⟨ds0,e,q⟩,k⟩:=Wg;obtain⟨as,Y,e⟩:=bnd e;show⟨S,ρ,λds=>ds=as,U,F,⟨as,Y,rfl⟩,λvs H1 ds I d1 q1=>?_⟩;subst q1;delta QR at e;split at e
  .cases e;obtain⟨v,r,rfl,y,h2⟩:=d1.aY;obtain⟨v2,r2,rfl,o,z⟩:=h2.aY;erw[aM] at z;subst z;have x:=y;have n:=o;symm at y o;obtain⟨l,xs,rfl,L,_,da⟩:=y;obtain⟨m,ys,rfl,j,Z⟩:=o;show⟨l,m,xs,ys,rfl,c7.of L,eJ.of j,k _ H1 _ [(_,.ref l),(_,.ref m)] I (λg d=>?_) P6 q⟩;rcases bu.1 d with rfl|d
   .exact x
   .cases dh.1 d;show n
  .cases e
end
end L4
namespace K28
open L2 L3 L4 L6 L7 L8 L9 L5
def top(i : Nat):df:=PySem.Challenge.pw_risecount_k28_whole_chain_table.main.body.getD i (.Pass ⟨0,0,0,0⟩)
structure Zs (K:aq) (mg:Q0d) (WD WH:ah):Prop where
 Ho:Be K "downsets"=ab (WD,WH)
 D1:Df K mg "is_thing" (top 4) ["number","n"]
 D2:Df K mg "ties_of" (top 5) ["order"]
 D3:Df K mg "ready_things" (top 7) ["order","ahead"]
 D4:Df K mg "joined" (top 8) ["ahead","thing"]
 D5:Df K mg "find_ways" (top 10) ["order","ahead","ways"]
 D6:Df K mg "ways_on" (top 9) ["order"]
 D7:Df K mg "added" (top 15) ["one","other"]
 D8:Df K mg "one_descent_more" (top 14) ["shares"]
 D9:Df K mg "find_shares" (top 13) ["order","ahead","last","shares"]
 D10:Df K mg "shares_on" (top 12) ["order"]
 D11:Df K mg "shares_by_descents" (top 11) ["order"]
 D12:Df K mg "downsets" (top 17) ["order"]
 D13:Df K mg "is_calm" (top 18) ["order","things"]
 D14:Df K mg "mark_of" (top 21) ["things"]
 D15:Df K mg "things_of" (top 22) ["mark"]
 D16:Df K mg "is_calm_mark" (top 24) ["order","mark","calm"]
 D17:Df K mg "chains_to" (top 23) ["order","mark","ahead","calm"]
 D18:Df K mg "chain_table" (top 20) ["order"]
 D19:Df K mg "chosen" (top 26) ["x","m"]
 D20:Df K mg "sum_over_descents" (top 27) ["shares","n","k"]
 D21:Df K mg "first_differences" (top 29) ["values"]
 D22:Df K mg "shares_by_steps" (top 28) ["order"]
 D23:Df K mg "_law_mixed" (top 31) ["_law_cell_here","_law_k","_law_salt"]
 D24:Df K mg "_law_draws" (top 32) ["_law_cell_here","_law_many","_law_salt"]
 D25:Df K mg "_law_cell" (top 33) ["_law_script","_law_k"]
 D26:Df K mg "_law_order" (top 34) ["_law_draws_here","_law_n","_law_thick"]
 D27:Df K mg "_law_drawn" (top 35) ["_law_script","_law_k","_law_most","_law_salt"]
 D28:Df K mg "_law_masks" (top 36) ["_law_order_here"]
 D29:Df K mg "_law_things" (top 37) ["_law_mask","_law_many"]
 D30:Df K mg "_law_downs" (top 38) ["_law_order_here"]
 D31:Df K mg "_law_part" (top 39) ["_law_order_here","_law_things_here"]
 D32:Df K mg "_law_chain_order" (top 40) ["_law_script"]
 D33:Df K mg "_law_same" (top 41) ["_law_found","_law_due"]
 D34:Df K mg "_law_tuple" (top 42) ["_law_found","_law_many"]
 D35:Df K mg "_law_calm_sets" (top 43) ["_law_order_here"]
 D36:Df K mg "_law_row_right" (top 44) ["_law_calm","_law_held","_law_rows","_law_at"]
 D37:Df K mg "law" (top 45) ["_law_script"]
 mN:mg "sorted"=af
 cU:mg "tuple"=af
 sN:mg "enumerate"=af
 F9:mg "all"=af
 c6:mg "len"=af
 cH:mg "range"=af
 GA:mg "sum"=af
 WJ:mg "zip"=af
 F_:mg "max"=af
 Fz:mg "any"=af
 JI:mg "list"=af
 bN:mg "isinstance"=af
 Wf:mg "str"=af
 WK:mg "int"=af
 CO:mg "bool"=af
section
variable{P:bh}{w:bg}{ω:a_}{K:aq}{mg:Q0d}{WD WH:ah}(p:Ph P w ω)(Z:Zs K mg WD WH)
include p Z
def o1:=oJ p 3 LL.iS rfl ["number","n"] Z.D1 λa nd=>(aP (dD (aDS aEy Gx Yb Yc i4 xv xv)))
def o2:=oJ p 3 LL.iD rfl ["order","ties","b","row"] Z.D2 λa nd=>(aZ (tK nd (jA bA))
  (aZ (nH rfl ja (w4 Z.sN y1) (Gh rfl nd)
   (aP (mL (aAB (oI (PY (gD xv) (tJ (aE xv y1))))))))
  (aP (dD (gR Z.cU (aE (jS.pe (VA Z.mN y1)) bA))))))
def o3:=oJ p 3 LL.dB rfl ["order","ahead","others"] Z.D3 λa nd=>(aZ (j8 (ls:=["thing"]) (fs:=["ahead"]) (fr:=[1]) nd rfl (dG Z.cH (fK Z.c6 y1)) (λ_ _ _ _ _ _ nd=>w9 (i:=0) nd ⋯) (λ_ _ _ _ _ _=>UU (Gj xv xv)) (λ_ _ _ _ _ _=>xv))
  (aP (dD (V4 (gD xv) (nG (U0 rfl Z.F9 (aE (PY (gD (jB xv xv)) (in4 xv xv)) bA))) xv))))
def o4:=oJ p 3 LL.eS rfl ["ahead","thing"] Z.D4 λa nd=>(aP (dD (gR Z.cU (aE (jS.pe (VB Z.mN (aE (gH xv (tJ y1)) bA))) bA))))
def o5:=rcM p 4 K11.b9 Z.D5 (λn d=>fqM p (4+n) _ rfl ["order","ahead","ways","further"] Z.D5 λa nd=>⟨_,(AR (gF (B9 (fK Z.c6 y1) (fK Z.c6 y1))
   (aP (MG (i:=2) (u2 a) (oI i4) xv))
   gE)
  (VO (j:=2) (u2 a) (gF (IV (u2 a) xv xv)
   (aZ (j8 (ls:=["thing"]) (fs:=["ahead"]) (fr:=[1]) nd rfl (gD (bK (PX (o3 p Z) 4 n) a (aE xv y1))) (λ_ _ _ _ _ _ nd=>w9 (i:=0) nd ⋯) (λ_ _ _ _ _ _=>zS) (λ_ _ _ _ _ _=>(bK (PX (o4 p Z) 4 n) a (aE xv y1))))
   (aP (MG (i:=2) (u2 a) (Wm (v:="longer") (fs:=["order","ways"]) (io:=0) (il:=3) (j:=2) d a rfl Z.GA (YT (iW (i:=3) rfl (by first|show .inl rfl|show .inr (.inl rfl)|show .inr (.inr rfl)))) (λ_ _ _ _ _ _=>kO (i:=0) (show(["longer","order","ways"]:Q0g).Nodup by decide+kernel) rfl (.inl rfl)) (λ_ _ _ _ _ _=>fC (iW (i:=1) rfl (by first|show .inl rfl|show .inr (.inl rfl)|show .inr (.inr rfl))) (fC (iW (i:=0) rfl (.inl rfl)) (fC (iW (i:=2) rfl (by first|show .inl rfl|show .inr (.inl rfl)|show .inr (.inr rfl))) kR))) (λ_ _ _ _ _ _=>rfl) (λ_ _ _ _ _ _=>rfl) (λ_ _ _ _ _ _=>rfl) ⋯) xv)))
   gE) xv))⟩) rfl 11
def o6:=oJ p 15 K11.jY rfl ["order","ways"] Z.D6 λa nd=>(aZ (VN nd)
  (aZ (En (j:=1) (o5 p Z).up a (kD xv (kD (tJ bA) (FO (j:=1)))))
  (aP (dD xv))))
def o7:=oJ p 3 LL.jG rfl ["one","other"] Z.D7 λa nd=>(aP (dD (cp4 (Em Z.WJ (aE xv y1)) (gH xv xv))))
def o8:=oJ p 3 LL.bR rfl ["shares"] Z.D8 λa nd=>(aP (dD (gH (jS.pe (jA (aE i4 bA))) (sl4 xv no4 (po4 (Z6 i4))))))
def o9:=rcM p 4 LL.bB Z.D9 (λn d=>fqM p (4+n) _ rfl ["order","ahead","last","shares","state","some","thing","further"] Z.D9 λa nd=>⟨_,(AR (dN nd (tJ (aE xv y1)))
  (VO (j:=3) (u2 a) (gF (IV (u2 a) xv xv)
   (aZ (tK nd (FI (jS.pe (jA (aE i4 bA))) (Yj rfl Z.F_ (aE (fK Z.c6 y1) (aE i4 bA)))))
   (aZ (gF (B9 (fK Z.c6 y1) (fK Z.c6 y1))
    (aP (Ox (oI i4) i4))
    gE)
   (aZ (Xn 5 (nH rfl ja (gD (bK (PX (o3 p Z) 4 n) a (aE xv y1))) (jJ nd)
    (aZ (aDb (i:=7) (j:=3) d a ⋯ nd (kD xv (kD (bK (PX (o4 p Z) 4 n) a (aE xv y1)) (kD xv (FO (j:=3))))))
    (aP (dN nd (bK (PX (o7 p Z) 4 n) a (aE xv (aE (if4 (OU xv xv) (bK (PX (o8 p Z) 4 n) a y1) xv) bA))))))))
   (aP (MG (i:=3) (u2 a) (oI xv) xv)))))
   gE) xv))⟩) rfl 11
def Mw:=oJ p 15 LL.jH rfl ["order","shares"] Z.D10 λa nd=>(aZ (VN nd)
  (aZ (En (j:=1) (o9 p Z).up a (kD xv (kD (tJ bA) (kD i4 (FO (j:=1))))))
  (aP (dD xv))))
def Mv:=oJ p 16 LL.dM rfl ["order"] Z.D11 λa nd=>(aP (dD (gR Z.cU (aE (Ou (u2 a) (bK (Mw p Z).up a y1) (tJ (aE (tJ bA) (aE i4 bA)))) bA))))
def Mu:Cl P w K mg ω iB 17 "downsets" ["order"] (GI K ND.kM):=have _:=p;Nm (N:=["order"]) Z.D12 Z.Ho λa nd=>(aP (dD (gR Z.cU (aE (jS.pe (aDo (x:="things") (fs:=[]) (fr:=[]) (x0:="downsets") rfl a (u9 a) Z.mN (aDh ⋯ Z.Ho) rfl (bK (o6 p Z).up a y1) (λ_ _ _ _ _ _=>(tJ (aE (fK Z.c6 y1) y1))))) bA))))
def Mt:=oJ p 4 iG rfl ["order","things"] Z.D13 λa nd=>(aZ (gF (sF (nG (U0 rfl Z.F9 (aE (PY (gD xv) (bK (o1 p Z).up a (aE xv (aE (fK Z.c6 y1) bA)))) bA))))
   (aP aDW)
   gE)
  (aP (dD (Z5 (Eo rfl Z.Fz (aE (cp4 (gD (bK (o2 p Z).up a y1)) (FA (gt4 xv xv) (FA (in4 xv xv) (OV (in4 xv xv))))) bA))))))
def Ms:=oJ p 3 mX rfl ["things","mark","power","thing"] Z.D14 λa nd=>(aZ (dN nd i4)
  (aZ (dN nd i4)
  (aZ (nH rfl ja (dG Z.cH (gH (Wk rfl Z.F_ xv (Z6 i4)) i4)) (jJ nd)
   (aZ (gF (Es xv xv)
    (aP (dN nd (gH xv xv)))
    gE)
   (aP (dN nd (wV xv i4)))))
  (aP (dD xv)))))
def Mr:=oJ p 3 fT rfl ["mark","things","thing"] Z.D15 λa nd=>(aZ (tK nd (jA bA))
  (aZ (dN nd i4)
  (aZ (UY ja (OU xv i4)
   (aZ (gF (B9 (rK xv i4) i4)
    (aP (mL (xZ (i:=1) (oI xv))))
    gE)
   (aZ (dN nd (UP xv i4))
   (aP (dN nd (gH xv i4))))))
  (aP (dD (gR Z.cU y1))))))
def Mq:=fqM p 5 dC rfl ["order","mark","calm"] Z.D16 λa nd=>⟨_,(VO (j:=2) (u2 a) (gF (IV (u2 a) xv xv)
   (aP (MG (i:=2) (u2 a) (oI (bK (Mt p Z).up a (aE xv (aE (bK (Mr p Z).up a y1) bA)))) xv))
   gE) xv)⟩
def Mp:=fqV p 6 eW rfl ["order","mark","ahead","calm","counts","lower","lower_counts"] Z.D17 λa nd=>⟨_,(AR (dN nd (jS.pe (FI (jS.pe (jA (aE i4 bA))) (gH (fK Z.c6 y1) i4))))
  (Wi (nH rfl ja (gD xv) (Gh rfl nd)
   (aP (Ni (B9 (z5 xv xv) xv) (Mq p Z).up a (kD xv (kD (OT xv xv) (FO (j:=3))))
    (aP (dN nd (bK (o7 p Z).up a (aE xv y1))))
    gE))) (gH (jS.pe (jA (aE i4 bA))) (sl4 xv no4 (po4 (Z6 i4))))))⟩
def Mo:=oJ p 17 gU rfl ["order","table","ahead","calm","things","mark","counts"] Z.D18 λd nd=>(aZ (tK nd (jA bA))
  (aZ (tK nd (jA bA))
  (aZ (VN nd)
  (aZ (nH rfl ja (gD (bK (Mu p Z).up d y1)) (jJ nd)
   (aZ (dN nd (bK (Ms p Z).up d y1))
   (aZ (aDr (i:=6) (a:=2) (j:=3) (nG xv) (Mp p Z).up d ⋯ ⋯ nd (kD xv (kD xv (kD xv (FO (j:=3))))) (gH (jS.pe (jA (aE i4 bA))) (jS.pe (FI (jS.pe (jA (aE i4 bA))) (fK Z.c6 y1)))))
   (aZ (mL (xZ (i:=2) (oI (tJ (aE xv y1)))))
   (aP (mL (xZ (i:=1) (oI (tJ (aE xv (aE (gR Z.cU y1) bA)))))))))))
  (aP (dD (gR Z.cU y1)))))))
def Mn:=oJ p 3 LL.pF rfl ["x","m","many","step"] Z.D19 λa nd=>(aZ (dN nd i4)
  (aZ (nH rfl ja (dG Z.cH xv) (jJ nd)
   (aP (dN nd (UP (wV xv (OT xv xv)) (gH xv i4)))))
  (aP (dD xv))))
def Mm:=oJ p 4 LL.dP rfl ["shares","n","k"] Z.D20 λa nd=>(aP (dD (Z8 rfl Z.GA (aE (cp4 (w4 Z.sN y1) (wV xv (bK (Mn p Z).up a (aE (OT (OT (gH xv xv) i4) xv) y1)))) bA))))
def Ml:=oJ p 3 LL.dQ rfl ["values","firsts","row"] Z.D21 λd nd=>(aZ (tK nd (jA bA))
  (aZ (dN nd xv)
  (aZ (UY ja (nG xv)
   (aZ (mL (xZ (i:=1) (oI (jB xv i4))))
   (aP (j8 (ls:=["a","b"]) (fs:=[]) (fr:=[]) nd rfl (Em Z.WJ (aE xv (aE (sl4 xv (po4 i4) no4) bA))) (λ_ _ _ _ _ _ nd=>IL (i:=0) (j:=1) rfl nd ⋯ ⋯) (λ_ _ _ _ _ _=>zS) (λ_ _ _ _ _ _=>(OT xv xv))))))
  (aP (dD (gR Z.cU y1))))))
def Mj:=oJ p 17 LL.eL rfl ["order","n","shares"] Z.D22 λa nd=>(aZ (dN nd (fK Z.c6 y1))
  (aZ (dN nd (bK (Mv p Z).up a y1))
  (aP (dD (bK (Ml p Z).up a (aE (PY (dG Z.cH (gH xv i4)) (bK (Mm p Z).up a (aE xv (aE xv y1)))) bA))))))
def Mi:=oJ p 3 LL.iC rfl ["_law_cell_here","_law_k","_law_salt","_law_one","_law_two"] Z.D23 λa nd=>(aZ (dN nd (rK (wV (gH (gH (gH xv (wV (wV i4 xv) xv)) (wV i4 xv)) xv) i4) i4))
  (aZ (dN nd (rK (gH (gH (wV xv (gH (UP xv i4) i4)) (wV i4 xv)) xv) i4))
  (aP (dD (rK (wV xv i4) i4)))))
def wc:=oJ p 4 LL.gK rfl ["_law_cell_here","_law_many","_law_salt","_law_found","_law_left","_law_k"] Z.D24 λa nd=>(aZ (tK nd (jA bA))
  (aZ (dN nd i4)
  (aZ (gF (Pd xv (Pg i4 i4))
   (aP (dN nd xv))
   gE)
  (aZ (nH rfl ja (dG Z.cH xv) (jJ nd)
   (aP (gF (OU xv i4)
    (aZ (mL (xZ (i:=3) (oI (rK xv i4))))
    (aP (dN nd (UP xv i4))))
    (aP (mL (xZ (i:=3) (oI (bK (Mi p Z).up a (aE xv (aE xv y1))))))))))
  (aP (dD xv))))))
def wb:=oJ p 3 LL.iN rfl ["_law_script","_law_k"] Z.D25 λa nd=>(aZ (gF (B9 (fK Z.c6 y1) i4)
   (aP (dD i4))
   gE)
  (aP (dD (jB xv (rK xv (fK Z.c6 y1))))))
def Dt:=oJ p 3 LL.jU rfl ["_law_draws_here","_law_n","_law_thick","_law_rest","_law_word","_law_k","_law_low","_law_at","_law_j","_law_under","_law_i"] Z.D26 λa nd=>(aZ (tK nd (IJ rfl Z.JI Z.cH y1))
  (aZ (tK nd (jA bA))
  (aZ (nH rfl ja (dG Z.cH xv) (jJ nd)
   (aP (mL (xZ (i:=4) (Oy (i:=3) (px4 (rK (jB xv xv) (fK Z.c6 y1))))))))
  (aZ (UX (i:=6) nd)
  (aZ (dN nd xv)
  (aZ (nH rfl ja (dG Z.cH xv) (jJ nd)
   (aZ (dN nd (jS.pe (jA bA)))
   (aZ (nH rfl ja (dG Z.cH xv) (jJ nd)
    (aZ (gF (Pe (rK (jB xv xv) i4) xv)
     (aP (Xv (i:=9) nd (Yk xv (V4 (gD (gH (Er (u1 a) xv (jB xv xv)) (jS.pe (jA (aE (jB xv xv) bA))))) (Gj xv xv) xv))))
     gE)
    (aP (dN nd (gH xv i4)))))
   (aP (Xu (i:=6) (u1 a) (oI xv) (jB xv xv))))))
  (aP (dD (gR Z.cU (aE (PY (dG Z.cH xv) (gR Z.cU (aE (jS.pe (Z7 Z.mN (aE (Er (u1 a) xv xv) bA))) bA))) bA))))))))))
def Mf:=oJ p 5 LL.mQ rfl ["_law_script","_law_k","_law_most","_law_salt","_law_head","_law_n","_law_draws_here"] Z.D27 λa nd=>(aZ (dN nd (bK (wc p Z).up a (aE (bK (wb p Z).up a (aE xv y1)) (aE i4 y1))))
  (aZ (dN nd (rK (jB xv i4) (gH xv i4)))
  (aZ (dN nd (bK (wc p Z).up a (aE (bK (wb p Z).up a (aE xv (aE (gH xv i4) bA))) (aE (gH xv (UP (wV xv (OT xv i4)) i4)) (aE (gH xv i4) bA)))))
  (aP (dD (bK (Dt p Z).up a (aE xv (aE xv (aE (jB (jS.pe (jA (aE i4 (aE i4 (aE i4 (aE i4 (aE i4 (aE i4 (aE i4 (aE i4 bA)))))))))) (rK (jB xv i4) i4)) bA)))))))))
def Me:=oJ p 3 LL.mV rfl ["_law_order_here"] Z.D28 λa nd=>(aP (dD (PY (gD xv) (Z8 rfl Z.GA (aE (PY (gD xv) (VP i4 xv)) bA)))))
def Md:=oJ p 3 ND.kN rfl ["_law_mask","_law_many"] Z.D29 λa nd=>(aP (dD (gR Z.cU (aE (V4 (dG Z.cH xv) (B9 (z5 (Ei xv xv) i4) i4) xv) bA))))
def yq:=oJ p 4 ND.gL rfl ["_law_order_here","_law_many","_law_masks_here","_law_found","_law_mask","_law_things_here"] Z.D30 λa nd=>(aZ (dN nd (fK Z.c6 y1))
  (aZ (dN nd (bK (Me p Z).up a y1))
  (aZ (tK nd (jA bA))
  (aZ (nH rfl ja (dG Z.cH (VP i4 xv)) (jJ nd)
   (aZ (dN nd (bK (Md p Z).up a (aE xv y1)))
   (aP (gF (nG (U0 rfl Z.F9 (aE (PY (gD xv) (eq4 (z5 (jB xv xv) xv) (jB xv xv))) bA)))
    (aP (mL (xZ (i:=3) (oI (tJ (aE (fK Z.c6 y1) y1))))))
    gE))))
  (aP (dD (cp4 (gD (jS.pe (aAZ (u9 a) Z.mN y1))) xv)))))))
def Ds:=oJ p 3 lY rfl ["_law_order_here","_law_things_here","_law_found","_law_b"] Z.D31 λa nd=>(aZ (tK nd (jA bA))
  (aZ (nH rfl ja (gD xv) (jJ nd)
   (aP (mL (xZ (i:=2) (oI (gR Z.cU (aE (V4 (dG Z.cH (fK Z.c6 y1)) (Es (jB xv xv) (jB xv xv)) xv) bA)))))))
  (aP (dD (gR Z.cU y1)))))
def Mc:=oJ p 6 fL rfl ["_law_script","_law_head","_law_order_here","_law_most"] Z.D32 λa nd=>(aZ (dN nd (bK (wc p Z).up a (aE (bK (wb p Z).up a (aE xv (aE i4 bA))) (aE i4 (aE i4 bA)))))
  (aZ (gF (B9 (rK (jB xv i4) i4) i4)
   (aZ (dN nd (bK (Dt p Z).up a (aE (bK (wc p Z).up a (aE (bK (wb p Z).up a (aE xv (aE i4 bA))) (aE i4 (aE i4 bA)))) (aE i4 (aE (rK (jB xv i4) i4) bA)))))
   (aZ (gF (OU (fK Z.c6 (aE (bK (yq p Z).up a y1) bA)) i4)
    (aP (dN nd (bK (Ds p Z).up a (aE xv (aE (sH rfl Z.cU Z.cH i4) bA)))))
    gE)
   (aP (dD xv))))
   gE)
  (aZ (dN nd (bK (Mf p Z).up a (aE xv (aE i4 (aE i4 (aE i4 bA))))))
  (aZ (dN nd i4)
  (aZ (gF (B9 (rK (jB xv i4) i4) i4)
   (aP (dN nd i4))
   gE)
  (aZ (gF (OU (fK Z.c6 (aE (bK (yq p Z).up a y1) bA)) xv)
   (aP (dD (bK (Ds p Z).up a (aE xv (aE (sH rfl Z.cU Z.cH i4) bA)))))
   gE)
  (aP (dD xv))))))))
def Dr:=rc4 p 3 LL.eE Z.D33 (λn d=>oJ p (3+n) _ rfl ["_law_found","_law_due"] Z.D33 λa nd=>(aZ (gF (nG (rL zM.t Z.bN Z.cU sy xv))
   (aZ (gF (OP.pt (UQ (sF (nG (rL zM.t Z.bN Z.cU sy xv))) (Z4 (Z2 (fK Z.c6 y1) (fK Z.c6 y1)))))
    (aP (dD b4))
    gE)
   (aP (dD (U0 rfl Z.F9 (aE (PY (dG Z.cH (fK Z.c6 y1)) (bK d a (aE (jB xv xv) (aE (jB xv xv) bA)))) bA)))))
   gE)
  (aZ (gF (Pc xv n4)
   (aP (dD (is4 xv n4)))
   gE)
  (aZ (gF (nG (rL zM.b Z.bN Z.CO Cj xv))
   (aP (dD (FA (rL zM.b Z.bN Z.CO Cj xv) (OV (eq4 xv xv)))))
   gE)
  (aZ (gF (nG (rL zM.i Z.bN Z.WK Jq xv))
   (aP (dD (FA (rL zM.i Z.bN Z.WK Jq xv) (FA (Z5 (rL zM.b Z.bN Z.CO Cj xv)) (OV (eq4 xv xv))))))
   gE)
  (aP (dD (FA (rL zM.s Z.bN Z.Wf a3S xv) (OV (eq4 xv xv)))))))))) rfl 6
def Mb:=oJ p 3 LL.mU rfl ["_law_found","_law_many"] Z.D34 λa nd=>(aZ (gF (OP.pt (UQ (sF (nG (rL zM.t Z.bN Z.cU sy xv))) (Z4 (Z2 (fK Z.c6 y1) xv))))
   (aP (dD b4))
   gE)
  (aP (dD (U0 rfl Z.F9 (aE (PY (gD xv) (FA (rL zM.i Z.bN Z.WK Jq xv) (OV (Z5 (rL zM.b Z.bN Z.CO Cj xv))))) bA)))))
def Ma:=oJ p 3 gW rfl ["_law_order_here","_law_many","_law_stricts","_law_found","_law_mask"] Z.D35 λa nd=>(aZ (dN nd (fK Z.c6 y1))
  (aZ (dN nd (PY (dG Z.cH xv) (Z8 rfl Z.GA (aE (V4 (gD (jB xv xv)) (OU xv xv) (VP i4 xv)) bA))))
  (aZ (tK nd (jA bA))
  (aZ (nH rfl ja (dG Z.cH (VP i4 xv)) (jJ nd)
   (aP (mL (xZ (i:=3) (oI (Z5 (Eo rfl Z.Fz (aE (PY (dG Z.cH xv) (FA (eq4 (z5 (Ei xv xv) i4) i4) (OV (ne4 (z5 (jB xv xv) xv) i4)))) bA))))))))
  (aP (dD xv))))))
def L_:=oJ p 3 gX rfl ["_law_calm","_law_held","_law_rows","_law_at","_law_due","_law_k"] Z.D36 λa nd=>(aZ (dN nd (jS.pe (FI (jS.pe (jA (aE i4 bA))) (fK Z.c6 (aE (jB (jB xv xv) i4) bA)))))
  (aZ (nH rfl ja (dG Z.cH xv) (jJ nd)
   (aP (gF (OP.pt (X_ (B9 (z5 (jB xv xv) (jB xv xv)) (jB xv xv)) (Ya (nG (jB xv (Wt (jB xv xv) (jB xv xv)))))))
    (aP (j8 (ls:=["_law_one","_law_two"]) (fs:=[]) (fr:=[]) nd rfl (aDt Z.WJ (aE xv (aE (gH (tJ (aE i4 bA)) (jB (jB xv xv) i4)) bA))) (λ_ _ _ _ _ _ nd=>IL (i:=0) (j:=1) rfl nd ⋯ ⋯) (λ_ _ _ _ _ _=>zS) (λ_ _ _ _ _ _=>(gH xv xv))))
    gE)))
  (aP (dD (Np (u9 a) (jS.pe (Gi Z.JI (aE (jB (jB xv xv) i4) bA))) xv)))))
def aDu{f:ah}{fd:gw}(F:WR K "law" "law" (top 45) f fd):jN P w K mg ω iB 19 f fd ["_law_script"] (GI K yT):=by
 have S:dR ["_law_script","_law_order_here","_law_downs_here","_law_rows","_law_k","_law_calm","_law_held","_law_at"] ["_law_script"] (aL (top 45)):=⟨rfl,rfl,rfl,by decide+kernel,rfl,by decide+kernel,by decide+kernel⟩;have nd:=S.nd;show Ep F S rfl rfl (λ_ _ _ _ _ _ a=>(aZ (dN nd (bK (Mc p Z).up a y1))
  (aZ (dN nd (bK (yq p Z).up a y1))
  (aZ (dN nd (bK (Mo p Z).up a y1))
  (aZ (gF (OP.pt (UQ (sF (nG (rL zM.t Z.bN Z.cU sy xv))) (Z4 (Z2 (fK Z.c6 y1) (fK Z.c6 y1)))))
   (aP (dD b4))
   gE)
  (aZ (nH rfl ja (dG Z.cH (fK Z.c6 y1)) (jJ nd)
   (aZ (gF (OP.pt (UQ (sF (nG (rL zM.t Z.bN Z.cU sy (jB xv xv)))) (UQ (Z2 (fK Z.c6 (aE (jB xv xv) bA)) i4) (Z4 (sF (nG (bK (Dr p Z).up a (aE (jB (jB xv xv) i4) (aE (jB xv xv) bA)))))))))
    (aP (dD b4))
    gE)
   (aP (gF (sF (nG (bK (Mb p Z).up a (aE (jB (jB xv xv) i4) (aE (gH (fK Z.c6 y1) i4) bA)))))
    (aP (dD b4))
    gE))))
  (aZ (gF (Yi (u9 a) (jS.pe (Gi Z.JI (aE (jB (jB xv i4) i4) bA))) (gH (jS.pe (jA (aE i4 bA))) (jS.pe (FI (jS.pe (jA (aE i4 bA))) (fK Z.c6 y1)))))
   (aP (dD b4))
   gE)
  (aZ (dN nd (bK (Ma p Z).up a y1))
  (aZ (j8 (ls:=["_law_things_here"]) (fs:=[]) (fr:=[]) nd rfl (gD xv) (λ_ _ _ _ _ _ nd=>w9 (i:=0) nd ⋯) (λ_ _ _ _ _ _=>zS) (λ_ _ _ _ _ _=>(Z8 rfl Z.GA (aE (PY (gD xv) (VP i4 xv)) bA))))
  (aZ (nH rfl ja (Z9 Z.cH i4 (fK Z.c6 y1)) (jJ nd)
   (aP (gF (sF (nG (bK (L_ p Z).up a (aE xv (aE xv (aE xv y1))))))
    (aP (dD b4))
    gE)))
  (aP (dD (bK (Dr p Z).up a (aE (bK (Mj p Z).up a y1) (aE (jB (jB xv (Z6 i4)) i4) bA)))))))))))))))
end
theorem all_mk{l:uu}{w:bg}{K:aq}{mg:Q0d}{d:ah}(a:mg "law"=ab (.ref d)){j h:ah}(Z:Zs K mg j h):
  ∃fd:gw,(∀(s:ak) (v:ai),vf s fd ⟨[v],[]⟩ [("_law_script",v)]) /\∀ω:a_,K.In ω->ω.Ns iw mg->jN l.prog w K mg ω iB 19 d fd ["_law_script"] (GI K yT):=by
 obtain @⟨_,fd,_,F,m,_⟩:=Z.D37;cases a.symm.trans m;show⟨fd,λs v=>?_,λω _ _=>aDu .mk Z F⟩;obtain⟨_,_,_,_,_,_,_,_,_,e,_⟩:=F.ex;rw[e];show .of_eq rfl
def aDv{K:aq}{H:Hp}{a:ah}{ns:Q0e}(o:Only H)(h:c7 K H a (ns.map V.int)):Scr K H a ns:=by
 rcases h with h|h
 .rcases h with h|⟨b,h⟩
  .rcases o a with z|⟨_,_,z⟩|⟨_,z⟩<;>rw[z] at h<;>cases h
  .exact .inl ⟨b,h⟩
 .exact .inr (.inr h)
theorem walk{l:uu}{q:bh}{loose:Q0g}{U:(aj->Option ai)->a_->Prop}{YP:bg->a_->Prop}{d:DefRec}{K:Params->aq}(A:l.most=ab 63)(m:d.params.defaults=[])
  (L:∀(w:bg) (h:a_),YP w h->(K w.params).In h) (y:∀w:bg,TabsOk (K w.params) q) (j:∀w:bg,noTabs (K w.params)=ae)
  (F:∀(w:bg) (mg:Q0d) (p:ah) (h:a_),(K w.params).In h->h.Ns iw mg->mg d.name=ab (.ref p) ->
   ∃fd:gw,(∀(s:ak) (u:ai),vf s fd ⟨[u],[]⟩ [("_law_script",u)]) /\∀ω:a_,(K w.params).In ω->ω.Ns iw mg->jN l.prog w (K w.params) mg ω iB 19 p fd ["_law_script"] (GI (K w.params) yT)):
  Iq q loose U YP l.row.toRowW d [] (λf vs=>Ik f vs) :=
 L2.Y9 (n:=63) (k:=19) (x:="_law_script") (CX:=λ_=>iB) (sp:=λw=>GI (K w.params) yT) A ⋯ m ⟨rfl,⋯,⋯⟩ L y j F
  (λ_ H a ns I o O=>⟨λa=>H a=af,[.k6 ns],λd=>d=.bl ae,λ_ h=>h,⟨_,_,rfl,⟨a,rfl,aDv o O⟩,rfl⟩,⟨_,SA ns I,rfl⟩,λv H' d _ J e=>by subst e;show J⟩) λ_ _ _ _ _ z=>z
end K28
open PySem.W PyProof.Rows
structure PySem.W.Fast:Prop where(tw17833091430799670134 tw14569226879477373720 tw7928003821196273607 tw15938779537677969298 tw4501145365197044552 tw7340502863641493615 tw12566784674125022141 tw2547820782633093816 tw3278232647559291953 tw17616024983517715248 tw16668468562960015601 tw7585681771847683306 tw15864023184236484145 tw11961232287800497777 tw7549032583707630560 tw17916505631855941261 tw13604174016511797103 tw13577278352810683094 tw10492547253556149012 tw6743639111673763696 tw9423808627476805668 tw15691766566535590268 tw706658407435937528 tw14130360698025934321 tw9771917821685938746 tw3854518783686435915 tw6728239593776585794 tw14957390321921751160 tw9652169245729850956 tw5747676219485277702 tw1250156810092754853 tw1526007092659036856 tw15798975616960457777 tw2164451285760948830 tw8235555705666554841 tw14562701619033530247 tw1624255615290566114 tw673343592339556980 tw9951208660735689549 tw12307752716884983220 tw1368768788871632444 tw17375934112650155380 tw12462881664688094362 tw15588749060948035830 tw13391530135364941939 tw7009387058753004651 tw12038298520608174612 tw14304225010761890924 tw6791201713095887656 tw15347480011998250061 tw8941647556288792491 tw4646594474078414211 tw9035509210430270011 tw14038819466135366278 tw5187768021355753173 tw17777685429837399921 tw18384452178014177303 tw13581899014790879780 tw10352736444603278782 tw2874311429733911487 tw8952535349037682131 tw7724253558050609437 tw690824251441900271 tw15068140594203806139 tw9048376306096069808 tw6651741718355160011 tw13740190208360371802 tw18114781116074607114 tw10006327988345410386 tw2301777760009909989 tw7502697280716009219 tw6182402750732498109 tw652674094065173094 tw10274247083958207997 tw12142105544516368848 tw17352293763310753388 tw15854149819825972957 tw13753350443199212114 tw6401811787303314123 tw13807421737683558312 tw9263902687072720442 tw18196685534755902375 tw16640724250583057233 tw4983301483782532308 tw5742466351114894884 tw11876295626042662308 tw15919162358402005790 tw12747918164792007741 tw1572209488013574017 tw1985667881648611197 tw10317682178280885805 tw8060454783370698524 tw4734397673877988347 tw4289781912757174308 tw17628093667938766767 tw17912141856413824226 tw7628068089541983305 tw10748177716147006955 tw11748860827483379050 tw2809638267846562433 tw5359432023156626289 tw3853388904655853486 tw7120708523132417144 tw9484034586818013941 tw3462773061026945590 tw3649907130876448946 tw2077209525871439515 tw13299709669551287746 tw15605464147474820512 tw9564120118217237882 tw7271910392396465049 tw6499263962340050621 tw6953242761203659615 tw1844270718266246926 tw15914349787216170118 tw7250591452664979367 tw3580489726876461047 tw12071211975270998159 tw5641096299153799236 tw18096365225891556120 tw11075639057637705335 tw12382991600123677278 tw11594311276302846287 tw12772388875549857615 tw7790745016667193196 tw8057225487060155012 tw8837709365925559933 tw7233928516102407557 tw10284656393880415451 tw9926921125431057551 tw7267596580138212919 tw10789222724224937599 tw1954187933402187665 tw6141367261677457635 tw8930530636454357527 tw4960769831777984475 tw16437924186799430726 tw5273096857502206318 tw9509033095415498590 tw4144590313251540892 tw16856092675471292387 tw10409891397931465753 tw1702326023727852161 tw2673706336663216774 tw18178000916101498526 tw12106663647276756096 tw12787150386807664724 tw13633226734647652587 tw15631713030504367959 tw12657670811217983397 tw12440135401445766643 tw16952256818390489623 tw11005029981719197435 tw2037805311950599263 tw3804847477731721840 tw8309702920678861664 tw15309390563009723947 tw12941072820814822325 tw3476569827451622526 tw7340675602386553160 tw3735984949409043755 tw9130699605066857480 tw16471000904781205308 tw6508171505570472624 tw2193777492174495381 tw2840338238552758101 tw14881640887301927946 tw16050830762429677512 tw13834193692399779202 tw1264378744225171781 tw11493897762974283264 tw10247838594800366698 tw11584465059115290737 tw3201770997336294710 tw14709543281976353724 tw2940209437951524922 tw3481997578706111843 tw17267308210456224145 tw10600767697218789099 tw3154358749362761079 tw3950480741082026603 tw8115561502042030850 tw11160757063757776040 tw3320213092243567364 tw1747063920172084555 tw2347235483021383168 tw5039725128814275827 tw16682232820427113775 tw6540634454567712456 tw7617495465135165874 tw16020243419182236805 tw16244607575166709948 tw3280261854899109724 tw2249695792166265693 tw14788876948037650552 tw11376149909201809519 tw13647685966384520959 tw8186014090539667025 tw4571860333104915188 tw15816044606048742665 tw15455947313340849564 tw5576015385044908937 tw14361657279773271295 tw244804077932042991 tw17287380452793586238 tw2686034722158121140 tw7874100246190169469 tw17497144791586226369 tw13228901375463663275 tw8752060706042946819 tw12742601887006272562 tw3632182305369316302 tw5868535836853410918 tw9699830689545495262 tw74645514408332375 tw6234386234700704418 tw15959139191223135931 tw11764889234954960903 tw5185988068477162552 tw10650166847283688242 tw18262786831585181720 tw5067791039252388597 tw17832392539010215556 tw7815939709842079713 tw645064804573791861 tw16992175156827244212 tw10996151342800891332 tw1833743820109886242 tw16666209706950177467 tw6273809461125378026 tw1796167280183329856 tw11851462157517906206 tw7975127147051528485 tw6743930408081783290 tw11026094884827228333 tw8678046648967743413:True)
set_option maxRecDepth 100000 in
set_option maxHeartbeats 0 in
theorem PySem.Challenge.cw_risecount_k28_whole_chain_table_holds : PySem.Challenge.rw_risecount_k28_whole_chain_table.Holds := by
 w_on; o_law; k_head; (case hw=>w_witness2)
 k_fill
 show K28.walk (l := PySem.Challenge.rw_risecount_k28_whole_chain_table) rfl rfl (fun w h Y => PySem.W.km_in_of Y) ?hTbs ?hNtb ?F
 case hTbs =>
  intro w
  refine' L4.tabs_ok (L4.PV ?t1 ?t2 ?t3 ?t4 ?t5) ?nd ?rc
  (case t1=>(refine' L4.qF ?p1; (case p1=>k_is)))
  (case t2=>(refine' L4.qF ?p1; (case p1=>k_is)))
  (case t3=>(refine' L4.qF ?p1; (case p1=>k_is)))
  (case t4=>(refine' L4.FR ?p1 ?p2 ?p3 ?p4 ?p5; (case p1=>k_is); (case p2=>k_is); (case p3=>show rfl); (case p4=>k_is); (case p5=>show rfl)))
  (case t5=>(refine' L4.qF ?p1; (case p1=>k_is)))
  (case nd=>decide)
  (case rc=>(intro t j; rcases List.mem_cons.1 j with rfl | j<;>first | show ⟨_,rfl⟩ | cases j))
 case hNtb =>
  intro w
  kernel_rfl
 case F =>
  intro w mg n h KX G m
  refine' K28.all_mk m ⟨?aA4,?_,?_,?_,?_,?_,?_,?_,?_,?_,?_,?_,?_,?_,?_,?_,?_,?_,?_,?_,?_,?_,?_,?_,?_,?_,?_,?_,?_,?_,?_,?_,?_,?_,?_,?_,?_,?_,?_,?_,?_,?_,?_,?_,?_,?_,?_,?_,?_,?_,?_,?_,?_⟩
  (case aA4=>(refine' L4.FR ?p1 ?p2 ?p3 ?p4 ?p5; (case p1=>k_is); (case p2=>k_is); (case p3=>show rfl); (case p4=>k_is); (case p5=>show rfl)))
  all_goals first | show PySem.W.mg_none_of KX G (by k_is) | (refine' L4.aGJ KX G ?b ?a ?l ?c ?k; (case a=>k_is); (case l=>k_is); (case c=>k_is); (case k=>k_is); (case b=>(intro us d; first | (obtain ⟨_,rfl⟩:=L4.aAP us d; rfl) | (obtain ⟨_,_,rfl⟩:=L4.aAQ us d; rfl) | (obtain ⟨_,_,_,rfl⟩:=L4.aAR us d; rfl) | (obtain ⟨_,_,_,_,rfl⟩:=L4.aAS us d; rfl))))
end
