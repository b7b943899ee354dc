import PyProof.Rows.All
import PySem.Str
import PySem.Sem
import PyProof.StrBlockL
import PyProof.Rows.Walk
import Wide.All
import OpenK.AllK
import Wide.FinOn
import Lean
import PyProof.EqAt
import PyProof.EqKinds
import PyProof.TupleCall
import PyProof.SeqRoads2
import PyProof.ExcArgs
import KE.KIsAll
import PyProof.DictIter
import PyProof.Rows.CountFlat
import PyProof.NeKinds
import KE.KSortKey
import KE.KMinKey
import KE.KIntText
import PyProof.Rows.FStr
import PyProof.Rows.StrJoin2
import PyProof.DictItems
import KE.KDictSum
import PySem.Challenge.RW_risecount_k29_whole_chain_rows_of_parts
set_option Elab.async false
set_option linter.all false
set_option maxRecDepth 100000
set_option maxHeartbeats 3999999
open PySem.W (CodeHd OpenLaw codeIn fnOf instObj keepIn kitOne lookIn methodObj noTabs tabObj)
open And renaming intro->Bx
open Array renaming append_empty->se,empty_append->a23,eraseIdxIfInBounds->a22,ext_getElem?->a21,extract_empty_of_stop_le_start->qg,extract_succ_right->a20,forIn_toList->a2Z,getD->lh,getElem?_eq_getElem->mq,getElem?_eq_none->a2Y,getElem?_extract->Jn,getElem?_map->Jm,getElem?_setIfInBounds->a2X,getElem?_toList->sd,length_toList->ic,map_append->Bw,map_extract->ve,map_reverse->a2W,size_append->a2V,size_extract->Jk,size_map->Jj,toList->a2U,toList_append->r_,toList_extract->xf,toList_inj->a2T,toList_map->a2S
open Array.Perm renaming refl->om
open Bool renaming and_eq_false_iff->a2R,and_eq_true->gr,eq_false_iff->Ji,eq_iff_iff->jz,false->ah,false_and->r9,false_eq_true->nj,false_ne_true->cf,false_or->a2Q,not_eq_true->Jg,not_eq_true'->Bv,not_false->Jf,not_true->Je,or_eq_true->Bu,true->af,true_and->qf,true_or->a2P
open Classical renaming axiomOfChoice->a37,byContradiction->oj,epsilon->a2O,epsilon_spec->a2N,propDecidable->qe
open Decidable renaming decide->Zv
open False renaming elim->kj
open ForInStep renaming done->a2M,yield->oh
open Function renaming comp->a2L
open Int renaming add_mul->r6,add_zero->ni,emod_lt_of_pos->vd,emod_nonneg->qd,eq_ofNat_of_zero_le->js,eq_of_mul_eq_mul_right->a2K,fdiv_eq_ediv_of_nonneg->a2J,le_of_lt->a2I,le_refl->Jd,le_trans->Bt,mul_assoc->xb,mul_comm->qc,mul_neg->a2H,mul_one->Jc,mul_zero->Bs,natAbs_mul->a2G,ne_of_gt->a2F,one_mul->Br,pow_pos->a2E,toNat_natCast->gj,toNat_of_nonneg->a2D,zero_add->iu,zero_mul->k_
open List renaming Nodup->Jb,all_cons->vc,all_eq_true->jk,all_map->Bp,any_cons->kz,any_eq_false->a2B,any_eq_true->I_,any_map->Iz,append_assoc->Bo,append_nil->ki,cons_append->Bm,contains_eq_mem->a2A,contains_iff_mem->ku,drop_eq_getElem_cons->mn,drop_eq_nil_of_le->vb,drop_length->a2z,drop_zero->p_,eq_nil_of_length_eq_zero->a2y,eq_of_mem_replicate->a2x,ext_getElem->a2w,ext_getElem?->rn,extract_eq_take_drop->w_,filterMap_cons->Iy,filter_append->a2v,filter_cons->a2u,filter_eq_nil_iff->a2t,filter_eq_self->Iw,find?_cons->ja,flatten_cons->ml,foldl->Iu,foldl_cons->jr,forIn_cons->u_,forIn_nil->Bl,getD_eq_getElem?_getD->kh,getElem?_append_left->jj,getElem?_append_right->i_,getElem?_cons_succ->jy,getElem?_cons_zero->wz,getElem?_dropLast->a2s,getElem?_eq_getElem->cn,getElem?_eq_none->ji,getElem?_eq_some_iff->df,getElem?_map->c_,getElem?_nil->Ir,getElem?_range->p0,getElem?_replicate->kg,getElem?_set_ne->jq,getElem?_set_self->nh,getElem?_take_of_lt->Iq,getElem?_zipIdx->a2r,getElem?_zip_eq_some->wy,getElem_drop->Ip,getElem_inj->a2q,getElem_map->a2p,getElem_mem->wx,getElem_of_mem->og,getElem_take->Io,length->uz,length_append->gi,length_cons->fj,length_drop->rm,length_eq_zero_iff->ng,length_erase_of_mem->a2o,length_filter_le->mj,length_map->bb,length_nil->nc,length_pos_of_mem->a2n,length_range->jh,length_replicate->n_,length_set->jo,length_singleton->Im,length_take->iz,length_zip->a2m,lookup_append->Il,lookup_cons->uw,map->Ik,map_append->gy,map_congr_left->kr,map_cons->bu,map_id->a2l,map_map->di,map_nil->m_,mem_append->ij,mem_append_left->kq,mem_append_right->ir,mem_cons->cg,mem_cons_of_mem->fg,mem_cons_self->de,mem_filter->e_,mem_filterMap->wu,mem_flatMap->Ij,mem_iff_getElem?->Bk,mem_map->gf,mem_map_of_mem->rj,mem_of_getElem?->ko,mem_of_mem_take->a2k,mem_range->mi,mem_reverse->a2j,mem_singleton->dh,nil_append->uv,nil_perm->a2i,nodup_append->rh,nodup_cons->ke,nodup_nil->uu,nodup_range->a2h,not_mem_nil->pq,of_mem_zip->rf,pairwise_append->Bj,pairwise_cons->gc,pairwise_iff_getElem->ur,pairwise_lt_range->Ii,pairwise_map->pk,pairwise_reverse->Ih,pairwise_singleton->a2g,perm_ext_iff_of_nodup->Ig,perm_nil->Ie,range->cx,range_succ->Ic,range_succ_eq_map->wt,replicate->cc,replicate_succ->gx,replicate_zero->Ib,reverse_perm->Ia,set_cons_succ->H_,set_cons_zero->Hz,set_nil->Hy,size_toArray->cz,sum_append->a2f,sum_cons->h_,take_append_drop->uq,take_length->q_,take_of_length_le->pj,take_sublist->a2e,take_succ->wq,take_zero->a2d,toArray->wo,zipIdx_cons->a2c,zip_append->a2b,zip_cons_cons->Hx,zip_map->a2a
open List.Nodup renaming length_le_of_subset->a36,mem_erase_iff->a35,sublist->a34
open List.Pairwise renaming filter->jl,imp_of_mem->Ja,map->xa,nil->Bq,of_map->a33
open List.Perm renaming cons_inv->a32,refl->a2C,swap->a31
open List.cons renaming inj->a30,injEq->Bn
open Nat renaming add_assoc->Hw,add_comm->a19,add_sub_cancel_left->a18,add_zero->wm,and_one_is_mod->a17,eq_of_testBit_eq->qz,le_add_right->uo,le_of_eq->nz,le_of_lt->mh,le_refl->bt,le_succ->pf,le_trans->iq,lt_asymm->a16,lt_irrefl->jg,lt_log2_self->a15,lt_of_lt_of_le->gm,lt_or_ge->uk,lt_succ_of_lt->uj,lt_succ_self->Bi,lt_trans->wj,lt_trichotomy->a14,min_eq_left->a13,min_self->a12,mod_two_eq_zero_or_one->a11,mul_comm->Hv,mul_le_mul_right->a10,ne_of_gt->ny,ne_of_lt->gg,one_pos->a1Z,pow_add->a1Y,pow_le_pow_right->mz,pow_succ->a1X,shiftLeft_eq->a1W,shiftRight_eq_div_pow->Hu,strongRecOn->a1V,sub_self->Ht,sub_zero->wg,succ->a1U,succ_mul->uh,succ_ne_self->Hs,testBit_and->Bh,testBit_lt_two_pow->a1T,testBit_or->Hr,testBit_two_pow->Hq,zero_add->pd,zero_le->gw,zero_testBit->Ho
open Ne renaming symm->gb
open Option renaming bind_none->Hn,bind_some->eg,getD_none->a1S,isSome_iff_exists->a1R,isSome_map->we,join_none->Hm,join_some->Bf,map->a1Q,map_eq_some_iff->jf,map_none->Hl,map_some->ug,none->ag,some->ae
open Option.some renaming inj->dg,injEq->a3Z
open Or renaming inl->fq,inr->cu
open Prod renaming ext->a1P
open Prod.mk renaming inj->Hk
open PyProof.Rows renaming AllBare->nu,IntsAre->mf,IsTup->g_,Keyed->fm,SortKind->ma,SortSt->dj,Subscript_->Hi,args_list_sort->Hh,args_sorted1->Hg,args_tuple_getitem->a1O,boot_all->a3Y,boot_any->a3X,boot_bool->Be,boot_int->Hf,boot_isinstance->a3W,boot_list->a3V,boot_max->a1N,boot_range->a1M,boot_sorted->wd,boot_str->a3U,boot_sum->a1L,boot_tuple->uf,bubble_perm->He,callWith_builtin1->a3T,callWith_kw->a1K,callWith_type1->wc,entry_list_sort->Bd,entry_sorted->Bc,entry_tuple_getitem->a1J,get?_update_seq->o_,getElem?_bubble->a1I,isTrue_plain->a1H,kind_sorted->Bb,listItems_at->Ba,listUpdate_at->oz,list_sort_plain->a1G,lt_int->A_,plain_sorted->Az,seqEpoch_at->ue,slicePart_none->a1F,slot_list_sort->Ay,slot_tuple_getitem->qx,sortedAll_at->a1E,sortedAll_old->a1D,sortedHeap_at->a1C,sortedHeap_old->a1B,subscriptTail_builtinR->a1A,truthy_tuple->a1z,tupleItemsOf_->a1y,wpS_bind->bo,wpS_forRange->je,wpS_get->my,wpS_lift->qw,wpS_modify->nq,wpS_mono->jw,wpS_pure->b_
open PyProof.Rows.IsTup renaming new->Hj
open PyProof.Rows.SortSt renaming mk'->nr
open PySem renaming Addr->ai,Arguments->Ax,Around->bx,BindsTo->ud,Builtin->Hd,DictEntry->wb,Env->fu,Expr->av,Fin->a06,FuncData->gn,Heap->bh,IntMulOk->vz,IsEnum->vw,IsPair->tq,IsPart->mx,IsRange->Gs,IsRangeIter->a04,ItemsOf->Am,Keyword->iy,Meets->vv,Model->qu,NameKind->jn,Obj->ay,Paired->jd,PassesOwn->tj,Pos->br,Program->bj,Result->Ai,Scope->gd,Sem->gk,Shared->ao,Stmt->dc,Str->ak,Tok->gu,Value->aj,Within->a0J,World->bg,assignEach->fz,backTo->d_,cLine->dq,call->Gh,callType_new->a0I,call_function_tree->a0H,call_meets->qp,call_range_1->a0G,codeAny->mr,codeAny_builtin->lp,codeAny_mono->Gg,concat_meets->Gf,eqIsQuiet_byValue->a0F,evalPart_none->a0E,find?_eq_fast->zy,fitsIndex_both->a0D,intBits_le_64->a0C,isSubtype_tuple_tuple->a0B,keywordEach->ox,mainGlobals->ie,mem_of_lookup->kn,model->au,name_of_addr->a0A,noFill_tuple_add->Ge,nums_intItems->a0z,plainId_quiet->ll,pushCells_keeps->a0y,rangeSize_one->Gd,seqIndex_neg->Gb,seqIndex_of->Ga,seqSlot_of->a0x,seq_tuple_add->F_,sizeLine->bq,sizeLine_eq->fw,slot_list_getitem->a0w,small_one->Fz,starEach->ax,swapsWith->gq,tupleKind_room_in1->a0v,typeIs_int->vn,wpAny->az,wpAny_Assign_Subscript->a0u,wpAny_Call_Name_kw->vm,wpAny_Dict_empty->a0t,wpAny_Name->Fy,wpAny_assign_Name->a0s,wpAny_attempt->zx,wpAny_binaryOp_repeat_ref->a0r,wpAny_bind->ar,wpAny_callSpecial?_slot->sy,wpAny_call_entry->km,wpAny_eqBool_int->a0q,wpAny_execs_cons->a0p,wpAny_execs_nil->zw,wpAny_extend_seq->a0o,wpAny_field->qo,wpAny_getItem_heap->a0n,wpAny_getItem_of->a0m,wpAny_handled->a0l,wpAny_holding->ik,wpAny_isInstance->Fx,wpAny_isTrue_Compare1->a0k,wpAny_letGo->qm,wpAny_load->zv,wpAny_loadPart'->a0j,wpAny_mono->jb,wpAny_newList->ou,wpAny_newObj_type->ql,wpAny_newTuple->Fw,wpAny_passesOwn->qk,wpAny_pure->a_,wpAny_pyIter_enum->zu,wpAny_pyIter_list->zt,wpAny_pyIter_tuple->vk,wpAny_pyIter_zip->a0i,wpAny_rule->iw,wpAny_runValue->Fv,wpAny_seqItems->zr,wpAny_sequenceKey->a0h,wpAny_setField->a0g,wpAny_setItem_heap->a0f,wpAny_setItem_pairs->a0e,wpAny_specialOf->Fu,wpAny_standAt->Ft,wpAny_throw->a0d,wpAny_truthy_bool->lj,wpAny_truthy_list->a0c,wpAny_tryCatch->Fs,wpAny_tupleItemsOf->a0b,wpAny_typeOf->vj,wpAny_updateSeq->Fq
open PySem.Around renaming frames_deeper->a1x,under_plainId->l_
open PySem.AutoListH renaming list___mul___list_int_3->a3S
open PySem.AutoSeq1 renaming list_extend_list_list_0->a3R,sub_tuple_tuple->a3Q
open PySem.Builtin.Builtins renaming bindParams->a1w
open PySem.Builtin.Dict_items renaming ownsTuple->a1v
open PySem.Builtin.List renaming listTooLong->Aw
open PySem.Builtin.Range renaming rangeSize->uc,small->Hc
open PySem.Builtin.Slice renaming sliceAdjust->Hb,sliceApplied->a1u,sliceFields->a3P,slicePartIndex->a3O,slicePlaces->Au
open PySem.Builtin.SmallTypes renaming nextOf->a1t
open PySem.Builtin.Tuple renaming tupleCompareSizes->a3N,tupleExact->As,tupleHashOf->a1s,tupleIsExact->a3M,tupleItemsOf->a1r,tupleTooMany->a3L
open PySem.Calls renaming Name_function_global->a1q,call_function_entry->Ha
open PySem.Data renaming seq->a1p
open PySem.DictEntry renaming refKey->a3K
open PySem.EqMixed renaming eq_bool_str->a3J,eq_int_str->a3I,eq_str_bool->a3H,eq_str_int->a3G,ne_bool_str->a3F,ne_int_str->a3E,ne_str_bool->a3D,ne_str_int->a3C
open PySem.EqNone renaming eq_bool_none->a3B,eq_int_none->a3A,eq_none_bool->a3z,eq_none_int->a3y,eq_none_none->a3x,eq_none_str->a3w,eq_str_none->a3v,ne_bool_none->a3u,ne_int_none->a3t,ne_none_bool->a3s,ne_none_int->a3r,ne_none_none->a3q,ne_none_str->a3p,ne_str_none->a3o
open PySem.F renaming args_dict_keyiterator_next_1->a1o,args_int_rmul_2->a1n,args_object_init_2->a1m,args_tuple_add_2->G_,args_tuple_iterator_next_1->a1l,entry_all_loop->a1k,entry_any_loop->a1j,entry_dict_keyiterator_next->a1i,entry_int_rmul->a1h,entry_list_iadd->Gz,entry_proto_collect->Gy,entry_tuple_add->Gx,entry_tuple_iterator_next->a1g,fills_int_mul->a1f,plain_all_loop->Ar,plain_any_loop->Aq,plain_list_iadd->t_,plain_max_loop->wa,plain_proto_collect->Gw,slot_dict_getitem->a1e,slot_dict_iter->a1d,slot_dict_keyiterator_next->v_,slot_int_index->a1c,slot_int_rmul->Ap,slot_list_append->a1b,slot_list_extend->a1a,slot_list_pop->a09,slot_tuple_add->Gv,slot_tuple_eq->a08,slot_tuple_iterator_next->Ao,slot_tuple_mul->Gu,slot_tuple_rmul->a07
open PySem.Heap renaming ExtBut->a05,SameBut->qv,get?_push_of_some->cy,get?_push_size->fv,get?_update_other->An,get?_update_self->tw,lt_size->cj,size_push->tu
open PySem.Heap.DictOf renaming new->a3n
open PySem.Heap.IsSliceOf renaming new->a3m
open PySem.Heap.SameBut renaming update->lz
open PySem.IsL renaming update->a3l
open PySem.Manifest renaming find?->Al
open PySem.MeetsSeq renaming list_pop_at->a3k
open PySem.NameKind renaming cell->lr,free->jv
open PySem.Obj renaming cls_mapFields->a03,data_mapFields->Ak,isFreed_of_fields->a02,mapFields->Gr,mapSeq->ft,putSet->a01
open PySem.Paired renaming length->tm,snoc->Aj
open PySem.PassesOwn renaming never->jm
open PySem.SeqAt renaming EqAt->vt
open PySem.SeqAt.EqAt renaming bool_bool->a3j,bool_int->a3i,bool_none->a3h,bool_str->a3g,int_bool->a3f,int_int->Ah,int_none->a3e,int_str->a00,int_tuple->a3d,none_bool->a3c,none_int->a3b,none_str->a3a,same->Gq,str_bool->a29,str_int->a0Z,str_none->a28,str_str->a27,str_tuple->a26,tuple_int->a25,tuple_str->a24
open PySem.Str renaming ofString->kc
open PySem.Value renaming bool->vq,float->a0Y,int->mw,isInt->a0X,isStrOf->a0W,none->gz,ref->f_,str->Ag,type->jc
open PySem.W renaming Frag->aq,KasT->qt,OpenLaw->s_,WalkO->Gp,cellsFrom_some->a0R,findIn->a0Q,kas_asc->ju,kas_ask->qr,kas_bin->Af,kas_count->Ae,kas_desc->qq,kas_descPart->Ad,kas_item->bz,kas_place->kb,kas_rev->ig,kas_sort->vp,kas_swaps_map->a0P,kas_tail3->Gn,kat_cons->Gm,kat_yes->Gj,kia_one->j_,kitx_dict->a0O,kitx_list->Gi,kitx_tuple->a0N,kla_fn->Ac,kla_obj->Ab,nsIn->a0M,plainGet->a0L,subIn->Aa,tabIn->z_
open PySem.W.KasT renaming ret->oy
open PySem.W.KatTups renaming cons->a0V
open PySem.W.Looks renaming of_pure->a0U
open PySem.W.WData renaming int->a0T
open PySem.W.WShape renaming has->a0S
open PySem.Walks renaming list->a0K
open Sum renaming inl->dm,inr->jt
open Sum.inl renaming inj->sx,injEq->Fo
open Sum.inr renaming inj->Fm,injEq->a0a
open True renaming intro->kl
open PySem
set_option genSizeOf false
set_option compiler.extract_closed false
set_option bootstrap.genMatcherCode false
noncomputable section
local macro_rules|`(⇑$x)=>`(($x).length)
local macro_rules|`(↥$x)=>`(($x).heap.objs.size)
local macro_rules|`(⋯)=>`(by decide)
local macro_rules|`(↑$x)=>`(by simpa using $x)
local macro_rules|`(tactic|delta $[$x]*$[$l]?)=>`(tactic|unfold $[$x]*$[$l]?)
local macro_rules|`(tactic|erw[$[$r:term],*]$[$l]?)=>`(tactic|simp only[$[$r:term],*]$[$l]?)
local macro_rules|`(tactic|lia)=>`(tactic|first|cutsat|omega)
local macro_rules|`(∅)=>`(by lia)
local macro_rules|`(tactic|show $t)=>`(tactic|first|refine $t|fail)
set_option hygiene false
local macro_rules|`(tactic|symm$[$l:location]?)=>`(tactic|simp only[Dn]$[$l]?)
set_option hygiene true
local macro_rules|`(tactic|walk_at "0")=>`(tactic|first|show .inl rfl|show .inr rfl)
local macro_rules|`(tactic|walk_at "1")=>`(tactic|first|show fq rfl|show cu (fq rfl)|show cu (cu rfl))
local macro_rules|`(tactic|walk_at "2")=>`(tactic|first|show .inr rfl|show .inl rfl)
theorem Zq0(h:True:=by rfl):True:=h
theorem Zq1(h:True:=by decide):True:=h
theorem Zq2(h:True:=by walk_at "0"):True:=h
theorem Zq3(h:True:=by walk_at "1"):True:=h
theorem Zq4(h:True:=by intro _;rfl):True:=h
theorem Zq5(h:True:=by with_unfolding_all rfl):True:=h
theorem Zq6(h:True:=by walk_at "2"):True:=h
theorem Zq7(h:True:=by show⟨rfl,rfl,rfl,by decide+kernel,rfl,by decide+kernel,by decide+kernel⟩):True:=h
theorem Zq8(h:True:=by intro _ _;rfl):True:=h
theorem Zq9(h:True:=by first|show .inl rfl|show .inr rfl|assumption):True:=h
theorem Zq10(h:True:=by intro _ z;cases z):True:=h
local macro_rules|`($t<|>0)=>`(autoParam $t Zq0._auto_1)|`($t<|>1)=>`(autoParam $t Zq1._auto_1)|`($t<|>2)=>`(autoParam $t Zq2._auto_1)|`($t<|>3)=>`(autoParam $t Zq3._auto_1)|`($t<|>4)=>`(autoParam $t Zq4._auto_1)|`($t<|>5)=>`(autoParam $t Zq5._auto_1)|`($t<|>6)=>`(autoParam $t Zq6._auto_1)|`($t<|>7)=>`(autoParam $t Zq7._auto_1)|`($t<|>8)=>`(autoParam $t Zq8._auto_1)|`($t<|>9)=>`(autoParam $t Zq9._auto_1)|`($t<|>10)=>`(autoParam $t Zq10._auto_1)
abbrev Q0a:=List (List Int)
abbrev Q0b:=List (ai×ay)
abbrev Q0c:=aj->ao->Prop
abbrev Q0d:=ak->Option aj
abbrev Q0e:=List Int
abbrev Q0f:=List aj
abbrev Q0g:=List ak
abbrev Z_.{u}:=@if_pos.{u}
abbrev Zz.{u}:=@if_neg.{u}
abbrev Zy:=@decide_eq_false
abbrev Zx:=@decide_eq_true
abbrev Zw.{u}:=@absurd.{u}

namespace L3
inductive D where
 |non
 |bl (b:Bool)
 |int (i:Int)
 |str (x:ak)
 |tup (xs:List D)
 |lst (xs:List D)
 |lZ (ns:Q0e)
 |iV (ks:List (Sum Int ak)) (xs:List D)
 |aY (q:Nat->ay->Prop) (ks:List (Sum (Sum Int ak) (List (Sum (Sum Int ak) (List (Sum Int ak)))))) (xs:List D)
 |exc (c:ak) (a:Nat)
 |rws (xs:Q0a)
mutual
noncomputable def D.B8:D->Bool
 |.non=>af
 |.bl _=>af
 |.int _=>af
 |.str _=>af
 |.tup ds=>kX ds
 |.lst _=>ah
 |.lZ _=>af
 |.iV _ _=>ah
 |.aY _ _ _=>ah
 |.exc _ _=>af
 |.rws _=>ah
noncomputable def kX:List D->Bool
 |[]=>af
 |d::ds=>d.B8&&kX ds
end
abbrev cN:=List (Option D)
inductive Sv where
 |no
 |ro (d:D)
 |ow (d:D)
abbrev bB:=List Sv
noncomputable def Sv.all:Sv->Option D
 |.no=>ag
 |.ro d=>ae d
 |.ow d=>ae d
abbrev Sv.ri(n:Int):Sv:=.ro (.int n)
noncomputable def Sv.rd:Sv->Option D
 |.ro d=>ae d
 |_=>ag
def bH(ρ:bB):cN:=ρ.map Sv.all
def fZ(ρ:bB):cN:=ρ.map Sv.rd
end L3
namespace L4
open L3
inductive M (α:Type) where
 |no
 |ex (c:ak)
 |ok (a:α)
inductive Out where
 |no
 |nx (ρ:bB)
 |rt (d:D)
 |ex (c:ak)
abbrev EF:=cN->Option D
abbrev TF:=cN->Option Bool
abbrev AF:=cN->Option (List D)
abbrev XF:=bB->Option (bB×D)
abbrev SF:=bB->Out
abbrev kN:=List D->M D
def jJ:Nat:=16777216
def bE(i:Nat):EF:=λρ=>(ρ[i]?).join
def eC(d:D):EF:=λ_=>ae d
abbrev eI(n:Int):EF:=eC (.int n)
abbrev b9:EF:=bE 0
abbrev dC:EF:=bE 1
abbrev fO:EF:=bE 2
abbrev xU:EF:=bE 3
abbrev kO:EF:=bE 4
abbrev mO:EF:=bE 5
abbrev OE:EF:=bE 6
abbrev qj:EF:=bE 7
abbrev Kx:EF:=bE 8
abbrev xn:EF:=bE 9
abbrev CB:EF:=bE 10
abbrev aLp:EF:=bE 11
abbrev aLq:EF:=bE 12
def aC(g:D->D->Option D)(a b:EF):EF:=λρ=>(a ρ).bind λx=>(b ρ).bind λy=>g x y
noncomputable def kZ:D->Option Bool
 |.bl b=>ae b
 |.lst ds=>ae (!ds.isEmpty)
 |.tup ds=>ae (!ds.isEmpty)
 |_=>ag
def tV(f:EF):TF:=λρ=>(f ρ).bind kZ
def nN(t:TF):TF:=λρ=>(t ρ).map (!·)
def OL(t u:TF):TF:=λρ=>(t ρ).bind λb=>if b=af then ae af else u ρ
noncomputable def rC:D->Option Bool
 |.bl b=>ae b
 |_=>ag
def k5(a b:EF):EF:=λρ=>(a ρ).bind λx=>(rC x).bind λc=>if c=af then b ρ else ae (.bl ah)
def xo(a b:EF):EF:=λρ=>(a ρ).bind λx=>(rC x).bind λc=>if c=af then ae (.bl af) else b ρ
def tQ(a:EF):EF:=λρ=>(a ρ).bind λx=>(rC x).map λc=>.bl (!c)
def VC(t:TF)(a b:EF):EF:=λρ=>(t ρ).bind λc=>if c=af then a ρ else b ρ
noncomputable def VD:D->Option D
 |.int i=>ae (.int (-i))
 |_=>ag
def tR(a:EF):EF:=λρ=>(a ρ).bind VD
def k6(f g:D->D->Option D)(a b c:EF):EF:=λρ=>(a ρ).bind λx=>(b ρ).bind λy=>(f x y).bind λz=>(rC z).bind λk=>if k=af then(c ρ).bind λw=>g y w else ae (.bl ah)
noncomputable def FQ(g:Int->Int->D):D->D->Option D
 |.int i,.int j=>ae (g i j)
 |_,_=>ag
noncomputable def iY(c:Int->Int->Bool)(g:Int->Int->D):D->D->Option D
 |.int i,.int j=>if c i j=af then ae (g i j) else ag
 |_,_=>ag
noncomputable def dF:D->D->Option D
 |.int i,.int j=>ae (.int (i+j))
 |.lst a,.lst b=>if ⇑a+⇑b<=jJ then ae (.lst (a++b)) else ag
 |.tup a,.tup b=>if ⇑a+⇑b<=jJ then ae (.tup (a++b)) else ag
 |.str a,.str b=>if ⇑a+⇑b<=jJ then ae (.str (a++b)) else ag
 |_,_=>ag
def nO:D->D->Option D:=FQ λi j=>.int (i-j)
def tS(i j:Int):Bool:=Zv (i.natAbs<18446744073709551616)||Zv (j.natAbs<18446744073709551616)||Zv (i.natAbs.log2+j.natAbs.log2<=134217700)
def mulM:D->D->Option D:=iY tS λi j=>.int (i*j)
def j3:D->D->Option D:=iY (λ_ j=>Zv (0<j)) λi j=>.int (i%j)
def sA:D->D->Option D:=iY (λ_ j=>Zv (0<j)&&Zv (j.natAbs<1073741824)) λi j=>.int (i/j)
def zq:D->D->Option D:=iY (λi j=>Zv (0<=j)&&Zv (j.natAbs<=1000000)&&Zv (i.natAbs<18446744073709551616)) λi j=>.int (i^j.toNat)
def ltM:D->D->Option D:=FQ λi j=>.bl (Zv (i<j))
def leM:D->D->Option D:=FQ λi j=>.bl (Zv (i<=j))
def FJ:D->D->Option D:=FQ λi j=>.bl (Zv (j<i))
def geM:D->D->Option D:=FQ λi j=>.bl (Zv (j<=i))
noncomputable def ZY:D->D->Option Bool
 |.int i,.int j=>ae (Zv (i=j))
 |.bl i,.bl j=>ae (Zv (i=j))
 |.str i,.str j=>ae (Zv (i=j))
 |.non,.non=>ae af
 |_,_=>ag
def rD:D->D->Option D:=λx y=>(ZY x y).map .bl
def neM:D->D->Option D:=λx y=>(ZY x y).map λb=>.bl (!b)
noncomputable def tW:D->Bool
 |.non=>af
 |_=>ah
def VE:D->D->Option D:=λx y=>if tW y=af then ae (.bl (tW x)) else ag
noncomputable def intsOf:List D->Option (List Int)
 |[]=>ae []
 |.int i::ds=>(intsOf ds).map (i :: ·)
 |_::_=>ag
def tX(neg:Bool):D->D->Option D
 |.int i,.tup ds=>(intsOf ds).map λns=>.bl (if neg then !ns.contains i else ns.contains i)
 |.int i,.lst ds=>(intsOf ds).map λns=>.bl (if neg then !ns.contains i else ns.contains i)
 |_,_=>ag
def OM(n:Nat)(i:Int):Option Nat:=if 0<=i then(if i<n then ae i.toNat else ag) else if -(n:Int)<=i then ae (i+n).toNat else ag
def wV{α:Type}(xs:List α)(i:Int):Option α:=(OM ⇑xs i).bind λj=>xs[j]?
noncomputable def gT:D->D->Option D
 |.lst a,.int i=>wV a i
 |.tup a,.int i=>wV a i
 |.lZ a,.int i=>(wV a i).map D.int
 |_,_=>ag
noncomputable def tY:D->Option (Sum Int ak)
 |.int i=>ae (.inl i)
 |.str x=>ae (.inr x)
 |_=>ag
def iZ(ks:List (Sum Int ak))(ds:List D)(k:Sum Int ak):Option D:=((ks.zip ds).find? λa=>Zv (a.1=k)).map (·.2)
def tZ:D->D->Option D
 |.iV ks ds,d=>(tY d).bind λk=>iZ ks ds k
 |_,_=>ag
def aH:AF:=λ_=>ae []
def aA(a:EF)(t:AF):AF:=λρ=>(a ρ).bind λd=>(t ρ).bind λds=>ae (d::ds)
abbrev bM(i:Nat):AF:=aA (bE i) aH
def gQ(t:AF):EF:=λρ=>(t ρ).bind λds=>if ⇑ds<=jJ then ae (.tup ds) else ag
def fB(t:AF):EF:=λρ=>(t ρ).bind λds=>if ⇑ds<=jJ then ae (.lst ds) else ag
def cM(g:List D->Option D)(t:AF):EF:=λρ=>(t ρ).bind g
noncomputable def CC:M D->Option D
 |.ok d=>ae d
 |_=>ag
def aO(R:kN)(t:AF):EF:=λρ=>(t ρ).bind λds=>CC (R ds)
noncomputable def cB:List D->Option D
 |[.lst a]=>ae (.int ⇑a)
 |[.tup a]=>ae (.int ⇑a)
 |[.lZ a]=>ae (.int ⇑a)
 |_=>ag
noncomputable def dO:List D->Option D
 |[.lst a]=>ae (.tup a)
 |[.tup a]=>ae (.tup a)
 |_=>ag
noncomputable def ZZ:List D->Option D
 |[.lst a]=>ae (.lst a)
 |[.tup a]=>ae (.lst a)
 |_=>ag
noncomputable def insI(a:Int):List Int->List Int
 |[]=>[a]
 |b::l=>if a<=b then a::b::l else b::insI a l
def sortI:List Int->List Int
 |[]=>[]
 |a::l=>insI a (sortI l)
def i5:List D->Option D
 |[.lst a]=>(intsOf a).bind λns=>if ⇑ns<64 then ae (.lst ((sortI ns).map D.int)) else ag
 |_=>ag
def FR:List D->Option D
 |[.lst a]=>(intsOf a).map λns=>.int ns.sum
 |_=>ag
def mT:List D->Option (List Bool)
 |[]=>ae []
 |d::ds=>(kZ d).bind λb=>(mT ds).map (b :: ·)
def allM:List D->Option D
 |[.lst a]=>(mT a).map λbs=>.bl (bs.all id)
 |_=>ag
def anyM:List D->Option D
 |[.lst a]=>(mT a).map λbs=>.bl (bs.any id)
 |_=>ag
noncomputable def tyM:D->String
 |.non => "NoneType"
 |.bl _ => "bool"
 |.int _ => "int"
 |.str _ => "str"
 |.tup _ => "tuple"
 |.lst _ => "list"
 |.lZ _ => "list"
 |.iV _ _ => "dict"
 |.aY _ _ _ => "dict"
 |.exc _ _ => "NoneType"
 |.rws _ => "NoneType"
def FT(T:String)(d:D):Bool:=tyM d == T||(T == "int"&&tyM d == "bool")
noncomputable def FU:D->Bool
 |.exc _ _=>ah
 |.aY _ _ _=>ah
 |.rws _=>ah
 |_=>af
def iW(T:String)(a:EF):EF:=λρ=>(a ρ).bind λd=>if FU d=af then ae (.bl (FT T d)) else ag
def aS(lo:Int)(n:Nat):List Int:=(cx n).map λk:Nat=>lo+(k:Int)
def Tx(a:Int)(n:Nat):List Int:=(cx n).map λk:Nat=>a-(k:Int)
noncomputable def FV(t:AF):EF:=λρ=>(t ρ).bind λds=>match ds with
 |[.int j]=>if j.natAbs<=16777216 then ae (.lst ((aS 0 j.toNat).map D.int)) else ag
 |_=>ag
noncomputable def ON(t:AF):EF:=λρ=>(t ρ).bind λds=>match ds with
 |[.int j]=>if j.natAbs<=16777216 then ae (.tup ((aS 0 j.toNat).map D.int)) else ag
 |[.int i,.int j]=>if i.natAbs<=8388608/\j.natAbs<=8388608 then ae (.tup ((aS i (j-i).toNat).map D.int)) else ag
 |_=>ag
noncomputable def xV:List D->Option D
 |[.int i,.int j]=>ae (.int (if j>i then j else i))
 |_=>ag
noncomputable def repLM:D->D->Option D
 |.lst a,.int n=>if ⇑a*n.toNat<=jJ/\n.natAbs<9223372036854775808 then ae (.lst (cc n.toNat a).flatten) else ag
 |_,_=>ag
noncomputable def CD:D->D->Option D
 |.tup a,.int n=>if ⇑a*n.toNat<=jJ/\n.natAbs<9223372036854775808 then ae (.tup (cc n.toNat a).flatten) else ag
 |_,_=>ag
noncomputable def LN:D->D->Option D
 |.lst a,.lst b=>if ⇑a+⇑b<=jJ then ae (.lst (a++b)) else ag
 |_,_=>ag
noncomputable def CF:D->Option (List D)
 |.lst ds=>ae ds
 |.tup ds=>ae ds
 |_=>ag
def bP(f:EF):AF:=λρ=>(f ρ).bind CF
noncomputable def FW:List D->Option (List D)
 |[.int j]=>if j.natAbs<4611686018427387904 then ae ((aS 0 j.toNat).map D.int) else ag
 |[.int i,.int j]=>if i.natAbs<4611686018427387904/\j.natAbs<4611686018427387904 then ae ((aS i (j-i).toNat).map D.int) else ag
 |[.int i,.int j,.int k]=>if k=-1/\i.natAbs<1000000/\j.natAbs<1000000 then ae ((Tx i (i-j).toNat).map D.int) else ag
 |_=>ag
def bZ(t:AF):AF:=λρ=>(t ρ).bind FW
noncomputable def ID:List D->Option (List D)
 |[.lst ds]=>ae (ds.zipIdx.map λp=>.tup [.int (p.2:Int),p.1])
 |[.tup ds]=>ae (ds.zipIdx.map λp=>.tup [.int (p.2:Int),p.1])
 |_=>ag
def nQ(t:AF):AF:=λρ=>(t ρ).bind ID
def Tw:List D->Option (List D)
 |[a,b]=>(CF a).bind λxs=>(CF b).map λys=>(xs.zip ys).map λp=>.tup [p.1,p.2]
 |_=>ag
def zp(t:AF):AF:=λρ=>(t ρ).bind Tw
noncomputable def zo:List D->Option (List D)
 |[.lst ds]=>ae ds.reverse
 |[.tup ds]=>ae ds.reverse
 |_=>ag
def zm(t:AF):AF:=λρ=>(t ρ).bind zo
abbrev VF:=D->cN->Option cN
def g1(i:Nat):VF:=λd ρ=>ae (ρ.set i (ae d))
noncomputable def xW:D->Option (D×D)
 |.tup [x,y]=>ae (x,y)
 |_=>ag
def g2(i j:Nat):VF:=λd ρ=>(xW d).map λp=>(ρ.set i (ae p.1)).set j (ae p.2)
def bV:TF:=λ_=>ae af
def benv(nl:Nat)(fr:List Nat)(ρ:cN):cN:=cc nl ag++fr.map λj=>(ρ[j]?).join
noncomputable def iD(g:VF)(t:TF)(e:EF)(ρ:cN):List D->Option (List D)
 |[]=>ae []
 |d::ds=>(g d ρ).bind λρ1=>(t ρ1).bind λb=>if b=af then(e ρ1).bind λy=>(iD g t e ρ ds).map (y :: ·) else iD g t e ρ ds
def bO(nl:Nat)(fr:List Nat)(it:AF)(g:VF)(t:TF)(e:EF):EF:=λρ=>(it ρ).bind λds=>if ⇑ds<=jJ then(iD g t e (benv nl fr ρ) ds).map D.lst else ag
abbrev OF:=cN->Option (Option Int)
def LO:OF:=λ_=>ae ag
noncomputable def asInt:D->Option Int
 |.int i=>ae i
 |_=>ag
def oE(f:EF):OF:=λρ=>(f ρ).bind λd=>(asInt d).map ae
noncomputable def LP(n d:Nat):Option Int->Nat
 |none=>d
 |some i=>if i<0 then(i+n).toNat else min i.toNat n
def CG(xs:List D)(lo a:Option Int):List D:=(xs.drop (LP ⇑xs 0 lo)).take (LP ⇑xs ⇑xs a-LP ⇑xs 0 lo)
def slM(d:D)(lo a:Option Int):Option D:=match d with
 |.lst ds=>ae (.lst (CG ds lo a))
 |.tup ds=>ae (.tup (CG ds lo a))
 |_=>ag
def IE(f:EF)(lo a:OF):EF:=λρ=>(f ρ).bind λd=>(lo ρ).bind λl=>(a ρ).bind λh=>slM d l h
def OO(f:EF):XF:=λρ=>(f (bH ρ)).bind λd=>if d.B8=af then ae (ρ,d) else ag
def aZ(f:EF):XF:=λρ=>(f (fZ ρ)).bind λd=>ae (ρ,d)
noncomputable def k7:Option Sv->Option (List D)
 |some (.ow (.lst ds))=>ae ds
 |_=>ag
def mP(i:Nat)(m:List D->D->Option (List D×D))(x:XF):XF:=λρ=>(k7 ρ[i]?).bind λ_=>(x ρ).bind λp=>(k7 p.1[i]?).bind λds=>(m ds p.2).map λq=>(p.1.set i (.ow (.lst q.1)),q.2)
def gW:List D->D->Option (List D×D):=λds d=>if ⇑ds<jJ then ae (ds++[d],.non) else ag
noncomputable def VG:List D->D->Option (List D×D)
 |ds,.int k=>if k.natAbs<9223372036854775808 then(OM ⇑ds k).bind λj=>(ds[j]?).map λd=>(ds.eraseIdx j,d) else ag
 |_,_=>ag
noncomputable def LQ:List D->D->Option (List D×D)
 |ds,.lst es=>if ⇑ds+⇑es<=jJ then ae (ds++es,.non) else ag
 |_,_=>ag
def eG:SF:=λρ=>.nx ρ
noncomputable def aL(f g:SF):SF:=λρ=>match f ρ with
 |.nx ρ'=>g ρ'
 |o=>o
def b8(f:EF):SF:=λρ=>match f (bH ρ) with
 |some d=>.rt d
 |none=>.no
def iX(t:TF)(a b:SF):SF:=λρ=>match t (bH ρ) with
 |some af=>a ρ
 |some ah=>b ρ
 |none=>.no
def bF(i:Nat)(f:EF):SF:=λρ=>match f (fZ ρ) with
 |some d=>.nx (ρ.set i (.ro d))
 |none=>.no
noncomputable def OP(i:Nat)(x:XF):SF:=λρ=>match x ρ with
 |some p=>.nx (p.1.set i (.ro p.2))
 |none=>.no
def jK(i:Nat)(f:EF):SF:=λρ=>match f (fZ ρ) with
 |some d=>.nx (ρ.set i (.ow d))
 |none=>.no
def t6:D->Bool
 |.lst ds=>kX ds
 |_=>ah
def OQ(i:Nat)(f:EF):SF:=λρ=>match f (bH ρ) with
 |some d=>if t6 d=af then .nx (ρ.set i (.ow d)) else .no
 |none=>.no
def t7(i:Nat)(f:EF):SF:=λρ=>match f (bH ρ) with
 |some d=>if t6 d=af then .nx (ρ.set i (.ro d)) else .no
 |none=>.no
def CH(i:Nat):SF:=λρ=>.nx (ρ.set i (.ow (.iV [] [])))
noncomputable def sX(x:XF):SF:=λρ=>match x ρ with
 |some p=>.nx p.1
 |none=>.no
def LR(i:Nat)(x:XF)(k:EF):SF:=λρ=>match ((x ρ).bind λp=>(k7 p.1[i]?).bind λds=>(k (bH p.1)).bind λkd=>(asInt kd).bind λa=>(OM ⇑ds a).map λj=>p.1.set i (.ow (.lst (ds.set j p.2)))) with
 |some ρ'=>.nx ρ'
 |none=>.no
noncomputable def t8:Option Sv->Option (List (Sum Int ak)×List D)
 |some (.ow (.iV ks ds))=>ae (ks,ds)
 |_=>ag
def IF(i:Nat)(x:XF)(k:EF):SF:=λρ=>match ((x ρ).bind λp=>(t8 p.1[i]?).bind λkd=>(k (bH p.1)).bind λd=>(tY d).bind λa =>
  if(iZ kd.1 kd.2 a).isNone=af/\⇑kd.2<jJ then ae (p.1.set i (.ow (.iV (kd.1++[a]) (kd.2++[p.2])))) else ag) with
 |some ρ'=>.nx ρ'
 |none=>.no
abbrev GSF:=D->bB->Option bB
def t9(i:Nat):GSF:=λd ρ=>ae (ρ.set i (.ro d))
def VH(i j:Nat):GSF:=λd ρ=>(xW d).map λp=>(ρ.set i (.ro p.1)).set j (.ro p.2)
noncomputable def gU(g:GSF)(b:SF):List D->bB->Out
 |[],ρ=>.nx ρ
 |d::ds,ρ=>match g d ρ with
  |none=>.no
  |some ρ1=>match b ρ1 with
   |.nx ρ2=>gU g b ds ρ2
   |o=>o
def fC(it:AF)(g:GSF)(b:SF):SF:=λρ=>match it (fZ ρ) with
 |some ds=>gU g b ds ρ
 |none=>.no
def dP(t:TF)(b:SF):Nat->bB->Out
 |0,_=>.no
 |n+1,ρ=>match t (bH ρ) with
  |none=>.no
  |some ah=>.nx ρ
  |some af=>match b ρ with
   |.nx ρ'=>dP t b n ρ'
   |o=>o
def mU:Nat:=1000000
def uA(n:Nat)(t:TF)(b:SF):SF:=dP t b n
def eD(n:Nat)(ds:List D):bB:=ds.map Sv.ro++cc (n-⇑ds) Sv.no
noncomputable def c7(n a:Nat)(b:SF):kN:=λds=>if ⇑ds=a then(match b (eD n ds) with
 |.rt d=>.ok d
 |.nx _=>.ok .non
 |.ex c=>.ex c
 |.no=>.no) else .no
noncomputable def fE:List Int->List Int->Bool
 |[],[]=>ah
 |[],_::_=>af
 |_::_,[]=>ah
 |a::as,b::bs=>if a=b then fE as bs else Zv (a<b)
def LS(t:Q0e):List (List Int)->List (List Int)
 |[]=>[t]
 |u::us=>if fE u t=af then u::LS t us else t::u::us
def rE:List (List Int)->List (List Int)
 |[]=>[]
 |t::ts=>LS t (rE ts)
def nR(t:Q0e):D:=.tup (t.map D.int)
def Z0:D->Option (List Int)
 |.tup ds=>intsOf ds
 |_=>ag
def mV:List D->Option (List (List Int))
 |[]=>ae []
 |d::ds=>(Z0 d).bind λt=>(mV ds).map (t :: ·)
def mW:List D->Option D
 |[.lst a]=>(mV a).bind λd=>if ⇑d<64/\d.all (λt=>!t.isEmpty)=af then ae (.lst ((rE d).map nR)) else ag
 |_=>ag
theorem FX:∀a b:Q0e,fE a b=af->fE b a=ah
 |[],[],h=>by cases h
 |[],_::_,_=>rfl
 |_::_,[],h=>by cases h
 |a::as,b::bs,h=>by
  delta fE at h ⊢;by_cases e:a=b
  .rw [Z_ e] at h;rw[Z_ e.symm];show FX as bs h
  .rw [Zz e] at h;rw[Zz (gb e)];simp at h ⊢;lia
theorem FY:∀a b c:Q0e,fE b a=ah->fE c b=ah->fE c a=ah
 |[],[],c,h1,h2=>h2
 |[],b::bs,[],h1,h2=>rfl
 |[],b::bs,c::cs,h1,h2=>rfl
 |a::as,[],c,h1,h2=>by cases h1
 |a::as,b::bs,[],h1,h2=>by cases h2
 |a::as,b::bs,c::cs,h1,h2=>by
  delta fE at h1 h2 ⊢;by_cases e1:b=a
  .subst e1;rw[Z_ rfl] at h1;by_cases d:c=b
   .subst d;rw[Z_ rfl] at h2 ⊢;show FY as bs cs h1 h2
   .rw [Zz d] at h2 ⊢;show h2
  .rw [Zz e1] at h1;by_cases d:c=b
   .subst d;rw[Zz e1];show h1
   .rw [Zz d] at h2;simp at h1 h2;rw[Zz ∅];simp;lia
theorem OR:∀a b:Q0e,fE a b=ah->fE b a=ah->a=b
 |[],[],_,_=>rfl
 |[],_::_,h1,_=>by cases h1
 |_::_,[],_,h2=>by cases h2
 |a::as,b::bs,h1,h2=>by
  delta fE at h1 h2;by_cases e:a=b
  .subst e;rw[Z_ rfl] at h1 h2;rw[OR as bs h1 h2]
  .rw [Zz e] at h1;rw[Zz (gb e)] at h2;simp at h1 h2;lia
theorem pQ(t:Q0e):∀l,(LS t l).Perm (t::l)
 |[]=>.refl _
 |u::us=>by
  delta LS;by_cases h:fE u t=af
  .rw [Z_ h];show((pQ t us).cons u).trans (.swap t u us)
  .rw [Zz h]
theorem j4:∀l,(rE l).Perm l
 |[]=>.refl _
 |t::ts=>(pQ t _).trans ((j4 ts).cons t)
def UpT(l:Q0a):Prop:=l.Pairwise λa b=>fE b a=ah
theorem IG(t:Q0e):∀l,UpT l->UpT (LS t l)
 |[],_=>a2g _ _
 |u::us,h=>by
  have⟨h1,h2⟩:=gc.mp h;delta LS;by_cases e:fE u t=af
  .rw [Z_ e];show gc.mpr ⟨λx a=>?_,IG t us h2⟩;rcases cg.mp ((pQ t us).mem_iff.mp a) with rfl|a
   .exact FX _ _ e
   .exact h1 x a
  .rw [Zz e];have e:fE u t=ah:=by simpa using e
   show gc.mpr ⟨λx a=>?_,h⟩;rcases(cg.mp a:x=u\/x∈us) with rfl|a
   .exact e
   .exact FY t u x e (h1 x a)
theorem CI:∀l,UpT (rE l)
 |[]=>.nil
 |t::ts=>IG t _ (CI ts)
theorem IH:∀{l m:Q0a},l.Perm m->UpT l->UpT m->l=m
 |[],m,p,_,_=>by rw[a2i.mp p]
 |a::l,[],p,_,_=>by have:=p.length_eq;simp at this
 |a::l,b::m,p,h1,h2=>by
  obtain⟨v,q⟩:=gc.mp h1;obtain⟨o,n⟩:=gc.mp h2;have e:a=b:=by
   have j:=cg.mp (p.mem_iff.mp de);have d:=cg.mp (p.mem_iff.mpr de);rcases j with h|h
   .exact h
   .rcases d with h' | h'
    .exact h'.symm
    .exact OR _ _ (o a h) (v b h')
  subst e;rw[IH p.cons_inv q n]
noncomputable def Tv(ρ:bB)(i:Nat):bB:=match ρ[i]? with
 |some (.ow d)=>ρ.set i (.ro d)
 |_=>ρ
def zk(i:Nat)(f:SF):SF:=λρ=>f (Tv ρ i)
noncomputable def VI:List Int->Int
 |[]=>0
 |a::l=>l.foldl (λm b=>if m<b then b else m) a
def k8:List D->Option D
 |[.tup ds]=>(intsOf ds).bind λns=>if ⇑ns<64 then ae (.lst ((sortI ns).map D.int)) else ag
 |_=>ag
abbrev gX:Nat->ay->Prop:=λ_ _=>True
def adr(q:Nat->ay->Prop):Nat->ay->Prop:=λa _=>∃o,q a o
abbrev wZ:=Sum Int ak
abbrev PN1:=List (Sum wZ (List wZ))
abbrev rF:=Sum wZ PN1
def xX:List D->Option (List wZ)
 |[]=>ae []
 |d::ds=>(tY d).bind λk=>(xX ds).map (k :: ·)
def OS:D->Option (Sum wZ (List wZ))
 |.tup ds=>(xX ds).map .inr
 |d=>(tY d).map .inl
def k9:List D->Option PN1
 |[]=>ae []
 |d::ds=>(OS d).bind λk=>(k9 ds).map (k :: ·)
def lB:D->Option rF
 |.tup ds=>(k9 ds).map .inr
 |d=>(tY d).map .inl
noncomputable def dK:wZ->D
 |.inl i=>.int i
 |.inr x=>.str x
def OT:Sum wZ (List wZ)->D
 |.inl k=>dK k
 |.inr ks=>.tup (ks.map dK)
def Z1:rF->D
 |.inl k=>dK k
 |.inr ks=>.tup (ks.map OT)
def aQ(ks:List rF)(ds:List D)(k:rF):Option D:=((ks.zip ds).find? λp=>Zv (p.1=k)).map (·.2)
def kindB(ks:List rF)(k:rF):Bool:=ks.all λq=>q.isLeft == k.isLeft
def Ef:D->D->Option D
 |.aY _ ks ds,d=>(lB d).bind λk=>if kindB ks k=af then aQ ks ds k else ag
 |_,_=>ag
def uB(neg:Bool):D->D->Option D
 |d,.aY _ ks ds=>(lB d).bind λk=>if kindB ks k=af then ae (.bl (if neg then !(aQ ks ds k).isSome else(aQ ks ds k).isSome)) else ag
 |_,_=>ag
def cL(ks:List rF)(ds:List D)(k:rF)(v:D):List rF×List D :=
 if ks.any (λq=>Zv (q=k))=af then(ks,(ks.zip ds).map λp=>if p.1=k then v else p.2) else(ks++[k],ds++[v])
def OU:D->Option (List D)
 |.aY _ ks _=>ae (ks.map Z1)
 |_=>ag
noncomputable def zT:Option Sv->Option ((Nat->ay->Prop)×List rF×List D)
 |some (.ow (.aY q ks ds))=>ae (q,ks,ds)
 |_=>ag
def II(i:Nat):SF:=λρ=>.nx (ρ.set i (.ow (.aY gX [] [])))
def iE(i:Nat)(x:XF)(k:EF):SF:=λρ=>match ((x ρ).bind λp=>(zT p.1[i]?).bind λkd=>(k (bH p.1)).bind λd=>(lB d).bind λa =>
  if kindB kd.2.1 a=af/\⇑kd.2.2<jJ then ae (p.1.set i (.ow (.aY (adr kd.1) (cL kd.2.1 kd.2.2 a p.2).1 (cL kd.2.1 kd.2.2 a p.2).2))) else ag) with
 |some ρ'=>.nx ρ'
 |none=>.no
noncomputable def Z2:List D->Option (List D)
 |[.lst xs,.lst ys]=>ae ((xs.zip ys).map λp=>.tup [p.1,p.2])
 |_=>ag
def uC(t:AF):AF:=λρ=>(t ρ).bind Z2
abbrev KD:=List rF×List D
abbrev sC:=List D->KD->M (D×KD)
def startM(n:Nat)(ds:List D)(q:Nat->ay->Prop)(kd:KD):bB:=ds.map Sv.ro++Sv.ow (.aY q kd.1 kd.2)::cc (n-(⇑ds+1)) Sv.no
def zU(j:Nat)(k:EF)(q:Nat->ay->Prop):bB->Option (D×KD):=λρ=>(zT ρ[j]?).bind λkd=>(k (fZ ρ)).bind λl=>(lB l).bind λh=>@ite _ (kindB kd.2.1 h=af /\∀a o,kd.1 a o ->∃o2,q a o2) (qe _) ((aQ kd.2.1 kd.2.2 h).map λd=>(d,kd.2)) ag
def nU(n a:Nat)(b:SF)(k:EF)(q:Nat->ay->Prop)(ds:List D)(kd:KD):Option (D×KD):=if ⇑ds+1=a then(match b (startM n ds q kd) with
 |.nx ρ=>zU (a-1) k q ρ
 |_=>ag) else ag
def runM(n a:Nat)(b:SF)(k:EF):sC:=λds kd=>@dite _ (∃r,∀q,nU n a b k q ds kd=ae r) (qe _) (λh=>.ok h.choose) λ_=>.no
def IJ(h:runM n np b k ds kd=.ok r)(q:Nat->ay->Prop):nU n np b k q ds kd=ae r:=by
 delta runM at h;split at h
 .rename_i hx;cases h;show hx.choose_spec q
 .cases h
theorem zV(h:∀q,nU n np b k q ds kd=ae r):runM n np b k ds kd=.ok r:=by have a:∃r,∀q,nU n np b k q ds kd=ae r:=⟨r,h⟩;delta runM;rw[dif_pos a];have e:=a.choose_spec gX;rw[h gX] at e;rw[dg e]
def stepM(R:sC)(t:AF)(j:Nat)(ρ:bB):Option ((Nat->ay->Prop)×D×KD):=(t (fZ ρ)).bind λds=>(zT ρ[j]?).bind λkd=>match R ds kd.2 with
 |.ok r=>ae (kd.1,r)
 |_=>ag
def pR(i:Nat)(R:sC)(t:AF)(j:Nat):SF:=λρ=>match stepM R t j ρ with
 |some r=>.nx ((ρ.set j (.ow (.aY (adr r.1) r.2.2.1 r.2.2.2))).set i (.ro r.2.1))
 |none=>.no
def LU(R:sC)(t:AF)(j:Nat):SF:=λρ=>match stepM R t j ρ with
 |some r=>.nx (ρ.set j (.ow (.aY (adr r.1) r.2.2.1 r.2.2.2)))
 |none=>.no
def nnC(i j:Int):Bool:=Zv (0<=i)&&Zv (0<=j)
def VJ:D->D->Option D:=iY (λi j=>Zv (0<=j)&&Zv (j.natAbs<=1000000)&&Zv (i.natAbs<18446744073709551616)) λi j=>.int (i*2^j.toNat)
def VL:D->D->Option D:=iY (λ_ j=>Zv (0<=j)) λi j=>.int (i/2^j.toNat)
def nV:D->D->Option D:=iY nnC λi j=>.int ((i.toNat &&& j.toNat:Nat):Int)
noncomputable def uD(key:EF)(ρ:cN):List D->Option (List D)
 |[]=>ae []
 |d::ds=>(key (ρ.set 0 (ae d))).bind λk=>(uD key ρ ds).map (k :: ·)
theorem xZ:∀{ds ks:List D} {i:Nat} {d:D},uD key ρ ds=ae ks->ds[i]?=ae d ->∃k,ks[i]?=ae k/\key (ρ.set 0 (ae d))=ae k
 |[],ks,i,d,h,hd=>by cases hd
 |d0::ds,ks,i,d,h,hd=>by
  delta uD at h
  cases e:key (ρ.set 0 (ae d0)) with
  |none=>rw[e] at h;cases h
  |some k =>
   rw[e] at h
   cases e2:uD key ρ ds with
   |none=>rw[e2] at h;cases h
   |some r =>
    rw[e2] at h;cases h
    cases i with
    |zero=>cases hd;show⟨k,rfl,e⟩
    |succ i =>
     obtain⟨a,j,h2⟩:=xZ (i:=i) (d:=d) e2 (by rw[jy] at hd;show hd);show⟨a,by rw[<- j];show jy,h2⟩
structure TO {α:Type} (lt:α->α->Bool):Prop where
 as:∀x y,lt x y=af->lt y x=ah
 tr:∀x y z,lt x y=ah->lt y z=ah->lt x z=ah
 one:∀x y,lt x y=ah->lt y x=ah->x=y
theorem TO.B9{α:Type}{lt:α->α->Bool}(O:TO lt)(x:α):lt x x=ah:=by
 cases h:lt x x with
 |false=>rfl
 |true=>rw[O.as x x h] at h;cases h
noncomputable def LV{α:Type}(lt:α->α->Bool)(a:α):List α->List α
 |[]=>[a]
 |b::l=>if lt b a=af then b::LV lt a l else a::b::l
def lC{α:Type}(lt:α->α->Bool):List α->List α
 |[]=>[]
 |a::l=>LV lt a (lC lt l)
section
variable{α:Type}{lt:α->α->Bool}
theorem pS(a:α):∀l:List α,(LV lt a l).Perm (a::l)
 |[]=>.refl _
 |b::l=>by
  delta LV;split
  .exact ((pS a l).cons b).trans (.swap a b l)
  .exact .refl _
theorem eB:∀l:List α,(lC lt l).Perm l
 |[]=>.refl _
 |a::l=>(pS a _).trans ((eB l).cons a)
def Z3(lt:α->α->Bool)(l:List α):Prop:=l.Pairwise λa b=>lt b a=ah
theorem IK(O:TO lt)(a:α):∀l:List α,Z3 lt l->Z3 lt (LV lt a l)
 |[],_=>a2g ..
 |b::l,h=>by
  obtain⟨j,h2⟩:=gc.1 h;delta LV;split
  .rename_i c;show gc.2 ⟨λx d=>?_,IK O a l h2⟩;rcases cg.1 ((pS a l).mem_iff.1 d) with rfl|d
   .exact O.as _ _ c
   .exact j x d
  .rename_i c;have c:lt b a=ah:=by simpa using c
   show gc.2 ⟨λx d=>?_,h⟩;rcases cg.1 d with rfl|d
   .exact c
   .exact O.tr x b a (j x d) c
theorem l3(O:TO lt):∀l:List α,Z3 lt (lC lt l)
 |[]=>.nil
 |a::l=>IK O a _ (l3 O l)
theorem sN(O:TO lt):∀{l m:List α},l.Perm m->Z3 lt l->Z3 lt m->l=m
 |[],m,p,_,_=>(a2i.1 p).symm
 |a::l,[],p,_,_=>by cases (Ie.1 p)
 |a::l,b::m,p,h,k=>by
  obtain⟨q,h2⟩:=gc.1 h;obtain⟨j,d⟩:=gc.1 k;have e:a=b:=by
   rcases cg.1 (p.mem_iff.1 (de (a:=a) (l:=l))) with e|o
   .exact e
   rcases cg.1 (p.mem_iff.2 (de (a:=b) (l:=m))) with e|n
   .exact e.symm
   show O.one a b (j a o) (q b n)
  subst e;rw[sN O (a32 p) h2 d]
theorem VM(O:TO lt)(p:l.Perm m):lC lt l=lC lt m:=sN O (((eB l).trans p).trans (eB m).symm) (l3 O l) (l3 O m)
noncomputable def sD[DecidableEq α](lt:α->α->Bool):List α->List α->Bool
 |[],[]=>ah
 |[],_::_=>af
 |_::_,[]=>ah
 |a::l,b::m=>if a=b then sD lt l m else lt a b
theorem zW[DecidableEq α](O:TO lt):TO (sD lt) where
 as:=λx=>by
  induction x with
  |nil=>intro y h;cases y with
   |nil=>cases h
   |cons b m=>rfl
  |cons a l ih=>intro y h;cases y with
   |nil=>cases h
   |cons b m =>
    delta sD at h ⊢;by_cases e:a=b
    .rw [Z_ e] at h;rw[Z_ e.symm];show ih m h
    .rw [Zz e] at h;rw[Zz (gb e)];show O.as a b h
 one:=λx=>by
  induction x with
  |nil=>intro y h k;cases y with
   |nil=>rfl
   |cons b m=>cases h
  |cons a l ih=>intro y h k;cases y with
   |nil=>cases k
   |cons b m =>
    delta sD at h k;by_cases e:a=b
    .rw [Z_ e] at h;rw[Z_ e.symm] at k;rw[e,ih m h k]
    .rw [Zz e] at h;rw[Zz (gb e)] at k;show Zw (O.one a b h k) e
 tr:=λx=>by
  induction x with
  |nil=>intro y z h k;cases y with
   |nil=>show k
   |cons b m=>cases h
  |cons a l ih=>intro y z h k;cases y with
   |nil=>cases z with
    |nil=>rfl
    |cons c n=>cases k
   |cons b m=>cases z with
    |nil=>rfl
    |cons c n =>
     delta sD at h k ⊢;by_cases e:a=b
     .subst e;rw[Z_ rfl] at h;by_cases f:a=c
      .rw [Z_ f] at k ⊢;show ih m n h k
      .rw [Zz f] at k ⊢;show k
     .rw [Zz e] at h;by_cases f:b=c
      .subst f;rw[Zz e];show h
      .rw [Zz f] at k;by_cases g:a=c
       .subst g;show Zw (O.one a b h k) e
       .rw [Zz g];show O.tr a b c h k
def iF{a:Type}[DecidableEq α](lt:α->α->Bool)(d:a->a->Bool)(x y:α×a):Bool:=if x.1=y.1 then d x.2 y.2 else lt x.1 y.1
theorem lD{a:Type}[DecidableEq α]{d:a->a->Bool}(O:TO lt)(P:TO d):TO (iF lt d) where
 as:=λx y h=>by
  delta iF at h ⊢;by_cases e:x.1=y.1
  .rw [Z_ e] at h;rw[Z_ e.symm];show P.as _ _ h
  .rw [Zz e] at h;rw[Zz (gb e)];show O.as _ _ h
 one:=λx y h k=>by
  delta iF at h k;by_cases e:x.1=y.1
  .rw [Z_ e] at h;rw[Z_ e.symm] at k;show a1P e (P.one _ _ h k)
  .rw [Zz e] at h;rw[Zz (gb e)] at k;show Zw (O.one _ _ h k) e
 tr:=λx y z h k=>by
  delta iF at h k ⊢;by_cases e:x.1=y.1
  .rw [Z_ e] at h;by_cases f:x.1=z.1
   .rw [Z_ f];rw[Z_ (e.symm.trans f)] at k;show P.tr _ _ _ h k
   .rw [Zz f];rw[Zz (λg=>f (e.trans g))] at k;rw[e];show k
  .rw [Zz e] at h;by_cases f:y.1=z.1
   .rw [Zz (λg=>e (g.trans f.symm)),<- f];show h
   .rw [Zz f] at k;by_cases g:x.1=z.1
    .rw [<- g] at k;show Zw (O.one _ _ h k) e
    .rw [Zz g];show O.tr _ _ _ h k
end
noncomputable def w4{α:Type}(f:D->Option α):List D->Option (List α)
 |[]=>ae []
 |d::ds=>(f d).bind λx=>(w4 f ds).map (x :: ·)
theorem l4{α:Type}{f:D->Option α}{g:α->D}(h:∀d x,f d=ae x->d=g x):∀{ds:List D} {xs:List α},w4 f ds=ae xs->ds=xs.map g
 |[],_,e=>by cases e;rfl
 |d::ds,xs,e=>by delta w4 at e;obtain⟨x,e1,e⟩:=Option.bind_eq_some_iff.1 e;obtain⟨ys,a,rfl⟩:=jf.1 e;rw[bu,h d x e1,l4 h a]
theorem nW{α:Type}{f:D->Option α}{g:α->D}(h:∀x,f (g x)=ae x):∀xs:List α,w4 f (xs.map g)=ae xs
 |[]=>rfl
 |x::xs=>by rw[bu,w4,h,nW h xs];rfl
def zX{α:Type}(f:D->Option α)(g:α->D)(lt:α->α->Bool):List D->Option D
 |[.lst ds]=>(w4 f ds).bind λT=>if ⇑T<=5000 then ae (.lst ((lC lt T).map g)) else ag
 |_=>ag
abbrev FK(a b:Int):Bool:=Zv (a<b)
def lE:TO FK:=⟨λa b h=>by simp at h ⊢;lia,λa b c h k=>by simp at h k ⊢;lia,λa b h k=>by simp at h k;lia⟩
theorem IL:∀a b:Q0e,fE a b=sD FK a b
 |[],[]=>rfl
 |[],_::_=>rfl
 |_::_,[]=>rfl
 |a::l,b::m=>by rw[fE,sD,IL l m]
abbrev VN:=Int×List Int
abbrev VO(x:VN):D:=.tup [.int x.1,.tup (x.2.map D.int)]
def IM:D->Option VN
 |.tup [.int k,.tup a]=>(intsOf a).map λl=>(k,l)
 |_=>ag
abbrev w8:VN->VN->Bool:=iF FK (sD FK)
abbrev FZ:List D->Option D:=zX IM VO w8
theorem zY:TO w8:=lD lE (zW lE)
noncomputable def VP{a:Type}(f:D->Option a):D->Option (Int×a)
 |.tup [.int k,e]=>(f e).map λb=>(k,b)
 |_=>ag
def zZ{a:Type}[DecidableEq a](f:D->Option a)(g:a->D)(lt:a->a->Bool)(items:D->Option (List D))(fr:List Nat)(src key:EF):EF:=λρ=>(src ρ).bind λd=>(items d).bind λds=>(w4 f ds).bind λbs=>(uD key (benv 1 fr ρ) ds).bind λkd=>(w4 (VP f) kd).bind λT =>
 if ⇑T<=5000/\T.map (·.2)=bs then ae (.lst ((lC (iF FK lt) T).map λt=>g t.2)) else ag
def F5:D->Option (List Int)
 |.tup a=>intsOf a
 |_=>ag
abbrev qi(l:Q0e):D:=.tup (l.map D.int)
abbrev z4(fr:List Nat)(src key:EF):EF:=zZ F5 qi (sD FK) OU fr src key
def lF(k:Int)(ns:Q0e):Int:=if ns=[] then k else VI ns
def IP:D->D->Option D
 |.tup ds,.int k=>(intsOf ds).bind λns=>ae (.int (lF k ns))
 |_,_=>ag
def IQ(t:TF)(R:sC)(a:AF)(j:Nat)(ρ:bB):Option (Bool×bB):=match t (bH ρ) with
 |some ah=>ae (ah,ρ)
 |some af=>match stepM R a j ρ with
  |some (q,.bl b,kd)=>ae (b,ρ.set j (.ow (.aY (adr q) kd.1 kd.2)))
  |_=>ag
 |none=>ag
def OW(t:TF)(R:sC)(a:AF)(j:Nat)(f g:SF):SF:=λρ=>match IQ t R a j ρ with
 |some (af,ρ')=>f ρ'
 |some (ah,ρ')=>g ρ'
 |none=>.no
def zj(j:Nat)(e:EF)(q:Nat->ay->Prop):bB->Option (D×KD):=λρ=>(zT ρ[j]?).bind λkd=>(e (fZ ρ)).bind λd=>@ite _ (∀a o,kd.1 a o ->∃o2,q a o2) (qe _) (ae (d,kd.2)) ag
def uE(n a:Nat)(b:SF)(e:EF)(q:Nat->ay->Prop)(ds:List D)(kd:KD):Option (D×KD):=if ⇑ds+1=a then(match b (startM n ds q kd) with
 |.nx ρ=>zj (a-1) e q ρ
 |_=>ag) else ag
def CJ(n a:Nat)(b:SF)(e:EF):sC:=λds kd=>@dite _ (∃r,∀q,uE n a b e q ds kd=ae r) (qe _) (λh=>.ok h.choose) λ_=>.no
def IS{n a:Nat}{b:SF}{e:EF}{ds:List D}{kd:KD}{r:D×KD}(h:CJ n a b e ds kd=.ok r)(q:Nat->ay->Prop):uE n a b e q ds kd=ae r:=by
 delta CJ at h;split at h
 .rename_i hx;cases h;show hx.choose_spec q
 .cases h
theorem VQ{n a:Nat}{b:SF}{e:EF}{ds:List D}{kd:KD}{r:D×KD}(h:∀q,uE n a b e q ds kd=ae r):CJ n a b e ds kd=.ok r:=by have d:∃r,∀q,uE n a b e q ds kd=ae r:=⟨r,h⟩;delta CJ;rw[dif_pos d];have e:=d.choose_spec gX;rw[h gX] at e;rw[dg e]
def LW:List D->D->Bool
 |[],.lst (.int _::ds)=>kX ds
 |.tup _::_,.lst (.int _::ds)=>kX ds
 |_,_=>ah
def CK(R:sC)(t:AF)(a j:Nat)(ρ:bB):Option ((Nat->ay->Prop)×D×KD):=(k7 ρ[a]?).bind λd=>(t ((fZ ρ).set a (ae (.lst d)))).bind λds=>(zT ρ[j]?).bind λkd=>match R ds kd.2 with
 |.ok r=>if LW d r.1=af/\kX r.2.2=af then ae (kd.1,r) else ag
 |_=>ag
def uF(i:Nat)(h:TF)(R:sC)(t:AF)(a j:Nat)(e:EF):SF:=λρ=>match h (bH ρ) with
 |some af=>match CK R t a j ρ with
  |some r=>.nx ((ρ.set j (.ow (.aY (adr r.1) r.2.2.1 r.2.2.2))).set i (.ro r.2.1))
  |none=>.no
 |some ah=>match e (fZ ρ) with
  |some d=>.nx (ρ.set i (.ro d))
  |none=>.no
 |none=>.no
end L4
namespace Ord
structure Rows (rows:Q0a):Prop where
 up:∀(b:Nat) (r:Q0e),rows[b]?=ae r->r.Pairwise (·<·)
 rng:∀(b:Nat) (r:Q0e),rows[b]?=ae r ->∀a∈r,0<=a/\a<(⇑rows:Int)
 tr:∀(b a:Nat) (r v:Q0e),rows[b]?=ae r->(a:Int)∈r->rows[a]?=ae v ->∀c∈v,c∈r
 B9:∀(b:Nat) (r:Q0e),rows[b]?=ae r->(b:Int)∉r
theorem uG{α:Type}:∀(l:List α) (j:Nat) (x:α),l[j]?=ae x->(x::l.eraseIdx j).Perm l
 |[],j,x,h=>by simp at h
 |a::l,0,x,h=>by simp at h;subst h;simp
 |a::l,j+1,x,h=>by have d:=uG l j x ↑h;rw[List.eraseIdx_cons_succ];show(a31 a x _).trans (d.cons a)
def z5{l:Q0e}(p:Int->Bool)(h:l.Nodup):(l.filter p).Nodup:=jl p h
def Under(d:Q0e)(us:Q0a)(t:Nat)(u:Q0e):Prop :=
 u.Nodup /\∀a∈u,∃(s:Nat) (v:Q0e),s<t/\d[s]?=ae a/\us[s]?=ae v /\∀c∈v,c∈u
def Good(a:Q0e)(us:Q0a):Prop:=∀(t:Nat) (u:Q0e),us[t]?=ae u->Under a us t u
def Under.mono(h:Under Ξ us t u)(m:t<=t'):Under Ξ us t' u :=
 ⟨h.1,λa d=>by obtain⟨s,v,n,h2,l,j⟩:=h.2 a d;show⟨s,v,∅,h2,l,j⟩⟩
def uH{d:Q0e}(h:d.Nodup){i j:Nat}{a:Int}(m:d[i]?=ae a)(l:d[j]?=ae a):i=j:=by obtain⟨o,e1⟩:=df.mp m;obtain⟨h2,n⟩:=df.mp l;show(a2q h).mp (e1.trans n.symm)
theorem Under.step{j:Q0e}{us:Q0a}{i:Nat}{u v:Q0e}{x:Int}(hw:j.Nodup)(g:Good j us)(h:Under j us i u)(A:j[i]?=ae x)(F:us[i]?=ae v):
  Under j us (i+1) (u++(v++[x]).filter λa=>!u.contains a):=by
 have o:=g i v F;have mem:∀c,c∈v++[x]->c∈u++(v++[x]).filter λa=>!u.contains a:=λc d=>by
  by_cases I:c∈u
  .exact kq _ I
  .exact ir _ (e_.mpr ⟨d,↑I⟩)
 have J:(v++[x]).Nodup:=by show rh.mpr ⟨o.1,by simp,λa m b l e=>?_⟩;have l:=dh.mp l;subst l;subst e;obtain⟨s,_,n,h2,_⟩:=o.2 a m;have:=uH hw h2 A;lia
 show⟨rh.mpr ⟨h.1,z5 _ J,λa m b l e=>?_⟩,λa m=>?_⟩
 .subst e;have:=(e_.mp l).2;simp at this;show this m
 .rcases ij.mp m with n|n
  .obtain ⟨s,z,K,y,q,p⟩:=h.2 a n;show⟨s,z,∅,y,q,λc d=>kq _ (p c d)⟩
  .rcases ij.mp (e_.mp n).1 with h2|h2
   .obtain ⟨s,z,K,y,q,p⟩:=o.2 a h2;show⟨s,z,∅,y,q,λc d=>mem c (kq _ (p c d))⟩
   .have e:=dh.mp h2;subst e;show⟨i,v,∅,A,F,λc d=>mem c (kq _ d)⟩
def Good.snoc(g:Good Ξ us)(h:Under Ξ us ⇑us u):Good Ξ (us++[u]):=λt z e=>by
 have old:∀{s:Nat} {v:Q0e},us[s]?=ae v->(us++[u])[s]?=ae v:=λ{s v} e=>by rw[jj (df.mp e).1];show e
 have up:∀{t:Nat} {z:Q0e},Under Ξ us t z->Under Ξ (us++[u]) t z:=λ{t z} q=>⟨q.1,λa j=>by obtain⟨s,v,p,o,n,m⟩:=q.2 a j;show⟨s,v,p,o,old n,m⟩⟩;by_cases d:t<⇑us
 .rw [jj d] at e;show up (g t z e)
 .have l:t=⇑us:=by have:=(df.mp e).1;simp at this;lia
  subst l;rw[i_ (bt _),Ht] at e;have e:u=z:=by simpa using e
  subst e;show up h
theorem Good.rows{d:Q0e}{us rows:Q0a}{n:Nat}(g:Good d us)(hu:⇑us=n)(hw:d.Perm ((cx n).map λk:Nat=>(k:Int)))(hr:⇑rows=n)
  (h:∀(b t:Nat) (r u:Q0e),rows[b]?=ae r->d[t]?=ae (b:Int)->us[t]?=ae u->r.Perm u/\r.Pairwise (· <= ·)):Rows rows:=by
 have nd:d.Nodup:=hw.nodup_iff.mpr (by
  show xa _ (λa b y=>?_) a2h;intro e;show y ∅)
 have find:∀(b:Nat),b<n ->∃t u,d[t]?=ae (b:Int)/\us[t]?=ae u:=λb o=>by
  have x:(b:Int)∈d:=hw.mem_iff.mpr (gf.mpr ⟨b,mi.mpr o,rfl⟩);obtain⟨t,F⟩:=Bk.mp x;have hl:⇑d=n:=by rw[hw.length_eq,bb,jh]
  have:=(df.mp F).1;show⟨t,us[t]'∅,F,cn ∅⟩
 have row:∀(b:Nat) (r:Q0e),rows[b]?=ae r ->∃t u,d[t]?=ae (b:Int)/\us[t]?=ae u/\r.Perm u/\r.Pairwise (· <= ·):=λb r e=>by have o:=(df.mp e).1;obtain⟨t,u,l,h2⟩:=find b ∅;show⟨t,u,l,h2,h b t r u e l h2⟩
 show⟨λb r e=>?_,λb r e a A=>?_,λb a r v e A ev c X=>?_,λb r e o=>?_⟩
 .obtain ⟨t,u,l,h2,j,p⟩:=row b r e;have J:r.Nodup:=j.nodup_iff.mpr (g t u h2).1;show(List.pairwise_and_iff.mpr ⟨p,J⟩).imp λq=>by have:=q.1;have:=q.2;lia
 .obtain ⟨t,u,l,h2,j,p⟩:=row b r e;obtain⟨s,z,_,m,_⟩:=(g t u h2).2 a (j.mem_iff.mp A);have x:=hw.mem_iff.mp (ko m);obtain⟨k,U,rfl⟩:=gf.mp x;have:=mi.mp U;lia
 .obtain ⟨t,u,l,h2,j,p⟩:=row b r e;obtain⟨t2,u2,O,L,K,k4⟩:=row a v ev;obtain⟨s,z,_,m,I,Z⟩:=(g t u h2).2 _ (j.mem_iff.mp A);have Y:=uH nd m O;subst Y;rw[L] at I;cases I;show j.mem_iff.mpr (Z c (K.mem_iff.mp X))
 .obtain ⟨t,u,l,h2,j,p⟩:=row b r e;obtain⟨s,z,a1,m,_⟩:=(g t u h2).2 _ (j.mem_iff.mp o);have:=uH nd m l;lia
noncomputable def tri:Nat->Nat
 |0=>0
 |j+1=>tri j+j
theorem OX(h:i<=j):tri i<=tri j:=by
 induction h with
 |refl=>show bt _
 |step _ ih=>show iq ih (uo _ _)
def aAi(a:j<n)(d:i<j):tri j+i<tri n:=by have:=OX (show j+1<=n by lia);show tri j+i<tri n;have e:tri (j+1)=tri j+j:=rfl;lia
theorem f7:∀(l m:Q0e),l.Nodup->(∀a∈l,a∈m)->⇑l<=⇑m
 |[],m,_,_=>gw _
 |a::l,m,h,hs=>by
  obtain⟨o,h2⟩:=ke.mp h;have j:=hs a de;have n:=f7 l (m.erase a) h2 λb d=>by have:b≠a:=λe=>o (e▸d);show(List.mem_erase_of_ne this).mpr (hs b (fg _ d))
  rw[a2o j] at n;have:0<⇑m:=a2n j;rw[fj];lia
end Ord
namespace LL
open L3 L4
def iG:kN:=c7 2 2
  (aL (iX (tV (aC rD (cM cB (bM 0)) (eI 0)))
   (b8 (eI 0))
   eG)
  (b8 (aC gT b9 (aC j3 dC (cM cB (bM 0))))))
def hJ:kN:=c7 5 3
  (aL (bF 3 (aC j3 (aC mulM (aC dF (aC dF (aC dF b9 (aC mulM (aC mulM (eI 11) dC) dC)) (aC mulM (eI 17) dC)) fO) (eI 48271)) (eI 2147483647)))
  (aL (bF 4 (aC j3 (aC dF (aC dF (aC mulM xU (aC dF (aC sA xU (eI 4096)) (eI 5))) (aC mulM (eI 29) dC)) fO) (eI 2147483629)))
  (b8 (aC j3 (aC mulM kO (eI 39373)) (eI 1000000007)))))
def f9:kN:=c7 6 3
  (aL (jK 3 (fB aH))
  (aL (bF 4 (eI 0))
  (aL (iX (tV (aC geM b9 (aC zq (eI 10) (eI 18))))
   (bF 4 b9)
   eG)
  (aL (fC (bZ (bM 1)) (t9 5)
   (iX (tV (aC FJ kO (eI 0)))
    (aL (sX (mP 3 gW (aZ (aC j3 kO (eI 64)))))
    (bF 4 (aC sA kO (eI 64))))
    (sX (mP 3 gW (aZ (aO LL.hJ (aA b9 (aA mO (bM 2)))))))))
  (b8 xU)))))
def d7:Nat->kN
 |0=>λ_=>.no
 |n+1=>c7 2 2
  (aL (iX (tV (iW "tuple" dC))
   (aL (iX (OL (nN (tV (iW "tuple" b9))) (tV (aC neM (cM cB (bM 0)) (cM cB (bM 1)))))
    (b8 (eC (.bl ah)))
    eG)
   (b8 (cM allM (aA (bO 1 [0,1] (bZ (aA (cM cB (bM 1)) aH)) (g1 0) bV (aO (d7 n) (aA (aC gT dC b9) (aA (aC gT fO b9) aH)))) aH))))
   eG)
  (aL (iX (tV (aC VE dC (eC .non)))
   (b8 (aC VE b9 (eC .non)))
   eG)
  (aL (iX (tV (iW "bool" dC))
   (b8 (k5 (iW "bool" b9) (aC rD b9 dC)))
   eG)
  (aL (iX (tV (iW "int" dC))
   (b8 (k5 (iW "int" b9) (k5 (tQ (iW "bool" b9)) (aC rD b9 dC))))
   eG)
  (b8 (k5 (iW "str" b9) (aC rD b9 dC)))))))
def l6:kN:=c7 11 3
  (aL (jK 3 (FV (bM 1)))
  (aL (jK 4 (fB aH))
  (aL (fC (bZ (bM 1)) (t9 5)
   (sX (mP 4 gW (mP 3 VG (OO (aC j3 (aC gT b9 mO) (cM cB (bM 3))))))))
  (aL (CH 6)
  (aL (bF 7 dC)
  (aL (fC (bZ (bM 1)) (t9 8)
   (aL (bF 9 (fB aH))
   (aL (fC (bZ (bM 8)) (t9 10)
    (aL (iX (tV (aC ltM (aC j3 (aC gT b9 qj) (eI 4)) fO))
     (t7 9 (aC LN xn (bO 1 [9] (bP (aC dF (aC tZ OE (aC gT kO CB)) (fB (aA (aC gT kO CB) aH)))) (g1 0) (tV (aC (tX af) b9 dC)) b9)))
     eG)
    (bF 7 (aC dF qj (eI 1)))))
   (IF 6 (aZ xn) (aC gT kO Kx)))))
  (b8 (cM dO (aA (bO 1 [6] (bZ (bM 1)) (g1 0) bV (cM dO (aA (cM i5 (aA (aC tZ dC b9) aH)) aH))) aH)))))))))
def l7:kN:=c7 7 4
  (aL (bF 4 (aO LL.f9 (aA (aO LL.iG (aA b9 (bM 1))) (aA (eI 4) (bM 3)))))
  (aL (bF 5 (aC j3 (aC gT kO (eI 0)) (aC dF fO (eI 1))))
  (aL (bF 6 (aO LL.f9 (aA (aO LL.iG (aA b9 (aA (aC dF dC (eI 1)) aH))) (aA (aC dF mO (aC sA (aC mulM mO (aC nO mO (eI 1))) (eI 2))) (aA (aC dF xU (eI 10007)) aH)))))
  (b8 (aO LL.l6 (aA OE (aA mO (aA (aC gT (fB (aA (eI 1) (aA (eI 1) (aA (eI 2) (aA (eI 2) (aA (eI 3) (aA (eI 1) (aA (eI 0) (aA (eI 4) aH))))))))) (aC j3 (aC gT kO (eI 1)) (eI 8))) aH))))))))
def τ(xs:Q0e):D:=.tup (xs.map D.int)
def aB(xs:Q0e):D:=.lst (xs.map D.int)
def aF(rows:Q0a):D:=.tup (rows.map τ)
def iH:dF (.int i) (.int j)=ae (.int (i+j)):=rfl
def nX:nO (.int i) (.int j)=ae (.int (i-j)):=rfl
def d8(h:0<j):j3 (.int i) (.int j)=ae (.int (i%j)):=by simp[j3,iY,h]
def lG(h:0<j)(h2:j<1073741824):sA (.int i) (.int j)=ae (.int (i/j)):=by simp[sA,iY,h,show j.natAbs<1073741824 by lia]
def sO:ltM (.int i) (.int j)=ae (.bl (Zv (i<j))):=rfl
def sP:leM (.int i) (.int j)=ae (.bl (Zv (i<=j))):=rfl
def nY:FJ (.int i) (.int j)=ae (.bl (Zv (j<i))):=rfl
def z6:geM (.int i) (.int j)=ae (.bl (Zv (j<=i))):=rfl
def gF:rD (.int i) (.int j)=ae (.bl (Zv (i=j))):=rfl
def nZ:neM (.int i) (.int j)=ae (.bl (!Zv (i=j))):=rfl
def pT:rD (.bl i) (.bl j)=ae (.bl (Zv (i=j))):=rfl
def l8:rD (.str i) (.str j)=ae (.bl (Zv (i=j))):=rfl
def z7:VE d .non=ae (.bl (tW d)):=rfl
def l9:gT (.lst a) (.int i)=wV a i:=rfl
def n0:gT (.tup a) (.int i)=wV a i:=rfl
def z8:gT (.lZ a) (.int i)=(wV a i).map D.int:=rfl
def jL:cB [.lst a]=ae (.int ⇑a):=rfl
def d9:cB [.tup a]=ae (.int ⇑a):=rfl
def uI:cB [.lZ a]=ae (.int ⇑a):=rfl
def iI:dO [.lst a]=ae (.tup a):=rfl
def mX:dO [.tup a]=ae (.tup a):=rfl
def pU:ZZ [.lst a]=ae (.lst a):=rfl
def pV:ZZ [.tup a]=ae (.lst a):=rfl
def pW:CF (.lst a)=ae a:=rfl
def pX:CF (.tup a)=ae a:=rfl
def jM:kZ (.bl b)=ae b:=rfl
def mY:kZ (.lst b)=ae (!b.isEmpty):=rfl
def mZ:kZ (.tup b)=ae (!b.isEmpty):=rfl
def n5:rC (.bl b)=ae b:=rfl
def sQ(h:⇑ds<16777216):gW ds d=ae (ds++[d],.non):=Z_ h
def VR(h:⇑ds+⇑es<=16777216):LQ ds (.lst es)=ae (ds++es,.non):=Z_ h
def pZ:ID [.tup ds]=ae (ds.zipIdx.map λp=>.tup [.int (p.2:Int),p.1]):=rfl
def p6:ID [.lst ds]=ae (ds.zipIdx.map λp=>.tup [.int (p.2:Int),p.1]):=rfl
def uJ:zo [.tup ds]=ae ds.reverse:=rfl
def uK:zo [.lst ds]=ae ds.reverse:=rfl
def VS(h:t ρ=ae ds)(a:⇑ds<=16777216):gQ t ρ=ae (.tup ds):=by delta gQ;rw[h];show Z_ a
def fF(a:⇑ds=np)(h:b (eD n ds)=.rt d):c7 n np b ds=.ok d:=by delta c7;rw[Z_ a,h]
def bN(a:bB)(d:f ρ=.nx a)(h2:g a=o):aL f g ρ=o:=by delta aL;rw[d];show h2
def z9(a:f ρ=.rt d):aL f g ρ=.rt d:=by delta aL;rw[a]
def fP(h:f (bH ρ)=ae d):b8 f ρ=.rt d:=by delta b8;rw[h]
def fQ(d:D)(h:f (fZ ρ)=ae d)(a:ρ.set i (.ro d)=ρ'):bF i f ρ=.nx ρ':=by delta bF;rw[h,<- a]
def LX(h:t (bH ρ)=ae af)(h2:a ρ=o):iX t a b ρ=o:=by delta iX;rw[h];show h2
def p7(h:t (bH ρ)=ae ah)(h2:b ρ=o):iX t a b ρ=o:=by delta iX;rw[h];show h2
def VT(ds:List D)(h:it (fZ ρ)=ae ds)(h2:gU g b ds ρ=o):fC it g b ρ=o:=by delta fC;rw[h];show h2
def eT(ds:List D)(h:it ρ=ae ds)(a:⇑ds<=16777216)(h2:iD g t e (benv nl fr ρ) ds=ae ys):bO nl fr it g t e ρ=ae (.lst ys):=by delta bO;rw[h];show(if ⇑ds<=jJ then _ else _)=_;rw[Z_ (show ⇑ds<=jJ from a),h2];rfl
def uL(h:⇑a+⇑b<=16777216):dF (.lst a) (.lst b)=ae (.lst (a++b)):=Z_ h
def CL(h:⇑a+⇑b<=16777216):dF (.tup a) (.tup b)=ae (.tup (a++b)):=Z_ h
def OY(h:⇑a+⇑b<=16777216):LN (.lst a) (.lst b)=ae (.lst (a++b)):=Z_ h
def p8(h:i.natAbs<18446744073709551616):mulM (.int i) (.int j)=ae (.int (i*j)):=by simp[mulM,iY,tS,h]
def AA(h:j.natAbs<18446744073709551616):mulM (.int i) (.int j)=ae (.int (i*j)):=by simp[mulM,iY,tS,h]
def CM(h:j.natAbs<4611686018427387904):FW [.int j]=ae ((aS 0 j.toNat).map D.int):=Z_ h
def n6{n:Nat}(h:n<4611686018427387904):FW [.int (n:Int)]=ae ((aS 0 n).map D.int):=by rw[CM ∅];rfl
theorem b7:∀ns:Q0e,intsOf (ns.map D.int)=ae ns
 |[]=>rfl
 |n::ns=>by simp[intsOf,b7 ns]
def n8{neg:Bool}{i:Int}{ns:Q0e}:tX neg (.int i) (.tup (ns.map D.int))=ae (.bl (if neg then !ns.contains i else ns.contains i)):=by simp[tX,b7]
def AB{neg:Bool}{i:Int}{ns:Q0e}:tX neg (.int i) (.lst (ns.map D.int))=ae (.bl (if neg then !ns.contains i else ns.contains i)):=by simp[tX,b7]
def sorted_ints(h:⇑ns<64):i5 [.lst (ns.map D.int)]=ae (.lst ((sortI ns).map D.int)):=by simp[i5,b7,h]
def sum_ints{ns:Q0e}:FR [.lst (ns.map D.int)]=ae (.int ns.sum):=by simp[FR,b7]
theorem qA:∀bs:List Bool,mT (bs.map D.bl)=ae bs
 |[]=>rfl
 |b::bs=>by simp[mT,kZ,qA bs]
def n9{bs:List Bool}:allM [.lst (bs.map D.bl)]=ae (.bl (bs.all id)):=by simp[allM,qA]
def VU{bs:List Bool}:anyM [.lst (bs.map D.bl)]=ae (.bl (bs.any id)):=by simp[anyM,qA]
def uM{n:Nat}{i:Int}(d:0<=i)(a:i<n):OM n i=ae i.toNat:=by delta OM;rw[Z_ d,Z_ a]
def VV(h:k<n):OM n (k:Int)=ae k:=by rw[uM ∅ ∅];rfl
def VW{α:Type}{xs:List α}{k:Nat}(h:k<⇑xs):wV xs (k:Int)=xs[k]?:=by delta wV;rw[VV h];rfl
def AD{α:Type}{xs:List α}{i:Int}(h:0<=i)(d:i<⇑xs):∃x∈xs,wV xs i=ae x/\xs[i.toNat]?=ae x:=by
 have a:i.toNat<⇑xs:=∅
 show⟨xs[i.toNat],wx a,?_,by simp[a]⟩;delta wV;rw[uM h d];simp[a]
theorem sR{α a:Type}(f:α->a)(xs:List α)(i:Int):wV (xs.map f) i=(wV xs i).map f:=by
 delta wV;rw[bb]
 cases OM ⇑xs i with
 |none=>rfl
 |some j=>simp
def oA{α:Type}{xs:List α}{k:Nat}{x:α}(h:xs[k]?=ae x):wV xs (k:Int)=ae x:=by rw[VW (df.mp h).1,h]
def aN(lo:Int)(n:Nat):⇑(aS lo n)=n:=by simp[aS]
def gI(h:i<n):(aS lo n)[i]?=ae (lo+(i:Int)):=by simp[aS,h]
def x5(lo:Int)(n:Nat):aS lo (n+1)=aS lo n++[lo+(n:Int)]:=by simp[aS,Ic]
def aX:x∈aS lo n↔lo<=x/\x<lo+n:=by
 delta aS;rw[gf];erw[mi]
 constructor
 .rintro ⟨k,a,rfl⟩;lia
 .rintro ⟨d,h2⟩;show⟨(x-lo).toNat,∅,∅⟩
theorem CN(P:Nat->bB->Prop)(ds:List D)(y:P 0 ρ)(step:∀(i:Nat) (d:D) (ρ:bB),ds[i]?=ae d->P i ρ ->∃ρ1 j,g d ρ=ae ρ1/\b ρ1=.nx j/\P (i+1) j):
  ∃a,gU g b ds ρ=.nx a/\P ⇑ds a:=by
 suffices H:∀(l:List D) (k:Nat) (ρ:bB),ds.drop k=l->k<=⇑ds->P k ρ ->∃a,gU g b l ρ=.nx a/\P ⇑ds a from H ds 0 ρ (by simp) (gw _) y
 intro l
 induction l with
 |nil =>
  intro k ρ m q p;have:⇑ds<=k:=by simpa using m
  show⟨ρ,rfl,by rwa [show ⇑ds=k by lia]⟩
 |cons d l ih =>
  intro k ρ m q p;have n:k<⇑ds:=by apply oj;intro h;rw[vb ∅] at m;cases m
  have v:ds[k]?=ae d:=by have:=congrArg (λx=>x[0]?) m;simpa using this
  obtain⟨ρ1,j,e1,A,p2⟩:=step k d ρ v p;have o:ds.drop (k+1)=l:=by rw[mn n] at m;show(a30 m).2
  obtain⟨a,z,p3⟩:=ih (k+1) j o n p2;show⟨a,by erw[gU,e1,A,z],p3⟩
theorem OZ(P:Nat->bB->Prop)(lo:Int)(n:Nat)(o:P 0 ρ)(step:∀(i:Nat) (ρ:bB),i<n->P i ρ ->∃ρ1 a,g (.int (lo+(i:Int))) ρ=ae ρ1/\b ρ1=.nx a/\P (i+1) a):
  ∃h,gU g b ((aS lo n).map D.int) ρ=.nx h/\P n h:=by
 have:=CN (g:=g) (b:=b) P ((aS lo n).map D.int) o λi d ρ j m=>by
  have l:i<n:=by have:=(df.mp j).1;simpa[aN] using this
  rw[c_,gI l] at j;cases j;show step i ρ l m
 simpa[aN] using this
theorem x6{α:Type}(mk:α->D)(f:α->D)(l:List α)(h:∀a∈l,(g (mk a) ρ).bind e=ae (f a)):iD g bV e ρ (l.map mk)=ae (l.map f):=by
 induction l with
 |nil=>rfl
 |cons a l ih =>
  have d:=h a (by simp);have h2:=ih λx m=>h x (by simp[m])
  cases hg:g (mk a) ρ with
  |none=>rw[hg] at d;cases d
  |some ρ1 =>
   rw[hg] at d;have j:e ρ1=ae (f a):=d;erw[bu,iD,hg,eg,bV,if_true,j,h2,ug]
def cC{α:Type}(mk:α->D)(f:α->D)(l:List α)(h:∀a∈l,∃ρ1,g (mk a) ρ=ae ρ1/\e ρ1=ae (f a)):iD g bV e ρ (l.map mk)=ae (l.map f) :=
 x6 mk f l λa d=>by obtain⟨ρ1,j,h2⟩:=h a d;rw[j];show h2
theorem fJ{α:Type}(mk:α->D)(p:α->Bool)(f:α->D)(l:List α)(h:∀a∈l,∃ρ1,g (mk a) ρ=ae ρ1/\t ρ1=ae (p a)/\(p a=af->e ρ1=ae (f a))):
  iD g t e ρ (l.map mk)=ae ((l.filter p).map f):=by
 induction l with
 |nil=>rfl
 |cons a l d =>
  obtain⟨ρ1,j,h2,n⟩:=h a (by simp);have d:=d λx m=>h x (by simp[m])
  cases hp:p a with
  |false=>simp[iD,j,h2,hp,d]
  |true=>simp[iD,j,h2,hp,n hp,d]
theorem O0{α j:Type}(mk:α->D)(out:j->D)(R:α->j->Prop)(l:List α)(h:∀a∈l,∃ρ1 b,g (mk a) ρ=ae ρ1/\e ρ1=ae (out b)/\R a b):
  ∃bs:List j,⇑bs=⇑l/\(∀(i:Nat) (a:α) (b:j),l[i]?=ae a->bs[i]?=ae b->R a b)/\iD g bV e ρ (l.map mk)=ae (bs.map out):=by
 induction l with
 |nil=>show⟨[],rfl,λi a b h=>by simp at h,rfl⟩
 |cons a l ih =>
  obtain⟨ρ1,b,v,h2,q⟩:=h a (by simp);obtain⟨bs,o,n,p⟩:=ih λx d=>h x (by simp[d]);show⟨b::bs,by simp[o],λi x y d m=>?_,by simp[iD,v,h2,p,bV]⟩
  cases i with
  |zero=>simp at d m;subst d m;show q
  |succ i=>show n i x y ↑d ↑m
def Rt(o:Out)(Q:D->Prop):Prop:=∃d,o=.rt d/\Q d
def Nx(o:Out)(Q:bB->Prop):Prop:=∃ρ,o=.nx ρ/\Q ρ
def lH(M:bB->Prop)(d:Nx (f ρ) M)(h2:∀a,M a->Rt (g a) Q):Rt (aL f g ρ) Q:=by obtain⟨a,e,m⟩:=d;delta aL;rw[e];show h2 a m
def uN(M:bB->Prop)(d:Nx (f ρ) M)(h2:∀a,M a->Nx (g a) Q):Nx (aL f g ρ) Q:=by obtain⟨a,e,m⟩:=d;delta aL;rw[e];show h2 a m
def cD(a:bB)(d:f ρ=.nx a)(h2:Rt (g a) Q):Rt (aL f g ρ) Q:=by delta aL;rw[d];show h2
def gG(a:bB)(d:f ρ=.nx a)(h2:Nx (g a) Q):Nx (aL f g ρ) Q:=by delta aL;rw[d];show h2
def VX(a:Rt (f ρ) Q):Rt (aL f g ρ) Q:=by obtain⟨d,e,m⟩:=a;delta aL;rw[e];show⟨d,rfl,m⟩
def Yv(c:Bool)(h:t (bH ρ)=ae c)(d:c=af->Rt (a ρ) Q)(h2:c=ah->Rt (b ρ) Q):Rt (iX t a b ρ) Q:=by delta iX;rw[h];cases c;show h2 rfl;show d rfl
def CO(c:Bool)(h:t (bH ρ)=ae c)(d:c=af->Nx (a ρ) Q)(h2:c=ah->Nx (b ρ) Q):Nx (iX t a b ρ) Q:=by delta iX;rw[h];cases c;show h2 rfl;show d rfl
def j5(d:D)(h:f (bH ρ)=ae d)(q:Q d):Rt (b8 f ρ) Q:=⟨d,fP h,q⟩
def qB(d:D)(h:f (fZ ρ)=ae d)(q:Q (ρ.set i (.ro d))):Nx (bF i f ρ) Q:=⟨_,fQ d h rfl,q⟩
def uO(q:Q ρ):Nx (eG ρ) Q:=⟨ρ,rfl,q⟩
theorem m4(ds:List D)(P:Nat->bB->Prop)(h:it (fZ ρ)=ae ds)(n:P 0 ρ)(step:∀(i:Nat) (d:D) (ρ:bB),ds[i]?=ae d->P i ρ ->∃ρ1,g d ρ=ae ρ1/\Nx (b ρ1) (P (i+1)))
  (fin:∀a,P ⇑ds a->Q a):Nx (fC it g b ρ) Q:=by
 obtain⟨a,e,p⟩:=CN (g:=g) (b:=b) P ds n λi d ρ m l=>by obtain⟨ρ1,e1,j,o,p2⟩:=step i d ρ m l;show⟨ρ1,j,e1,o,p2⟩
 show⟨a,VT ds h e,fin a p⟩
theorem qC{t:AF}{g:GSF}{b:SF}{ρ:bB}{Q:bB->Prop}(n:Nat)(P:Nat->bB->Prop)(h:t (fZ ρ)=ae [.int (n:Int)])(o:n<4611686018427387904)(v:P 0 ρ)(step:∀(i:Nat) (ρ:bB),i<n->P i ρ ->∃ρ1,g (.int (i:Int)) ρ=ae ρ1/\Nx (b ρ1) (P (i+1)))
  (fin:∀a,P n a->Q a):Nx (fC (bZ t) g b ρ) Q:=by
 show m4 ((aS 0 n).map D.int) P (by delta bZ;rw[h,eg,n6 o]) v (λi d ρ j m=>?_) (λa p=>fin a (by simpa[aN] using p));have l:i<n:=by have:=(df.mp j).1;simpa[aN] using this
 rw[c_,gI l] at j;have j:D.int (0+(i:Int))=d:=by simpa using j
 subst j;obtain⟨ρ1,e,q⟩:=step i ρ l m;show⟨ρ1,by rw[iu];show e,q⟩
def uP(a:⇑ds=np)(h:Rt (b (eD n ds)) Q):∃d,c7 n np b ds=.ok d/\Q d:=by obtain⟨d,e,q⟩:=h;show⟨d,fF a e,q⟩
theorem x8:∀(l:Q0e) (j:Nat),(l.map D.int).eraseIdx j=(l.eraseIdx j).map D.int
 |[],j=>by simp
 |a::l,0=>by simp
 |a::l,j+1=>by simp[x8 l j]
def dD(j:a ρ=ae x)(d:b ρ=ae y)(h:g x y=z):aC g a b ρ=z:=by delta aC;rw[j,d];show h
def binI{g:D->D->Option D}{d a:EF}{ρ:cN}{x y:Int}{z:Option D}(j:d ρ=ae (.int x))(h2:a ρ=ae (.int y))(h:g (.int x) (.int y)=z):aC g d a ρ=z:=dD j h2 h
def c8(d:a ρ=ae x)(h:g [x]=z):cM g (aA a aH) ρ=z:=by delta cM aA aH;rw[d];show h
def Tu(j:a ρ=ae x)(d:b ρ=ae y)(h:g [x,y]=z):cM g (aA a (aA b aH)) ρ=z:=by delta cM aA aH;rw[j,d];show h
def fG(j:a ρ=ae x)(h:f [x]=.ok d):aO f (aA a aH) ρ=ae d:=by delta aO;(try delta bM);delta aA aH;rw[j];show CC (f [x])=_;rw[h];rfl
def dQ(l:a ρ=ae x)(j:b ρ=ae y)(h:f [x,y]=.ok d):aO f (aA a (aA b aH)) ρ=ae d:=by delta aO;(try delta bM);delta aA aH;rw[l,j];show CC (f [x,y])=_;rw[h];rfl
def qD(m:a ρ=ae x)(l:b ρ=ae y)(j:c ρ=ae z)(h:f [x,y,z]=.ok d):aO f (aA a (aA b (aA c aH))) ρ=ae d:=by delta aO;(try delta bM);delta aA aH;rw[m,l,j];show CC (f [x,y,z])=_;rw[h];rfl
def aAj(n:a ρ=ae x)(m:b ρ=ae y)(l:c ρ=ae z)(j:e ρ=ae w)(h:f [x,y,z,w]=.ok d):aO f (aA a (aA b (aA c (aA e aH)))) ρ=ae d:=by delta aO;(try delta bM);delta aA aH;rw[n,m,l,j];show CC (f [x,y,z,w])=_;rw[h];rfl
def args1(d:a ρ=ae x):aA a aH ρ=ae [x]:=by delta aA aH;rw[d];rfl
def args2(h:a ρ=ae x)(d:b ρ=ae y):aA a (aA b aH) ρ=ae [x,y]:=by delta aA aH;rw[h,d];rfl
def CP{a:EF}{ρ:cN}{n:Nat}(h:a ρ=ae (.int (n:Int)))(d:n<4611686018427387904):bZ (aA a aH) ρ=ae ((aS 0 n).map D.int):=by delta bZ;rw[args1 h,eg,n6 d]
def sS(h:f ρ=ae d)(a:kZ d=ae b):tV f ρ=ae b:=by delta tV;rw[h];show a
def tnE(h:t ρ=ae b)(a:(!b)=c):nN t ρ=ae c:=by delta nN;rw[h,<- a];rfl
def Ee(h:t ρ=ae b)(h2:b=ah->u ρ=ae c)(a:b=af->c=af):OL t u ρ=ae c:=by
 delta OL;rw[h];cases b
 .exact h2 rfl
 .rw [a rfl];rfl
def VY{l:Q0e}{i:Int}{y:Int}(h:0<=i)(d:i<⇑l)(h2:⇑l<=16777216)(a:l[i.toNat]?=ae y):VG (l.map D.int) (.int i)=ae ((l.eraseIdx i.toNat).map D.int,.int y):=by show(if i.natAbs<9223372036854775808 then _ else _)=_;rw[Z_ ∅,bb,uM h d,eg,c_,a,x8];rfl
def i6{ws:Q0e}{j:Nat}{x:Int}(h:ws[j]?=ae x):wV (ws.map D.int) (j:Int)=ae (.int x):=by rw[sR,oA h];rfl
def O1{α:Type}{l:List α}{i j:Nat}{x:α}(h:l[i]?=ae x)(a:i<j):(l.take j)[i]?=ae x:=by rw[Iq a];show h
theorem qE:∀ns:Q0e,kX (ns.map D.int)=af
 |[]=>rfl
 |n::ns=>by rw[bu,kX,qE ns];rfl
def m5:iZ (q::ks) (d::ds) k=if q=k then ae d else iZ ks ds k:=by
 by_cases e:q=k
 .simp [iZ,e]
 .simp [iZ,e]
theorem qF:∀{d:Q0e} {us:Q0a} {i:Nat} {x:Int} {v:Q0e},d.Nodup->d[i]?=ae x->us[i]?=ae v->iZ (d.map dm) (us.map aB) (dm x)=ae (aB v)
 |[],us,i,x,v,_,h,_=>by simp at h
 |w::ws,[],i,x,v,_,_,h=>by simp at h
 |w::ws,u::us,0,x,v,_,h1,h2=>by simp at h1 h2;subst h1 h2;rw[bu,bu,m5,Z_ rfl]
 |w::ws,u::us,i+1,x,v,hn,h1,h2=>by
  obtain⟨m,l⟩:=ke.mp hn;have a:ws[i]?=ae x:=by simpa using h1
  have j:(dm w:Sum Int ak)≠dm x:=λe=>m (by cases e;show ko a);rw[bu,bu,m5,Zz j];show qF l a ↑h2
theorem x9:∀{a:Q0e} {us:Q0a} {x:Int},x∉a->iZ (a.map dm) (us.map aB) (dm x)=ag
 |[],us,x,_=>by simp[iZ]
 |w::ws,[],x,_=>by simp[iZ]
 |w::ws,u::us,x,h=>by have d:(dm w:Sum Int ak)≠dm x:=λe=>h (by cases e;show de);rw[bu,bu,m5,Zz d];show x9 λz=>h (fg _ z)
theorem insI_perm(a:Int):∀l:Q0e,(insI a l).Perm (a::l)
 |[]=>.refl _
 |b::l=>by
  delta insI;split
  .exact .refl _
  .exact ((insI_perm a l).cons b).trans (.swap a b l)
theorem sortI_perm:∀l:Q0e,(sortI l).Perm l
 |[]=>.refl _
 |a::l=>(insI_perm a (sortI l)).trans ((sortI_perm l).cons a)
theorem rG(a:Int):∀l:Q0e,l.Pairwise (· <= ·)->(insI a l).Pairwise (· <= ·)
 |[],_=>by simp[insI]
 |b::l,h=>by
  delta insI;split
  .rename_i hab;show gc.mpr ⟨λc d=>?_,h⟩;rcases cg.mp d with e|e
   .subst e;show hab
   .exact Bt hab ((gc.mp h).1 c e)
  .rename_i hab;show gc.mpr ⟨λc d=>?_,rG a l (gc.mp h).2⟩;rcases cg.mp ((insI_perm a l).mem_iff.mp d) with e|e
   .subst e;lia
   .exact (gc.mp h).1 c e
theorem gY:∀l:Q0e,(sortI l).Pairwise (· <= ·)
 |[]=>Bq
 |a::l=>rG a _ (gY l)
theorem yA:∀{l m:Q0e},l.Perm m->l.Pairwise (· <= ·)->m.Pairwise (· <= ·)->l=m
 |[],m,p,_,_=>by rw[p.nil_eq]
 |a::l,[],p,_,_=>by have:=p.length_eq;simp at this
 |a::l,b::m,p,h1,h2=>by
  have e:a=b:=by
   have m1:=p.mem_iff.mp (de (a:=a) (l:=l));have h:=p.mem_iff.mpr (de (a:=b) (l:=m));rcases cg.mp m1 with e|e
   .exact e
   .rcases cg.mp h with d|d
    .exact d.symm
    .have:=(gc.mp h2).1 a e;have:=(gc.mp h1).1 b d;lia
  subst e;rw[yA p.cons_inv (gc.mp h1).2 (gc.mp h2).2]
def CQ(p:m.Perm l)(h:m.Pairwise (· <= ·)):sortI l=m:=yA ((sortI_perm l).trans p.symm) (gY l) h
local macro_rules | `(tactic| walk_at "ev") => `(tactic| simp only[eD,jK,sX,bE,eC,aC,tV,aH,aA,cM,aO,CC,bZ,aZ,mP,k7,bH,fZ,Sv.all,Sv.rd,bu,m_,wz,jy,Bf,eg,ug,Hz,H_,fj,nc,bb,Bm,uv,gx,Ib,Nat.reduceSub,Nat.reduceAdd,jM,iH,nX,sO,nY,z6,gF,l9,z8,jL,uI,if_true,AB])
def sV(ns:Q0e)(k:Int):∃c,iG [.lZ ns,.int k]=.ok (.int c):=by
 delta iG;by_cases h:(⇑ns:Int)=0
 .exact ⟨0,fF rfl (z9 (LX (by walk_at "ev";rw[Zx h]) rfl))⟩
 .obtain ⟨x,_,e,_⟩:=AD (xs:=ns) (i:=k%(⇑ns:Int)) (qd _ ∅) (vd _ ∅);show⟨x,fF rfl (bN _ (p7 (by walk_at "ev";rw[Zy h]) rfl) (fP ?_))⟩
  walk_at "ev"
  rw[d8 ∅]
  walk_at "ev"
  rw[e];rfl
def O5(c k s:Int):Int:=(c+11*k*k+17*k+s)*48271%2147483647
def Ed(c k s:Int):Int:=(O5 c k s*(O5 c k s/4096+5)+29*k+s)%2147483629
def O6(c k s:Int)(l:0<=k)(h:k<1000000):∃r,0<=r/\hJ [.int c,.int k,.int s]=.ok (.int r):=by
 delta hJ;have d:0<=O5 c k s:=qd ((c+11*k*k+17*k+s)*48271) (b:=2147483647) ⋯;have a:O5 c k s<2147483647:=vd ((c+11*k*k+17*k+s)*48271) (b:=2147483647) ⋯;show⟨Ed c k s*39373%1000000007,qd _ (b:=1000000007) ⋯,fF rfl (bN _ (fQ (.int (O5 c k s)) ?_ rfl) (bN _ (fQ (.int (Ed c k s)) ?_ rfl) (fP ?_)))⟩
 .walk_at "ev"
  rw[p8 ⋯]
  walk_at "ev"
  rw[AA ∅,p8 (i:=17) ⋯]
  walk_at "ev"
  rw[AA (j:=48271) ⋯]
  walk_at "ev"
  rw[d8 ⋯];rfl
 .walk_at "ev"
  rw[lG ⋯ ⋯]
  walk_at "ev"
  rw[p8 ∅,p8 (i:=29) ⋯]
  walk_at "ev"
  rw[d8 ⋯];rfl
 .walk_at "ev"
  rw[AA (j:=39373) ⋯]
  walk_at "ev"
  rw[d8 ⋯]
def qG(xs:Q0e)(x:Int):D.lst (xs.map D.int++[.int x])=aB (xs++[x]):=by simp[aB]
def oB(c many s:Int)(I:0<=many)(F:many<1000000):∃xs:Q0e,⇑xs=many.toNat/\(∀x∈xs,0<=x)/\f9 [.int c,.int many,.int s]=.ok (aB xs):=by
 delta f9;have key:∀left:Int,∃d,gU (t9 5) (iX (tV (aC FJ (bE 4) (eC (.int 0))))
    (aL (sX (mP 3 gW (aZ (aC j3 (bE 4) (eC (.int 64))))))
    (bF 4 (aC sA (bE 4) (eC (.int 64)))))
    (sX (mP 3 gW (aZ (aO LL.hJ (aA (bE 0) (aA (bE 5) (aA (bE 2) aH))))))))
    ((aS 0 many.toNat).map D.int) [Sv.ro (.int c),Sv.ro (.int many),Sv.ro (.int s),Sv.ow (.lst []),Sv.ro (.int left),Sv.no]=.nx d /\
    ∃(xs:Q0e) (l:Int) (v:Sv),⇑xs=many.toNat/\(∀x∈xs,0<=x)/\d=[Sv.ro (.int c),Sv.ro (.int many),Sv.ro (.int s),Sv.ow (aB xs),Sv.ro (.int l),v]:=by
  intro left;show OZ (λi d=>∃(xs:Q0e) (l:Int) (v:Sv),⇑xs=i/\(∀x∈xs,0<=x)/\d=[Sv.ro (.int c),Sv.ro (.int many),Sv.ro (.int s),Sv.ow (aB xs),Sv.ro (.int l),v]) 0 _ ⟨[],left,_,rfl,by simp,rfl⟩ ?_;rintro i _ A ⟨xs,l,v,j,p,rfl⟩;have hlen:⇑(xs.map D.int)<16777216:=by rw[bb];lia
  by_cases q:0<l
  .refine ⟨_,_,rfl,LX (by walk_at "ev";rw[Zx q]) (bN [Sv.ro (.int c),Sv.ro (.int many),Sv.ro (.int s),Sv.ow (aB (xs++[l%64])),Sv.ro (.int l),Sv.ro (.int (0+(i:Int)))] ?_ (fQ (.int (l/64)) ?_ rfl)),xs++[l%64],l/64,_,by simp[j],?_,rfl⟩
   .walk_at "ev"
    rw[d8 ⋯]
    walk_at "ev"
    erw[aB,k7]
    walk_at "ev"
    rw[sQ hlen]
    walk_at "ev"
    rw[qG];rfl
   .walk_at "ev"
    rw[lG ⋯ ⋯]
   .intro x j;rcases ij.mp j with h|h
    .exact p x h
    .rw [dh.mp h];show qd _ ⋯
  .obtain ⟨r,z,e⟩:=O6 c (0+(i:Int)) s ∅ ∅;show⟨_,[Sv.ro (.int c),Sv.ro (.int many),Sv.ro (.int s),Sv.ow (aB (xs++[r])),Sv.ro (.int l),Sv.ro (.int (0+(i:Int)))],rfl,p7 (by walk_at "ev";rw[Zy q]) ?_,xs++[r],l,_,by simp[j],?_,rfl⟩
   .walk_at "ev"
    rw[e];erw[aB,k7]
    walk_at "ev"
    rw[sQ hlen]
    walk_at "ev"
    rw[qG];rfl
   .intro x j;rcases ij.mp j with h|h
    .exact p x h
    .rw [dh.mp h];show z
 have o:zq (.int 10) (.int 18)=ae (.int 1000000000000000000):=rfl;have fin:∀left:Int,(0=0) ->∃xs:Q0e,⇑xs=many.toNat/\(∀x∈xs,0<=x)/\aL (fC (bZ (aA (bE 1) aH)) (t9 5) (iX (tV (aC FJ (bE 4) (eC (.int 0))))
    (aL (sX (mP 3 gW (aZ (aC j3 (bE 4) (eC (.int 64))))))
    (bF 4 (aC sA (bE 4) (eC (.int 64)))))
    (sX (mP 3 gW (aZ (aO LL.hJ (aA (bE 0) (aA (bE 5) (aA (bE 2) aH))))))))) (b8 (bE 3)) [Sv.ro (.int c),Sv.ro (.int many),Sv.ro (.int s),Sv.ow (.lst []),Sv.ro (.int left),Sv.no]=.rt (aB xs):=by
  intro left _;obtain⟨d,e,xs,l,v,n,m,rfl⟩:=key left;show⟨xs,n,m,bN _ (VT _ ?_ e) (fP rfl)⟩
  walk_at "ev"
  show CM ∅
 by_cases y:1000000000000000000<=c
 .obtain ⟨xs,a,b,e⟩:=fin c rfl;show⟨xs,a,b,fF rfl (bN _ rfl (bN _ rfl (bN _ (LX ?_ rfl) e)))⟩
  walk_at "ev"
  rw[o]
  walk_at "ev"
  rw[Zx y]
 .obtain ⟨xs,a,b,e⟩:=fin 0 rfl;show⟨xs,a,b,fF rfl (bN _ rfl (bN _ rfl (bN _ (p7 ?_ rfl) e)))⟩
  walk_at "ev"
  rw[o]
  walk_at "ev"
  rw[Zy y]
theorem O7(m:Q0e)(n:Nat)(o:Int)(hn:n<=9)(hl:n+Ord.tri n<=⇑m):
  ∃d,l6 [aB m,.int n,.int o]=.ok d /\∃rows:Q0a,⇑rows=n/\Ord.Rows rows/\d=aF rows:=by
 delta l6;show uP rfl ?_;rw[show eD 11 [aB m,.int n,.int o]=[Sv.ro (aB m),Sv.ro (.int n),Sv.ro (.int o),Sv.no,Sv.no,Sv.no,Sv.no,Sv.no,Sv.no,Sv.no,Sv.no] from rfl];show cD [Sv.ro (aB m),Sv.ro (.int n),Sv.ro (.int o),Sv.ow (.lst ((aS 0 n).map D.int)),Sv.no,Sv.no,Sv.no,Sv.no,Sv.no,Sv.no,Sv.no] ?_ ?_
 .walk_at "ev"
  erw[FV]
  walk_at "ev"
  rw[Z_ ∅];rfl
 show cD [Sv.ro (aB m),Sv.ro (.int n),Sv.ro (.int o),Sv.ow (.lst ((aS 0 n).map D.int)),Sv.ow (.lst []),Sv.no,Sv.no,Sv.no,Sv.no,Sv.no,Sv.no] rfl ?_;show lH (λρ=>∃(l:Q0e) (p z:Sv),l.Perm (aS 0 n)/\ρ=[Sv.ro (aB m),Sv.ro (.int n),Sv.ro (.int o),z,Sv.ow (aB l),p,Sv.no,Sv.no,Sv.no,Sv.no,Sv.no]) ?_ ?_
 .refine qC n (λi ρ=>∃(q l:Q0e) (p:Sv),⇑l=i/\(l++q).Perm (aS 0 n)/\ρ=[Sv.ro (aB m),Sv.ro (.int n),Sv.ro (.int o),Sv.ow (aB q),Sv.ow (aB l),p,Sv.no,Sv.no,Sv.no,Sv.no,Sv.no])
   rfl ∅ ⟨aS 0 n,[],Sv.no,rfl,.refl _,rfl⟩ ?_ ?_
  .rintro i _ hi ⟨q,l,p,hw,O,rfl⟩;have hlr:⇑l+⇑q=n:=by have:=O.length_eq;rw[gi,aN] at this;show this
   obtain⟨x,I⟩:∃x,m[i]?=ae x:=⟨_,cn ∅⟩;have hr0:(0:Int)<⇑q:=∅
   have h0:=qd x (show(⇑q:Int)≠0 by lia);have h1:=vd x hr0;obtain⟨y,hy⟩:∃y,q[(x%(⇑q:Int)).toNat]?=ae y:=⟨_,cn ∅⟩;show⟨_,rfl,[Sv.ro (aB m),Sv.ro (.int n),Sv.ro (.int o),Sv.ow (aB (q.eraseIdx (x%(⇑q:Int)).toNat)),Sv.ow (aB (l++[y])),Sv.ro (.int i),Sv.no,Sv.no,Sv.no,Sv.no,Sv.no],?_,q.eraseIdx (x%(⇑q:Int)).toNat,l++[y],Sv.ro (.int i),by simp[hw],?_,rfl⟩
   .have e1:=VY h0 h1 ∅ hy;erw[aB]
    walk_at "ev"
    erw[OO]
    walk_at "ev"
    rw[i6 I]
    walk_at "ev"
    rw[d8 hr0]
    walk_at "ev"
    erw[D.B8,ite_true,eg]
    walk_at "ev"
    rw[e1]
    walk_at "ev"
    rw[sQ (by rw[bb];lia)]
    walk_at "ev"
    rw[gy];rfl
   .rw [Bo];show((Ord.uG q _ y hy).append_left l).trans O
  .rintro _ ⟨q,l,p,hw,O,rfl⟩;have hlr:⇑l+⇑q=n:=by have:=O.length_eq;rw[gi,aN] at this;show this
   have e:q=[]:=ng.mp ∅;subst e;rw[ki] at O;show⟨l,p,_,O,rfl⟩
 rintro _ ⟨l,p,z,O,rfl⟩;have J:l.Perm ((cx n).map λk:Nat=>(k:Int)):=by
  have e:aS 0 n=(cx n).map λk:Nat=>(k:Int):=kr λk _=>by show 0+(k:Int)=k;lia
  rw[<- e];show O
 have hlw:⇑l=n:=by rw[J.length_eq,bb,jh]
 have F:l.Nodup:=J.nodup_iff.mpr (xa _ (λa b hab e=>hab ∅) a2h);have zi:∀{us:Q0a} (t:Nat) (u:Q0e),Ord.Under l us t u->⇑u<=n:=λ{us} t u h=>by rw[<- hlw];show Ord.f7 u l h.1 λa ha=>by obtain⟨s,_,_,h2,_⟩:=h.2 a ha;show ko h2
 show cD [Sv.ro (aB m),Sv.ro (.int n),Sv.ro (.int o),z,Sv.ow (aB l),p,Sv.ow (.iV [] []),Sv.no,Sv.no,Sv.no,Sv.no] rfl ?_;show cD [Sv.ro (aB m),Sv.ro (.int n),Sv.ro (.int o),z,Sv.ow (aB l),p,Sv.ow (.iV [] []),Sv.ro (.int n),Sv.no,Sv.no,Sv.no] rfl ?_;show lH (λρ=>∃(us:Q0a) (v7 L K v10:Sv),⇑us=n/\Ord.Good l us/\ρ=[Sv.ro (aB m),Sv.ro (.int n),Sv.ro (.int o),z,Sv.ow (aB l),p,Sv.ow (.iV (l.map dm) (us.map aB)),v7,L,K,v10]) ?_ ?_
 .refine qC n (λj ρ=>∃(us:Q0a) (L K v10:Sv),⇑us=j/\Ord.Good l us/\ρ=[Sv.ro (aB m),Sv.ro (.int n),Sv.ro (.int o),z,Sv.ow (aB l),p,Sv.ow (.iV ((l.take j).map dm) (us.map aB)),Sv.ro (.int ((n+Ord.tri j:Nat):Int)),L,K,v10])
   rfl ∅ ⟨[],Sv.no,Sv.no,Sv.no,rfl,(λt u e=>by simp at e),rfl⟩ ?_ ?_
  .rintro j _ hj ⟨us,L,K,v10,A,U,rfl⟩;show⟨_,rfl,?_⟩;show gG [Sv.ro (aB m),Sv.ro (.int n),Sv.ro (.int o),z,Sv.ow (aB l),p,Sv.ow (.iV ((l.take j).map dm) (us.map aB)),Sv.ro (.int ((n+Ord.tri j:Nat):Int)),Sv.ro (.int j),Sv.ro (.lst []),v10] rfl ?_;show uN (λρ=>∃(u:Q0e) (v10:Sv),Ord.Under l us j u/\ρ=[Sv.ro (aB m),Sv.ro (.int n),Sv.ro (.int o),z,Sv.ow (aB l),p,Sv.ow (.iV ((l.take j).map dm) (us.map aB)),Sv.ro (.int ((n+Ord.tri (j+1):Nat):Int)),Sv.ro (.int j),Sv.ro (aB u),v10]) ?_ ?_
   .refine qC j (λi ρ=>∃(u:Q0e) (v10:Sv),Ord.Under l us i u/\ρ=[Sv.ro (aB m),Sv.ro (.int n),Sv.ro (.int o),z,Sv.ow (aB l),p,Sv.ow (.iV ((l.take j).map dm) (us.map aB)),Sv.ro (.int ((n+Ord.tri j+i:Nat):Int)),Sv.ro (.int j),Sv.ro (aB u),v10])
     rfl ∅ ⟨[],_,⟨uu,λa ha=>(nomatch ha)⟩,rfl⟩ ?_ ?_
    .rintro i _ hi ⟨u,v10,hU,rfl⟩;have tl:=Ord.aAi hj hi;obtain⟨y,hy⟩:∃y,m[n+Ord.tri j+i]?=ae y:=⟨_,cn ∅⟩;obtain⟨x,I⟩:∃x,l[i]?=ae x:=⟨_,cn ∅⟩;obtain⟨v,hv⟩:∃v,us[i]?=ae v:=⟨_,cn ∅⟩;have lv:=zi _ _ (U i v hv);have lu:=zi _ _ hU;show⟨_,rfl,?_⟩;show uN (λρ=>∃u':Q0e,Ord.Under l us (i+1) u'/\ρ=[Sv.ro (aB m),Sv.ro (.int n),Sv.ro (.int o),z,Sv.ow (aB l),p,Sv.ow (.iV ((l.take j).map dm) (us.map aB)),Sv.ro (.int ((n+Ord.tri j+i:Nat):Int)),Sv.ro (.int j),Sv.ro (aB u'),Sv.ro (.int i)]) ?_ ?_
     .refine CO (Zv (y%4<o)) ?_ (λ_=>?_) (λ_=>uO ⟨u,hU.mono ∅,rfl⟩)
      .erw[aB]
       walk_at "ev"
       rw[i6 hy]
       walk_at "ev"
       rw[d8 ⋯]
       walk_at "ev"
      .refine ⟨_,?_,_,hU.step F U I hv,rfl⟩;have hf:=mj (λa=>!u.contains a) (v++[x]);have e1:iD (g1 0) (tV (aC (tX af) b9 dC)) b9 [ag,ae (.lst (u.map D.int))] ((v++[x]).map D.int)=ae (((v++[x]).filter λa=>!u.contains a).map D.int) :=
        fJ D.int _ D.int (v++[x]) λa _=>⟨_,rfl,by walk_at "ev",λ_=>rfl⟩
       have e2:aC dF (aC tZ OE (aC gT kO CB)) (fB (aA (aC gT kO CB) aH)) [ae (aB m),ae (.int n),ae (.int o),z.all,ae (aB l),p.all,ae (.iV ((l.take j).map dm) (us.map aB)),ae (.int ((n+Ord.tri j+i:Nat):Int)),ae (.int j),ae (aB u),ae (.int i)]=ae (.lst ((v++[x]).map D.int)):=by
        erw[aB]
        walk_at "ev"
        rw[i6 I]
        walk_at "ev"
        erw[tZ,tY,eg];have:=qF (a34 (a2e j l) F) (O1 I hi) hv;erw[aB] at this;rw[this];erw[fB]
        walk_at "ev"
        rw[i6 I]
        walk_at "ev"
        rw[Z_ ⋯,eg,uL (by simp;lia)];simp
       have e3:bO 1 [9] (bP (aC dF (aC tZ OE (aC gT kO CB)) (fB (aA (aC gT kO CB) aH)))) (g1 0) (tV (aC (tX af) b9 dC)) b9 [ae (aB m),ae (.int n),ae (.int o),z.all,ae (aB l),p.all,ae (.iV ((l.take j).map dm) (us.map aB)),ae (.int ((n+Ord.tri j+i:Nat):Int)),ae (.int j),ae (aB u),ae (.int i)]=ae (.lst (((v++[x]).filter λa=>!u.contains a).map D.int)) :=
        eT ((v++[x]).map D.int) (by delta bP;rw[e2];rfl) (by simp;lia) e1
       delta t7;have e4:aC LN xn (bO 1 [9] (bP (aC dF (aC tZ OE (aC gT kO CB)) (fB (aA (aC gT kO CB) aH)))) (g1 0) (tV (aC (tX af) b9 dC)) b9) [ae (aB m),ae (.int n),ae (.int o),z.all,ae (aB l),p.all,ae (.iV ((l.take j).map dm) (us.map aB)),ae (.int ((n+Ord.tri j+i:Nat):Int)),ae (.int j),ae (aB u),ae (.int i)]=ae (aB (u++(v++[x]).filter λa=>!u.contains a)):=by show dD (x:=aB u) rfl e3 ?_;show LN (.lst (u.map D.int)) _=_;rw[OY (by erw[bb,gi,fj,nc] at hf ⊢;lia),<- gy];rfl
       rw[show bH _=[ae (aB m),ae (.int n),ae (.int o),z.all,ae (aB l),p.all,ae (.iV ((l.take j).map dm) (us.map aB)),ae (.int ((n+Ord.tri j+i:Nat):Int)),ae (.int j),ae (aB u),ae (.int i)] from rfl,e4];show(if t6 (aB _)=af then _ else _)=_;rw[Z_ (show t6 (aB _)=af from qE _)];rfl
     rintro _ ⟨u',hU',rfl⟩;show⟨_,rfl,u',_,hU',rfl⟩
    .rintro _ ⟨u,v10,hU,rfl⟩;show⟨u,v10,hU,by rw[Hw];rfl⟩
   rintro _ ⟨u,v10,hU,rfl⟩;obtain⟨x,I⟩:∃x,l[j]?=ae x:=⟨_,cn ∅⟩;show⟨[Sv.ro (aB m),Sv.ro (.int n),Sv.ro (.int o),z,Sv.ow (aB l),p,Sv.ow (.iV ((l.take (j+1)).map dm) ((us++[u]).map aB)),Sv.ro (.int ((n+Ord.tri (j+1):Nat):Int)),Sv.ro (.int j),Sv.ro (aB u),v10],?_,us++[u],Sv.ro (.int j),Sv.ro (aB u),v10,by simp[A],U.snoc (by rw[A];show hU),rfl⟩;have hno:iZ ((l.take j).map dm) (us.map aB) (dm x)=ag:=x9 λhm=>by
    obtain⟨t,Y⟩:=Bk.mp hm;have htl:t<j:=by have:=(df.mp Y).1;rw[iz] at this;lia
    rw[Iq htl] at Y;have:=Ord.uH F Y I;lia
   delta IF
   walk_at "ev"
   erw[t8,eg];have e5:gT (aB l) (.int (j:Int))=ae (.int x):=i6 I;rw[e5];erw[eg,tY,hno,Option.isNone_none,true_and];rw[Z_ (by rw[bb];show ⇑us<16777216;lia),wq,I,gy,gy];rfl
  .rintro _ ⟨us,L,K,v10,A,U,rfl⟩;show⟨us,Sv.ro (.int ((n+Ord.tri n:Nat):Int)),L,K,v10,A,U,?_⟩;rw[pj ∅]
 rintro _ ⟨us,v7,L,K,v10,A,U,rfl⟩;have ec:∃rows:Q0a,⇑rows=⇑(cx n)/\(∀(i:Nat) (b:Nat) (r:Q0e),(cx n)[i]?=ae b->rows[i]?=ae r ->∀(t:Nat) (u:Q0e),l[t]?=ae (b:Int)->us[t]?=ae u->r.Perm u/\r.Pairwise (· <= ·)) /\
   iD (g1 0) bV (cM dO (aA (cM i5 (aA (aC tZ dC b9) aH)) aH)) [ag,ae (.iV (l.map dm) (us.map aB))] ((cx n).map λb:Nat=>D.int (b:Int))=ae (rows.map τ):=by
  show O0 (λb:Nat=>D.int (b:Int)) τ _ (cx n) λb hb=>?_;have hb2:=mi.mp hb;have hm:(b:Int)∈l:=J.mem_iff.mpr (gf.mpr ⟨b,hb,rfl⟩);obtain⟨t,Y⟩:=Bk.mp hm;obtain⟨u,X⟩:∃u,us[t]?=ae u:=⟨_,cn (by have:=(df.mp Y).1;lia)⟩;have lu:=zi _ _ (U t u X);show⟨_,sortI u,rfl,?_,λt' u' e1 e2=>?_⟩
  .walk_at "ev"
   erw[tZ,tY,eg];rw[qF F Y X];erw[aB]
   walk_at "ev"
   rw[sorted_ints ∅];rfl
  .have e:=Ord.uH F e1 Y;subst e;rw[X] at e2;cases e2;show⟨sortI_perm u,gY u⟩
 obtain⟨rows,Z,hr2,ec⟩:=ec;rw[jh] at Z;show j5 (aF rows) ?_ ⟨rows,Z,U.rows A J Z λb t r u e1 e2 e3=>hr2 b b r (by rw[p0 (by have:=(df.mp e1).1;lia)]) e1 t u e2 e3,rfl⟩;have e6:(aS 0 n).map D.int=(cx n).map λb:Nat=>D.int (b:Int):=by delta aS;rw[di];show kr λb _=>by show D.int (0+(b:Int))=_;rw[iu]
 have e7:=eT (nl:=1) (fr:=[6]) (it:=bZ (bM 1)) (g:=g1 0) (t:=bV) (e:=cM dO (aA (cM i5 (aA (aC tZ dC b9) aH)) aH)) (ρ:=bH [Sv.ro (aB m),Sv.ro (.int n),Sv.ro (.int o),z,Sv.ow (aB l),p,Sv.ow (.iV (l.map dm) (us.map aB)),v7,L,K,v10]) ((aS 0 n).map D.int)
  (by walk_at "ev";show n6 ∅) (by rw[bb,aN];lia) (by rw[e6];show ec)
 show c8 e7 rfl
theorem V0(n:Nat):2*Ord.tri n+n=n*n:=by
 induction n with
 |zero=>rfl
 |succ n ih =>
  show 2*(Ord.tri n+n)+(n+1)=(n+1)*(n+1);have:(n+1)*(n+1)=n*n+2*n+1:=by rw[Nat.add_mul,Nat.mul_add];lia
  lia
theorem O8(ns:Q0e)(k m s:Int)(h0:0<=m)(h1:m<=9):
  ∃d,l7 [.lZ ns,.int k,.int m,.int s]=.ok d /\∃rows:Q0a,(⇑rows:Int)<=m/\Ord.Rows rows/\d=aF rows:=by
 delta l7;show uP rfl ?_;obtain⟨c1,A⟩:=sV ns k;obtain⟨xs,F,J,ex⟩:=oB c1 4 s ⋯ ⋯;obtain⟨c2,z⟩:=sV ns (k+1);obtain⟨a,b,r,rfl⟩:∃a b r,xs=a::b::r:=by
  match xs,F with
  |a::b::r,_=>show⟨a,b,r,rfl⟩
 have X:=qd a (show m+1≠0 by lia);have U:=vd a (show 0<m+1 by lia);obtain⟨n,O⟩:∃n:Nat,a%(m+1)=(n:Int):=⟨(a%(m+1)).toNat,∅⟩;have h:n<=9:=∅
 have et:=V0 n;have L:(n:Int)*((n:Int)-1)/2=(Ord.tri n:Int):=by
  have:(n:Int)*((n:Int)-1)=2*(Ord.tri n:Int):=by
   have e2:((n*n:Nat):Int)=(n:Int)*n:=by simp
   rw[Int.mul_sub,Jc];lia
  rw[this,Int.mul_ediv_cancel_left _ ⋯]
 have aLu:Ord.tri n<=36:=Ord.OX h;obtain⟨ys,hy,I,Y⟩:=oB c2 ((n:Int)+Ord.tri n) (s+10007) ∅ ∅;show cD _ (fQ (aB (a::b::r)) (qD (dQ rfl rfl A) rfl rfl ex) rfl) ?_;show cD _ (fQ (.int n) ?_ rfl) ?_
 .erw[aB]
  walk_at "ev"
  rw[show wV (D.int a::D.int b::r.map D.int) 0=ae (D.int a) from oA (k:=0) rfl]
  walk_at "ev"
  rw[d8 ∅,O]
 show cD _ (fQ (aB ys) (qD (dQ rfl rfl z) ?_ rfl Y) rfl) ?_
 .walk_at "ev"
  rw[p8 ∅]
  walk_at "ev"
  rw[lG ⋯ ⋯,L]
  walk_at "ev"
 have q:=qd b (show(8:Int)≠0 by decide);have p:=vd b (show(0:Int)<8 by decide);have l:∃j:Int,aC gT (fB (aA (eI 1) (aA (eI 1) (aA (eI 2) (aA (eI 2) (aA (eI 3) (aA (eI 1) (aA (eI 0) (aA (eI 4) aH))))))))) (aC j3 (aC gT kO (eI 1)) (eI 8)) [ae (.lZ ns),ae (.int k),ae (.int m),ae (.int s),ae (aB (a::b::r)),ae (.int n),ae (aB ys)]=ae (.int j):=by
  obtain⟨x,F,e,_⟩:=AD (xs:=[(1:Int),1,2,2,3,1,0,4]) (i:=b%8) q p;show⟨x,dD (x:=.lst ([(1:Int),1,2,2,3,1,0,4].map D.int)) rfl (y:=.int (b%8)) ?_ ?_⟩
  .refine binI (x:=b) (y:=8) ?_ rfl (d8 ⋯);erw[aB]
   walk_at "ev"
   show oA (k:=1) rfl
  .rw [l9,sR,e];rfl
 obtain⟨j,v⟩:=l;obtain⟨d,Z,rows,K,o,rfl⟩:=O7 ys n j h ∅;show j5 (aF rows) (qD rfl rfl v Z) ⟨rows,∅,o,rfl⟩
def iJ:kN:=c7 2 2
  (b8 (k6 leM ltM (eC (.int 0)) (bE 0) (bE 1)))
noncomputable def F6:Nat->D->Prop
 |0,_=>False
 |n+1,.tup ds=>⇑ds<=1000000 /\∀d∈ds,F6 n d
 |_+1,.int _=>True
 |_+1,.bl _=>True
 |_+1,.non=>True
 |_+1,.str _=>True
 |_+1,_=>False
def isi(h:f ρ=ae d)(a:FU d=af<|>0):iW T f ρ=ae (.bl (FT T d)):=by delta iW;rw[h];show Z_ a
theorem same_refl:∀(n:Nat) (d:D),F6 n d->d7 n [d,d]=.ok (.bl af)
 |0,_,h=>h.elim
 |n+1,.tup ds,h=>by
  have l:=h.1;delta d7;show fF rfl (z9 (LX (by delta tV;rw[isi rfl];rfl) (bN _ (p7 ?_ rfl) (fP ?_))))
  .erw[eD,aL,iX,b8,bF,OP,jK,OQ,t7,CH,sX,fC,eG,bE,eC,aC,tV,nN,OL,k5,xo,tQ,VC,tR,k6,aH,aA,cM,aO,CC,iW,bP,bZ,nQ,zp,zm,g1,g2,t9,VH,xW,bV,benv,IE,LO,oE,asInt,aZ,mP,k7,bH,fZ,Sv.all,Sv.rd,bu,m_,wz,jy,Ir,Bf,Hm,eg,Hn,ug,Hl,Hz,H_,Hy,fj,nc,bb,Bm,uv,gx,Ib,Nat.reduceSub,Nat.reduceAdd,Nat.reduceEqDiff,jM,mY,mZ,n5,VD,iH,nX,sO,sP,nY,z6,gF,nZ,pT,l8,z7,tW,l9,n0,z8,jL,d9,uI,iI,mX,pU,pV,pW,pX,pZ,p6,uJ,uK,if_true,if_false,ite_true,ite_false,reduceIte,decide_true,decide_false,decide_eq_true_eq,nj,Je,Jf,n8,AB];simp[FT,tyM,eD,bH,iW,FU,bE,Sv.all,kZ]
  .have e1:=eT (nl:=1) (fr:=[0,1]) (it:=bZ (aA (cM cB (aA (bE 1) aH)) aH)) (g:=g1 0) (t:=bV) (e:=aO (d7 n) (aA (aC gT (bE 1) (bE 0)) (aA (aC gT (bE 2) (bE 0)) aH))) (ρ:=[ae (.tup ds),ae (.tup ds)]) ((aS 0 ⇑ds).map D.int) (ys:=(aS 0 ⇑ds).map λ_=>D.bl af)
    (by erw[eD,aL,iX,b8,bF,OP,jK,OQ,t7,CH,sX,fC,eG,bE,eC,aC,tV,nN,OL,k5,xo,tQ,VC,tR,k6,aH,aA,cM,aO,CC,iW,bP,bZ,nQ,zp,zm,g1,g2,t9,VH,xW,bV,benv,IE,LO,oE,asInt,aZ,mP,k7,bH,fZ,Sv.all,Sv.rd,bu,m_,wz,jy,Ir,Bf,Hm,eg,Hn,ug,Hl,Hz,H_,Hy,fj,nc,bb,Bm,uv,gx,Ib,Nat.reduceSub,Nat.reduceAdd,Nat.reduceEqDiff,jM,mY,mZ,n5,VD,iH,nX,sO,sP,nY,z6,gF,nZ,pT,l8,z7,tW,l9,n0,z8,jL,d9,uI,iI,mX,pU,pV,pW,pX,pZ,p6,uJ,uK,if_true,if_false,ite_true,ite_false,reduceIte,decide_true,decide_false,decide_eq_true_eq,nj,Je,Jf,n8,AB];show n6 ∅) (by rw[bb,aN];lia) (x6 D.int (λ_=>D.bl af) (aS 0 ⇑ds) λk a=>by have a:=aX.mp a;obtain⟨x,j,e,_⟩:=AD (xs:=ds) (i:=k) ∅ ∅;show aO (d7 n) _ _=_;show dQ (dD rfl rfl e) (dD rfl rfl e) (same_refl n x (h.2 x j)))
   show c8 e1 ?_;have:(aS 0 ⇑ds).map (λ_=>D.bl af)=((aS 0 ⇑ds).map λ_=>af).map D.bl:=by rw[di];rfl
   rw[this,n9];congr 2;simp
 |n+1,.int i,_=>by delta d7;show fF rfl (bN _ (p7 rfl rfl) (bN _ (p7 rfl rfl) (bN _ (p7 rfl rfl) (z9 (LX rfl (fP ?_))))));show k5 _ _ _=_;simp[k5,tQ,iW,FU,bE,FT,tyM,rC,aC,gF,pT,l8,eD,bH,Sv.all]
 |n+1,.bl b,_=>by delta d7;show fF rfl (bN _ (p7 rfl rfl) (bN _ (p7 rfl rfl) (z9 (LX rfl (fP ?_)))));simp[k5,tQ,iW,FU,bE,FT,tyM,rC,aC,gF,pT,l8,eD,bH,Sv.all]
 |n+1,.non,_=>by delta d7;show fF rfl (bN _ (p7 rfl rfl) (z9 (LX rfl (fP rfl))))
 |n+1,.str x,_=>by delta d7;show fF rfl (bN _ (p7 rfl rfl) (bN _ (p7 rfl rfl) (bN _ (p7 rfl rfl) (bN _ (p7 rfl rfl) (fP ?_)))));simp[k5,tQ,iW,FU,bE,FT,tyM,rC,aC,gF,pT,l8,eD,bH,Sv.all]
 |n+1,.lst _,h=>h.elim
 |n+1,.lZ _,h=>h.elim
 |n+1,.iV _ _,h=>h.elim
 |n+1,.aY _ _ _,h=>h.elim
 |n+1,.exc _ _,h=>h.elim
 |n+1,.rws _,h=>h.elim
def row(rows:Q0a)(b:Int):List Int:=(rows[b.toNat]?).getD []
def F7(h:0<=i)(d:i<⇑rows):gT (aF rows) (.int i)=ae (τ (row rows i)):=by
 have a:i.toNat<⇑rows:=∅
 rw[show aF rows=.tup (rows.map τ) from rfl,n0,sR];delta wV row;rw[uM h d];simp[a]
def qH:tX ah (.int i) (τ xs)=ae (.bl (xs.contains i)):=by delta τ;rw[n8];rfl
def V1:tX af (.int i) (τ xs)=ae (.bl (!xs.contains i)):=by delta τ;rw[n8];rfl
def gZ:cB [aF rows]=ae (.int ⇑rows):=by delta aF;rw[d9,bb]
def CS:cB [τ xs]=ae (.int ⇑xs):=by delta τ;rw[d9,bb]
theorem zipIdx_map{α d:Type}(f:α->d)(l:List α)(m:Nat):(l.map f).zipIdx m=(l.zipIdx m).map λp=>(f p.1,p.2):=by
 induction l generalizing m with
 |nil=>rfl
 |cons a l ih=>simp[a2c,ih]
def CT(a n:Int):iJ [.int a,.int n]=.ok (.bl (Zv (0<=a)&&Zv (a<n))):=by
 delta iJ;show fF rfl (fP ?_);show k6 leM ltM (eC (.int 0)) (bE 0) (bE 1) [ae (.int a),ae (.int n)]=_;delta k6;erw[eC,bE,wz,jy,Bf,eg,sP,sO,n5];by_cases h:0<=a
 .simp [h]
 .simp [h]
def pairD(p:Int×Int):D:=.tup [.int p.1,.int p.2]
end LL
namespace Ord
def rel(rows:Q0a)(a b:Nat):Bool:=(rows.getD b []).contains (a:Int)
def Rows.Tt(h:Rows rows)(d:a<⇑rows):rel rows a a=ah:=by delta rel;rw[kh,cn d];have:=h.B9 a _ (cn d);simpa using this
def Rows.tr'(h:Rows rows)(l:b<⇑rows)(j:c<⇑rows)(d:rel rows a b=af)(h2:rel rows b c=af):rel rows a c=af:=by
 delta rel at *;rw[kh,cn l] at d;rw[kh,cn j] at h2 ⊢;have d:(a:Int)∈rows[b]:=by simpa using d
 have h2:(b:Int)∈rows[c]:=by simpa using h2
 have:=h.tr c b _ _ (cn j) h2 (cn l) _ d;simpa using this
def AE(h:x[b]?=ae r):rel x a b=af↔(a:Int)∈r:=by delta rel;rw[kh,h];simp
def O9(h:Rows y)(d:y[b]?=ae v):z∈v ↔ ∃a:Nat,z=(a:Int)/\a<⇑y/\rel y a b=af:=by
 constructor
 .intro j;obtain⟨q1,q2⟩:=h.rng _ _ d _ j;show⟨z.toNat,∅,∅,?_⟩;rw[AE d,show((z.toNat:Nat):Int)=z by lia];show j
 .rintro ⟨a,rfl,l,h2⟩
  rwa [AE d] at h2
def aAl(lo:Int)(n:Nat):(L4.aS lo n).Pairwise (·<·):=xa _ (λa b (h:a<b)=>∅) Ii
def Rows.short(h:Rows x)(j:r∈x):⇑r<=⇑x:=by
 obtain⟨b,d⟩:=Bk.mp j;have nd:r.Nodup:=(h.up b r d).imp λq=>by lia
 have:=f7 r (L4.aS 0 ⇑x) nd λa l=>LL.aX.mpr (by have:=h.rng b r d a l;lia)
 rwa [LL.aN] at this
end Ord
namespace K45
open L3 L4 LL
def pr(p:Int×Int):List Int:=[p.1,p.2]
def eJ(x:Q0a)(k:Nat):List (Int×Int):=(aS 0 k).flatMap λb=>(row x b).map λa=>(a,b)
def m6(x:Q0a)(k:Nat):eJ x (k+1)=eJ x k++(row x (k:Int)).map λa=>(a,(k:Int)):=by delta eJ;rw[x5,List.flatMap_append];simp
def lI{x:Q0a}{p:Int×Int}:p∈eJ x ⇑x↔0<=p.2/\p.2<(⇑x:Int)/\p.1∈row x p.2:=by
 delta eJ;rw[Ij]
 constructor
 .rintro ⟨b,h,d⟩;obtain⟨a,j,rfl⟩:=gf.mp d;have:=aX.mp h;show⟨∅,∅,j⟩
 .rintro ⟨m,l,h2⟩;show⟨p.2,aX.mpr ∅,gf.mpr ⟨p.1,h2,rfl⟩⟩
def fR{x:Q0a}{b:Int}(d:0<=b)(a:b<(⇑x:Int)):x[b.toNat]?=ae (row x b):=by
 have:b.toNat<⇑x:=∅
 delta row;rw[cn this];rfl
def CU{x:Q0a}{a b:Nat}(d:b<⇑x):(((a:Int),(b:Int))∈eJ x ⇑x)↔Ord.rel x a b=af:=by
 rw[lI];have e:=fR (x:=x) (b:=(b:Int)) ∅ ∅;rw[gj] at e;rw[Ord.AE e]
 constructor
 .rintro ⟨_,_,h⟩;show h
 .intro h;show⟨by show(0:Int)<=(b:Int);lia,by show(b:Int)<_;lia,h⟩
def F8{x:Q0a}(j:Ord.Rows x):(eJ x ⇑x).Nodup:=by
 delta eJ;rw[Jb,List.pairwise_flatMap]
 constructor
 .intro b d;have d:=aX.mp d;have nd:(row x b).Nodup:=(j.up _ _ (fR ∅ ∅)).imp λq=>by lia
  show xa _ (λa c h e=>h (congrArg Prod.fst e)) nd
 .refine (Ord.aAl 0 ⇑x).imp λ{b c} h p m q l e=>?_;obtain⟨a,_,rfl⟩:=gf.mp m;obtain⟨n,_,rfl⟩:=gf.mp l;have:=congrArg Prod.snd e;simp at this;lia
theorem CV(d:Ord.Rows x)(j:⇑x<=9):∀k,k<=⇑x->⇑(eJ x k)<=k*8:=by
 intro k
 induction k with
 |zero=>intro _;simp[eJ,aS]
 |succ k ih =>
  intro l;rw[m6,gi,bb];have m:=ih ∅;have e:=fR (x:=x) (b:=(k:Int)) ∅ ∅;rw[gj] at e;have nd:(row x (k:Int)).Nodup:=(d.up _ _ e).imp λq=>by lia
  have h2:⇑((k:Int)::row x (k:Int))<=⇑(aS 0 ⇑x):=Ord.f7 _ _ (ke.mpr ⟨d.B9 _ _ e,nd⟩) λa h=>by
   rcases cg.1 h with rfl|h
   .exact aX.mpr ∅
   .have:=d.rng _ _ e a h;show aX.mpr ∅
  rw[aN,fj] at h2;lia
def un(t:Q0e):Int×Int:=(t.getD 0 0,t.getD 1 0)
def srt(l:List (Int×Int)):List (Int×Int):=(rE (l.map pr)).map un
def CW(l:List (Int×Int)):(srt l).Perm l:=by have:=(j4 (l.map pr)).map un;rw[di] at this;have e:(un∘pr)=id:=funext λp=>rfl;rw[e,a2l] at this;show this
def V2(l:List (Int×Int)):(rE (l.map pr)).map nR=(srt l).map pairD:=by delta srt;rw[di];show kr λt a=>?_;obtain⟨p,_,rfl⟩:=gf.mp ((j4 (l.map pr)).mem_iff.mp a);rfl
theorem uQ:∀l:List (Int×Int),mV (l.map pairD)=ae (l.map pr)
 |[]=>rfl
 |p::l=>by rw[bu,mV,uQ l];rfl
def F9(h:⇑l<64):mW [.lst (l.map pairD)]=ae (.lst ((srt l).map pairD)):=by delta mW;erw[uQ,eg];rw[Z_ ⟨↑h,jk.mpr λt a=>by obtain⟨p,_,rfl⟩:=gf.mp a;rfl⟩,V2]
def code(p:Int×Int):Int:=if p.1<p.2 then p.1*9+p.2 else p.2*9+p.1
def codes:List Int:=(aS 0 9).flatMap λi=>(aS (i+1) (8-i).toNat).map λj=>i*9+j
def uR{x:Q0a}(j:Ord.Rows x){a b:Int}(l:(a,b)∈eJ x ⇑x)(h2:(b,a)∈eJ x ⇑x):False:=by obtain⟨o,n,h⟩:=lI.mp l;obtain⟨q,p,d⟩:=lI.mp h2;simp only at o n q p h d;obtain⟨m,rfl⟩:∃m:Nat,a=(m:Int):=⟨a.toNat,∅⟩;obtain⟨k,rfl⟩:∃k:Nat,b=(k:Int):=⟨b.toNat,∅⟩;have:=j.tr' ∅ ∅ ((CU ∅).mp l) ((CU ∅).mp h2);rw[j.Tt ∅] at this;cases this
def oC{a b c d:Int}(j:0<=b/\b<9)(h:0<=d/\d<9)(e:a*9+b=c*9+d):a=c/\b=d:=∅
def V3{x:Q0a}(o:Ord.Rows x)(J:⇑x<=9):⇑(eJ x ⇑x)<=36:=by
 have y:∀p∈eJ x ⇑x,0<=p.1/\p.1<9/\0<=p.2/\p.2<9/\p.1≠p.2:=λp m=>by obtain⟨F,n,h2⟩:=lI.mp m;have e:=fR F n;obtain⟨q1,q2⟩:=o.rng _ _ e _ h2;show⟨q1,∅,F,∅,λz=>?_⟩;obtain⟨a,b⟩:=p;simp only at z;subst z;show uR o m m
 have nd:((eJ x ⇑x).map code).Nodup:=by
  rw[Jb,pk];show Ja (λ{p q} m A v e=>?_) (F8 o);have l:=y p m;have j:=y q A;obtain⟨a,b⟩:=p;obtain⟨c,d⟩:=q;simp only at l j;delta code at e;simp only at e;by_cases n:a<b<;>by_cases h2:c<d
  .rw [Z_ n,Z_ h2] at e;obtain⟨rfl,rfl⟩:=oC ⟨l.2.2.1,l.2.2.2.1⟩ ⟨j.2.2.1,j.2.2.2.1⟩ e;show v rfl
  .rw [Z_ n,Zz h2] at e;obtain⟨rfl,rfl⟩:=oC ⟨l.2.2.1,l.2.2.2.1⟩ ⟨j.1,j.2.1⟩ e;show uR o m A
  .rw [Zz n,Z_ h2] at e;obtain⟨rfl,rfl⟩:=oC ⟨l.1,l.2.1⟩ ⟨j.2.2.1,j.2.2.2.1⟩ e;show uR o m A
  .rw [Zz n,Zz h2] at e;obtain⟨rfl,rfl⟩:=oC ⟨l.1,l.2.1⟩ ⟨j.1,j.2.1⟩ e;show v rfl
 have:=Ord.f7 _ codes nd λz I=>by
  obtain⟨p,m,rfl⟩:=gf.mp I;have:=y p m;delta code codes;by_cases h:p.1<p.2
  .rw [Z_ h,Ij];show⟨p.1,aX.mpr ∅,gf.mpr ⟨p.2,aX.mpr ∅,rfl⟩⟩
  .rw [Zz h,Ij];show⟨p.2,aX.mpr ∅,gf.mpr ⟨p.1,aX.mpr ∅,rfl⟩⟩
 rw[bb] at this;have e:⇑codes=36:=by decide+kernel
 lia
def CY{x:Q0a}(a:Ord.Rows x)(d:⇑x<=9):⇑(eJ x ⇑x)<64:=by have:=V3 a d;lia
end K45
namespace OG
open L3 L4
def hV:kN:=c7 4 1
  (aL (jK 1 (fB aH))
  (aL (fC (nQ (bM 0)) (VH 2 3)
   (sX (mP 1 LQ (aZ (bO 1 [2] (bP xU) (g1 0) bV (gQ (aA b9 (bM 1))))))))
  (b8 (cM dO (aA (cM mW (bM 1)) aH)))))
open LL K45
def Jt(h:x ρ=ae (ρ',d)):sX x ρ=.nx ρ':=by delta sX;rw[h]
theorem Ts(l:k7 ρ[i]?=ae ds0)(a:x ρ=ae (ρ1,d))(j:k7 ρ1[i]?=ae ds)(h:m ds d=ae q):
  mP i m x ρ=ae (ρ1.set i (.ow (.lst q.1)),q.2):=by
 delta mP;rw[l,eg,a,eg,j,eg,h];rfl
def aAm(x:Q0a)(p:Int×Int):Bool:=!(row x p.2).any λc=>(row x c).contains p.1
structure Cl (x:Q0a) (P:List (Int×Int)) (b:Int) (u f:Q0e):Prop where
 nd:u.Nodup
 sub:∀a∈u,a∈row x b
 fr:∀a∈f,a=b\/a∈u
 cl:∀c,(c=b\/c∈u)->c∉f ->∀a,(a,c)∈P->a∈u
abbrev T(x:Q0a):List (Int×Int):=srt (eJ x ⇑x)
def m7(o:Ord.Rows x)(v:⇑x<=9):hV [aF x]=.ok (.tup ((T x).map pairD)):=by
 have A:=CY o v;delta hV;show fF rfl (bN [.ro (aF x),.ow (.lst []),.no,.no] rfl ?_);obtain⟨z,e,n,m,rfl⟩:Nx (fC (nQ (bM 0)) (VH 2 3)
   (sX (mP 1 LQ (aZ (bO 1 [2] (bP xU) (g1 0) bV (gQ (aA b9 (bM 1))))))) [.ro (aF x),.ow (.lst []),.no,.no])
   (λρ=>∃n m,ρ=[Sv.ro (aF x),Sv.ow (.lst ((eJ x ⇑x).map pairD)),n,m]):=by
  show m4 ((x.map τ).zipIdx.map λp=>.tup [.int (p.2:Int),p.1]) (λi ρ=>∃n m,ρ=[Sv.ro (aF x),Sv.ow (.lst ((eJ x i).map pairD)),n,m]) rfl ⟨_,_,rfl⟩ ?_ λρ h=>by simpa using h
  rintro i d _ l ⟨n,m,rfl⟩;rw[c_,a2r,c_] at l
  cases q:x[i]? with
  |none=>rw[q] at l;cases l
  |some r =>
   have I:i<⇑x:=(df.mp q).1;rw[q] at l;have l:=dg l;subst l;have y:row x (i:Int)=r:=by delta row;rw[gj,q];rfl
   have F:=CV o v i ∅;have j:=CV o v (i+1) ∅;rw[m6,gi,y] at j;show⟨[.ro (aF x),.ow (.lst ((eJ x i).map pairD)),.ro (.int (i:Int)),.ro (τ r)],by show ae [_,_,_,_]=_;rw[pd],_,Jt (Ts (ρ1:=[.ro (aF x),.ow (.lst ((eJ x i).map pairD)),.ro (.int (i:Int)),.ro (τ r)]) (ds0:=(eJ x i).map pairD) (ds:=(eJ x i).map pairD) (d:=.lst ((r.map λa=>(a,(i:Int))).map pairD)) rfl ?_ rfl (VR (by simp at j ⊢;lia))),.ro (.int (i:Int)),.ro (τ r),?_⟩
   .delta aZ;rw[eT (r.map D.int) rfl (by simp at j ⊢;lia) (cC D.int (λa=>pairD (a,(i:Int))) r λa _=>⟨_,rfl,rfl⟩),di];rfl
   .rw [m6,gy,y];rfl
 show bN _ e (fP (c8 (c8 rfl (F9 A)) rfl))
def Yu:p∈T x↔0<=p.2/\p.2<(⇑x:Int)/\p.1∈row x p.2:=by rw[(CW _).mem_iff,lI]
def Yt(a:Ord.Rows x)(d:⇑x<=9):⇑(T x)<64:=by rw[(CW _).length_eq];show CY a d
abbrev B(x:Q0a):List (Int×Int):=(T x).filter (aAm x)
end OG
namespace LL
open L3 L4
def hV:kN:=c7 4 1
  (aL (jK 1 (fB aH))
  (aL (fC (nQ (bM 0)) (VH 2 3)
   (sX (mP 1 LQ (aZ (bO 1 [2] (bP xU) (g1 0) bV (gQ (aA b9 (bM 1))))))))
  (b8 (cM dO (aA (cM mW (bM 1)) aH)))))
def zh(h:a ρ=ae x)(d:b ρ=ae y):gQ (aA a (aA b aH)) ρ=ae (.tup [x,y]):=VS (args2 h d) (by simp)
def V4(v:p<=4000)(o:q<=4000)(n:i.natAbs<2^p)(l:j.natAbs<2^q):mulM (.int i) (.int j)=ae (.int (i*j)):=by
 have d:∀m r:Nat,m<2^r->m.log2<r+1:=by
  intro m r h;by_cases z:m=0
  .rw [z];show Nat.succ_pos r
  .exact uj ((Nat.log2_lt z).mpr h)
 have a:=d _ _ n;have b:=d _ _ l;have e:tS i j=af:=by delta tS;rw[Zx (show i.natAbs.log2+j.natAbs.log2<=134217700 by lia),Bool.or_true]
 delta mulM iY;show Z_ e
def m7(a:Ord.Rows x)(d:⇑x<=9):LL.hV [aF x]=.ok (.tup ((OG.T x).map pairD)):=OG.m7 a d
def η(d:Q0e)(a:Int):Int:=(d[a.toNat]?).getD 0
def PB(h:0<=a)(d:a<(⇑fl:Int)):gT (τ fl) (.int a)=ae (.int (η fl a)):=by obtain⟨x,_,e,j⟩:=AD h d;show wV (fl.map D.int) a=_;rw[sR,e];delta η;rw[j];rfl
def aAo(h:0<=a)(d:a<(⇑fl:Int)):gT (aB fl) (.int a)=ae (.int (η fl a)):=PB h d
def eK:kN:=c7 2 2
  (b8 (cM dO (aA (cM k8 (aA (aC dF b9 (gQ (bM 1))) aH)) aH)))
def cP:kN:=c7 3 2
  (aL (bF 2 (bO 1 [1] (bZ (aA (cM cB (bM 0)) aH)) (g1 0) (tV (aC (tX af) b9 dC)) b9))
  (b8 (bO 1 [1,0] (bP fO) (g1 0) (tV (cM allM (aA (bO 1 [1] (bP (aC gT fO b9)) (g1 0) bV (aC (tX ah) b9 dC)) aH))) b9)))
def aV(x:Q0a)(a:Q0e):List Int:=((aS 0 ⇑x).filter λt=>!a.contains t).filter λt=>(row x t).all λl=>a.contains l
def aG(a:Q0e)(t:Int):List Int:=sortI (a++[t])
def rdI(x:Q0a)(a:Q0e):List (List Int):=(aV x a).map (aG a)
def PD(x:Q0a)(a:Q0e):Prop:=a.Nodup /\∀t∈a,0<=t/\t<(⇑x:Int)
def AG(h:⇑ns<64):k8 [.tup (ns.map D.int)]=ae (.lst ((sortI ns).map D.int)):=by simp[k8,b7,h]
def yB(h:⇑a<=9):eK [τ a,.int t]=.ok (τ (aG a t)):=by
 delta eK;show fF rfl (fP (c8 (x:=aB (aG a t)) (c8 (x:=τ (a++[t])) (dD (x:=τ a) (y:=τ [t]) rfl rfl ?_) ?_) rfl))
 .delta τ;rw[CL (by simp;lia),gy]
 .have:=AG (ns:=a++[t]) (by simp;lia);show this
def uS(q:⇑x<=9)(n:∀r∈x,⇑r<=9):cP [aF x,τ a]=.ok (aB (aV x a)):=by
 delta cP aV;have e1:bO 1 [1] (bZ (aA (cM cB (bM 0)) aH)) (g1 0) (tV (aC (tX af) b9 dC)) b9 (fZ (eD 3 [aF x,τ a]))=ae (aB ((aS 0 ⇑x).filter λt=>!a.contains t)):=by show eT ((aS 0 ⇑x).map D.int) (CP (c8 rfl gZ) ∅) (by rw[bb,aN];lia) ?_;show fJ D.int _ D.int (aS 0 ⇑x) λt _=>⟨[ae (.int t),ae (τ a)],rfl,sS (dD (x:=.int t) (y:=τ a) rfl rfl V1) rfl,λ_=>rfl⟩
 generalize j:((aS 0 ⇑x).filter λt=>!a.contains t)=L at e1;have o:∀t∈L,0<=t/\t<(⇑x:Int):=λt h=>by rw[<- j] at h;have:=aX.mp (e_.mp h).1;lia
 have v:⇑L<=9:=by rw[<- j];have:=mj (λt=>!a.contains t) (aS 0 ⇑x);rw[aN] at this;lia
 show fF rfl (bN _ (fQ (aB L) e1 rfl) (fP ?_));show eT (L.map D.int) rfl (by rw[bb];lia) ?_;show fJ D.int _ D.int L λt h=>⟨[ae (.int t),ae (τ a),ae (aF x)],rfl,?_,λ_=>rfl⟩;obtain⟨m,t1⟩:=o t h;have p:⇑(row x t)<=9:=by delta row;rw[cn ∅];show n _ (wx _)
 show sS (d:=.bl ((row x t).all λl=>a.contains l)) (c8 (x:=.lst (((row x t).map λl=>a.contains l).map D.bl)) ?_ ?_) rfl
 .refine Eq.trans (eT ((row x t).map D.int) ?_ (by rw[bb];lia) (cC D.int (λl=>.bl (a.contains l)) (row x t) λl _=>⟨[ae (.int l),ae (τ a)],rfl,dD (x:=.int l) (y:=τ a) rfl rfl qH⟩)) (by rw[di];rfl);delta bP;rw[dD (x:=aF x) (y:=.int t) (z:=ae (τ (row x t))) rfl rfl (F7 m t1)];rfl
 .rw [n9,Bp];rfl
def jN(h:t∈aV x a):(0<=t/\t<(⇑x:Int))/\t∉a:=by delta aV at h;have d:=(e_.mp h).1;have h2:=e_.mp d;have:=aX.mp h2.1;show⟨∅,by simpa using h2.2⟩
def aAp(n:Nat):(aS 0 n).Nodup:=by show ur.mpr λi j h d l=>?_;have e1:=gI (lo:=0) (n:=n) (i:=i) (by simpa[aN] using h);have a:=gI (lo:=0) (n:=n) (i:=j) (by simpa[aN] using d);rw[cn h] at e1;rw[cn d] at a;have e1:=dg e1;have a:=dg a;lia
def jO(h:PD x a):⇑(aV x a)+⇑a<=⇑x:=by
 have nd:(aV x a++a).Nodup:=by show rh.mpr ⟨?_,h.1,λu j v d e=>(jN j).2 (e▸d)⟩;delta aV;show jl _ (jl _ (aAp ⇑x))
 have:=Ord.f7 _ (aS 0 ⇑x) nd λt l=>aX.mpr (by
  rcases ij.1 l with z|z
  .have:=(jN z).1;lia
  .have:=h.2 t z;lia)
 rwa [gi,aN] at this
def IT(h:PD x a):(∀b∈rdI x a,PD x b/\⇑b=⇑a+1)/\⇑(rdI x a)+⇑a<=⇑x:=by
 show⟨λb l=>?_,by delta rdI;rw[bb];show jO h⟩;delta rdI at l;obtain⟨t,m,rfl⟩:=gf.mp l;obtain⟨n,o⟩:=jN m;have p:=sortI_perm (a++[t]);show⟨⟨?_,λu d=>?_⟩,?_⟩
 .delta aG;show p.nodup_iff.mpr (rh.mpr ⟨h.1,by simp,λu d v j e=>?_⟩);rw[dh] at j;subst j;subst e;show o d
 .delta aG at d;rcases ij.1 (p.mem_iff.mp d) with z|z
  .exact h.2 u z
  .rw [dh] at z;subst z;show n
 .delta aG;rw[p.length_eq];simp
def oD(h:PD x a):⇑a<=⇑x:=by have:=jO h;lia
def IU:PD x []:=⟨uu,λt a=>by cases a⟩
end LL
namespace Z4
noncomputable def fact:Nat->Int
 |0=>1
 |k+1=>fact k*(k+1)
noncomputable def ff(x:Int):Nat->Int
 |0=>1
 |k+1=>ff x k*(x-k)
theorem oF:∀k,0<fact k
 |0=>by decide
 |k+1=>Int.mul_pos (oF k) ∅
theorem IV(x:Int):∀k,ff (x+1) (k+1)=(x+1)*ff x k
 |0=>by simp[ff]
 |k+1=>by rw[show ff (x+1) (k+1+1)=ff (x+1) (k+1)*(x+1-((k+1:Nat):Int)) from rfl,IV x k,show ff x (k+1)=ff x k*(x-k) from rfl,xb];congr 2;lia
def AH(x:Int)(k:Nat):ff (x+1) (k+1)=ff x (k+1)+(k+1)*ff x k:=by rw[IV,show ff x (k+1)=ff x k*(x-k) from rfl,qc (ff x k),<- r6];congr 1;lia
theorem IW:∀k,ff 0 (k+1)=0
 |0=>by simp[ff]
 |k+1=>by rw[show ff 0 (k+1+1)=ff 0 (k+1)*_ from rfl,IW k,k_]
theorem PF:∀(k:Nat) (x:Int),fact k ∣ ff x k
 |0,x=>by simp[fact,ff]
 |k+1,x=>by
  have a:∀y:Int,fact (k+1) ∣ (k+1)*ff y k:=λy=>by obtain⟨c,e⟩:=PF k y;show⟨c,by rw[e,show fact (k+1)=fact k*(k+1) from rfl,<- xb,qc (k+1:Int)]⟩
  have up:∀y:Int,fact (k+1) ∣ ff y (k+1)->fact (k+1) ∣ ff (y+1) (k+1):=λy h=>by rw[AH];show Int.dvd_add h (a y)
  have dn:∀y:Int,fact (k+1) ∣ ff (y+1) (k+1)->fact (k+1) ∣ ff y (k+1):=λy h=>by rw[AH] at h;show(Int.dvd_add_left (a y)).mp h
  have d:fact (k+1) ∣ ff 0 (k+1):=by rw[IW];show Int.dvd_zero _
  have j:∀n:Nat,fact (k+1) ∣ ff (n:Int) (k+1):=λn=>by
   induction n with
   |zero=>show d
   |succ n ih=>show up _ ih
  have neg:∀n:Nat,fact (k+1) ∣ ff (-(n:Int)) (k+1):=λn=>by
   induction n with
   |zero=>show d
   |succ n ih=>show dn _ (by rw[show -((n+1:Nat):Int)+1=-(n:Int) by lia];show ih)
  rcases Int.le_total 0 x with l|l
  .have:=j x.toNat;rwa [show((x.toNat:Nat):Int)=x by lia] at this
  .have:=neg (-x).toNat;rwa [show -(((-x).toNat:Nat):Int)=x by lia] at this
--CUT
def C(x:Int)(m:Nat):Int:=ff x m/fact m
def yC(x:Int)(m:Nat):C x m*fact m=ff x m:=Int.ediv_mul_cancel (PF m x)
def Ec(h:c*fact m=ff x m):c=C x m:=a2K (a2F (oF m)) (h.trans (yC x m).symm)
def GA(x:Int):C x 0=1:=rfl
def PH(x:Int)(m:Nat):C (x+1) (m+1)=C x (m+1)+C x m:=by show(Ec ?_).symm;rw[r6,yC,show fact (m+1)=fact m*(m+1) from rfl,<- xb,yC,AH,qc (ff x m)]
theorem IX:∀{m:Nat},x<m->ff (x:Int) m=0
 |m+1,h=>by
  show ff (x:Int) m*((x:Int)-(m:Int))=0;by_cases e:x=m
  .subst e;rw[Int.sub_self,Bs]
  .rw [IX ∅,k_]
theorem PJ{x:Int}{m:Nat}(a:0<=x)(h:x<m):C x m=0:=by show(Ec ?_).symm;obtain⟨n,rfl⟩:∃n:Nat,x=(n:Int):=⟨x.toNat,∅⟩;rw[IX ∅,k_]
def Df(f:Int->Int):Int->Int:=λx=>f (x+1)-f x
noncomputable def It(j:Nat)(f:Int->Int):Int->Int:=match j with
 |0=>f
 |j+1=>It j (Df f)
noncomputable def diffs:List Int->List Int
 |a::b::l=>(b-a)::diffs (b::l)
 |_=>[]
theorem g4:∀l:Q0e,⇑(diffs l)=⇑l-1
 |[]=>rfl
 |[_]=>rfl
 |a::b::l=>by rw[diffs,fj,g4 (b::l)];simp
def fd(l:Q0e):List Int:=match l with
 |[]=>[]
 |a::r=>a::fd (diffs (a::r))
termination_by ⇑l
decreasing_by rw[g4];simp
def PK:fd []=[]:=by rw[fd]
theorem AI(a:Int)(r:Q0e):fd (a::r)=a::fd (diffs (a::r)):=by rw[fd]
noncomputable def vals(f:Int->Int):Nat->Int->List Int
 |0,_=>[]
 |n+1,x=>f x::vals f n (x+1)
theorem uT(f:Int->Int):∀(n:Nat) (x:Int),diffs (vals f (n+1) x)=vals (Df f) n x
 |0,x=>rfl
 |n+1,x=>by have a:=uT f n (x+1);show(f (x+1)-f x)::diffs (vals f (n+1) (x+1))=(f (x+1)-f x)::vals (Df f) n (x+1);rw[a]
theorem V5(f:Int->Int)(n:Nat):fd (vals f (n+1) 0)=f 0::fd (vals (Df f) n 0):=by show fd (f 0::vals f n (0+1))=_;rw[AI];congr 1;show congrArg fd (uT f n 0)
def DV(n:Nat)(d:Int):List Int->Int->Int
 |[],_=>0
 |w::l,k=>w*C (k+n-1-d) n+DV n (d+1) l k
theorem yD:∀(a b:Q0e) (d:Int),DV n d (a++b) k=DV n d a k+DV n (d+⇑a) b k
 |[],b,d=>by simp[DV]
 |w::a,b,d=>by show w*C (k+n-1-d) n+DV n (d+1) (a++b) k=w*C (k+n-1-d) n+DV n (d+1) a k+DV n (d+(⇑a+1:Nat)) b k;rw[yD a b (d+1),show d+1+(⇑a:Int)=d+(⇑a+1:Nat) by lia];lia
theorem yE:∀(n:Nat) (l:Q0e),⇑l=n->⇑(fd l)=n
 |0,l,h=>by rw[ng.mp h,PK];rfl
 |n+1,[],h=>by simp at h
 |n+1,a::r,h=>by rw[AI,fj,yE n _ (by rw[g4,h];rfl)]
theorem lJ(f:Int->Int):∀n x,⇑(vals f n x)=n
 |0,_=>rfl
 |n+1,x=>by rw[vals,fj,lJ f n]
def Bg(b:Nat)(x:Int):Prop:=x.natAbs<2^b
def Bg.mono(h:Bg a x)(d:a<=b):Bg b x:=gm h (mz ∅ d)
def Bg.mul(h:Bg a x)(g:Bg b y):Bg (a+b) (x*y):=by delta Bg at *;rw[a1Y,a2G];show Nat.mul_lt_mul_of_lt_of_lt h g
def Bg.sub(h:Bg a x)(g:Bg a y):Bg (a+1) (x-y):=by delta Bg at *;rw[a1X];generalize 2^a=z at *;lia
end Z4
namespace LL
open L3 L4
def i7:kN:=c7 2 2
  (b8 (bO 2 [] (uC (aA b9 (bM 1))) (g2 0 1) bV (aC dF b9 dC)))
def bK:kN:=c7 1 1
  (b8 (aC dF (fB (aA (eI 0) aH)) (IE b9 LO (oE (tR (eI 1))))))
def a9:Nat->sC
 |0=>λ_ _=>.no
 |n+1=>runM 8 4
  ((aL (bF 4 (gQ (aA dC (bM 2))))
  (iX (tV (aC (uB af) kO xU))
   (aL (jK 5 (aC repLM (fB (aA (eI 0) aH)) (cM xV (aA (cM cB (bM 0)) (aA (eI 1) aH)))))
   (aL (iX (tV (aC rD (cM cB (bM 1)) (cM cB (bM 0))))
    (LR 5 (aZ (eI 1)) (eI 0))
    eG)
   (aL (zk 5 (fC (bP (aO LL.cP (aA b9 (bM 1)))) (t9 6)
    (aL (pR 7 (a9 n) (aA b9 (aA (aO LL.eK (aA dC (bM 6))) (bM 6))) 3)
    (bF 5 (aO LL.i7 (aA mO (aA (VC (tV (aC FJ fO OE)) (aO LL.bK (bM 7)) qj) aH)))))))
   (iE 3 (aZ mO) kO))))
   eG)))
  kO
def i8:kN:=c7 2 1
  (aL (II 1)
  (aL (LU (LL.a9 11) (aA b9 (aA (gQ aH) (aA (eI 0) aH))) 1)
  (b8 dC)))
def dA:kN:=c7 1 1
  (b8 (cM dO (aA (aC Ef (aO LL.i8 (bM 0)) (gQ (aA (gQ aH) (aA (eI 0) aH)))) aH)))
def oG:kN:=c7 4 2
  (aL (bF 2 (eI 1))
  (aL (fC (bZ (bM 1)) (t9 3)
   (bF 2 (aC sA (aC mulM fO (aC nO b9 xU)) (aC dF xU (eI 1)))))
  (b8 fO)))
def dH:kN:=c7 3 3
  (b8 (cM FR (aA (bO 2 [1,2] (nQ (bM 0)) (g2 0 1) bV (aC mulM dC (aO LL.oG (aA (aC nO (aC nO (aC dF xU fO) (eI 1)) b9) (bM 2))))) aH)))
def dI:kN:=c7 3 1
  (aL (jK 1 (fB aH))
  (aL (bF 2 b9)
  (aL (uA mU (tV fO)
   (aL (sX (mP 1 gW (aZ (aC gT fO (eI 0)))))
   (bF 2 (bO 2 [] (uC (aA fO (aA (IE fO (oE (eI 1)) LO) aH))) (g2 0 1) bV (aC nO dC b9)))))
  (b8 (cM dO (bM 1))))))
def eF:kN:=c7 3 1
  (aL (bF 1 (cM cB (bM 0)))
  (aL (bF 2 (aO LL.dA (bM 0)))
  (b8 (aO LL.dI (aA (bO 1 [2,1] (bZ (aA (aC dF dC (eI 1)) aH)) (g1 0) bV (aO LL.dH (aA dC (aA fO (bM 0))))) aH)))))
def mB:kN:=c7 2 2
  (aL (iX (OL (nN (tV (iW "tuple" b9))) (tV (aC neM (cM cB (bM 0)) dC)))
   (b8 (eC (.bl ah)))
   eG)
  (b8 (cM allM (aA (bO 1 [] (bP b9) (g1 0) bV (k5 (iW "int" b9) (tQ (iW "bool" b9)))) aH))))
def mC:kN:=c7 1 1
  (b8 (bO 1 [] (bP b9) (g1 0) bV (cM FR (aA (bO 1 [] (bP b9) (g1 0) bV (aC VJ (eI 1) b9)) aH))))
def eL{ks:List rF}{k a:rF}{v:D}:∀{ks:List rF} {ds:List D},⇑ks=⇑ds->aQ (cL ks ds k v).1 (cL ks ds k v).2 a=if a=k then ae v else aQ ks ds a:=by
 intro ks ds j;delta cL;split
 .rename_i hc;have go:∀(ks:List rF) (ds:List D),⇑ks=⇑ds->aQ ks ((ks.zip ds).map λp=>if p.1=k then v else p.2) a=if a=k then(aQ ks ds a).map (λ_=>v) else aQ ks ds a:=by
   intro ks
   induction ks with
   |nil=>intro ds _;simp[aQ]
   |cons q ks ih =>
    intro ds j
    cases ds with
    |nil=>simp at j
    |cons d ds =>
     have:=ih ds ↑j;delta aQ at this ⊢;by_cases l:q=a
     .subst l;by_cases h2:q=k
      .simp [h2]
      .simp [h2]
     .simpa [l] using this
  have m:k∈ks:=by rw[I_] at hc;obtain⟨q,n,e⟩:=hc;rw[<- of_decide_eq_true e];show n
  have some_of:∀(ks:List rF) (ds:List D),⇑ks=⇑ds->k∈ks ->∃d,aQ ks ds k=ae d:=by
   intro ks
   induction ks with
   |nil=>intro ds _ h;cases h
   |cons q ks ih =>
    intro ds j h
    cases ds with
    |nil=>simp at j
    |cons d ds =>
     by_cases l:q=k
     .exact ⟨d,by simp[aQ,l]⟩
     .obtain ⟨d',e⟩:=ih ds ↑j ((cg.1 h).resolve_left (gb l));show⟨d',by delta aQ at e ⊢;simpa[l] using e⟩
  rw[go ks ds j];by_cases h:a=k
  .subst h;obtain⟨d,e⟩:=some_of ks ds j m;rw[e];simp
  .rw [Zz h,Zz h]
 .rename_i hc;have x:k∉ks:=λh=>hc (I_.2 ⟨k,h,by simp⟩);delta aQ;dsimp only;rw[a2b j,List.find?_append];by_cases h:a=k
  .subst h;have:((ks.zip ds).find? λp=>Zv (p.1=a))=ag:=by rw[List.find?_eq_none];intro p o;have:=rf o;erw[decide_eq_true_eq];show λe=>x (e▸this.1)
   rw[this];simp
  .rw [Zz h];have:([k].zip [v]).find? (λp=>Zv (p.1=a))=ag:=by simp[gb h]
   rw[this,Option.or_none]
def oH{ks:List rF}{ds:List D}{k:rF}{v:D}(h:⇑ks=⇑ds):⇑(cL ks ds k v).1=⇑(cL ks ds k v).2/\⇑(cL ks ds k v).1<=⇑ks+1:=by
 delta cL;split
 .simp [h]
 .simp [h]
def yF{ks:List rF}{ds:List D}{k:rF}{v:D}(h:∀q∈ks,q.isLeft=ah)(d:k.isLeft=ah):∀q∈(cL ks ds k v).1,q.isLeft=ah:=by
 delta cL;split
 .exact h
 .intro q a;rcases ij.1 a with z|z
  .exact h q z
  .rw [dh.1 z];show d
def fH(h:∀q∈ks,q.isLeft=ah)(d:k.isLeft=ah):kindB ks k=af:=by delta kindB;rw[jk];intro q a;rw[h q a,d];rfl
theorem yG:∀a:Q0e,xX (a.map D.int)=ae (a.map dm)
 |[]=>rfl
 |x::a=>by rw[bu,xX,yG a];rfl
def kS(a:Q0e)(l:Int):rF:=.inr [.inr (a.map dm),.inl (.inl l)]
def IY(a:Q0e)(l:Int):lB (.tup [τ a,.int l])=ae (kS a l):=by
 have e:OS (τ a)=ae (.inr (a.map dm)):=by show(xX (a.map D.int)).map jt=_;rw[yG];rfl
 show(k9 [τ a,.int l]).map jt=_;delta k9;rw[e];rfl
theorem IZ:∀{a b:Q0e},a.map (dm:Int->wZ)=b.map dm->a=b
 |[],[],_=>rfl
 |[],_::_,h=>by simp at h
 |_::_,[],h=>by simp at h
 |x::a,y::b,h=>by erw[bu,Bn,Fo] at h;rw[h.1,IZ h.2]
theorem PM{a b:Q0e}{l m:Int}(h:kS a l=kS b m):a=b/\l=m:=by delta kS at h;erw[a0a,Bn,Fo,and_true] at h;show⟨IZ h.1,h.2⟩
def g5(a b:Q0e):List Int:=(a.zip b).map λp=>p.1+p.2
def gR(l:Q0e):List Int:=0::l.dropLast
def AJ(n:Nat):List Int:=1::cc (max n 1-1) 0
def w9(n:Nat):List Int:=cc (max n 1) 0
section
variable(x:Q0a)
def Sh:Nat->List Int->Int->List Int
 |0,_,_=>AJ ⇑x
 |m+1,a,l=>(aV x a).foldl (λd t=>g5 d (if t<l then gR (Sh m (aG a t) t) else Sh m (aG a t) t)) (w9 ⇑x)
end
def CZ(h:⇑a<=1000):i7 [aB a,aB b]=.ok (aB (g5 a b)):=by
 delta i7 g5;show fF rfl (fP (eT ((a.zip b).map λp=>D.tup [.int p.1,.int p.2]) ?_ ?_ ?_))
 .delta uC;rw[args2 (x:=aB a) (y:=aB b) rfl rfl];show ae (((a.map D.int).zip (b.map D.int)).map _)=_;rw[a2a,di];rfl
 .rw [bb,a2m];lia
 .rw [cC (λp:Int×Int=>D.tup [.int p.1,.int p.2]) (λp=>.int (p.1+p.2)) (a.zip b) λp _=>⟨[ae (.int p.1),ae (.int p.2)],rfl,rfl⟩,di];rfl
def V6(d:1<=⇑a)(h:⇑a<=1000):bK [aB a]=.ok (aB (gR a)):=by
 delta bK;show fF rfl (fP (dD (x:=aB [0]) (y:=aB a.dropLast) rfl ?_ ?_))
 .show ae (D.lst (CG (a.map D.int) ag (ae (-1))))=_;delta aB CG LP;rw[bb];erw[wg,p_];rw[Z_ ⋯,show((-1:Int)+(⇑a:Int)).toNat=⇑a-1 by lia,<- List.map_take,List.dropLast_eq_take]
 .show (if _ then _ else _)=_;rw[Z_ (by simp[jJ];lia)];rfl
def eM(h:⇑a=⇑b):⇑(g5 a b)=⇑a:=by delta g5;simp[h]
def gJ(h:1<=⇑a):⇑(gR a)=⇑a:=by delta gR;simp;lia
def j6(n:Nat):⇑(w9 n)=max n 1:=by simp[w9]
def C0(n:Nat):⇑(AJ n)=max n 1:=by simp[AJ];lia
theorem hW(x:Q0a):∀(m:Nat) (a:Q0e) (l:Int),⇑(Sh x m a l)=max ⇑x 1
 |0,a,l=>C0 _
 |m+1,a,l=>by
  delta Sh;have go:∀(j:Q0e) (d:Q0e),⇑d=max ⇑x 1->⇑(j.foldl (λd t=>g5 d (if t<l then gR (Sh x m (aG a t) t) else Sh x m (aG a t) t)) d)=max ⇑x 1:=by
   intro j
   induction j with
   |nil=>intro d h;show h
   |cons t j ih =>
    intro d h;rw[jr];show ih _ ?_;rw[eM]
    .exact h
    .rw [h];have:=hW x m (aG a t) t;split
     .rw [gJ ∅];show this.symm
     .exact this.symm
  show go _ _ (j6 _)
noncomputable def most:Nat->Nat
 |0=>1
 |m+1=>1+(m+1)*most m
def gK(x:Q0a)(kd:KD):Prop:=⇑kd.1=⇑kd.2/\(∀q∈kd.1,q.isLeft=ah)/\(∀a l d,aQ kd.1 kd.2 (kS a l)=ae d->d=aB (Sh x (⇑x-⇑a) a l)) /\∀a l,(aQ kd.1 kd.2 (kS a l)).isSome=af->⇑a<⇑x ->∀t∈aV x a,(aQ kd.1 kd.2 (kS (aG a t) t)).isSome=af
def AK(kd a:KD):Prop:=∀k,(aQ kd.1 kd.2 k).isSome=af->(aQ a.1 a.2 k).isSome=af
def gK.put{x:Q0a}{kd:KD}(h:gK x kd)(a:Q0e)(l:Int)(o:⇑a<⇑x ->∀t∈aV x a,(aQ kd.1 kd.2 (kS (aG a t) t)).isSome=af):gK x (cL kd.1 kd.2 (kS a l) (aB (Sh x (⇑x-⇑a) a l))):=by
 have up:∀k,(aQ kd.1 kd.2 k).isSome=af->(aQ (cL kd.1 kd.2 (kS a l) (aB (Sh x (⇑x-⇑a) a l))).1 (cL kd.1 kd.2 (kS a l) (aB (Sh x (⇑x-⇑a) a l))).2 k).isSome=af:=λk e=>by
  rw[eL (ks:=[]) h.1];split
  .rfl
  .exact e
 show⟨(oH h.1).1,yF h.2.1 rfl,λb m d e=>?_,λb m e n t j=>?_⟩
 .rw [eL (ks:=[]) h.1] at e;split at e
  .rename_i hk;obtain⟨rfl,rfl⟩:=PM hk;show(dg e).symm
  .exact h.2.2.1 b m d e
 .rw [eL (ks:=[]) h.1] at e;split at e
  .rename_i hk;obtain⟨rfl,rfl⟩:=PM hk;show up _ (o n t j)
  .exact up _ (h.2.2.2 b m e n t j)
def mQ(x:Q0a)(a:Q0e)(l:Int)(q:Nat->ay->Prop)(kd:KD)(s v6 v7:Sv):bB:=[.ro (aF x),.ro (τ a),.ri l,.ow (.aY q kd.1 kd.2),.ro (.tup [τ a,.int l]),s,v6,v7]
def zg(h:gK x kd):tV (aC (uB af) kO xU) (bH (mQ x a l q kd s v6 v7))=ae (!(aQ kd.1 kd.2 (kS a l)).isSome):=by show sS (d:=.bl (!(aQ kd.1 kd.2 (kS a l)).isSome)) (dD (x:=.tup [τ a,.int l]) (y:=.aY q kd.1 kd.2) rfl rfl ?_) rfl;show((lB (.tup [τ a,.int l])).bind _)=_;rw[IY];show(if _ then _ else _)=_;rw[Z_ (fH h.2.1 rfl)];rfl
def Z5(h:gK x kd)(m:∀b o,q b o ->∃o2,q0 b o2)(n:aQ kd.1 kd.2 (kS a l)=ae d):zU 3 kO q0 (mQ x a l q kd s v6 v7)=ae (d,kd):=by have e:zU 3 kO q0 (mQ x a l q kd s v6 v7)=(lB (.tup [τ a,.int l])).bind λj=>@ite _ (kindB kd.1 j=af /\∀b o,q b o ->∃o2,q0 b o2) (qe _) ((aQ kd.1 kd.2 j).map λd=>(d,kd)) ag:=rfl;rw[e,IY];show(Z_ ⟨fH h.2.1 rfl,m⟩).trans (by rw[n];rfl)
theorem rep0(n:Nat)(h:n<=1000):repLM (.lst [.int 0]) (.int (n:Int))=ae (aB (cc n 0)):=by
 show(if _ then _ else _)=_;rw[Z_ ⟨by simp[jJ];lia,∅⟩];delta aB;congr 2;erw[gj]
 induction n with
 |zero=>rfl
 |succ n ih=>rw[gx,ml,ih ∅,gx];rfl
def uU(h:PD x a)(d:⇑a=⇑x):aV x a=[]:=by have:=jO h;show a2y ∅
def JA(a:⇑x<=9)(h:ρ[0]?=ae (ae (aF x))):aC repLM (fB (aA (eI 0) aH)) (cM xV (aA (cM cB (bM 0)) (aA (eI 1) aH))) ρ=ae (aB (w9 ⇑x)):=by
 have e0:bE 0 ρ=ae (aF x):=by delta bE;rw[h];rfl
 show dD (x:=.lst [.int 0]) (y:=.int ((max ⇑x 1:Nat):Int)) rfl (Tu (x:=.int ⇑x) (y:=.int 1) (c8 e0 gZ) rfl ?_) (rep0 _ ∅);show ae (D.int (if _ then _ else _))=_;split<;>congr 2<;>lia
def oI(j:ρ[0]?=ae (ae (aF x)))(h:ρ[1]?=ae (ae (τ a))):tV (aC rD (cM cB (bM 1)) (cM cB (bM 0))) ρ=ae (Zv (⇑a=⇑x)):=by
 have e0:bE 0 ρ=ae (aF x):=by delta bE;rw[j];rfl
 have e1:bE 1 ρ=ae (τ a):=by delta bE;rw[h];rfl
 show sS (d:=.bl (Zv ((⇑a:Int)=⇑x))) (dD (c8 e1 CS) (c8 e0 gZ) gF) ?_;rw[jM];congr 1;show decide_eq_decide.2 ∅
def sE(x:Q0a)(kd:KD)(a:Q0e)(l:Int):KD:=cL kd.1 kd.2 (kS a l) (aB (Sh x (⇑x-⇑a) a l))
def JB{x:Q0a}{kd:KD}{a:Q0e}{l:Int}(h:gK x kd)(d:⇑a<⇑x ->∀t∈aV x a,(aQ kd.1 kd.2 (kS (aG a t) t)).isSome=af):gK x (sE x kd a l)/\⇑(sE x kd a l).1<=⇑kd.1+1/\aQ (sE x kd a l).1 (sE x kd a l).2 (kS a l)=ae (aB (Sh x (⇑x-⇑a) a l))/\AK kd (sE x kd a l) :=
 ⟨h.put a l d,(oH h.1).2,by delta sE;rw[eL (ks:=[]) h.1,Z_ rfl],λk e=>by
  delta sE;rw[eL (ks:=[]) h.1];split
  .rfl
  .exact e⟩
theorem Z6(h:gK x kd)(j:⇑kd.1<16000000):
  iE 3 (aZ mO) kO (mQ x a l q kd (.ro (aB (Sh x (⇑x-⇑a) a l))) v6 v7)=.nx (mQ x a l (adr q) (sE x kd a l) (.ro (aB (Sh x (⇑x-⇑a) a l))) v6 v7):=by
 have e0:iE 3 (aZ mO) kO (mQ x a l q kd (.ro (aB (Sh x (⇑x-⇑a) a l))) v6 v7)=(match ((lB (.tup [τ a,.int l])).bind λd=>if kindB kd.1 d=af/\⇑kd.2<jJ then ae ((mQ x a l q kd (.ro (aB (Sh x (⇑x-⇑a) a l))) v6 v7).set 3 (.ow (.aY (adr q) (cL kd.1 kd.2 d (aB (Sh x (⇑x-⇑a) a l))).1 (cL kd.1 kd.2 d (aB (Sh x (⇑x-⇑a) a l))).2))) else ag) with
  |some ρ'=>.nx ρ'
  |none=>.no):=rfl
 rw[e0,IY,eg,Z_ ⟨fH h.2.1 rfl,by rw[<- h.1];delta jJ;lia⟩];rfl
def Tr(h:ρ[5]?=ae (.ow (aB (0::r)))):LR 5 (aZ (eI 1)) (eI 0) ρ=.nx (ρ.set 5 (.ow (aB (1::r)))):=by
 have e:LR 5 (aZ (eI 1)) (eI 0) ρ=(match ((k7 ρ[5]?).bind λds=>(OM ⇑ds 0).map λj=>ρ.set 5 (.ow (.lst (ds.set j (.int 1))))) with
  |some ρ'=>.nx ρ'
  |none=>.no):=rfl
 rw[e,h]
 show(match ((OM ⇑((0::r).map D.int) 0).map λj=>ρ.set 5 (.ow (.lst (((0::r).map D.int).set j (.int 1))))) with
  |some ρ'=>Out.nx ρ'
  |none=>.no)=_
 rw[uM ⋯ (by simp)];rfl
abbrev bS(n:Nat):SF:=(aL (bF 4 (gQ (aA dC (bM 2))))
  (iX (tV (aC (uB af) kO xU))
   (aL (jK 5 (aC repLM (fB (aA (eI 0) aH)) (cM xV (aA (cM cB (bM 0)) (aA (eI 1) aH)))))
   (aL (iX (tV (aC rD (cM cB (bM 1)) (cM cB (bM 0))))
    (LR 5 (aZ (eI 1)) (eI 0))
    eG)
   (aL (zk 5 (fC (bP (aO LL.cP (aA b9 (bM 1)))) (t9 6)
    (aL (pR 7 (a9 n) (aA b9 (aA (aO LL.eK (aA dC (bM 6))) (bM 6))) 3)
    (bF 5 (aO i7 (aA mO (aA (VC (tV (aC FJ fO OE)) (aO bK (bM 7)) qj) aH)))))))
   (iE 3 (aZ mO) kO))))
   eG))
theorem sW(h:gK x kd)
  (there:∀d',aQ kd.1 kd.2 (kS a l)=ae d'->d'=d/\iU=kd)
  (new:aQ kd.1 kd.2 (kS a l)=ag ->∀q,∃q2 j p v6 v7,(∀b o,q2 b o ->∃o2,q b o2)/\bS n (startM 8 [aF x,τ a,.int l] q kd)=.nx (mQ x a l q2 j p v6 v7)/\gK x j/\aQ j.1 j.2 (kS a l)=ae d/\j=iU):
  a9 (n+1) [aF x,τ a,.int l] kd=.ok (d,iU):=by
 delta a9;show zV λq=>?_
 have e1:nU 8 4 (bS n) kO q [aF x,τ a,.int l] kd=(match bS n (startM 8 [aF x,τ a,.int l] q kd) with
  |.nx ρ=>zU 3 kO q ρ
  |_=>ag):=rfl
 show e1.trans ?_
 cases hl:aQ kd.1 kd.2 (kS a l) with
 |some d' =>
  obtain⟨rfl,rfl⟩:=there d' hl;have A:bS n (startM 8 [aF x,τ a,.int l] q iU)=.nx (mQ x a l q iU .no .no .no):=by show bN (mQ x a l q iU .no .no .no) (fQ (.tup [τ a,.int l]) rfl rfl) ?_;show p7 ?_ rfl;rw[zg h,hl];rfl
  rw[A];show Z5 h (λb o ho=>⟨o,ho⟩) hl
 |none =>
  obtain⟨q2,j,p,v6,v7,v,z,y,m,rfl⟩:=new hl q;rw[z];show Z5 y v m
def Z7(j:a ρ=ae x)(h:b ρ=ae y)(d:c ρ=ae z):aA a (aA b (aA c aH)) ρ=ae [x,y,z]:=by have:=args2 h d;delta aA at this ⊢;rw[j,this];rfl
abbrev lS(n:Nat):SF:=aL (pR 7 (a9 n) (aA b9 (aA (aO LL.eK (aA dC (bM 6))) (bM 6))) 3)
    (bF 5 (aO i7 (aA mO (aA (VC (tV (aC FJ fO OE)) (aO bK (bM 7)) qj) aH))))
def iK(x:Q0a)(m:Nat)(a:Q0e)(l:Int)(d:Q0e)(t:Int):List Int:=g5 d (if t<l then gR (Sh x m (aG a t) t) else Sh x m (aG a t) t)
theorem aAr(j:⇑a<=9)(z:⇑x<=9)(d:⇑ψ=max ⇑x 1)
  (o:a9 n [aF x,τ (aG a t),.int t] kd=.ok (aB (Sh x m (aG a t) t),iU)):
  lS n (mQ x a l q kd (.ro (aB ψ)) (.ro (.int t)) v7)=.nx (mQ x a l (adr q) iU (.ro (aB (iK x m a l ψ t))) (.ro (.int t)) (.ro (aB (Sh x m (aG a t) t)))):=by
 have A:=hW x m (aG a t) t;show bN (mQ x a l (adr q) iU (.ro (aB ψ)) (.ro (.int t)) (.ro (aB (Sh x m (aG a t) t)))) ?_ ?_
 .have e:stepM (a9 n) (aA b9 (aA (aO LL.eK (aA dC (bM 6))) (bM 6))) 3 (mQ x a l q kd (.ro (aB ψ)) (.ro (.int t)) v7)=ae (q,aB (Sh x m (aG a t) t),iU):=by
   delta stepM;have e1:aA b9 (aA (aO LL.eK (aA dC (bM 6))) (bM 6)) (fZ (mQ x a l q kd (.ro (aB ψ)) (.ro (.int t)) v7))=ae [aF x,τ (aG a t),.int t]:=by have y:aO LL.eK (aA dC (bM 6)) (fZ (mQ x a l q kd (.ro (aB ψ)) (.ro (.int t)) v7))=ae (τ (aG a t)):=dQ rfl rfl (yB j);show Z7 rfl y rfl
   rw[e1,eg]
   show(match a9 n [aF x,τ (aG a t),.int t] kd with
    |.ok r=>ae (q,r)
    |_=>ag)=_
   rw[o]
  delta pR;rw[e];rfl
 .refine fQ (aB (iK x m a l ψ t)) ?_ rfl;have v:VC (tV (aC FJ fO OE)) (aO bK (bM 7)) qj (fZ (mQ x a l (adr q) iU (.ro (aB ψ)) (.ro (.int t)) (.ro (aB (Sh x m (aG a t) t)))))=ae (aB (if t<l then gR (Sh x m (aG a t) t) else Sh x m (aG a t) t)):=by
   have p:tV (aC FJ fO OE) (fZ (mQ x a l (adr q) iU (.ro (aB ψ)) (.ro (.int t)) (.ro (aB (Sh x m (aG a t) t)))))=ae (Zv (t<l)):=rfl;delta VC;rw[p,eg];by_cases h:t<l
   .rw [Zx h,Z_ rfl,Z_ h];show fG rfl (V6 ∅ ∅)
   .rw [Zy h,Zz ⋯,Zz h];rfl
  show dQ rfl v (CZ ∅)
theorem PN(U:⇑a<=9)(O:⇑x<=9):∀(h:Q0e) (j:Q0e) (kd:KD),⇑j=max ⇑x 1->gK x kd ->
  (∀t∈h,∀kd,gK x kd->⇑kd.1+most m<=10000000 ->∃p,a9 n [aF x,τ (aG a t),.int t] kd=.ok (aB (Sh x m (aG a t) t),p)/\gK x p/\⇑p.1<=⇑kd.1+most m/\AK kd p/\(aQ p.1 p.2 (kS (aG a t) t)).isSome=af) ->
  ⇑kd.1+⇑h*most m<=10000000 ->
  ∃d,gK x d/\⇑d.1<=⇑kd.1+⇑h*most m/\AK kd d/\(∀t∈h,(aQ d.1 d.2 (kS (aG a t) t)).isSome=af) /\∀(y q:Nat->ay->Prop) (v6 v7:Sv),(∀b o,q b o ->∃o2,y b o2) ->∃(q2:Nat->ay->Prop) (F A:Sv),(∀b o,q2 b o ->∃o2,y b o2) /\
   gU (t9 6) (lS n) (h.map D.int) (mQ x a l q kd (.ro (aB j)) v6 v7)=.nx (mQ x a l q2 d (.ro (aB (h.foldl (iK x m a l) j))) F A)
 |[],j,kd,hacc,hM,_,_=>⟨kd,hM,by simp,λ_ e=>e,λt Z=>(nomatch Z),λy q v6 v7 L=>⟨q,v6,v7,L,rfl⟩⟩
 |t::h,j,kd,hacc,hM,hR,hc=>by
  rw[fj,uh] at hc;obtain⟨kd1,e1,V7,hc1,I,in1⟩:=hR t de kd hM ∅;have X:=hW x m (aG a t) t;have Ys:⇑(iK x m a l j t)=max ⇑x 1:=by
   delta iK;rw[eM]
   .exact hacc
   .rw [hacc];split
    .rw [gJ ∅];show X.symm
    .exact X.symm
  obtain⟨d,Y,hc2,v,J,go⟩:=PN U O h (iK x m a l j t) kd1 Ys V7 (λu z=>hR u (fg _ z)) ∅;show⟨d,Y,by rw[fj,uh];lia,λk e=>v k (I k e),λu z=>?_,λy q v6 v7 L=>?_⟩
  .rcases cg.1 z with e|z
   .rw [e];show v _ in1
   .exact J u z
  obtain⟨q2,F,A,K,e2⟩:=go y (adr q) (.ro (.int t)) (.ro (aB (Sh x m (aG a t) t))) λb o ⟨o1,h1⟩=>L b o1 h1;show⟨q2,F,A,K,?_⟩;rw[bu,jr]
  have e3:gU (t9 6) (lS n) (D.int t::h.map D.int) (mQ x a l q kd (.ro (aB j)) v6 v7)=(match lS n (mQ x a l q kd (.ro (aB j)) (.ro (.int t)) v7) with
   |.nx ρ2=>gU (t9 6) (lS n) (h.map D.int) ρ2
   |o=>o):=rfl
  rw[e3,aAr U O hacc e1];show e2
theorem V8(v:⇑x<=9)(Y:∀r∈x,⇑r<=9):∀(m e:Nat) (a:Q0e) (l:Int) (kd:KD),PD x a->⇑a+m=⇑x->gK x kd->⇑kd.1+most m<=10000000 ->
  ∃p,a9 (m+1+e) [aF x,τ a,.int l] kd=.ok (aB (Sh x m a l),p)/\gK x p/\⇑p.1<=⇑kd.1+most m/\aQ p.1 p.2 (kS a l)=ae (aB (Sh x m a l))/\AK kd p:=by
 intro m
 induction m with
 |zero =>
  intro e a l kd ok A j hc;have A:⇑a=⇑x:=A;have m0:most 0=1:=rfl;have e0:⇑x-⇑a=0:=∅
  rw[show 0+1+e=e+1 by lia]
  cases hk:aQ kd.1 kd.2 (kS a l) with
  |some d =>
   have F:=j.2.2.1 a l d hk;rw[e0] at F;subst F;show⟨kd,sW j (λd' h'=>by rw[hk] at h';show⟨(dg h').symm,rfl⟩) (λh'=>by rw[hk] at h';cases h'),j,∅,hk,λ_ e=>e⟩
  |none =>
   obtain⟨p1,p2,p3,p4⟩:=JB (a:=a) (l:=l) j (λz=>∅);rw[e0] at p3;show⟨sE x kd a l,sW j (λd' h'=>by rw[hk] at h';cases h') λ_ q=>⟨adr q,sE x kd a l,.ro (aB (Sh x 0 a l)),.no,.no,λb o h=>h,?_,p1,p3,rfl⟩,p1,∅,p3,p4⟩
   .refine bN (mQ x a l q kd .no .no .no) (fQ (.tup [τ a,.int l]) rfl rfl) (LX ?_ ?_)
    .rw [zg j,hk];rfl
    .have ez:w9 ⇑x=0::cc (max ⇑x 1-1) 0:=by delta w9;rw[<- gx];congr 1;lia
     show bN (mQ x a l q kd (.ow (aB (w9 ⇑x))) .no .no) (by delta jK;rw[JA v rfl];rfl) ?_;show bN (mQ x a l q kd (.ow (aB (AJ ⇑x))) .no .no) (LX ((oI rfl rfl).trans (by rw[Zx A])) ?_) ?_
     .rw [ez];show Tr rfl
     show bN (mQ x a l q kd (.ro (aB (AJ ⇑x))) .no .no) ?_ ?_
     .show fC _ _ _ (mQ x a l q kd (.ro (aB (AJ ⇑x))) .no .no)=_;show VT [] ?_ rfl;delta bP;rw[dQ (x:=aF x) (y:=τ a) rfl rfl (uS v Y),uU ok A];rfl
     .have:=Z6 (x:=x) (a:=a) (l:=l) (q:=q) (kd:=kd) (v6:=.no) (v7:=.no) j ∅;rw[e0] at this;show this
 |succ m ih =>
  intro e a l kd ok A j hc;have mm:most (m+1)=1+(m+1)*most m:=rfl;have e0:⇑x-⇑a=m+1:=∅
  have Z:=jO ok;have ha:=oD ok;rw[show m+1+1+e=(m+1+e)+1 by lia]
  cases hk:aQ kd.1 kd.2 (kS a l) with
  |some d =>
   have F:=j.2.2.1 a l d hk;rw[e0] at F;subst F;show⟨kd,sW j (λd' h'=>by rw[hk] at h';show⟨(dg h').symm,rfl⟩) (λh'=>by rw[hk] at h';cases h'),j,∅,hk,λ_ e=>e⟩
  |none =>
   have hlen:⇑(aV x a)*most m<=(m+1)*most m:=a10 _ ∅;obtain⟨kd1,V7,hc1,sb,K,go⟩:=PN (n:=m+1+e) (m:=m) (l:=l) (by lia:⇑a<=9) v (aV x a) (w9 ⇑x) kd (j6 _) j (λt X kd U O=>(ih e (aG a t) t kd ((IT ok).1 _ (rj X)).1 (by have:=((IT ok).1 _ (rj X)).2;lia) U O).imp λ_ h=>⟨h.1,h.2.1,h.2.2.1,h.2.2.2.2,by rw[h.2.2.2.1];rfl⟩) ∅;obtain⟨p1,p2,p3,p4⟩:=JB (a:=a) (l:=l) V7 (λ_=>K);rw[e0] at p3;show⟨sE x kd1 a l,sW j (λd' h'=>by rw[hk] at h';cases h') λ_ q=>?_,p1,∅,p3,λk e=>p4 k (sb k e)⟩;obtain⟨q2,J,I,L,el⟩:=go q q .no .no λb o h=>⟨o,h⟩;show⟨adr q2,sE x kd1 a l,.ro (aB (Sh x (m+1) a l)),J,I,λb o ⟨o1,h1⟩=>L b o1 h1,?_,p1,p3,rfl⟩;show bN (mQ x a l q kd .no .no .no) (fQ (.tup [τ a,.int l]) rfl rfl) (LX ?_ ?_)
   .rw [zg j,hk];rfl
   .refine bN (mQ x a l q kd (.ow (aB (w9 ⇑x))) .no .no) (by delta jK;rw[JA v rfl];rfl) ?_;show bN (mQ x a l q kd (.ow (aB (w9 ⇑x))) .no .no) (p7 ((oI rfl rfl).trans (by rw[Zy ∅])) rfl) ?_;show bN (mQ x a l q2 kd1 (.ro (aB (Sh x (m+1) a l))) J I) ?_ ?_
    .show fC _ _ _ (mQ x a l q kd (.ro (aB (w9 ⇑x))) .no .no)=_;show VT ((aV x a).map D.int) ?_ el;delta bP;rw[dQ (x:=aF x) (y:=τ a) rfl rfl (uS v Y)];rfl
    .have:=Z6 (x:=x) (a:=a) (l:=l) (q:=q2) (kd:=kd1) (v6:=J) (v7:=I) V7 ∅;rw[e0] at this;show this
def PQ:∀{n:Nat},n<=9->most n<=1000000:=by
 intro n h;have:∀n,n<=9->most n<=1000000:=by decide
 show this n h
def shares(x:Q0a):List Int:=Sh x ⇑x [] 0
def uV{x:Q0a}(j:⇑x<=9)(m:∀r∈x,⇑r<=9):∃kd,i8 [aF x]=.ok (.aY (adr gX) kd.1 kd.2)/\gK x kd/\aQ kd.1 kd.2 (kS [] 0)=ae (aB (shares x)):=by
 obtain⟨kd,e,p,A,o,_⟩:=V8 j m ⇑x (10-⇑x) [] 0 ([],[]) IU (by simp) ⟨rfl,λq n=>(by cases n),λa l d h=>(by simp[aQ] at h),λa l h=>(by simp[aQ] at h)⟩ (by have:=PQ j;simp;lia);rw[show ⇑x+1+(10-⇑x)=11 by lia] at e;show⟨kd,?_,p,o⟩
 .delta i8;show fF rfl (bN [.ro (aF x),.ow (.aY gX [] [])] rfl (bN [.ro (aF x),.ow (.aY (adr gX) kd.1 kd.2)] ?_ (fP rfl)));have v:stepM (a9 11) (aA b9 (aA (gQ aH) (aA (eI 0) aH))) 1 [.ro (aF x),.ow (.aY gX [] [])]=ae (gX,aB (Sh x ⇑x [] 0),kd):=by
   delta stepM;rw[Z7 (x:=aF x) (y:=τ []) (z:=.int 0) rfl rfl rfl,eg]
   show(match a9 11 [aF x,τ [],.int 0] ([],[]) with
    |.ok r=>ae (gX,r)
    |_=>ag)=_
   rw[e]
  delta LU;rw[v];rfl
def LY(a:⇑x<=9)(d:∀r∈x,⇑r<=9):dA [aF x]=.ok (τ (shares x)):=by obtain⟨kd,e1,j,h⟩:=uV a d;delta dA;show fF rfl (fP (c8 (x:=aB (shares x)) (dD (x:=.aY (adr gX) kd.1 kd.2) (y:=.tup [τ [],.int 0]) (fG rfl e1) rfl ?_) rfl));show((lB (.tup [τ [],.int 0])).bind λk=>if kindB kd.1 k=af then aQ kd.1 kd.2 k else ag)=_;rw[IY,eg,Z_ (fH j.2.1 rfl)];show h
open Z4
theorem PR(a:Bg 210 x):∀m:Nat,m<=1000->Bg (211*m+1) (ff x m)
 |0,_=>by delta Bg ff;decide
 |m+1,h=>by
  have d:=PR a m ∅;have h2:Bg 211 (x-m):=by
   have:Bg 210 (m:Int):=by
    delta Bg;have:(m:Int).natAbs<2^10:=∅
    show gm this (mz ⋯ ⋯)
   show a.sub this
  show(d.mul h2).mono ∅
def Yr(a:Bg 210 x)(d:m<=1000):Bg (211*m+1) (C x m):=by
 have h:=PR a m d;have e:=yC x m;delta Bg at h ⊢;rw[<- e,a2G] at h;have:1<=(fact m).natAbs:=by have:=oF m;lia
 show Nat.lt_of_le_of_lt (Nat.le_mul_of_pos_right _ this) h
def aAt(x:Int)(i:Nat):C x i*(x-i)/((i:Int)+1)=C x (i+1):=by
 have a:=yC x i;have h2:=yC x (i+1);have e:C x i*(x-i)=C x (i+1)*((i:Int)+1):=by
  show a2K (a2F (oF i)) ?_;rw[show fact (i+1)=fact i*(i+1) from rfl,show ff x (i+1)=ff x i*(x-i) from rfl,<- a] at h2
  calc C x i*(x - (i:Int))*fact i=C x i*fact i*(x - (i:Int)):=by rw[Int.mul_right_comm]
   _=C x (i+1)*(fact i*((i:Int)+1)):=h2.symm
   _=C x (i+1)*((i:Int)+1)*fact i:=by rw[qc (fact i),xb]
 rw[e,Int.mul_ediv_cancel _ ∅]
def LZ{x:Int}{m:Nat}(a:Bg 210 x)(j:m<=12):oG [.int x,.int m]=.ok (.int (C x m)):=by
 delta oG;have h:Rt (aL (bF 2 (eI 1)) (aL (fC (bZ (bM 1)) (t9 3) (bF 2 (aC sA (aC mulM fO (aC nO b9 xU)) (aC dF xU (eI 1))))) (b8 fO)) (eD 4 [.int x,.int m])) λd=>d=.int (C x m):=by
  show cD [.ri x,.ri m,.ri 1,.no] rfl ?_;show lH (λρ=>∃v,ρ=[.ri x,.ri m,.ro (.int (C x m)),v]) ?_ λρ ⟨v,e⟩=>by subst e;show j5 _ rfl rfl
  show qC m (λi ρ=>∃v,ρ=[.ri x,.ri m,.ro (.int (C x i)),v]) rfl ∅ ⟨_,rfl⟩ (λi ρ l ⟨v,e⟩=>?_) λρ h=>h;subst e;show⟨_,rfl,qB (.int (C x (i+1))) (binI (x:=(C x i*(x-i))) (y:=((i:Int)+1)) (binI (x:=(C x i)) (y:=(x-i)) rfl rfl (V4 (p:=211*i+1) (q:=211) ∅ ∅ (Yr a ∅) ?_)) rfl ?_) ⟨_,rfl⟩⟩
  .have:Bg 210 (i:Int):=by
    delta Bg;have:(i:Int).natAbs<2^10:=∅
    show gm this (mz ⋯ ⋯)
   show a.sub this
  .rw [lG ∅ ∅,aAt]
 obtain⟨d,e,rfl⟩:=uP rfl h;show e
def dvL(n:Nat)(k:Int)(w:Q0e)(d:Nat):List Int:=(w.zipIdx d).map λp=>p.1*C (k+n-1-p.2) n
theorem JC(n:Nat)(k:Int):∀(w:Q0e) (d:Nat),(dvL n k w d).sum=DV n d w k
 |[],d=>rfl
 |a::w,d=>by have h:=JC n k w (d+1);show a*C (k+n-1-d) n+(dvL n k w (d+1)).sum=a*C (k+n-1-d) n+DV n ((d:Int)+1) w k;rw[h];rfl
def PU{k:Int}(d:Bg 208 k){a b:Nat}(j:a<=1000)(h:b<=1000):Bg 210 (k+a-1-b):=by
 delta Bg at d ⊢;have:(2:Nat)^210=4*2^208:=by rw[show 210=2+208 from rfl,a1Y]
 have h2:2000<2^208:=gm (by decide:2000<2^11) (mz ⋯ ⋯);rw[this];generalize 2^208=z at *;lia
def C2{w:Q0e}{n:Nat}{k:Int}(hw:⇑w<=20)(a:∀y∈w,y.natAbs<18446744073709551616)(h:n<=12)(l:Bg 208 k):dH [τ w,.int n,.int k]=.ok (.int (DV n 0 w k)):=by
 delta dH;have e:=JC n k w 0;rw[show((0:Nat):Int)=0 from rfl] at e;rw[<- e];show fF rfl (fP (c8 (x:=aB (dvL n k w 0)) ?_ sum_ints));show eT ((w.zipIdx).map λp=>D.tup [.int (p.2:Int),.int p.1]) ?_ (by simp;lia) ?_
 .delta nQ
  skip
  show ae (((w.map D.int).zipIdx).map _)=_;rw[zipIdx_map,di];rfl
 .delta dvL;rw[di];show cC (λp:Int×Nat=>D.tup [.int (p.2:Int),.int p.1]) (λp=>.int (p.1*C (k+n-1-p.2) n)) w.zipIdx λp d=>⟨[ae (.int p.2),ae (.int p.1),ae (.int n),ae (.int k)],rfl,?_⟩;have j:=List.mem_zipIdx d;have m:p.1∈w:=by have:=j.2.2;rw[this];show wx _
  show binI (x:=p.1) (y:=(C (k+n-1-p.2) n)) rfl (dQ (x:=.int (k+n-1-p.2)) (y:=.int n) rfl rfl (LZ (PU l ∅ ∅) h)) (p8 (a _ m))
def GB(h:f (fZ ρ)=ae d)(h2:ρ[i]?=ae (.ow (.lst ds)))(a:⇑ds<16777216):sX (mP i gW (aZ f)) ρ=.nx (ρ.set i (.ow (.lst (ds++[d])))):=by
 have e:mP i gW (aZ f) ρ=ae (ρ.set i (.ow (.lst (ds++[d]))),.non):=by delta mP aZ;rw[h2,h];show((k7 ρ[i]?).bind λds=>(gW ds d).map _)=_;rw[h2];show((gW ds d).map _)=_;rw[sQ a];rfl
 delta sX;rw[e]
theorem yH:∀r:Q0e,diffs r=(r.zip (r.drop 1)).map λp=>p.2-p.1
 |[]=>rfl
 |[a]=>rfl
 |a::b::l=>by have d:=yH (b::l);show(b-a)::diffs (b::l)=_;rw[d];rfl
theorem PV(F:⇑v<=1000):dI [aB v]=.ok (τ (fd v)):=by
 delta dI;have step:∀(n:Nat) (r f:Q0e) (m:Nat),⇑r=n->n<m->⇑f+n<=1000->dP (tV fO) (aL (sX (mP 1 gW (aZ (aC gT fO (eI 0))))) (bF 2 (bO 2 [] (uC (aA fO (aA (IE fO (oE (eI 1)) LO) aH))) (g2 0 1) bV (aC nO dC b9)))) m [.ro (aB v),.ow (aB f),.ro (aB r)]=.nx [.ro (aB v),.ow (aB (f++fd r)),.ro (aB [])]:=by
  intro n
  induction n with
  |zero =>
   intro r f m h l q;rw[ng] at h;subst h
   cases m with
   |zero=>lia
   |succ m =>
    delta dP;rw[PK,ki];rfl
  |succ n ih =>
   intro r f m h l q
   cases m with
   |zero=>lia
   |succ m =>
    cases r with
    |nil=>cases h
    |cons a r =>
     have e1:(aL (sX (mP 1 gW (aZ (aC gT fO (eI 0))))) (bF 2 (bO 2 [] (uC (aA fO (aA (IE fO (oE (eI 1)) LO) aH))) (g2 0 1) bV (aC nO dC b9)))) [.ro (aB v),.ow (aB f),.ro (aB (a::r))]=.nx [.ro (aB v),.ow (aB (f++[a])),.ro (aB (diffs (a::r)))]:=by
      show bN [.ro (aB v),.ow (aB (f++[a])),.ro (aB (a::r))] ?_ (fQ (aB (diffs (a::r))) ?_ rfl)
      .rw [GB (d:=.int a) (ds:=f.map D.int) (dD (x:=aB (a::r)) (y:=.int 0) rfl rfl (i6 (ws:=a::r) (j:=0) rfl)) rfl (by rw[bb];lia)];show Out.nx [Sv.ro (aB v),.ow (.lst (f.map D.int++[D.int a])),.ro (aB (a::r))]=_;rw[qG]
      .have z:aB (diffs (a::r))=.lst (((a::r).zip ((a::r).drop 1)).map λp=>.int (p.2-p.1)):=by rw[yH];delta aB;rw[di];rfl
       rw[z];show eT (((a::r).zip ((a::r).drop 1)).map λp=>D.tup [.int p.1,.int p.2]) ?_ (by simp at h ⊢;lia) ?_
       .delta uC;have A:IE fO (oE (eI 1)) LO (fZ [Sv.ro (aB v),.ow (aB (f++[a])),.ro (aB (a::r))])=ae (aB r):=by show ae (D.lst (CG ((a::r).map D.int) (ae 1) ag))=_;delta CG LP;simp[aB];show pj (i:=⇑r) (by simp)
        rw[args2 (x:=aB (a::r)) (y:=aB r) rfl A];show ae ((((a::r).map D.int).zip (r.map D.int)).map _)=_;rw[a2a,di];rfl
       .exact cC (λp:Int×Int=>D.tup [.int p.1,.int p.2]) (λp=>.int (p.2-p.1)) _ λp _=>⟨[ae (.int p.1),ae (.int p.2)],rfl,rfl⟩
     delta dP
     show(match (aL _ _) [Sv.ro (aB v),.ow (aB f),.ro (aB (a::r))] with
      |.nx ρ'=>dP _ _ m ρ'
      |o=>o)=_
     rw[e1];show dP _ _ m _=_;rw[ih (diffs (a::r)) (f++[a]) m (by rw[g4,h];rfl) ∅ (by simp;lia),AI,Bo];rfl
 show fF rfl (bN [.ro (aB v),.ow (aB []),.no] rfl (bN [.ro (aB v),.ow (aB []),.ro (aB v)] rfl (bN [.ro (aB v),.ow (aB (fd v)),.ro (aB [])] ?_ (fP rfl))));show step ⇑v v [] mU rfl (by delta mU;lia) (by simp;lia)
noncomputable def ev(k:Int):List Int->Int
 |[]=>0
 |a::l=>a+k*ev k l
def PX(x:Q0a)(a:Q0e):⇑(aV x a)<=⇑x:=by delta aV;have d:=mj (λt=>(row x t).all λl=>a.contains l) ((aS 0 ⇑x).filter λt=>!a.contains t);have h2:=mj (λt=>!a.contains t) (aS 0 ⇑x);rw[aN] at h2;lia
theorem PY(v:⇑x<=9):∀(m:Nat) (a:Q0e) (l:Int),∀y∈Sh x m a l,0<=y/\y<=9^m
 |0,a,l,y,d=>by
  delta Sh AJ at d;rcases cg.1 d with e|e
  .subst e;decide
  .rw [a2x e];decide
 |m+1,a,l,y,d=>by
  have q:=PY v m;have go:∀(n:Q0e) (j:Q0e) (c:Int),0<=c->(∀y∈j,0<=y/\y<=c*9^m) ->∀y∈n.foldl (λj t=>g5 j (if t<l then gR (Sh x m (aG a t) t) else Sh x m (aG a t) t)) j,0<=y/\y<=(c+⇑n)*9^m:=by
   intro n
   induction n with
   |nil=>intro j c A h;simpa using h
   |cons t n iht =>
    intro j c A h;rw[jr];have:=iht (g5 j (if t<l then gR (Sh x m (aG a t) t) else Sh x m (aG a t) t)) (c+1) ∅ ?_
    .rw [fj];rw[show c+((⇑n+1:Nat):Int)=c+1+⇑n by lia];show this
    .intro y d;delta g5 at d;obtain⟨p,z,rfl⟩:=gf.1 d;obtain⟨m1,o⟩:=rf z;have g1:=h _ m1;have g2:0<=p.2/\p.2<=9^m:=by
      split at o
      .delta gR at o;rcases cg.1 o with e|e
       .rw [e];show⟨⋯,a2I (a2E ⋯)⟩
       .exact q _ _ _ (List.dropLast_subset _ e)
      .exact q _ _ _ o
     rw[r6,Br];lia
  delta Sh at d;have:=go (aV x a) (w9 ⇑x) 0 ⋯ (λy d=>by rw[a2x d];simp) y d
  show⟨this.1,Bt this.2 ?_⟩;rw[iu,Int.pow_succ,qc];have F:=PX x a;show Int.mul_le_mul_of_nonneg_left ∅ (a2I (a2E ⋯))
def GC(a:⇑x<=9):∀y∈shares x,0<=y/\y<=387420489:=λy d=>by
 have h:=PY a ⇑x [] 0 y d;show⟨h.1,Bt h.2 ?_⟩;have:∀n,n<=9->(9:Int)^n<=387420489:=by decide
 show this _ a
def xA(x:Q0a):⇑(shares x)=max ⇑x 1:=hW x _ _ _
theorem lK(f:Int->Int):∀(n:Nat) (x:Int),vals f n x=(aS x n).map f
 |0,x=>rfl
 |n+1,x=>by have a:=lK f n (x+1);show f x::vals f n (x+1)=_;rw[a];delta aS;rw[wt,bu,bu,di,di,di];erw[Int.ofNat_zero,ni];congr 1;show kr λj _=>?_;erw[a2L];congr 1;lia
def eU(x:Q0a):List Int:=fd (vals (DV ⇑x 0 (shares x)) (⇑x+1) 0)
def PZ(a:⇑x<=9)(j:∀r∈x,⇑r<=9):eF [aF x]=.ok (τ (eU x)):=by
 delta eF eU;show fF rfl (bN [.ro (aF x),.ri ⇑x,.no] (fQ (.int ⇑x) (c8 rfl gZ) rfl) (bN [.ro (aF x),.ri ⇑x,.ro (τ (shares x))] (fQ _ (fG rfl (LY a j)) rfl) (fP (fG (x:=aB (vals (DV ⇑x 0 (shares x)) (⇑x+1) 0)) ?_ (PV (by rw[lJ];lia))))));rw[lK];have m:aB ((aS 0 (⇑x+1)).map (DV ⇑x 0 (shares x)))=.lst ((aS 0 (⇑x+1)).map λk=>D.int (DV ⇑x 0 (shares x) k)):=by delta aB;rw[di];rfl
 rw[m];show eT ((aS 0 (⇑x+1)).map D.int) (CP (n:=⇑x+1) rfl ∅) (by rw[bb,aN];lia) ?_;show cC D.int (λk=>.int (DV ⇑x 0 (shares x) k)) _ λk l=>⟨[ae (.int k),ae (τ (shares x)),ae (.int ⇑x)],rfl,qD rfl rfl rfl (C2 (by rw[xA];lia) (λy d=>?_) ∅ ?_)⟩
 .have:=GC a y d;lia
 .have:=aX.1 l;have h:k.natAbs<2^10:=∅
  show gm h (mz ⋯ ⋯)
theorem uW{a b:Q0e}{j:Nat}{y z:Int}(d:a[j]?=ae y)(h2:b[j]?=ae z):(g5 a b)[j]?=ae (y+z):=by delta g5;rw[c_,wy (z:=(y,z)) |>.2 ⟨d,h2⟩];rfl
section
variable(x:Q0a)
def Nj(f:List Int->Int->Nat->Int):Nat->List Int->Int->Int
 |0,_,_=>0
 |j+1,a,l=>Nj f j a (-1)+(((aV x a).filter λt=>Zv (l<t)).map λt=>f (aG a t) t (j+1)).sum
def Nn:Nat->List Int->Int->Nat->Int
 |0,_,_,_=>1
 |m+1,a,l,j=>Nj x (Nn m) j a l
end
def Zr(w:Q0e)(m:Nat):Prop:=∀(d:Nat) (y:Int),w[d]?=ae y->m<d->y=0
def Zr.mono(h:Zr w m)(a:m<=k):Zr w k:=λd y e j=>h d y e ∅
def Zr.add{a b:Q0e}{m:Nat}(l:Zr a m)(j:Zr b m):Zr (g5 a b) m:=λd y e h=>by delta g5 at e;rw[c_] at e;obtain⟨p,n,rfl⟩:=jf.1 e;obtain⟨e1,o⟩:=wy.1 n;rw[l d _ e1 h,j d _ o h];rfl
theorem Zr.shl(h:Zr w m):Zr (gR w) (m+1):=λd y e a=>by
 cases d with
 |zero=>lia
 |succ d =>
  have e:w.dropLast[d]?=ae y:=e;rw[a2s] at e;split at e
  .exact h d y e ∅
  .cases e
def Zr.w9(n m:Nat):Zr (w9 n) m:=λd y e _=>by
 delta LL.w9 at e;rw[kg] at e;split at e
 .cases e;rfl
 .cases e
theorem Zr.fold(h:∀t,Zr (if t<l then gR (Sh x m (aG a t) t) else Sh x m (aG a t) t) k):∀(j d:Q0e),Zr d k->Zr (j.foldl (iK x m a l) d) k
 |[],d,hz=>hz
 |t::j,d,hz=>Zr.fold h j _ (hz.add (h t))
def mD(x:Q0a)(m:Nat)(a:Q0e)(l:Int):Sh x (m+1) a l=(aV x a).foldl (iK x m a l) (w9 ⇑x):=rfl
theorem JD(x:Q0a):∀(m:Nat) (a:Q0e) (l:Int),Zr (Sh x m a l) m
 |0,a,l=>λd y e h=>by
  cases d with
  |zero=>lia
  |succ d =>
   have e:(cc (max ⇑x 1-1) (0:Int))[d]?=ae y:=e;rw[kg] at e;split at e
   .cases e;rfl
   .cases e
 |m+1,a,l=>by
  rw[mD];show Zr.fold (λt=>?_) _ _ (Zr.w9 _ _);split
  .exact (JD x m _ _).shl
  .exact (JD x m _ _).mono ∅
def uX{x:Q0a}{a:Q0e}{t:Int}(h:t∈aV x a):0<=t:=(jN h).1.1
theorem fold_congr{α a:Type}{f g:a->α->a}:∀(l:List α) (b:a),(∀b,∀t∈l,f b t=g b t)->l.foldl f b=l.foldl g b
 |[],b,_=>rfl
 |t::l,b,h=>by rw[jr,jr,h b t de];show fold_congr l _ λb u d=>h b u (fg _ d)
theorem aAu(x:Q0a)(m:Nat)(a:Q0e){l l':Int}(h:l<=0)(h':l'<=0):Sh x m a l=Sh x m a l':=by
 cases m with
 |zero=>rfl
 |succ m =>
  rw[mD,mD];show fold_congr _ _ λj t d=>?_;have:=uX d;delta iK;rw[Zz ∅,Zz ∅]
def aAv(x:Q0a)(m:Nat)(a:Q0e):Zr (Sh x (m+1) a (-1)) m:=by
 rw[mD];have e:(aV x a).foldl (iK x m a (-1)) (w9 ⇑x)=(aV x a).foldl (λd t=>g5 d (Sh x m (aG a t) t)) (w9 ⇑x):=fold_congr _ _ λd t l=>by have:=uX l;delta iK;rw[Zz ∅]
 rw[e];have go:∀(j d:Q0e),Zr d m->Zr (j.foldl (λd t=>g5 d (Sh x m (aG a t) t)) d) m:=by
  intro j
  induction j with
  |nil=>intro d h;show h
  |cons t j ih=>intro d h;show ih _ (h.add (JD x m _ _))
 show go _ _ (Zr.w9 _ _)
theorem P0:∀{a b:Q0e} {d:Int},⇑a=⇑b->DV n d (g5 a b) k=DV n d a k+DV n d b k
 |[],[],d,_=>rfl
 |[],_::_,d,h=>by simp at h
 |_::_,[],d,h=>by simp at h
 |y::a,z::b,d,h=>by have j:=P0 (n:=n) (k:=k) (a:=a) (b:=b) (d:=d+1) ↑h;show(y+z)*C (k+n-1-d) n+DV n (d+1) (g5 a b) k=y*C (k+n-1-d) n+DV n (d+1) a k+(z*C (k+n-1-d) n+DV n (d+1) b k);rw[j,r6];lia
theorem AL:∀(m:Nat) (d:Int),DV n d (cc m 0) k=0
 |0,d=>rfl
 |m+1,d=>by rw[gx];show 0*_+DV n (d+1) (cc m 0) k=0;rw[AL m (d+1),k_];rfl
theorem Z8:∀(w:Q0e) (d:Int),DV (m+1) d w (j+1)=DV (m+1) d w j+DV m d w (j+1)
 |[],d=>rfl
 |y::w,d=>by have a:=Z8 (m:=m) (j:=j) w (d+1);show y*C (j+1+((m+1:Nat):Int)-1-d) (m+1)+DV (m+1) (d+1) w (j+1)=y*C (j+((m+1:Nat):Int)-1-d) (m+1)+DV (m+1) (d+1) w j+(y*C (j+1+(m:Int)-1-d) m+DV m (d+1) w (j+1));rw[a,show j+1+((m+1:Nat):Int)-1-d=(j+m-d)+1 by lia,PH,show j+((m+1:Nat):Int)-1-d=j+m-d by lia,show j+1+(m:Int)-1-d=j+m-d by lia,Int.mul_add];lia
theorem JE:∀(w:Q0e) (d:Int),DV n (d+1) w (k+1)=DV n d w k
 |[],d=>rfl
 |y::w,d=>by have a:=JE (n:=n) (k:=k) w (d+1);show y*C (k+1+n-1-(d+1)) n+DV n (d+1+1) w (k+1)=y*C (k+n-1-d) n+DV n (d+1) w k;rw[a,show k+1+n-1-(d+1)=k+n-1-d by lia]
def aAw(h:w.getLast?=ae 0):DV n 0 (gR w) (k+1)=DV n 0 w k:=by
 show 0*_+DV n (0+1) w.dropLast (k+1)=_;rw[JE,k_,iu];have e:w=w.dropLast++[0]:=by obtain⟨l,a⟩:=List.getLast?_eq_some_iff.1 h;rw[a];simp
 conv=>rhs;rw[e]
 rw[yD];show _=_+(0*_+0);rw[k_];lia
theorem Eb:∀(w:Q0e) (d:Nat),(∀(i:Nat) (y:Int),w[i]?=ae y->m<d+i->y=0)->DV (m+1) d w 0=0
 |[],d,_=>rfl
 |y::w,d,h=>by
  have a:=Eb (m:=m) w (d+1) λi z e j=>h (i+1) z ↑e ∅;show y*C (0+((m+1:Nat):Int)-1-d) (m+1)+DV (m+1) ((d:Int)+1) w 0=0;rw[show((d:Int)+1)=((d+1:Nat):Int) from rfl,a,ni];by_cases l:m<d
  .rw [h 0 y rfl ∅,k_]
  .rw [PJ ∅ ∅,Bs]
theorem AM:∀(j d:Q0e),⇑d=max ⇑x 1->DV n 0 (j.foldl (iK x m a l) d) k=DV n 0 d k+(j.map λt=>DV n 0 (if t<l then gR (Sh x m (aG a t) t) else Sh x m (aG a t) t) k).sum
 |[],d,_=>by simp
 |t::j,d,h=>by
  have p:=hW x m (aG a t) t;have o:⇑d=⇑(if t<l then gR (Sh x m (aG a t) t) else Sh x m (aG a t) t):=by
   rw[h];split
   .rw [gJ ∅];show p.symm
   .exact p.symm
  have q:=AM (x:=x) (n:=n) (m:=m) (a:=a) (l:=l) (k:=k) j (iK x m a l d t) (by delta iK;rw[eM o,h]);rw[jr,q,bu,h_];delta iK;rw[P0 o];lia
theorem JF{α:Type}{f g h:α->Int}{p:α->Bool}:∀l:List α,(∀t∈l,f t=g t+if p t=af then h t else 0)->(l.map f).sum=(l.map g).sum+((l.filter p).map h).sum
 |[],_=>rfl
 |t::l,e=>by
  have a:=JF l λu d=>e u (fg _ d);have e0:=e t de;rw[bu,h_,bu,h_,a,e0,a2u]
  cases p t with
  |true=>simp;lia
  |false=>simp;lia
def dR:u∈aG a t↔u∈a\/u=t:=by delta aG;rw[(sortI_perm (a++[t])).mem_iff];simp
def C4(a:Q0e)(t:Int):⇑(aG a t)=⇑a+1:=by delta aG;rw[(sortI_perm (a++[t])).length_eq];simp
def aAx{x:Q0a}{j:Int}:DV 0 0 (AJ ⇑x) j=1:=by delta AJ;show 1*C _ 0+DV 0 (0+1) (cc _ 0) j=1;rw[AL,GA];rfl
theorem AN{x:Q0a}:∀(m j:Nat) (a:Q0e) (l:Int),⇑a+m=⇑x->(l=-1\/l∈a)->(1<=j\/l=-1)->Nn x m a l j=DV m 0 (Sh x m a l) j
 |0,j,a,l,_,_,_=>aAx.symm
 |m+1,0,a,l,hl,hm,hj=>by
  have:l=-1:=∅
  subst this;show 0=_;show(Eb (m:=m) (Sh x (m+1) a (-1)) 0 λi y e L=>aAv x m a i y e ∅).symm
 |m+1,j+1,a,l,hl,hm,hj=>by
  have o:=AN (x:=x) (m+1) j a (-1) hl (.inl rfl) (.inr rfl);have n:∀t,Nn x m (aG a t) t (j+1)=DV m 0 (Sh x m (aG a t) t) ((j:Int)+1):=λt=>AN (x:=x) m (j+1) (aG a t) t (by rw[C4];lia) (.inr (dR.2 (.inr rfl))) (.inl ∅);show Nj x (Nn x m) j a (-1)+(((aV x a).filter λt=>Zv (l<t)).map λt=>Nn x m (aG a t) t (j+1)).sum=_;have e1:Nj x (Nn x m) j a (-1)=Nn x (m+1) a (-1) j:=rfl;rw[e1,o,mD,mD,AM _ _ (j6 _),AM _ _ (j6 _)];delta w9;rw[AL,AL,iu,iu];have key:∀t∈aV x a,DV (m+1) 0 (if t<l then gR (Sh x m (aG a t) t) else Sh x m (aG a t) t) (((j+1:Nat):Int))=DV (m+1) 0 (if t < -1 then gR (Sh x m (aG a t) t) else Sh x m (aG a t) t) j+if Zv (l<t)=af then Nn x m (aG a t) t (j+1) else 0:=λt v=>by
   have J:=uX v;have tn:=(jN v).2;rw[Zz (show ¬ t < -1 by lia),n,show(((j+1:Nat):Int))=(j:Int)+1 from rfl];by_cases h:t<l
   .rw [Z_ h,Zz (by simp;lia),ni];show aAw ?_;have A:l∈a:=hm.resolve_left ∅
    have O:1<=⇑a:=by cases a with
     |nil=>cases A
     |cons _ _=>simp
    have I:=hW x m (aG a t) t;have F:=JD x m (aG a t) t;rw[List.getLast?_eq_getElem?,I];have d:max ⇑x 1-1<⇑(Sh x m (aG a t) t):=∅
    rw[cn d];congr 1;show F _ _ (cn d) ∅
   .have K:t≠l:=λz=>by
     rcases hm with q|q
     .omega
     .exact tn (z▸q)
    rw[Zz h,Z_ (by simp;lia)];show Z8 _ _
  rw[JF (f:=λt=>DV (m+1) 0 (if t<l then gR (Sh x m (aG a t) t) else Sh x m (aG a t) t) (((j+1:Nat):Int))) (g:=λt=>DV (m+1) 0 (if t < -1 then gR (Sh x m (aG a t) t) else Sh x m (aG a t) t) j) (h:=λt=>Nn x m (aG a t) t (j+1)) (p:=λt=>Zv (l<t)) _ key]
def L1(x:Q0a)(k:Nat):Nn x ⇑x [] (-1) k=DV ⇑x 0 (shares x) k:=by rw[AN ⇑x k [] (-1) (by simp) (.inl rfl) (.inr rfl)];delta shares;rw[aAu x ⇑x [] (l:=-1) (l':=0) ⋯ ⋯]
theorem uY:∀a b:Nat,a+b=(a ||| b)+(a &&& b):=by
 intro a
 induction a using a1V with
 |ind a ih =>
  intro b;by_cases h:a=0
  .subst h;simp
  .have e:=ih (a/2) ∅ (b/2);have l:(a ||| b)/2=(a/2 ||| b/2):=Nat.or_div_two ..;have j:(a &&& b)/2=(a/2 &&& b/2):=Nat.and_div_two ..;have m1:(a ||| b)%2=(a%2 ||| b%2):=Nat.or_mod_two_pow (n:=1);have d:(a &&& b)%2=(a%2 &&& b%2):=Nat.and_mod_two_pow (n:=1);have c:a%2+b%2=(a%2 ||| b%2)+(a%2 &&& b%2):=by rcases a11 a with p|p<;>rcases a11 b with q|q<;>rw[p,q]<;>decide
   lia
def JG(h:S.testBit b=ah):2^b+S=(2^b ||| S):=by
 have e:(2^b &&& S)=0:=by
  apply qz;intro i;rw[Bh,Hq,Ho];by_cases a:b=i
  .subst a;simp[h]
  .simp [a]
 rw[uY,e,wm]
theorem AO{M S:Nat}:(M &&& S=M) ↔ ∀i,M.testBit i=af->S.testBit i=af:=by
 constructor
 .intro h i a;have:=congrArg (λz=>z.testBit i) h;erw[Bh,a,qf] at this;show this
 .intro h;apply qz;intro i;rw[Bh]
  cases e:M.testBit i with
  |false=>rfl
  |true=>rw[h i e];rfl
noncomputable def c6:List Int->Nat
 |[]=>0
 |a::r=>2^a.toNat ||| c6 r
theorem cR:∀{r:Q0e},(∀a∈r,0<=a)->((c6 r).testBit i=af↔(i:Int)∈r)
 |[],_=>by simp[c6]
 |a::r,h=>by
  have d:=cR (i:=i) (r:=r) λb j=>h b (fg _ j);have l:=h a de;rw[c6,Hr,Hq,Bu,d,cg,decide_eq_true_eq]
  constructor
  .rintro (e|e)
   .exact .inl ∅
   .exact .inr e
  .rintro (e|e)
   .exact .inl ∅
   .exact .inr e
theorem JH:∀{r:Q0e},(∀a∈r,0<=a)->r.Nodup->(r.map λa=>(2:Int)^a.toNat).sum=(c6 r:Int)
 |[],_,_=>rfl
 |a::r,h,nd=>by
  have h':∀b∈r,0<=b:=λb d=>h b (fg _ d);have j:=JH h' (ke.1 nd).2;have l:=h a de;have d:(c6 r).testBit a.toNat=ah:=by
   cases e:(c6 r).testBit a.toNat with
   |false=>rfl
   |true =>
    have:=(cR h').1 e;rw[show((a.toNat:Nat):Int)=a by lia] at this;show Zw this (ke.1 nd).1
  rw[bu,h_,j,c6,<- JG d]
  push_cast
  rfl
section
variable(x:Q0a)
def Mk(b:Nat):Nat:=c6 (row x b)
end
section
variable{x:Q0a}
def P4(j:Ord.Rows x)(d:b<⇑x):(Mk x b).testBit i=af↔(i:Int)∈row x b:=by
 show cR λa h=>?_;have e:row x b=x[b]:=by delta row;simp[d]
 rw[e] at h;obtain⟨c,rfl,_⟩:=(Ord.O9 j (cn d)).1 h;lia
def h9:t∈aV x a↔(0<=t/\t<(⇑x:Int))/\t∉a /\∀l∈row x t,l∈a:=by
 delta aV;rw[e_,e_,aX,jk];erw[Bv,a2A,decide_eq_false_iff_not,decide_eq_true_eq]
 constructor
 .rintro ⟨⟨h,h2⟩,d⟩;show⟨∅,h2,d⟩
 .rintro ⟨h,h2,d⟩;show⟨⟨∅,h2⟩,d⟩
end
def oJ(h:c i j=af):iY c g (.int i) (.int j)=ae (g i j):=Z_ h
def V9(a b:Nat):nnC (a:Int) (b:Int)=af:=by delta nnC;rw[Zx ∅,Zx ∅];rfl
def uZ(a b:Nat):nV (.int a) (.int b)=ae (.int ((a &&& b:Nat):Int)):=by show(oJ (V9 a b)).trans ?_;rw[gj,gj]
def WB(a b:Nat):VL (.int a) (.int b)=ae (.int ((a >>> b:Nat):Int)):=by show(oJ (Zx (show(0:Int)<=(b:Int) by lia))).trans ?_;rw[gj,Hu];congr 2
def WC{a b:Nat}(h:a<18446744073709551616)(d:b<=1000000):VJ (.int a) (.int b)=ae (.int ((a <<< b:Nat):Int)):=by
 show(oJ (by
  show(Zv (0<=(b:Int))&&Zv ((b:Int).natAbs<=1000000)&&Zv ((a:Int).natAbs<18446744073709551616))=af;rw[Zx ∅,Zx ∅,Zx ∅];rfl)).trans ?_
 rw[gj,a1W];congr 2
def WD(b:Nat):(1 <<< b:Nat)=2^b:=by rw[a1W,Nat.one_mul]
def JI(a b:Nat):(a >>> b &&& 1)=if a.testBit b=af then 1 else 0:=by
 rw[a17,Hu,Nat.testBit_eq_decide_div_mod_eq];by_cases h:a/2^b%2=1
 .rw [Zx h,Z_ rfl];show h
 .rw [Zy h,Zz ⋯];lia
def Tq{f g:EF}{ρ:cN}{h b:Nat}(d:f ρ=ae (.int h))(a:g ρ=ae (.int b)):aC nV (aC VL f g) (eI 1) ρ=ae (.int (if h.testBit b=af then 1 else 0)):=by show binI (x:=((h >>> b:Nat):Int)) (y:=((1:Nat):Int)) (dD d a (WB h b)) rfl ?_;rw[uZ,JI];split<;>rfl
section
variable{x:Q0a}
def oK(x:Q0a):List Int:=x.map λr=>(c6 r:Int)
def P5(j:Ord.Rows x)(A:⇑x<=9):mC [aF x]=.ok (aB (oK x)):=by
 delta mC oK;have z:aB (x.map λr=>(c6 r:Int))=.lst (x.map λr=>D.int (c6 r:Int)):=by delta aB;rw[di];rfl
 rw[z];show fF rfl (fP (eT (x.map τ) rfl (by rw[bb];lia) (cC τ (λr=>.int (c6 r:Int)) x λr o=>⟨[ae (τ r)],rfl,?_⟩)));obtain⟨b,p,rfl⟩:=og o;have d:∀a∈x[b],0<=a/\a<(⇑x:Int):=j.rng b _ (cn p);have l:=j.up b _ (cn p);have m:(x[b]).Nodup:=l.imp λh=>by lia
 have q:=Ord.Rows.short j o;rw[<- JH (λa n=>(d a n).1) m];show c8 (x:=aB ((x[b]).map λa:Int=>(2:Int)^a.toNat)) ?_ sum_ints;have v:aB ((x[b]).map λa=>(2:Int)^a.toNat)=.lst ((x[b]).map λa=>D.int ((2:Int)^a.toNat)):=by delta aB;rw[di];rfl
 rw[v];show eT ((x[b]).map D.int) rfl (by rw[bb];lia) (cC D.int (λa=>.int ((2:Int)^a.toNat)) _ λa n=>⟨[ae (.int a)],rfl,?_⟩);have r:=d a n;show binI (x:=1) (y:=a) rfl rfl ?_;show(oJ (by
  show(Zv (0<=a)&&Zv (a.natAbs<=1000000)&&Zv ((1:Int).natAbs<18446744073709551616))=af;rw[Zx r.1,Zx ∅];rfl)).trans ?_
 rw[Br]
def aAy(a:b<⇑x):gT (aB (oK x)) (.int b)=ae (.int (Mk x b:Int)):=by
 delta aB;rw[l9];show i6 ?_;delta oK;rw[c_,cn a];have e:row x b=x[b]:=by delta row;simp[a]
 delta Mk;rw[e];rfl
end
end LL
namespace K25
open L3 L4 Z4 LL
def P6(h:⇑xs<=1000):mB [τ xs,.int ⇑xs]=.ok (.bl af):=by
 delta mB;show fF rfl (bN [.ro (τ xs),.ri ⇑xs] (p7 (Ee (b:=ah) (tnE (b:=af) (sS (isi (d:=τ xs) rfl) rfl) rfl) (λ_=>sS (binI (x:=⇑xs) (y:=⇑xs) (c8 rfl CS) rfl nZ) ?_) (λh=>by cases h)) rfl) (fP (c8 (x:=.lst ((xs.map λ_=>af).map D.bl)) ?_ ?_)))
 .rw [jM];simp
 .rw [di];show eT (xs.map D.int) rfl (by rw[bb];lia) ?_;show cC D.int (λ_=>.bl af) xs λy _=>⟨[ae (.int y)],rfl,rfl⟩
 .rw [n9];simp
section
variable{x:Q0a}
def mR(x:Q0a):⇑(eU x)=⇑x+1:=yE _ _ (lJ _ _ _)
end
end K25
namespace LL
open L3 L4 Z4
theorem Z9(f:Int->Int):∀(m:Nat) (x:Int),It m (Df f) x=It m f (x+1)-It m f x:=by
 intro m
 induction m generalizing f with
 |zero=>intro x;rfl
 |succ m ih=>intro x;show ih (Df f) x
noncomputable def dot(f:Int->Int):List Int->Int->Int
 |[],_=>0
 |a::l,x=>a*f x+dot f l (x+1)
theorem JJ(f:Int->Int):∀{a b:Q0e} {x:Int},⇑a=⇑b->dot f (g5 a b) x=dot f a x+dot f b x
 |[],[],x,_=>rfl
 |[],_::_,x,h=>by simp at h
 |_::_,[],x,h=>by simp at h
 |y::a,z::b,x,h=>by have d:=JJ f (a:=a) (b:=b) (x:=x+1) ↑h;show(y+z)*f x+dot f (g5 a b) (x+1)=y*f x+dot f a (x+1)+(z*f x+dot f b (x+1));rw[d,r6];lia
theorem JK(f:Int->Int):∀(a:Q0e) (x:Int),dot f (a.map λy=>-y) x=-dot f a x
 |[],x=>rfl
 |y::a,x=>by have d:=JK f a (x+1);show -y*f x+dot f (a.map λy=>-y) (x+1)=-(y*f x+dot f a (x+1));rw[d,Int.neg_mul];lia
theorem JL(f:Int->Int):∀(a:Q0e) (x:Int),dot f (a++[0]) x=dot f a x
 |[],x=>by show 0*f x+0=0;rw[k_];rfl
 |y::a,x=>by have d:=JL f a (x+1);show y*f x+dot f (a++[0]) (x+1)=y*f x+dot f a (x+1);rw[d]
noncomputable def al:Nat->List Int
 |0=>[1]
 |m+1=>g5 (0::al m) ((al m).map (λy=>-y)++[0])
theorem qI:∀m,⇑(al m)=m+1
 |0=>rfl
 |m+1=>by rw[al,eM (by simp),fj,qI m]
theorem GD(f:Int->Int):∀(m:Nat) (x:Int),It m f x=dot f (al m) x
 |0,x=>by show f x=1*f x+0;rw[Br,ni]
 |m+1,x=>by show It m (Df f) x=_;rw[Z9,GD f m,GD f m,al,JJ f (by simp),JL,JK];show dot f (al m) (x+1)-dot f (al m) x=0*f x+dot f (al m) (x+1) + -dot f (al m) x;rw[k_];lia
def sg(k:Int):Int:=1-2*(k%2)
def WH(k:Int):sg (k+1)=-sg k:=by delta sg;lia
theorem GF:∀(m i:Nat),i<=m->(al m)[i]?=ae (C m i*sg ((m:Int)-i))
 |0,i,h=>by
  have:i=0:=∅
  subst this;rfl
 |m+1,i,h=>by
  have n:=qI m;have d:((al m).map (λy=>-y)++[0])[i]?=ae (-(C m i*sg ((m:Int)-i))):=by
   by_cases l:i<=m
   .rw [jj (by simp;lia),c_,GF m i l];rfl
   .rw [i_ (by simp;lia),bb,show i-⇑(al m)=0 by lia,PJ ∅ ∅,k_];rfl
  have a:sg (((m+1:Nat):Int)-i)=-sg ((m:Int)-i):=by rw[<- WH];congr 1;lia
  cases i with
  |zero =>
   rw[al,uW (show(0::al m)[0]?=ae 0 from rfl) d,a,GA,GA];simp
  |succ i =>
   have e1:(0::al m)[i+1]?=ae (C m i*sg ((m:Int)-i)):=by rw[jy];show GF m i ∅
   have j:sg ((m:Int)-i)=sg (((m+1:Nat):Int)-(i+1:Nat)):=by congr 1;lia
   rw[al,uW e1 d,j,a,show((m+1:Nat):Int)=(m:Int)+1 from rfl,PH,r6,a2H,a2H,Int.add_comm]
theorem JM(f:Int->Int):∀(l:Q0e) (x:Int),dot f l x=((aS 0 ⇑l).map λi=>η l i*f (x+i)).sum
 |[],x=>rfl
 |a::l,x=>by
  have d:=JM f l (x+1);show a*f x+dot f l (x+1)=_;rw[d,fj,show ⇑l+1=1+⇑l by lia];delta aS;rw[List.range_add,gy,gy,a2f,di,di,di];have e0:(Ik ((λi=>η (a::l) i*f (x+i))∘λk:Nat=>0+(k:Int)) (cx 1)).sum=a*f x:=by simp[Ic,η]
  rw[e0];congr 2;rw[di];show kr λj _=>?_;erw[a2L];have e1:η (a::l) (0+((1+j:Nat):Int))=η l (0+(j:Int)):=by delta η;rw[show(0+((1+j:Nat):Int)).toNat=j+1 by lia,show(0+(j:Int)).toNat=j by lia,jy]
  rw[e1,show x+1+(0+(j:Int))=x+(0+((1+j:Nat):Int)) by push_cast;lia]
def C5(f:Int->Int)(m:Nat)(x:Int):It m f x=((aS 0 (m+1)).map λi=>f (x+i)*C m i.toNat*(1-2*(((m:Int)-i)%2))).sum:=by rw[GD,JM,qI];congr 1;show kr λi a=>?_;have:=aX.1 a;have e:=GF m i.toNat ∅;delta η;rw[e,Option.getD_some,show((i.toNat:Nat):Int)=i by lia];delta sg;rw[qc,<- xb]
theorem P7:∀(n:Nat) (f:Int->Int) (j:Nat),j<n->(fd (vals f n 0))[j]?=ae (It j f 0)
 |0,f,j,h=>by lia
 |n+1,f,j,h=>by
  rw[V5]
  cases j with
  |zero=>rfl
  |succ j=>rw[jy,P7 n (Df f) j ∅];rfl
section
variable(x:Q0a)
def cnt:Nat->List Int->Int
 |0,_=>1
 |m+1,a=>((aV x a).map λt=>cnt m (aG a t)).sum
end
theorem sum_map_add{α:Type}(f g:α->Int):∀L:List α,(L.map λa=>f a+g a).sum=(L.map f).sum+(L.map g).sum
 |[]=>rfl
 |a::L=>by have d:=sum_map_add f g L;erw[bu,h_,d];lia
theorem oM{α:Type}:∀L:List α,(L.map λ_=>(0:Int)).sum=0
 |[]=>rfl
 |a::L=>by rw[bu,h_,oM L];rfl
theorem qJ{α d:Type}(f:α->d->Int)(M:List d):∀L:List α,(L.map λa=>(M.map λb=>f a b).sum).sum=(M.map λb=>(L.map λa=>f a b).sum).sum
 |[]=>by erw[m_,List.sum_nil];rw[oM]
 |a::L=>by have h:=qJ f M L;erw[bu,h_,h];rw[<- sum_map_add]
section
variable{x:Q0a}
def P8(h:⇑a=⇑b):η (g5 a b) j=η a j+η b j:=by
 delta η;by_cases d:j.toNat<⇑a
 .rw [uW (cn d) (cn ∅),cn d,cn ∅];rfl
 .rw [ji (by rw[eM h];lia),ji ∅,ji ∅];rfl
def WJ(h:0<=j)(d:j<⇑w):η (gR w) j=if j=0 then 0 else η w (j-1):=by
 delta η gR;split
 .rename_i z;subst z;rfl
 .obtain ⟨k,a⟩:∃k:Nat,j.toNat=k+1:=⟨j.toNat-1,∅⟩;rw[a,jy,a2s,Z_ ∅,show(j-1).toNat=k by lia]
end
section
variable{x y:Q0a}
def Turned(x y:Q0a):Prop:=⇑y=⇑x /\∀a b:Int,0<=b->b<(⇑x:Int)->(a∈row y ((⇑x:Int)-1-b)↔(⇑x:Int)-1-a∈row x b)
def Turned.symm(h:Turned x y):Turned y x:=by show⟨h.1.symm,λa b j d=>?_⟩;rw[h.1] at d ⊢;have e:=h.2 ((⇑x:Int)-1-a) ((⇑x:Int)-1-b) ∅ ∅;rw[show(⇑x:Int)-1-((⇑x:Int)-1-b)=b by lia,show(⇑x:Int)-1-((⇑x:Int)-1-a)=a by lia] at e;show e.symm
def GG(x z:Q0a):Prop:=⇑z=⇑x /\∀a b:Int,0<=a->a<(⇑x:Int)->0<=b->b<(⇑x:Int)->(a∈row x b↔b∈row z a)
def GG.symm(h:GG x y):GG y x:=⟨h.1.symm,λa b l j h2 d=>by rw[h.1] at j d;show(h.2 b a h2 d l j).symm⟩
end
section
variable{x y z:Q0a}
structure Sd (x y z:Q0a):Prop where
 len:⇑z=⇑x+⇑y
 lo:∀t:Int,0<=t->t<(⇑x:Int) ->∀a,a∈row z t↔a∈row x t
 hi:∀t:Int,0<=t->t<(⇑y:Int) ->∀a,a∈row z (t+⇑x)↔a-⇑x∈row y t
 rx:∀t:Int,0<=t->t<(⇑x:Int) ->∀a∈row x t,0<=a/\a<(⇑x:Int)
 ry:∀t:Int,0<=t->t<(⇑y:Int) ->∀a∈row y t,0<=a/\a<(⇑y:Int)
structure Cb (x y:Q0a) (a b c:Q0e):Prop where
 lo:∀t:Int,0<=t->t<(⇑x:Int)->(t∈c↔t∈a)
 hi:∀t:Int,0<=t->t<(⇑y:Int)->(t+⇑x∈c↔t∈b)
structure Av (x y z:Q0a) (s t:Int):Prop where
 len:⇑z=⇑x+⇑y
 lo:∀a:Int,0<=a->a<(⇑x:Int) ->∀b,b∈row z (a+s)↔b-s∈row x a
 hi:∀a:Int,0<=a->a<(⇑y:Int) ->∀b,b∈row z (a+t)↔(s<=b/\b<s+⇑x)\/b-t∈row y a
 rx:∀a:Int,0<=a->a<(⇑x:Int) ->∀b∈row x a,0<=b/\b<(⇑x:Int)
 ry:∀a:Int,0<=a->a<(⇑y:Int) ->∀b∈row y a,0<=b/\b<(⇑y:Int)
 st:(s=0/\t=⇑x)\/(s=⇑y/\t=0)
end
def JN(j:⇑a=⇑b)(h:∀i:Nat,i<⇑a->η a i=η b i):a=b:=by apply a2w j;intro i d h2;have:=h i d;delta η at this;rw[gj,cn d,cn h2] at this;show this
def P9(a:Ord.Rows x)(h:⇑x<=9):∀r∈x,⇑r<=9:=λr d=>iq (Ord.Rows.short a d) h
theorem Ea(j:a ρ=ae (.bl p))(d:p=af->b ρ=ae (.bl q))(h:p=ah->q=ah):k5 a b ρ=ae (.bl q):=by
 delta k5;rw[j];show(if p=af then b ρ else ae (.bl ah))=_
 cases p with
 |true=>show d rfl
 |false=>rw[h rfl];rfl
theorem QA(h:ns≠[]):VI ns∈ns:=by
 cases ns with
 |nil=>show Zw rfl h
 |cons a l =>
  have go:∀(l:Q0e) (a:Int),l.foldl (λm b=>if m<b then b else m) a=a\/l.foldl (λm b=>if m<b then b else m) a∈l:=by
   intro l
   induction l with
   |nil=>intro a;show .inl rfl
   |cons b l ih =>
    intro a;rw[jr];rcases ih (if a<b then b else a) with z|z
    .rw [z];split
     .exact .inr de
     .exact .inl rfl
    .exact .inr (fg _ z)
  show l.foldl (λm b=>if m<b then b else m) a∈a::l;rcases go l a with z|z
  .rw [z];show de
  .exact fg _ z
def WK:slM (.lst (ds++[d])) ag (ae (-1))=ae (.lst ds):=by show ae (D.lst (CG (ds++[d]) ag (ae (-1))))=_;delta CG LP;dsimp only;rw[Z_ ⋯,show(-1+(⇑(ds++[d]):Int)).toNat=⇑ds by rw[gi,fj,nc];lia,p_,wg,List.take_left]
def JO(a:⇑ds=np)(h:Rt (b (eD n ds)) λe=>e=d):c7 n np b ds=.ok d:=by obtain⟨d',e,rfl⟩:=uP a h;show e
section
variable{x:Q0a}{R:List Int->Int}
def j7(n:Nat):(aS 0 n).Pairwise (·<·):=by delta aS;show xa _ (λa b h=>∅) Ii
end
end LL
namespace L4
open L3
noncomputable def foldM(R:sC)(o:D):List D->KD->Option (List D×KD)
 |[],kd=>ae ([],kd)
 |v::l,kd=>match R [o,v] kd with
  |.ok r=>(foldM R o l r.2).map λp=>(r.1::p.1,p.2)
  |_=>ag
noncomputable def Yq:D->Option (List D)
 |.lst l=>ae l
 |_=>ag
def QB(R:sC)(io il j:Nat):XF:=λρ=>(bE io (fZ ρ)).bind λo=>(bE il (fZ ρ)).bind λl=>(Yq l).bind λvs=>(zT ρ[j]?).bind λkd=>(foldM R o vs kd.2).bind λp=>(intsOf p.1).bind λns =>
 if ⇑vs<jJ then ae (ρ.set j (.ow (.aY (adr kd.1) p.2.1 p.2.2)),.int ns.sum) else ag
end L4
namespace K11
open L3 L4
def bR:Nat->sC
 |0=>λ_ _=>.no
 |n+1=>runM 4 3
  ((aL (iX (tV (aC rD (cM cB (bM 1)) (cM cB (bM 0))))
   (iE 2 (aZ (eI 1)) dC)
   eG)
  (iX (tV (aC (uB af) dC fO))
   (aL (bF 3 (bO 1 [1] (bP (aO LL.cP (aA b9 (bM 1)))) (g1 0) bV (aO LL.eK (aA dC (bM 0)))))
   (iE 2 (QB (bR n) 0 3 2) dC))
   eG)))
  dC
def jP:kN:=c7 2 1
  (aL (II 1)
  (aL (LU (bR 11) (aA b9 (aA (gQ aH) aH)) 1)
  (b8 dC)))
end K11
namespace MA
open L3 L4
def j8:kN:=c7 1 1
  (b8 (cM dO (aA (z4 [] (aO K11.jP (bM 0)) (gQ (aA (cM cB (bM 0)) (bM 0)))) aH)))
def j9:kN:=c7 2 2
  (b8 (cM dO (aA (bO 1 [0] (bZ (bM 1)) (g1 0) (tV (aC rD (aC nV (aC VL dC b9) (eI 1)) (eI 1))) b9) aH)))
def iA:kN:=c7 6 1
  (aL (bF 1 (cM cB (bM 0)))
  (aL (bF 2 (aO LL.mC (bM 0)))
  (aL (jK 3 (fB aH))
  (aL (fC (bZ (aA (aC VJ (eI 1) dC) aH)) (t9 4)
   (aL (bF 5 (aO j9 (aA kO (bM 1))))
   (iX (tV (cM allM (aA (bO 1 [4,2] (bP mO) (g1 0) bV (aC rD (aC nV (aC gT fO b9) dC) (aC gT fO b9))) aH)))
    (sX (mP 3 gW (aZ (gQ (aA (cM cB (bM 5)) (bM 5))))))
    eG)))
  (b8 (bO 2 [] (bP (cM FZ (bM 3))) (g2 0 1) bV dC))))))
open Z4 LL K11
section
variable{x:Q0a}
def kW(a:Q0e):rF:=.inr (a.map λt=>.inl (.inl t))
theorem JP:∀a:Q0e,k9 (a.map D.int)=ae (a.map λt=>.inl (.inl t))
 |[]=>rfl
 |t::a=>by rw[bu];delta k9;rw[JP a];rfl
def QC(a:Q0e):lB (τ a)=ae (kW a):=by show(k9 (a.map D.int)).map jt=_;rw[JP];rfl
theorem AQ:∀{a b:Q0e},kW a=kW b->a=b
 |[],[],_=>rfl
 |[],_::_,h=>by simp[kW] at h
 |_::_,[],h=>by simp[kW] at h
 |s::a,t::b,h=>by delta kW at h;erw[bu,a0a,Bn,Fo] at h;rw[h.1,AQ (a:=a) (b:=b) (by delta kW;rw[h.2])]
abbrev cW(x:Q0a)(a:Q0e):D:=.int (cnt x (⇑x-⇑a) a)
abbrev MB(kd:KD)(a:Q0e):Prop:=(aQ kd.1 kd.2 (kW a)).isSome=af
def DS(x:Q0a)(a:Q0e):Prop:=a.Pairwise (·<·) /\∀t∈a,(0<=t/\t<(⇑x:Int)) /\∀s∈row x t,s∈a
def Yp{l:Q0e}(h:l.Pairwise (· <= ·))(nd:l.Nodup):l.Pairwise (·<·):=(h.and nd).imp λ{a b} h=>by lia
def AR{a:Q0e}{t:Int}(h:DS x a)(l:t∈aV x a):DS x (aG a t):=by
 obtain⟨o,h2,n⟩:=h9.1 l;have pm:(aG a t).Perm (a++[t]):=sortI_perm _;show⟨Yp (gY _) (pm.nodup_iff.2 ?_),λs m=>?_⟩
 .rw [rh];show⟨h.1.imp λ{a b} h=>∅,by simp,λu d v j e=>by rw[dh.1 j] at e;show h2 (e▸d)⟩
 .rcases ij.1 (pm.mem_iff.1 m) with z|z
  .exact ⟨(h.2 s z).1,λu d=>pm.mem_iff.2 (kq _ ((h.2 s z).2 u d))⟩
  .rw [dh.1 z];show⟨o,λu d=>pm.mem_iff.2 (kq _ (n u d))⟩
def C6:(cL ks ds k v).1=ks\/(k∉ks/\(cL ks ds k v).1=ks++[k]):=by
 delta cL;split
 .exact .inl rfl
 .rename_i h;show .inr ⟨λq=>h (I_.2 ⟨k,q,by simp⟩),rfl⟩
def iL(x:Q0a)(kd:KD):Prop:=⇑kd.1=⇑kd.2/\(∀q∈kd.1,q.isLeft=ah)/\(∀a d,aQ kd.1 kd.2 (kW a)=ae d->d=cW x a)/\(∀a,MB kd a->⇑a<⇑x ->∀t∈aV x a,MB kd (aG a t))/\kd.1.Nodup /\∀q∈kd.1,∃a,DS x a/\q=kW a
def mK(x:Q0a)(kd:KD)(a:Q0e):KD:=cL kd.1 kd.2 (kW a) (cW x a)
def JQ(h:iL x kd)(F:DS x a)(y:⇑a<⇑x ->∀t∈aV x a,MB kd (aG a t)):iL x (mK x kd a)/\⇑(mK x kd a).1<=⇑kd.1+1/\aQ (mK x kd a).1 (mK x kd a).2 (kW a)=ae (cW x a)/\AK kd (mK x kd a):=by
 have up:AK kd (mK x kd a):=λk e=>by
  delta mK;rw[eL (ks:=[]) h.1];split
  .rfl
  .exact e
 show⟨⟨(oH h.1).1,yF h.2.1 rfl,λb d e=>?_,λb e n t m=>?_,?_,?_⟩,(oH h.1).2,by delta mK;rw[eL (ks:=[]) h.1,Z_ rfl],up⟩
 .delta mK at e;rw[eL (ks:=[]) h.1] at e;split at e
  .rename_i hk;cases AQ hk;show(dg e).symm
  .exact h.2.2.1 b d e
 .delta MB mK at e;rw[eL (ks:=[]) h.1] at e;split at e
  .rename_i hk;cases AQ hk;show up _ (y n t m)
  .exact up _ (h.2.2.2.1 b e n t m)
 .delta mK;rcases C6 (ks:=kd.1) (ds:=kd.2) (k:=kW a) (v:=cW x a) with z|⟨l,j⟩
  .rw [z];show h.2.2.2.2.1
  .rw [j,rh];show⟨h.2.2.2.2.1,by simp,λu p v o e=>by rw[dh.1 o] at e;show l (e▸p)⟩
 .delta mK;rcases C6 (ks:=kd.1) (ds:=kd.2) (k:=kW a) (v:=cW x a) with z|⟨l,j⟩
  .rw [z];show h.2.2.2.2.2
  .rw [j];intro q A;rcases ij.1 A with q2|q2
   .exact h.2.2.2.2.2 q q2
   .exact ⟨a,F,dh.1 q2⟩
abbrev JR(x:Q0a)(a:Q0e)(q:Nat->ay->Prop)(kd:KD)(v:Sv):bB:=[.ro (aF x),.ro (τ a),.ow (.aY q kd.1 kd.2),v]
def zf(h:iL x kd):tV (aC (uB af) dC fO) (bH (JR x a q kd v))=ae (!(aQ kd.1 kd.2 (kW a)).isSome):=by show sS (d:=.bl (!(aQ kd.1 kd.2 (kW a)).isSome)) (dD (x:=τ a) (y:=.aY q kd.1 kd.2) rfl rfl ?_) rfl;show((lB (τ a)).bind _)=_;rw[QC];show(if _ then _ else _)=_;rw[Z_ (fH h.2.1 rfl)];rfl
def Yo(h:iL x kd)(l:∀b o,q b o ->∃o2,q0 b o2)(m:aQ kd.1 kd.2 (kW a)=ae d):zU 2 dC q0 (JR x a q kd v)=ae (d,kd):=by have e:zU 2 dC q0 (JR x a q kd v)=(lB (τ a)).bind λj=>@ite _ (kindB kd.1 j=af /\∀b o,q b o ->∃o2,q0 b o2) (qe _) ((aQ kd.1 kd.2 j).map λd=>(d,kd)) ag:=rfl;rw[e,QC];show(Z_ ⟨fH h.2.1 rfl,l⟩).trans (by rw[m];rfl)
def Fb(h:iL x kd1)(l:⇑kd1.1<16000000)(j:f (JR x a q kd v)=ae (JR x a q1 kd1 v,cW x a)):iE 2 f dC (JR x a q kd v)=.nx (JR x a (adr q1) (mK x kd1 a) v):=by
 delta iE;rw[j,eg]
 show(match ((lB (τ a)).bind λd=>if kindB kd1.1 d=af/\⇑kd1.2<jJ then ae ((JR x a q1 kd1 v).set 2 (.ow (.aY (adr q1) (cL kd1.1 kd1.2 d (cW x a)).1 (cL kd1.1 kd1.2 d (cW x a)).2))) else ag) with
  |some ρ'=>Out.nx ρ'
  |none=>.no)=_
 rw[QC,eg,Z_ ⟨fH h.2.1 rfl,by rw[<- h.1];delta jJ;lia⟩];rfl
theorem QD:∀(h:Q0e) (kd:KD),iL x kd ->
  (∀t∈h,∀kd,iL x kd->⇑kd.1+most m<=10000000 ->∃l,bR n [aF x,τ (aG a t)] kd=.ok (.int (cnt x m (aG a t)),l)/\iL x l/\⇑l.1<=⇑kd.1+most m/\AK kd l/\MB l (aG a t)) ->
  ⇑kd.1+⇑h*most m<=10000000 ->
  ∃d,foldM (bR n) (aF x) (h.map λt=>τ (aG a t)) kd=ae (h.map λt=>.int (cnt x m (aG a t)),d)/\iL x d/\⇑d.1<=⇑kd.1+⇑h*most m/\AK kd d /\∀t∈h,MB d (aG a t)
 |[],kd,hM,_,_=>⟨kd,rfl,hM,by simp,λ_ e=>e,λt y=>(nomatch y)⟩
 |t::h,kd,hM,hR,hc=>by
  rw[fj,uh] at hc;obtain⟨kd1,e1,I,A,p,in1⟩:=hR t de kd hM ∅;obtain⟨d,F,v,z,j,q⟩:=QD h kd1 I (λu o=>hR u (fg _ o)) ∅;show⟨d,?_,v,by rw[fj,uh];lia,λk e=>j k (p k e),λu o=>?_⟩
  .rw [bu];delta foldM;rw[e1];dsimp only;rw[F];rfl
  .rcases cg.1 o with e|o
   .rw [e];show j _ in1
   .exact q u o
abbrev bW(n:Nat):L4.SF:=(aL (iX (tV (aC rD (cM cB (bM 1)) (cM cB (bM 0))))
   (iE 2 (aZ (eI 1)) dC)
   eG)
  (iX (tV (aC (uB af) dC fO))
   (aL (bF 3 (bO 1 [1] (bP (aO LL.cP (aA b9 (bM 1)))) (g1 0) bV (aO LL.eK (aA dC (bM 0)))))
   (iE 2 (QB (bR n) 0 3 2) dC))
   eG))
def AS(new:∀q,∃q2 v,(∀b o,q2 b o ->∃o2,q b o2)/\bW n (startM 4 [aF x,τ a] q kd)=.nx (JR x a q2 iU v))(l:iL x iU)(j:aQ iU.1 iU.2 (kW a)=ae d):bR (n+1) [aF x,τ a] kd=.ok (d,iU):=by
 delta bR;show zV λq=>?_
 have e1:nU 4 3 (bW n) dC q [aF x,τ a] kd=(match bW n (startM 4 [aF x,τ a] q kd) with
  |.nx ρ=>zU 2 dC q ρ
  |_=>ag):=rfl
 show e1.trans ?_;obtain⟨q2,v,h,m⟩:=new q;rw[m];show Yo l h j
theorem QE(hx:⇑x<=9)(hr:∀r∈x,⇑r<=9):∀(m e:Nat) (a:Q0e) (kd:KD),PD x a->DS x a->⇑a+m=⇑x->iL x kd->⇑kd.1+most m<=10000000 ->
  ∃v,bR (m+1+e) [aF x,τ a] kd=.ok (.int (cnt x m a),v)/\iL x v/\⇑v.1<=⇑kd.1+most m/\aQ v.1 v.2 (kW a)=ae (.int (cnt x m a))/\AK kd v:=by
 intro m
 induction m with
 |zero =>
  intro e a kd ok ds F j hc;have F:⇑a=⇑x:=F;have m0:most 0=1:=rfl;have e0:⇑x-⇑a=0:=∅
  rw[show 0+1+e=e+1 by lia];obtain⟨p1,p2,p3,p4⟩:=JQ (a:=a) j ds (λz=>∅);have l:=p3;delta cW at l;rw[e0] at l;show⟨mK x kd a,AS (λq=>⟨adr q,.no,λb o h=>h,?_⟩) p1 l,p1,∅,l,p4⟩;have U:cW x a=.int 1:=by delta cW;rw[e0];rfl
  show bN (JR x a (adr q) (mK x kd a) .no) (LX ((oI (x:=x) (a:=a) rfl rfl).trans (by rw[Zx F])) ?_) (p7 ?_ rfl)
  .exact Fb (q:=q) (q1:=q) (kd:=kd) j ∅ (by rw[U];rfl)
  .rw [zf p1,p3];rfl
 |succ m ih =>
  intro e a kd ok ds F j hc;have mm:most (m+1)=1+(m+1)*most m:=rfl;have e0:⇑x-⇑a=m+1:=∅
  have X:=jO ok;have ha:=oD ok;rw[show m+1+1+e=(m+1+e)+1 by lia];have lt:∀q,tV (aC rD (cM cB (bM 1)) (cM cB (bM 0))) (bH (startM 4 [aF x,τ a] q kd))=ae ah:=λq=>(oI (x:=x) (a:=a) rfl rfl).trans (by rw[Zy ∅])
  cases hk:aQ kd.1 kd.2 (kW a) with
  |some d =>
   have O:=j.2.2.1 a d hk;delta cW at O;rw[e0] at O;subst O;show⟨kd,AS (λq=>⟨q,.no,λb o h=>⟨o,h⟩,bN (JR x a q kd .no) (p7 (lt q) rfl) (p7 (by rw[zf j,hk];rfl) rfl)⟩) j hk,j,∅,hk,λ_ e=>e⟩
  |none =>
   have hlen:⇑(aV x a)*most m<=(m+1)*most m:=a10 _ ∅;obtain⟨kd1,ef,Y,hc1,Z,J⟩:=QD (n:=m+1+e) (m:=m) (a:=a) (aV x a) kd j (λt A kd L K=>(ih e (aG a t) kd ((IT ok).1 _ (rj A)).1 (AR ds A) (by have:=((IT ok).1 _ (rj A)).2;lia) L K).imp λ_ h=>⟨h.1,h.2.1,h.2.2.1,h.2.2.2.2,by delta MB;rw[h.2.2.2.1];rfl⟩) ∅;obtain⟨p1,p2,p3,p4⟩:=JQ (a:=a) Y ds (λ_=>J);have l:=p3;delta cW at l;rw[e0] at l
   let I:D:=.lst ((aV x a).map λt=>τ (aG a t))
   show⟨mK x kd1 a,AS (λq=>⟨adr (adr q),.ro I,λb o ⟨o1,o2,h⟩=>⟨o2,h⟩,?_⟩) p1 l,p1,∅,l,λk e=>p4 k (Z k e)⟩;show bN (JR x a q kd .no) (p7 (lt q) rfl) (LX (by rw[zf j,hk];rfl) (bN (JR x a q kd (.ro I)) (fQ I ?_ rfl) ?_))
   .refine eT ((aV x a).map D.int) ?_ (by rw[bb];lia) (cC D.int (λt=>τ (aG a t)) (aV x a) λt A=>⟨[ae (.int t),ae (τ a)],rfl,dQ rfl rfl (yB ∅)⟩);delta bP;rw[dQ (x:=aF x) (y:=τ a) rfl rfl (uS hx hr)];rfl
   .refine Fb (q:=q) (q1:=adr q) (kd:=kd) (kd1:=kd1) Y ∅ ?_;have en:intsOf ((aV x a).map λt=>D.int (cnt x m (aG a t)))=ae ((aV x a).map λt=>cnt x m (aG a t)):=by rw[<- b7,di];rfl
    have U:cW x a=.int (((aV x a).map λt=>cnt x m (aG a t)).sum):=by delta cW;rw[e0];rfl
    rw[U];show((foldM (bR (m+1+e)) (aF x) ((aV x a).map λt=>τ (aG a t)) (kd.1,kd.2)).bind λp=>(intsOf p.1).bind λns=>if⇑((aV x a).map λt=>τ (aG a t))<jJ then ae ((JR x a q kd (.ro I)).set 2 (.ow (.aY (adr q) p.2.1 p.2.2)),D.int ns.sum) else ag)=_;rw[show(kd.1,kd.2)=kd from rfl,ef,eg,en,eg,Z_ (by rw[bb];delta jJ;lia)];rfl
def WM(l:⇑x<=9)(n:∀r∈x,⇑r<=9):∃kd,jP [aF x]=.ok (.aY (adr gX) kd.1 kd.2)/\iL x kd/\MB kd []:=by
 obtain⟨kd,e,p,z,o,_⟩:=QE l n ⇑x (10-⇑x) [] ([],[]) IU ⟨Bq,λt m=>(by cases m)⟩ (by simp) ⟨rfl,λq j=>(by cases j),λa d h=>(by simp[aQ] at h),λa h=>(by simp[MB,aQ] at h),uu,λq j=>(by cases j)⟩ (by have:=PQ l;simp;lia);rw[show ⇑x+1+(10-⇑x)=11 by lia] at e;show⟨kd,?_,p,by delta MB;rw[o];rfl⟩;delta jP;show fF rfl (bN [.ro (aF x),.ow (.aY gX [] [])] rfl (bN [.ro (aF x),.ow (.aY (adr gX) kd.1 kd.2)] ?_ (fP rfl)));have v:stepM (bR 11) (aA b9 (aA (gQ aH) aH)) 1 [.ro (aF x),.ow (.aY gX [] [])]=ae (gX,.int (cnt x ⇑x []),kd):=by
  delta stepM;rw[args2 (x:=aF x) (y:=τ []) rfl rfl,eg]
  show(match bR 11 [aF x,τ []] ([],[]) with
   |.ok r=>ae (gX,r)
   |_=>ag)=_
  rw[e]
 delta LU;rw[v];rfl
def WN(d:⇑ks=⇑ds):(aQ ks ds k).isSome=af↔k∈ks:=by
 delta aQ;rw[we,List.find?_isSome]
 constructor
 .rintro ⟨p,a,e⟩;rw[<- of_decide_eq_true e];show(rf a).1
 .intro h;obtain⟨i,j,e⟩:=og h;show⟨(ks[i],ds[i]'∅),List.mem_iff_getElem.2 ⟨i,by simp;lia,by simp⟩,by simp[e]⟩
def JS(l:Ord.Rows x)(I:0<=s/\s<(⇑x:Int))(F:0<=t/\t<(⇑x:Int))(h:s∈row x t):⇑(row x s)<⇑(row x t):=by
 obtain⟨b,z⟩:∃b:Nat,t=(b:Int):=⟨t.toNat,∅⟩;obtain⟨a,A⟩:∃a:Nat,s=(a:Int):=⟨s.toNat,∅⟩;subst z A;have q:b<⇑x:=∅
 have y:a<⇑x:=∅
 have o:x[b]?=ae x[b]:=cn q;have d:x[a]?=ae x[a]:=cn y;have n:row x (b:Int)=x[b]:=by delta row;rw[gj,o];rfl
 have p:row x (a:Int)=x[a]:=by delta row;rw[gj,d];rfl
 rw[n] at h;rw[p,n];have j:x[a].Nodup:=(l.up a _ d).imp λ{u v} h=>by lia
 have nd:((a:Int)::x[a]).Nodup:=ke.2 ⟨l.B9 a _ d,j⟩;have sub:∀u∈(a:Int)::x[a],u∈x[b]:=λu m=>by
  rcases cg.1 m with rfl|m
  .exact h
  .exact l.tr b a _ _ o h d u m
 have:=a36 nd sub;rw[fj] at this;lia
theorem QF{f:Int->Nat}:∀{l:Q0e},l≠[] ->∃t∈l,∀s∈l,f s<=f t
 |[],h=>Zw rfl h
 |[a],_=>⟨a,by simp,λs d=>by rw[dh.1 d];show bt _⟩
 |a::b::l,_=>by
  obtain⟨t,j,h⟩:=QF (f:=f) (l:=b::l) (by simp);by_cases z:f a<=f t
  .exact ⟨t,fg _ j,λs d=>by
    rcases cg.1 d with rfl|d
    .exact z
    .exact h s d⟩
  .exact ⟨a,de,λs d=>by
    rcases cg.1 d with rfl|d
    .exact bt _
    .have:=h s d;lia⟩
def jC{l m:Q0e}(j:l.Pairwise (·<·))(d:m.Pairwise (·<·))(h:∀t,t∈l↔t∈m):l=m:=by have e:sortI m=l:=CQ ((Ig (j.imp λ{a b} h=>∅) (d.imp λ{a b} h=>∅)).2 h) (j.imp λ{a b} h=>∅);have n:sortI m=m:=CQ (a2C _) (d.imp λ{a b} h=>∅);rw[<- e,n]
theorem E_(o:Ord.Rows x){kd:KD}(h:iL x kd)(v:MB kd []):∀(n:Nat) (a:Q0e),⇑a=n->DS x a->MB kd a
 |0,a,hl,_=>by rw[ng.1 hl];show v
 |n+1,a,hl,hd=>by
  obtain⟨t,d,F⟩:=QF (f:=λt=>⇑(row x t)) (l:=a) (λz=>by rw[z] at hl;cases hl);have nd:a.Nodup:=hd.1.imp λ{a b} h=>by lia
  have m:∀s,s∈a.erase t↔s≠t/\s∈a:=λs=>a35 nd;have hd2:DS x (a.erase t):=⟨hd.1.sublist List.erase_sublist,λs j=>by obtain⟨I,h2⟩:=(m s).1 j;show⟨(hd.2 s h2).1,λu p=>(m u).2 ⟨λe=>?_,(hd.2 s h2).2 u p⟩⟩;subst e;have:=JS o (hd.2 u d).1 (hd.2 s h2).1 p;have:=F s h2;lia⟩
  have y:⇑(a.erase t)=n:=by rw[a2o d];lia
  have A:=E_ o h v n (a.erase t) y hd2;have rd:t∈aV x (a.erase t):=h9.2 ⟨(hd.2 t d).1,λz=>((m t).1 z).1 rfl,λs j=>(m s).2 ⟨λe=>by subst e;have:=JS o (hd.2 s d).1 (hd.2 s d).1 j;lia,(hd.2 t d).2 s j⟩⟩
  have ok:PD x a:=⟨nd,λs j=>(hd.2 s j).1⟩;have:=oD ok;have key:=h.2.2.2.1 (a.erase t) A ∅ t rd;have pm:(aG (a.erase t) t).Perm (a.erase t++[t]):=sortI_perm _;have e:aG (a.erase t) t=a:=jC (AR hd2 rd).1 hd.1 λs=>by
   rw[pm.mem_iff,ij,dh,m s]
   constructor
   .rintro (⟨_,q⟩|rfl)
    .exact q
    .exact d
   .intro q;by_cases z:s=t
    .exact .inr z
    .exact .inl ⟨z,q⟩
  rwa [e] at key
def WQ(o:Ord.Rows x)(h:iL x kd)(v:MB kd []):∃A:Q0a,kd.1=A.map kW/\A.Nodup /\∀a,a∈A↔DS x a:=by
 have ex:∀ks:List rF,(∀q∈ks,∃a,DS x a/\q=kW a) ->∃A:Q0a,ks=A.map kW /\∀a∈A,DS x a:=by
  intro ks
  induction ks with
  |nil=>intro _;show⟨[],rfl,λa p=>nomatch p⟩
  |cons q ks ih =>
   intro m;obtain⟨a,l,rfl⟩:=m q de;obtain⟨A,rfl,j⟩:=ih λq h=>m q (fg _ h);show⟨a::A,rfl,λb d=>by
    rcases cg.1 d with rfl|d
    .exact l
    .exact j b d⟩
 obtain⟨A,e,j⟩:=ex kd.1 h.2.2.2.2.2;show⟨A,e,?_,λa=>⟨j a,λl=>?_⟩⟩
 .have:=h.2.2.2.2.1;rw[e] at this;show a33 kW (λa b n e=>n (by rw[e])) this
 .have:=(WN h.1).1 (E_ o h v ⇑a a rfl l);rw[e] at this;obtain⟨b,d,y⟩:=gf.1 this
  rwa [<- AQ y]
end
section
variable{x:Q0a}
def tL(S n:Nat):List Int:=(aS 0 n).filter λb=>S.testBit b.toNat
def gA{S n:Nat}{t:Int}:t∈tL S n↔(0<=t/\t<(n:Int))/\S.testBit t.toNat=af:=by
 delta tL;rw[e_,aX]
 constructor
 .rintro ⟨a,b⟩;show⟨∅,b⟩
 .rintro ⟨a,b⟩;show⟨∅,b⟩
def C7(S n:Nat):(tL S n).Pairwise (·<·):=jl _ (j7 n)
def FL(x:Q0a)(S:Nat):Bool:=(tL S ⇑x).all λb=>Zv (Mk x b.toNat &&& S=Mk x b.toNat)
def oN(x:Q0a):List (List Int):=((cx (2^⇑x)).filter λS=>FL x S).map λS=>tL S ⇑x
def Ez(d:Ord.Rows x):FL x S=af↔DS x (tL S ⇑x):=by
 delta FL DS;rw[jk]
 constructor
 .intro h;show⟨C7 _ _,λt a=>⟨(gA.1 a).1,λs j=>?_⟩⟩;obtain⟨⟨l,t1⟩,_⟩:=gA.1 a;have sub:=AO.1 (of_decide_eq_true (h t a));obtain⟨b,rfl⟩:∃b:Nat,t=(b:Int):=⟨t.toNat,∅⟩;have r:=d.rng b (row x b) (by delta row;rw[gj,cn ∅];rfl) s j;obtain⟨i,rfl⟩:∃i:Nat,s=(i:Int):=⟨s.toNat,∅⟩;show gA.2 ⟨∅,?_⟩;show sub i ((P4 d ∅).2 j)
 .rintro ⟨_,h⟩ t a;obtain⟨⟨l,t1⟩,_⟩:=gA.1 a;obtain⟨b,rfl⟩:∃b:Nat,t=(b:Int):=⟨t.toNat,∅⟩;show Zx (AO.2 λi m=>?_);have:=(h _ a).2 (i:Int) ((P4 d (b:=b) ∅).1 m);show(gA.1 this).2
def aBA(l:S<2^n)(j:T<2^n)(h:tL S n=tL T n):S=T:=by
 apply qz;intro i;by_cases d:i<n
 .have a:=gA (S:=S) (n:=n) (t:=(i:Int));have b:=gA (S:=T) (n:=n) (t:=(i:Int));rw[h] at a;have:S.testBit i=af↔T.testBit i=af:=by
   constructor
   .intro z;show(b.1 (a.2 ⟨∅,z⟩)).2
   .intro z;show(a.1 (b.2 ⟨∅,z⟩)).2
  rw[jz];show this
 .have p:2^n<=2^i:=mz ⋯ ∅;rw[a1T ∅,a1T ∅]
def QG:(oN x).Nodup:=by delta oN;rw[Jb,pk];show Ja (λ{a b} j d h e=>?_) (jl _ Ii);have j:=mi.1 (e_.1 j).1;have d:=mi.1 (e_.1 d).1;have:=aBA j d e;lia
def QH(j:Ord.Rows x){a:Q0e}:a∈oN x↔DS x a:=by
 delta oN;rw[gf]
 constructor
 .rintro ⟨S,n,rfl⟩;show(Ez j).1 (e_.1 n).2
 .intro h;have e:tL (c6 a) ⇑x=a:=jC (C7 _ _) h.1 λt=>by
   rw[gA]
   constructor
   .rintro ⟨⟨l,t1⟩,z⟩;have:=(cR λu d=>(h.2 u d).1.1).1 z
    rwa [a2D l] at this
   .intro m;have r:=(h.2 t m).1;show⟨r,(cR λu d=>(h.2 u d).1.1).2 ?_⟩
    rwa [a2D r.1]
  show⟨c6 a,e_.2 ⟨mi.2 (Nat.lt_pow_two_of_testBit _ λi o=>?_),(Ez j).2 (by rw[e];show h)⟩,e⟩
  cases z:(c6 a).testBit i with
  |false=>rfl
  |true =>
   have:=(h.2 _ ((cR λu d=>(h.2 u d).1.1).1 z)).1;lia
def AU(d:⇑x<=9):⇑(oN x)<=512:=by delta oN;rw[bb];have a:=mj (λS=>FL x S) (cx (2^⇑x));rw[jh] at a;have:2^⇑x<=2^9:=mz ⋯ d;lia
abbrev MC(a:Q0e):VN:=((⇑a:Int),a)
def cJ(x:Q0a):List (List Int):=(lC w8 ((oN x).map MC)).map (·.2)
def aBB{A:Q0a}(nd:A.Nodup)(d:∀a,a∈A↔a∈oN x):lC w8 (A.map MC)=lC w8 ((oN x).map MC) :=
 VM zY (((Ig nd QG).2 d).map MC)
def sY:⇑(cJ x)=⇑(oN x):=by delta cJ;rw[bb,(eB _).length_eq,bb]
def dK(a:Q0e):Z1 (kW a)=τ a:=by delta kW Z1;show D.tup _=D.tup _;congr 1;rw[di];rfl
theorem yI{key:EF}{ρ:cN}{f:List Int->D}:∀A:Q0a,(∀a∈A,key (ρ.set 0 (ae (τ a)))=ae (f a))->uD key ρ (A.map τ)=ae (A.map f)
 |[],_=>rfl
 |a::A,h=>by rw[bu,uD,h a de,eg,yI A λb d=>h b (fg _ d)];rfl
def C8(h:Ord.Rows x)(j:⇑x<=9):j8 [aF x]=.ok (.tup ((cJ x).map τ)):=by
 have n:=P9 h j;obtain⟨kd,e,o,q⟩:=WM j n;obtain⟨A,z,nd,p⟩:=WQ h o q;have m:∀a,a∈A↔a∈oN x:=λa=>(p a).trans (QH h).symm;have F:⇑A<=512:=by have:=((Ig nd QG).2 m).length_eq;have:=AU j;lia
 have l:∀a:Q0e,F5 (qi a)=ae a:=λa=>b7 a;have v:z4 [] (aO jP (bM 0)) (gQ (aA (cM cB (bM 0)) (bM 0))) [ae (aF x)]=ae (.lst ((cJ x).map τ)):=by
  delta z4 zZ;rw[fG (x:=aF x) (d:=.aY (adr gX) kd.1 kd.2) rfl e,eg];show((ae (kd.1.map Z1)).bind _)=_;rw[eg,z,di,show(Z1∘kW:List Int->D)=τ from funext dK];rw[show w4 F5 (A.map τ)=ae A from nW l A,eg,yI (f:=λa=>.tup [.int (⇑a:Int),τ a]) A λa I=>?_,eg]
  .have:A.map (λa=>D.tup [.int (⇑a:Int),τ a])=(A.map MC).map λt:VN=>D.tup [.int t.1,qi t.2]:=by rw[di];rfl
   rw[this,nW (f:=VP F5) (g:=λt:VN=>D.tup [.int t.1,qi t.2]) (λt=>?_),eg,bb,Z_ ⟨∅,by rw[di];show a2l _⟩]
   .rw [show lC (iF FK (sD FK)) (A.map MC)=lC w8 ((oN x).map MC) from aBB nd m];delta cJ;rw[di];rfl
   .show ((F5 (qi t.2)).map λb=>(t.1,b))=_;rw[l];rfl
  .delta gQ;rw[args2 (x:=.int (⇑a:Int)) (y:=τ a) (c8 (x:=τ a) rfl (by delta τ;rw[d9,bb])) rfl];rfl
 delta j8;show fF rfl (fP (c8 (x:=.lst ((cJ x).map τ)) v iI))
def MD{S n:Nat}(h:n<=9):j9 [.int S,.int n]=.ok (τ (tL S n)):=by delta j9;show fF rfl (fP (c8 (x:=aB (tL S n)) ?_ iI));show eT ((aS 0 n).map D.int) (CP rfl ∅) (by rw[bb,aN];lia) (fJ D.int (λb=>S.testBit b.toNat) D.int (aS 0 n) λb a=>⟨[ae (.int b),ae (.int S)],rfl,?_,λ_=>rfl⟩);have j:=(aX.1 a).1;obtain⟨c,rfl⟩:∃c:Nat,b=(c:Int):=⟨b.toNat,∅⟩;show(sS (d:=.bl (Zv ((if S.testBit c=af then(1:Int) else 0)=1))) (binI (x:=(if S.testBit c=af then 1 else 0)) (y:=1) (Tq rfl rfl) rfl rfl) rfl).trans ?_;rw[gj];cases S.testBit c<;>rfl
def C9(z:Ord.Rows x)(o:⇑x<=9):iA [aF x]=.ok (.lst ((cJ x).map τ)):=by
 have J:2^⇑x<=2^9:=mz ⋯ o
 let j:List Int->D:=λa=>.tup [.int (⇑a:Int),τ a]
 delta iA;show JO rfl ?_;show cD [.ro (aF x),.ri ⇑x,.no,.no,.no,.no] (fQ (.int ⇑x) (c8 (x:=aF x) rfl gZ) rfl) ?_;show cD [.ro (aF x),.ri ⇑x,.ro (aB (oK x)),.no,.no,.no] (fQ _ (fG rfl (P5 z o)) rfl) ?_;show cD [.ro (aF x),.ri ⇑x,.ro (aB (oK x)),.ow (.lst []),.no,.no] rfl ?_;show lH (λρ=>∃n m,ρ=[.ro (aF x),.ri ⇑x,.ro (aB (oK x)),.ow (.lst ((oN x).map j)),n,m]) ?_ λρ ⟨n,m,e⟩=>?_
 .refine qC (2^⇑x) (λi ρ=>∃n m,ρ=[.ro (aF x),.ri ⇑x,.ro (aB (oK x)),.ow (.lst ((((cx i).filter λS=>FL x S).map λS=>tL S ⇑x).map j)),n,m]) (args1 (binI (x:=((1:Nat):Int)) (y:=(⇑x:Nat)) rfl rfl (by rw[WC ⋯ ∅,WD]))) ∅ ⟨.no,.no,rfl⟩ (λS ρ O ⟨n,m,e⟩=>?_) λρ h=>h;subst e;have few:∀i,i<=512->⇑((((cx i).filter λS=>FL x S).map λS=>tL S ⇑x).map j)<=512:=λi L=>by rw[bb,bb];have a:=mj (λS=>FL x S) (cx i);rw[jh] at a;lia
  have I:=few S ∅;show⟨[.ro (aF x),.ri ⇑x,.ro (aB (oK x)),.ow (.lst ((((cx S).filter λS=>FL x S).map λS=>tL S ⇑x).map j)),.ri S,m],rfl,?_⟩;rw[Ic,a2v,gy,gy];generalize (((cx S).filter λS=>FL x S).map λS=>tL S ⇑x).map j=R at I ⊢;show gG [.ro (aF x),.ri ⇑x,.ro (aB (oK x)),.ow (.lst R),.ri S,.ro (τ (tL S ⇑x))] (fQ _ (dQ (x:=.int S) (y:=.int ⇑x) rfl rfl (MD o)) rfl) ?_;have p:tV (cM allM (aA (bO 1 [4,2] (bP mO) (g1 0) bV (aC rD (aC nV (aC gT fO b9) dC) (aC gT fO b9))) aH)) (bH [.ro (aF x),.ri ⇑x,.ro (aB (oK x)),.ow (.lst R),.ri S,.ro (τ (tL S ⇑x))])=ae (FL x S):=by
   show sS (d:=.bl (FL x S)) (c8 (x:=.lst (((tL S ⇑x).map λb=>Zv (Mk x b.toNat &&& S=Mk x b.toNat)).map D.bl)) ?_ ?_) rfl
   .rw [di];show eT ((tL S ⇑x).map D.int) rfl (by rw[bb];delta tL;have:=mj (λb:Int=>S.testBit b.toNat) (aS 0 ⇑x);rw[aN] at this;lia) (cC D.int _ (tL S ⇑x) λb F=>⟨[ae (.int b),ae (.int S),ae (aB (oK x))],rfl,?_⟩);obtain⟨⟨X,U⟩,_⟩:=gA.1 F;obtain⟨c,rfl⟩:∃c:Nat,b=(c:Int):=⟨b.toNat,∅⟩;have v:aC gT fO b9 [ae (.int (c:Int)),ae (.int S),ae (aB (oK x))]=ae (.int (Mk x c:Int)):=dD (x:=aB (oK x)) (y:=.int c) rfl rfl (aAy ∅);show binI (x:=((Mk x c &&& S:Nat):Int)) (y:=(Mk x c:Int)) (dD v rfl (uZ _ _)) v ?_;rw[gF];show ae (D.bl _)=ae (D.bl (Zv (Mk x (c:Int).toNat &&& S=Mk x (c:Int).toNat)));rw[gj];congr 2;show decide_eq_decide.2 ∅
   .rw [n9];delta FL;rw[Bp];rfl
  show CO (FL x S) p (λq=>?_) λq=>uO ⟨.ro (.int S),.ro (τ (tL S ⇑x)),by rw[show[S].filter (λS=>FL x S)=[] by simp[q],m_,m_,ki]⟩;rw[show[S].filter (λS=>FL x S)=[S] by simp[q]];show⟨_,GB (i:=3) (ds:=R) (d:=j (tL S ⇑x)) ?_ rfl ∅,⟨_,_,rfl⟩⟩;delta gQ;rw[args2 (x:=.int (⇑(tL S ⇑x):Int)) (y:=τ (tL S ⇑x)) (c8 (x:=τ (tL S ⇑x)) rfl (by delta τ;rw[d9,bb])) rfl];rfl
 .subst e;have K:=AU o;show j5 _ (eT ((cJ x).map j) ?_ (by rw[bb,sY];lia) (cC j τ (cJ x) λa _=>⟨[ae (.int (⇑a:Int)),ae (τ a)],rfl,rfl⟩)) rfl;delta bP;rw[c8 (x:=.lst ((oN x).map j)) rfl (?_:FZ [.lst ((oN x).map j)]=ae (.lst ((cJ x).map j)))]
  .rfl
  .show ((w4 IM ((oN x).map j)).bind λT=>if ⇑T<=5000 then ae (D.lst ((lC w8 T).map VO)) else ag)=_;rw[show(oN x).map j=((oN x).map MC).map VO by rw[di];rfl,nW (λt=>?_),eg,bb,Z_ ∅]
   .congr 2;delta cJ;rw[di];show kr λt A=>?_;obtain⟨a,_,rfl⟩:=gf.1 ((eB _).mem_iff.1 A);rfl
   .show ((intsOf (t.2.map D.int)).map λl=>(t.1,l))=_;rw[b7];rfl
end
end MA
namespace LL
open L3 L4 Z4 MA
theorem m8{α:Type}{p:α->Bool}{c:α->Int}:∀{L:List α},(∀t∈L,p t=ah)->(L.map λt=>if p t=af then c t else 0).sum=0
 |[],_=>rfl
 |t::L,h=>by rw[bu,h_,h t de,Zz cf,m8 λu a=>h u (fg _ a)];rfl
theorem jQ{α:Type}{p:α->Bool}{c:α->Int}{d:α}:∀{L:List α},L.Nodup->d∈L->p d=af->(∀t∈L,p t=af->t=d)->(L.map λt=>if p t=af then c t else 0).sum=c d
 |t::L,nd,h0,hp,hu=>by
  rw[ke] at nd;rw[bu,h_];by_cases e:t=d
  .subst e;rw[Z_ hp,m8 λu a=>?_,ni]
   cases hq:p u with
   |false=>rfl
   |true=>show Zw (hu u (fg _ a) hq▸a) nd.1
  .have h:d∈L:=(cg.1 h0).resolve_left λz=>e z.symm;have:p t=ah:=by
    cases hq:p t with
    |false=>rfl
    |true=>show Zw (hu t de hq) e
   rw[this,Zz cf,iu];show jQ nd.2 h hp λu a=>hu u (fg _ a)
theorem u4{α:Type}(f g:α->Int):∀L:List α,(L.map f).sum+(L.map g).sum=(L.map λt=>f t+g t).sum
 |[]=>rfl
 |t::L=>by rw[bu,bu,bu,h_,h_,h_,<- u4 f g L];lia
def fT{α:Type}{f g:α->Int}{L:List α}(h:∀t∈L,f t=g t):(L.map f).sum=(L.map g).sum:=by rw[kr h]
def sZ(x:Q0a)(d:Q0e):Bool:=d.all λb=>(row x b).all λa=>!(Zv (b<a)&&d.contains a)
def fW(a T:Q0e):Bool:=a.all λt=>T.contains t
def g6(T a:Q0e):List Int:=T.filter λt=>!a.contains t
def ME(x:Q0a)(a T:Q0e):Bool:=fW a T&&sZ x (g6 T a)
def kU(x:Q0a)(a T:Q0e):Bool:=Zv (a≠T)&&ME x a T
def MF(x:Q0a)(l:Int)(a T:Q0e):Bool:=fW a T&&((g6 T a).all (λt=>Zv (l<t))&&sZ x (g6 T a))
def bX{a T:Q0e}:fW a T=af ↔ ∀t∈a,t∈T:=by simp[fW]
def bQ{T a:Q0e}{t:Int}:t∈g6 T a↔t∈T/\t∉a:=by simp[g6]
def AV{x:Q0a}{d:Q0e}:sZ x d=af ↔ ∀b∈d,∀a∈row x b,b<a->a∉d:=by
 delta sZ;erw[jk,Bv,Bool.and_eq_false_imp,decide_eq_true_eq];show⟨λh b j a n l m=>?_,λh b j a n l=>?_⟩
 .have:=h b j a n l;rw[ku.2 m] at this;cases this
 .rw [Ji,Ne,ku];show h b j a n l
def m9{x:Q0a}{l:Int}{a T:Q0e}:MF x l a T=af↔(∀t∈a,t∈T)/\(∀t∈T,t∉a->l<t) /\∀b∈T,b∉a ->∀c∈row x b,b<c->c∈T->c∈a:=by
 delta MF;rw[gr,gr,bX,AV,jk]
 constructor
 .rintro ⟨h,h2,d⟩;show⟨h,λt t1 t2=>of_decide_eq_true (h2 t (bQ.2 ⟨t1,t2⟩)),λb y v c m j q=>oj λz=>d b (bQ.2 ⟨y,v⟩) c m j (bQ.2 ⟨q,z⟩)⟩
 .rintro ⟨h,h2,d⟩;show⟨h,λt n=>Zx (h2 t (bQ.1 n).1 (bQ.1 n).2),λb p c m j o=>(bQ.1 o).2 (d b (bQ.1 p).1 (bQ.1 p).2 c m j (bQ.1 o).1)⟩
section
variable{x:Q0a}{A:Q0a}
def aBC(a:Q0e):(aV x a).Nodup:=jl _ (jl _ ((j7 ⇑x).imp λ{a b} h=>∅))
theorem split(hx:Ord.Rows x)(nd:A.Nodup)(Y:∀a,a∈A↔DS x a){a:Q0e}(X:DS x a)(l:Int)(f:List Int->Int):
  (A.map λT=>if MF x l a T=af then f T else 0).sum=f a+(((aV x a).filter λt=>Zv (l<t)).map λt=>(A.map λT=>if MF x t (aG a t) T=af then f T else 0).sum).sum:=by
 have e1:f a=(A.map λT=>if Zv (T=a)=af then f T else 0).sum:=(jQ (p:=λT=>Zv (T=a)) nd ((Y a).2 X) (Zx rfl) λT _ h=>of_decide_eq_true h).symm;rw[qJ,e1,u4];show fT λT hT=>?_;have dT:=(Y T).1 hT;have F:((aV x a).filter λt=>Zv (l<t)).Nodup:=jl _ (aBC a);by_cases y:T=a
 .subst y;rw[Z_ (m9.2 ⟨λt h=>h,λt m h2=>Zw m h2,λb m h2=>Zw m h2⟩),Z_ (Zx rfl)];rw[m8 λt j=>?_,ni]
  cases hq:MF x t (aG T t) T with
  |false=>rfl
  |true =>
   have r:=h9.1 (e_.1 j).1;show Zw ((m9.1 hq).1 t (dR.2 (.inr rfl))) r.2.1
 rw[show(if Zv (T=a)=af then f T else 0)=0 from Zz ↑y,iu]
 -- from one more thing to all
 have up:∀t∈(aV x a).filter (λt=>Zv (l<t)),MF x t (aG a t) T=af->MF x l a T=af:=λt j h=>by
  have r:=h9.1 (e_.1 j).1;have hl:l<t:=of_decide_eq_true (e_.1 j).2;obtain⟨m,h2,Z⟩:=m9.1 h;show m9.2 ⟨λu I=>m u (dR.2 (.inl I)),λu u1 u2=>?_,λb v O c o L K=>?_⟩
  .by_cases e:u=t
   .omega
   .have:=h2 u u1 λz=>(dR.1 z).elim u2 e;lia
  .by_cases e:b=t
   .subst e;show r.2.2 c o
   .have U:b∉aG a t:=λz=>(dR.1 z).elim O e;rcases dR.1 (Z b v U c o L K) with z|z
    .exact z
    .have:=h2 b v U;lia
 cases hP:MF x l a T with
 |false =>
  rw[Zz cf];show(m8 λt j=>?_).symm
  cases hq:MF x t (aG a t) T with
  |false=>rfl
  |true=>show Zw (up t j hq) (by rw[hP];show cf)
 |true =>
  rw[Z_ rfl];obtain⟨p1,p2,p3⟩:=m9.1 hP
  -- the least thing that is not yet there
  have ne:g6 T a≠[]:=λz=>by
   show y (jC dT.1 X.1 λt=>⟨λh=>?_,p1 t⟩);show oj λq=>by have:=bQ.2 ⟨h,q⟩;rw[z] at this;cases this
  have ups:(g6 T a).Pairwise (·<·):=jl _ dT.1;obtain⟨d,r,e0⟩:∃d r,g6 T a=d::r:=by
   cases h:g6 T a with
   |nil=>show Zw h ne
   |cons t r=>show⟨t,r,rfl⟩
  have m0:d∈g6 T a:=by rw[e0];show de
  have least:∀u∈T,u∉a->u≠d->d<u:=λu u1 u2 u3=>by have:=bQ.2 ⟨u1,u2⟩;rw[e0] at this ups;show(gc.1 ups).1 u ((cg.1 this).resolve_left u3)
  obtain⟨t1,t2⟩:=bQ.1 m0;have hr:d∈aV x a:=h9.2 ⟨(dT.2 d t1).1,t2,λs J=>oj λq=>by
   have n:=(dT.2 d t1).2 s J;by_cases e:s=d
   .obtain ⟨b,rfl⟩:=js (dT.2 d t1).1.1;subst e;show hx.B9 b (row x b) (by delta row;rw[gj,cn (by have:=(dT.2 _ t1).1.2;lia)];rfl) J
   .exact q (p3 d t1 t2 s J (least s n q e) n)⟩
  show(jQ (p:=λt=>MF x t (aG a t) T) (c:=λ_=>f T) F (e_.2 ⟨hr,Zx (p2 d t1 t2)⟩) ?_ λt j h=>?_).symm
  .refine m9.2 ⟨λu I=>(dR.1 I).elim (p1 u) λe=>e▸t1,λu u1 u2=>least u u1 (λz=>u2 (dR.2 (.inl z))) λz=>u2 (dR.2 (.inr z)),λb v O c o L K=>dR.2 (.inl (p3 b v (λz=>O (dR.2 (.inl z))) c o L K))⟩
  .obtain ⟨m,h2,Z⟩:=m9.1 h;show oj λe=>?_;have r:=h9.1 (e_.1 j).1;have a1:=h2 d t1 λz=>(dR.1 z).elim t2 λz=>e z.symm;have a2:=least t (m t (dR.2 (.inr rfl))) r.2.1 e;lia
def QI{a:Q0e}(h:DS x a):PD x a:=⟨h.1.imp λ{a b} h=>∅,λt d=>(h.2 t d).1⟩
theorem Ey(d:Ord.Rows x)(nd:A.Nodup)(h:∀a,a∈A↔DS x a)(j:Nat):∀(m:Nat) (a:Q0e) (l:Int),DS x a->⇑a+m=⇑x->Nn x m a l (j+1)=(A.map λT=>if MF x l a T=af then Nn x (⇑x-⇑T) T (-1) j else 0).sum
 |0,a,l,ha,hl=>by rw[split d nd h ha l λT=>Nn x (⇑x-⇑T) T (-1) j,uU (QI ha) ∅,show ⇑x-⇑a=0 by lia];rfl
 |m+1,a,l,ha,hl=>by rw[split d nd h ha l λT=>Nn x (⇑x-⇑T) T (-1) j,show ⇑x-⇑a=m+1 by lia];show Nj x (Nn x m) j a (-1)+_=Nj x (Nn x m) j a (-1)+_;congr 1;show fT λt n=>?_;show Ey d nd h j m (aG a t) t (AR ha (e_.1 n).1) (by rw[C4];lia)
def Ek(x:Q0a)(k:Nat)(S:Q0e):Int:=Nn x (⇑x-⇑S) S (-1) k
def JT{S:Q0e}(h:DS x S):⇑S<=⇑x:=oD (QI h)
def To(m:Ord.Rows x)(nd:A.Nodup)(j:∀a,a∈A↔DS x a){S:Q0e}(d:DS x S)(k:Nat):Ek x (k+1) S=Ek x k S+(A.map λT=>if kU x S T=af then Ek x k T else 0).sum:=by
 have y:=JT d;have e1:Ek x k S=(A.map λT=>if Zv (T=S)=af then Ek x k T else 0).sum:=(jQ (p:=λT=>Zv (T=S)) nd ((j S).2 d) (Zx rfl) λT _ h=>of_decide_eq_true h).symm;rw[e1,u4];show Nn x (⇑x-⇑S) S (-1) (k+1)=_;rw[Ey m nd j k _ S (-1) d ∅];show fT λT q=>?_;have dT:=(j T).1 q;have v:MF x (-1) S T=ME x S T:=by delta MF ME;rw[show(g6 T S).all (λt=>Zv (-1<t))=af from jk.2 λt n=>Zx (by have:=(dT.2 t (bQ.1 n).1).1;lia),qf]
 rw[v];delta kU;by_cases e:T=S
 .subst e;have o:ME x T T=af:=by delta ME;rw[gr,bX,AV];show⟨λt h=>h,λb l=>Zw (bQ.1 l).1 (bQ.1 l).2⟩
  rw[o,Z_ rfl,Z_ (Zx rfl),show Zv (T≠T)=ah from Zy (by simp),r9,Zz cf,ni];rfl
 .rw [show Zv (S≠T)=af from Zx λz=>e z.symm,qf,show(if Zv (T=S)=af then Ek x k T else 0)=0 from Zz ↑e,iu];rfl
theorem E_0{S:Q0e}(d:DS x S):Ek x 0 S=if ⇑S=⇑x then 1 else 0:=by
 have j:=JT d;delta Ek;by_cases h:⇑S=⇑x
 .rw [Z_ h,h,Ht];rfl
 .rw [Zz h];obtain⟨m,a⟩:∃m,⇑x-⇑S=m+1:=⟨⇑x-⇑S-1,∅⟩;rw[a];rfl
def Gk(x:Q0a)(A:Q0a):Nat->List Int->Nat->Int
 |0,S,k=>Ek x k S
 |j+1,S,k=>(A.map λT=>if kU x S T=af then Gk x A j T k else 0).sum
theorem DA{α:Type}(f g:α->Int):∀L:List α,(L.map f).sum-(L.map g).sum=(L.map λt=>f t-g t).sum
 |[]=>rfl
 |t::L=>by rw[bu,bu,bu,h_,h_,h_,<- DA f g L];lia
theorem D_(l:Ord.Rows x)(nd:A.Nodup)(d:∀a,a∈A↔DS x a)(k:Nat):∀(j:Nat) {S:Q0e},DS x S->Gk x A j S (k+1)-Gk x A j S k=Gk x A (j+1) S k
 |0,S,hS=>by show Ek x (k+1) S-Ek x k S=(A.map λT=>if kU x S T=af then Ek x k T else 0).sum;rw[To l nd d hS];lia
 |j+1,S,hS=>by
  show(A.map λT=>if kU x S T=af then Gk x A j T (k+1) else 0).sum-(A.map λT=>if kU x S T=af then Gk x A j T k else 0).sum=(A.map λT=>if kU x S T=af then Gk x A (j+1) T k else 0).sum;rw[DA];show fT λT m=>?_;by_cases h:kU x S T=af
  .rw [Z_ h,Z_ h,Z_ h];show D_ l nd d k j ((d T).1 m)
  .rw [Zz h,Zz h,Zz h];rfl
theorem zd(d:Ord.Rows x)(nd:A.Nodup)(h:∀a,a∈A↔DS x a):∀(j:Nat) {S:Q0e} (k:Nat),DS x S->It j (λz=>Ek x z.toNat S) (k:Int)=Gk x A j S k
 |0,S,k,_=>by show Ek x (k:Int).toNat S=Ek x k S;rw[gj]
 |j+1,S,k,hS=>by show It j (Df λz=>Ek x z.toNat S) (k:Int)=_;rw[Z9,zd d nd h j k hS,show(k:Int)+1=((k+1:Nat):Int) from rfl,zd d nd h j (k+1) hS];show D_ d nd h k j hS
def GH:DS x []:=⟨.nil,λt a=>by cases a⟩
theorem WR(d:Ord.Rows x)(nd:A.Nodup)(m:∀a,a∈A↔DS x a){j:Nat}(n:j<=⇑x):(eU x)[j]?=ae (Gk x A j [] 0):=by delta eU;rw[P7 _ _ _ ∅,<- zd d nd m j 0 GH,C5,C5];congr 2;show kr λi l=>?_;have h:=aX.1 l;obtain⟨k,rfl⟩:=js h.1;congr 2;show DV ⇑x 0 (shares x) (0+(k:Int))=Nn x (⇑x-0) [] (-1) (((0:Nat):Int)+(k:Int)).toNat;rw[show(0:Int)+(k:Int)=(k:Int) by lia,show(((0:Nat):Int)+(k:Int)).toNat=k by lia,wg,L1]
def cp(x:Q0a)(A:Q0a):Nat->List Int->Int
 |0,S=>if S=[] then 1 else 0
 |j+1,S=>(A.map λT=>if kU x T S=af then cp x A j T else 0).sum
theorem u5{α:Type}(f:α->Int)(c:Int):∀L:List α,(L.map f).sum*c=(L.map λt=>f t*c).sum
 |[]=>by simp
 |t::L=>by rw[bu,bu,h_,h_,r6,u5 f c L]
def QJ{α:Type}(f:α->Int)(c:Int)(L:List α):c*(L.map f).sum=(L.map λt=>c*f t).sum:=by rw[qc,u5];show fT λt _=>qc _ _
def bil(i m:Nat):(A.map λS=>cp x A (i+1) S*Gk x A m S 0).sum=(A.map λS=>cp x A i S*Gk x A (m+1) S 0).sum:=by
 have e1:∀S,cp x A (i+1) S*Gk x A m S 0=(A.map λT=>if kU x T S=af then cp x A i T*Gk x A m S 0 else 0).sum:=λS=>by
  show(A.map λT=>if kU x T S=af then cp x A i T else 0).sum*_=_;rw[u5];show fT λT _=>?_;by_cases h:kU x T S=af
  .rw [Z_ h,Z_ h]
  .rw [Zz h,Zz h,k_]
 have a:∀T,cp x A i T*Gk x A (m+1) T 0=(A.map λS=>if kU x T S=af then cp x A i T*Gk x A m S 0 else 0).sum:=λT=>by
  show _*(A.map λS=>if kU x T S=af then Gk x A m S 0 else 0).sum=_;rw[QJ];show fT λS _=>?_;by_cases h:kU x T S=af
  .rw [Z_ h,Z_ h]
  .rw [Zz h,Zz h,Bs]
 rw[fT λS _=>e1 S,fT λT _=>a T];show qJ _ A A
theorem Tn(i:Nat):∀m:Nat,(A.map λS=>cp x A i S*Gk x A m S 0).sum=(A.map λS=>cp x A 0 S*Gk x A (i+m) S 0).sum:=by
 induction i with
 |zero=>intro m;rw[pd]
 |succ i ih =>
  intro m;rw[bil,ih (m+1),show i+(m+1)=i+1+m by lia]
def WU(d:Ord.Rows x):DS x (aS 0 ⇑x):=⟨j7 _,λt a=>by have a:=aX.1 a;show⟨∅,λs h=>?_⟩;obtain⟨b,rfl⟩:=js a.1;have:=d.rng b (row x b) (by delta row;rw[gj,cn ∅];rfl) s h;show aX.2 ∅⟩
def WV{S:Q0e}(h:DS x S)(j:⇑S=⇑x):S=aS 0 ⇑x:=by show jC h.1 (j7 _) λt=>⟨λa=>aX.2 (by have:=(h.2 t a).1;lia),λa=>?_⟩;show oj λq=>?_;have a:=aX.1 a;have ok:PD x (t::S):=⟨ke.2 ⟨q,(QI h).1⟩,λu d=>(cg.1 d).elim (λe=>by subst e;lia) λd=>(h.2 u d).1⟩;have:=oD ok;rw[fj] at this;lia
def QK(m:Ord.Rows x)(nd:A.Nodup)(d:∀a,a∈A↔DS x a){j:Nat}(q:j<=⇑x):(eU x)[j]?=ae (cp x A j (aS 0 ⇑x)):=by
 rw[WR m nd d q];have h:=Tn (x:=x) (A:=A) j 0;have l:(A.map λS=>cp x A j S*Gk x A 0 S 0).sum=cp x A j (aS 0 ⇑x):=by
  have e:∀S∈A,cp x A j S*Gk x A 0 S 0=if Zv (S=aS 0 ⇑x)=af then cp x A j S else 0:=λS n=>by
   have o:=(d S).1 n;show cp x A j S*Ek x 0 S=_;rw[E_0 o];by_cases e:S=aS 0 ⇑x
   .rw [Z_ (by rw[e,aN]),Z_ (Zx e),Jc]
   .rw [Zz λz=>e (WV o z),Zz ↑e,Bs]
  rw[fT e];show jQ (p:=λS=>Zv (S=aS 0 ⇑x)) nd ((d _).2 (WU m)) (Zx rfl) λS _ h=>of_decide_eq_true h
 have r:(A.map λS=>cp x A 0 S*Gk x A (j+0) S 0).sum=Gk x A j [] 0:=by
  have e:∀S∈A,cp x A 0 S*Gk x A (j+0) S 0=if Zv (S=[])=af then Gk x A j S 0 else 0:=λS n=>by
   show(if S=[] then(1:Int) else 0)*_=_;by_cases e:S=[]
   .rw [Z_ e,Z_ (Zx e),Br,wm]
   .rw [Zz e,Zz ↑e,k_]
  rw[fT e];show jQ (p:=λS=>Zv (S=[])) nd ((d _).2 GH) (Zx rfl) λS _ h=>of_decide_eq_true h
 rw[l,r] at h;rw[h]
end
end LL
namespace DB
open L3 L4
def iB:kN:=c7 2 2
  (aL (iX (nN (tV (cM allM (aA (bO 1 [0] (bP dC) (g1 0) bV (aO LL.iJ (aA b9 (aA (cM cB (bM 1)) aH)))) aH))))
   (λ_=>.no)
   eG)
  (b8 (tQ (cM anyM (aA (bO 2 [1] (bP (aO LL.hV (bM 0))) (g2 0 1) bV (k5 (aC FJ b9 dC) (k5 (aC (tX ah) b9 fO) (aC (tX ah) dC fO)))) aH)))))
def mE:kN:=c7 4 1
  (aL (bF 1 (eI 0))
  (aL (bF 2 (eI 1))
  (aL (fC (bZ (aA (aC dF (aC IP b9 (tR (eI 1))) (eI 1)) aH)) (t9 3)
   (aL (iX (tV (aC (tX ah) xU b9))
    (bF 1 (aC dF dC fO))
    eG)
   (bF 2 (aC mulM fO (eI 2)))))
  (b8 dC))))
def fK:kN:=c7 3 1
  (aL (jK 1 (fB aH))
  (aL (bF 2 (eI 0))
  (aL (uA mU (tV (aC FJ b9 (eI 0)))
   (aL (iX (tV (aC rD (aC j3 b9 (eI 2)) (eI 1)))
    (sX (mP 1 gW (aZ fO)))
    eG)
   (aL (bF 0 (aC sA b9 (eI 2)))
   (bF 2 (aC dF fO (eI 1))))))
  (b8 (cM dO (bM 1))))))
def cQ:sC:=runM 3 3
  ((iX (tV (aC (uB af) dC fO))
   (iE 2 (aZ (aO iB (aA b9 (aA (aO fK (bM 1)) aH)))) dC)
   eG))
  dC
def eO:sC:=CJ 7 4
  ((aL (bF 4 (aC repLM (fB (aA (eI 0) aH)) (aC dF (cM cB (bM 0)) (eI 1))))
  (fC (bP fO) (VH 5 6)
   (OW (tV (aC rD (aC nV mO dC) mO)) cQ (aA b9 (aA (aC nO dC mO) aH)) 3
    (bF 4 (aO LL.i7 (aA kO (bM 6))))
    eG))))
  (aC dF (fB (aA (eI 0) aH)) (IE kO LO (oE (tR (eI 1)))))
def gH:kN:=c7 7 1
  (aL (jK 1 (fB aH))
  (aL (jK 2 (fB aH))
  (aL (II 3)
  (aL (fC (bP (aO MA.j8 (bM 0))) (t9 4)
   (aL (bF 5 (aO mE (bM 4)))
   (aL (uF 6 (tV kO) eO (aA b9 (aA mO (bM 2))) 2 3 (aC dF (fB (aA (eI 1) aH)) (aC repLM (fB (aA (eI 0) aH)) (cM cB (bM 0)))))
   (aL (sX (mP 2 gW (aZ (gQ (aA mO (bM 6))))))
   (sX (mP 1 gW (aZ (gQ (aA kO (aA (cM dO (bM 6)) aH))))))))))
  (b8 (cM dO (bM 1)))))))
def iM:kN:=c7 4 2
  (aL (jK 2 (fB aH))
  (aL (fC (bP dC) (t9 3)
   (sX (mP 2 gW (aZ (cM dO (aA (bO 1 [1,0,3] (bZ (aA (cM cB (bM 1)) aH)) (g1 0) (tV (aC (tX ah) (aC gT dC b9) (aC gT fO xU))) b9) aH))))))
  (b8 (cM dO (bM 2)))))
open Z4 LL MA
theorem DC{t:TF}{b:L4.SF}{Q:bB->Prop}(P:Nat->bB->Prop)(step:∀m ρ,P m ρ->(t (bH ρ)=ae ah/\Q ρ)\/(t (bH ρ)=ae af/\Nx (b ρ) λa=>∃d,d<m/\P d a)):∀(N n:Nat) (ρ:bB),n<N->P n ρ->Nx (uA N t b ρ) Q
 |0,n,ρ,h,_=>by lia
 |N+1,n,ρ,h,p=>by
  show Nx (match t (bH ρ) with
   |none=>.no
   |some ah=>.nx ρ
   |some af=>match b ρ with
    |.nx a=>dP t b N a
    |o=>o) Q
  rcases step n ρ p with⟨e,q⟩|⟨e,a,j,d,lt,p'⟩
  .rw [e];show⟨ρ,rfl,q⟩
  .rw [e];dsimp only;rw[j];show DC P step N d a ∅ p'
section
variable{x:Q0a}
abbrev In(x:Q0a)(a:Q0e):Prop:=∀t∈a,0<=t/\t<(⇑x:Int)
def aBE{a:Q0e}(h:⇑a<=1000):tV (cM allM (aA (bO 1 [0] (bP dC) (g1 0) bV (aO LL.iJ (aA b9 (aA (cM cB (bM 1)) aH)))) aH)) (bH [.ro (aF x),.ro (τ a)])=ae (a.all λt=>Zv (0<=t)&&Zv (t<(⇑x:Int))):=by
 show sS (d:=.bl (a.all λt=>Zv (0<=t)&&Zv (t<(⇑x:Int)))) (c8 (x:=.lst ((a.map λt=>Zv (0<=t)&&Zv (t<(⇑x:Int))).map D.bl)) ?_ ?_) rfl
 .rw [di];show eT (a.map D.int) rfl (by rw[bb];lia) (cC D.int _ a λt _=>⟨[ae (.int t),ae (aF x)],rfl,dQ (x:=.int t) (y:=.int ⇑x) rfl (c8 (x:=aF x) rfl gZ) (CT t ⇑x)⟩)
 .rw [n9,Bp];rfl
def WW(o:Ord.Rows x)(A:⇑x<=9){d:Q0e}(v:In x d)(F:⇑d<=1000):iB [aF x,τ d]=.ok (.bl (sZ x d)):=by
 have l:(d.all λt=>Zv (0<=t)&&Zv (t<(⇑x:Int)))=af:=jk.2 λt h=>by have:=v t h;simp;lia
 have J:=OG.Yt o A;have I:sZ x d=!((OG.T x).any λp=>Zv (p.2<p.1)&&(d.contains p.1&&d.contains p.2)):=by
  rw[jz];delta sZ;erw[jk,Bv,a2R,a2B,gr,not_and,Jg,Prod.forall,OG.Yu,decide_eq_true_eq,decide_eq_false_iff_not,a2A]
  constructor
  .intro h a b m j l n;rcases h b n a m.2.2 with z|z
   .exact z j
   .exact z l
  .intro h b m a l;have r:=v b m;by_cases j:b<a
   .exact .inr λq=>h a b ⟨r.1,r.2,l⟩ j q m
   .exact .inl j
 delta iB;show fF rfl (bN [.ro (aF x),.ro (τ d)] (p7 (tnE (b:=af) (by rw[<- l];show aBE F) rfl) rfl) (fP ?_));delta tQ;rw[c8 (x:=.lst (((OG.T x).map λp=>Zv (p.2<p.1)&&(d.contains p.1&&d.contains p.2)).map D.bl)) (z:=ae (.bl ((OG.T x).any λp=>Zv (p.2<p.1)&&(d.contains p.1&&d.contains p.2)))) ?_ ?_]
 .rw [I];rfl
 .rw [di];show eT ((OG.T x).map pairD) ?_ (by rw[bb];lia) (cC pairD _ (OG.T x) λp _=>⟨[ae (.int p.1),ae (.int p.2),ae (τ d)],rfl,?_⟩)
  .delta bP;rw[fG (x:=aF x) rfl (m7 o A)];rfl
  .refine Ea (p:=Zv (p.2<p.1)) (binI (x:=p.1) (y:=p.2) rfl rfl nY) (λh=>?_) λh=>?_
   .show _=ae (D.bl (Zv (p.2<p.1)&&(d.contains p.1&&d.contains p.2)));rw[h,qf];show Ea (p:=d.contains p.1) (dD (x:=.int p.1) (y:=τ d) rfl rfl qH) (λh2=>?_) λh2=>?_
    .rw [h2,qf];show dD (x:=.int p.2) (y:=τ d) rfl rfl qH
    .rw [h2,r9]
   .show (Zv (p.2<p.1)&&(d.contains p.1&&d.contains p.2))=ah;rw[h,r9]
 .rw [VU,Iz];rfl
end
theorem QL{n:Nat}:∀{r:Q0e},(∀a∈r,0<=a/\a<(n:Int))->c6 r<2^n
 |[],_=>Nat.two_pow_pos n
 |a::r,h=>by have d:=QL (n:=n) (r:=r) λb j=>h b (fg _ j);have l:=h a de;rw[c6];show Nat.or_lt_two_pow (Nat.pow_lt_pow_right ⋯ ∅) d
def JU{S:Q0e}(o:∀a∈S,0<=a)(i:Nat):c6 (S.filter λt=>Zv (t<((i+1:Nat):Int)))=c6 (S.filter λt=>Zv (t<(i:Int)))+if S.contains (i:Int)=af then 2^i else 0:=by
 have l:∀m:Int,∀a∈S.filter (λt=>Zv (t<m)),0<=a:=λm a n=>o a (e_.1 n).1;have d:∀(m:Int) (j:Nat),(c6 (S.filter λt=>Zv (t<m))).testBit j=Zv ((j:Int)∈S/\(j:Int)<m):=λm j=>by rw[jz,cR (l m),e_,decide_eq_true_eq,decide_eq_true_eq]
 by_cases h:(i:Int)∈S
 .rw [Z_ (ku.2 h),a19 (c6 (S.filter λt=>Zv (t<(i:Int)))) (2^i),JG (S:=c6 (S.filter λt=>Zv (t<(i:Int)))) (b:=i) (by rw[d,Zy ∅])];apply qz;intro j;rw[Hr,Hq,d,d,jz,Bu,decide_eq_true_eq,decide_eq_true_eq,decide_eq_true_eq]
  constructor
  .rintro ⟨a,b⟩;by_cases e:i=j
   .exact .inl e
   .exact .inr ⟨a,∅⟩
  .rintro (e|⟨a,b⟩)
   .subst e;show⟨h,∅⟩
   .exact ⟨a,∅⟩
 .rw [Zz λz=>h (ku.1 z)];show _=c6 (S.filter λt=>Zv (t<(i:Int)));apply qz;intro j;rw[d,d,jz,decide_eq_true_eq,decide_eq_true_eq]
  constructor
  .rintro ⟨a,b⟩;show⟨a,?_⟩;by_cases e:i=j
   .subst e;show Zw a h
   .omega
  .rintro ⟨a,b⟩;show⟨a,∅⟩
theorem WY{a:Int}:∀{ns:Q0e},a∈ns->a<=VI ns:=by
 have go:∀(l:Q0e) (m:Int),m<=l.foldl (λm b=>if b>m then b else m) m /\∀c∈l,c<=l.foldl (λm b=>if b>m then b else m) m:=by
  intro l
  induction l with
  |nil=>show λm=>⟨Jd _,λc d=>by cases d⟩
  |cons b l ih =>
   intro m;rw[jr];obtain⟨n,h2⟩:=ih (if b>m then b else m);have j:m<=(if b>m then b else m)/\b<=(if b>m then b else m):=by split<;>lia
   show⟨∅,λc d=>?_⟩;rcases cg.1 d with e|d
   .subst e;lia
   .exact h2 c d
 intro ns h
 cases ns with
 |nil=>cases h
 |cons b l =>
  rcases cg.1 h with e|h
  .subst e;show(go l a).1
  .exact (go l b).2 a h
def WZ{S:Q0e}(h:∀a∈S,0<=a/\a<9):mE [τ S]=.ok (.int (c6 S)):=by
 delta mE;show fF rfl ?_;show bN [.ro (τ S),.ri 0,.no,.no] rfl (bN [.ro (τ S),.ri 0,.ri 1,.no] rfl ?_);obtain⟨c,q,v,F⟩:∃c:Nat,lF (-1) S+1=(c:Int)/\(∀a∈S,a<(c:Int))/\c<=9:=by
  delta lF;by_cases l:S=[]
  .exact ⟨0,(by rw[Z_ l];rfl),λa d=>(by rw[l] at d;cases d),⋯⟩
  .have p:=QA l;have z:=h _ p;show⟨(VI S+1).toNat,by rw[Zz l];lia,λa d=>?_,∅⟩;have:=WY d;lia
 have L:Nx (fC (bZ (aA (aC dF (aC IP b9 (tR (eI 1))) (eI 1)) aH)) (t9 3)
   (aL (iX (tV (aC (tX ah) xU b9))
    (bF 1 (aC dF dC fO))
    eG)
   (bF 2 (aC mulM fO (eI 2)))) [.ro (τ S),.ri 0,.ri 1,.no]) λρ=>∃o j,ρ=[.ro (τ S),.ro (.int (c6 S)),o,j]:=by
  show qC c (λi ρ=>∃j,ρ=[.ro (τ S),.ro (.int (c6 (S.filter λt=>Zv (t<(i:Int))):Nat)),.ro (.int ((2^i:Nat):Int)),j]) (args1 ?_) ∅ ⟨.no,?_⟩ (λi ρ A n=>?_) λρ n=>?_
  .refine (binI (x:=(lF (-1) S)) (y:=1) (dD (x:=τ S) (y:=.int (-1)) rfl rfl ?_) rfl iH).trans (by rw[q]);show(intsOf (S.map D.int)).bind _=_;rw[LL.b7];rfl
  .rw [show(S.filter λt=>Zv (t<((0:Nat):Int)))=[] from a2t.2 λa d=>by have:=h a d;simp;lia];rfl
  .obtain ⟨j,rfl⟩:=n;show⟨[.ro (τ S),.ro (.int (c6 (S.filter λt=>Zv (t<(i:Int))):Nat)),.ro (.int ((2^i:Nat):Int)),.ri i],rfl,?_⟩;show uN (λρ=>ρ=[.ro (τ S),.ro (.int (c6 (S.filter λt=>Zv (t<((i+1:Nat):Int))):Nat)),.ro (.int ((2^i:Nat):Int)),.ri i]) ?_ λρ e=>?_
   .refine CO (S.contains (i:Int)) (sS (dD (x:=.int i) (y:=τ S) rfl rfl qH) rfl) (λm=>?_) λm=>?_
    .refine qB _ (binI (x:=(c6 (S.filter λt=>Zv (t<(i:Int))):Nat)) (y:=((2^i:Nat):Int)) rfl rfl iH) ?_;rw[JU (λa d=>(h a d).1),Z_ m,Int.natCast_add];rfl
    .refine uO ?_;rw[JU (λa d=>(h a d).1),Zz (by rw[m];show cf),wm]
   .subst e;show qB _ (binI (x:=((2^i:Nat):Int)) (y:=2) rfl rfl (AA ⋯)) ⟨.ro (.int i),?_⟩;rw[show((2^i:Nat):Int)*2=((2^(i+1):Nat):Int) by rw[a1X];push_cast;rfl];rfl
  .obtain ⟨j,rfl⟩:=n;show⟨.ro (.int ((2^c:Nat):Int)),j,?_⟩;rw[show(S.filter λt=>Zv (t<(c:Int)))=S from Iw.2 λa d=>Zx (v a d)]
 obtain⟨ρ,e,o,j,rfl⟩:=L;show bN _ e (fP rfl)
def DD{m i n:Nat}(a:i<n):tL m (i+1)=tL m i++if m.testBit i=af then[(i:Int)] else[]:=by delta tL;rw[x5,a2v];congr 1;rw[a2u,iu,gj];split<;>rfl
def W0{m i:Nat}:(m >>> i)%2=if m.testBit i=af then 1 else 0:=by have:=JI m i;rw[a17] at this;show this
def of_ok{m n:Nat}(z:m<2^n)(I:n<=9):fK [.int m]=.ok (τ (tL m n)):=by
 delta fK;show fF rfl ?_;show bN [.ri m,.ow (.lst []),.no] rfl (bN [.ri m,.ow (.lst []),.ri 0] rfl ?_);have L:Nx (uA mU (tV (aC FJ b9 (eI 0)))
   (aL (iX (tV (aC rD (aC j3 b9 (eI 2)) (eI 1)))
    (sX (mP 1 gW (aZ fO)))
    eG)
   (aL (bF 0 (aC sA b9 (eI 2)))
   (bF 2 (aC dF fO (eI 1))))) [.ri m,.ow (.lst []),.ri 0]) λρ=>∃p o,ρ=[p,.ow (aB (tL m n)),o]:=by
  show DC (λk ρ=>∃i:Nat,k+i=n/\ρ=[.ro (.int ((m >>> i:Nat):Int)),.ow (aB (tL m i)),.ri i]) (λk ρ A=>?_) mU n _ (by delta mU;lia) ⟨0,∅,by rw[Nat.shiftRight_zero];rfl⟩;obtain⟨i,J,rfl⟩:=A;have te:tV (aC FJ b9 (eI 0)) (bH [.ro (.int ((m >>> i:Nat):Int)),.ow (aB (tL m i)),.ri i])=ae (Zv (0<((m >>> i:Nat):Int))):=sS (binI (x:=((m >>> i:Nat):Int)) (y:=0) rfl rfl nY) rfl;by_cases l:m >>> i=0
  .refine .inl ⟨te.trans (by rw[l];rfl),.ro (.int ((m >>> i:Nat):Int)),.ri i,?_⟩;have:tL m n=tL m i:=by
    show jC (C7 _ _) (C7 _ _) λt=>?_;rw[gA,gA]
    constructor
    .rintro ⟨a,b⟩;show⟨⟨a.1,?_⟩,b⟩;show oj λq=>?_;have h:(m >>> i).testBit (t.toNat-i)=af:=by rw[Nat.testBit_shiftRight,show i+(t.toNat-i)=t.toNat by lia];show b
     rw[l,Ho] at h;cases h
    .rintro ⟨a,b⟩;show⟨⟨a.1,∅⟩,b⟩
   rw[this]
  .have v:i<n:=by show oj λq=>l ?_;rw[Hu];show Nat.div_eq_of_lt (gm z (mz ⋯ ∅))
   have j:0<((m >>> i:Nat):Int):=Int.natCast_pos.2 (Nat.pos_of_ne_zero l);show .inr ⟨te.trans (by rw[Zx j]),?_⟩;have F:⇑(tL m i)<=9:=by have:=mj (λb:Int=>m.testBit b.toNat) (aS 0 i);rw[aN] at this;show iq this ∅
   show uN (λρ=>ρ=[.ro (.int ((m >>> i:Nat):Int)),.ow (aB (tL m (i+1))),.ri i]) ?_ λρ e=>?_
   .refine CO (m.testBit i) (sS (binI (x:=(((m >>> i:Nat):Int)%2)) (y:=1) (binI (x:=((m >>> i:Nat):Int)) (y:=2) rfl rfl (d8 ⋯)) rfl gF) ?_) (λh=>?_) λh=>?_
    .rw [show((m >>> i:Nat):Int)%2=(((m >>> i)%2:Nat):Int) from rfl,W0];cases m.testBit i<;>rfl
    .refine ⟨_,GB (d:=.int i) (ds:=(tL m i).map D.int) rfl rfl (by rw[bb];lia),?_⟩;rw[DD v,Z_ h];show[Sv.ro _,Sv.ow (.lst ((tL m i).map D.int++[.int i])),Sv.ro _]=[Sv.ro _,Sv.ow (.lst ((tL m i++[(i:Int)]).map D.int)),Sv.ro _];rw[gy];rfl
    .refine uO ?_;rw[DD v,Zz (by rw[h];show cf),ki]
   .subst e;show gG [.ro (.int ((m >>> (i+1):Nat):Int)),.ow (aB (tL m (i+1))),.ri i] (fQ _ (binI (x:=((m >>> i:Nat):Int)) (y:=2) rfl rfl (lG ⋯ ⋯)) ?_) (qB _ (binI (x:=i) (y:=1) rfl rfl iH) ⟨k-1,∅,i+1,∅,rfl⟩);rw[show((m >>> i:Nat):Int)/2=(((m >>> i)/2:Nat):Int) from rfl,show m >>> (i+1)=(m >>> i)/2 from rfl];rfl
 obtain⟨ρ,e,p,o,rfl⟩:=L;show bN _ e (fP (c8 (x:=aB (tL m n)) rfl rfl))
section
variable{x:Q0a}
def kI(m:Nat):rF:=.inl (.inl (m:Int))
def lL(x:Q0a)(kd:KD):Prop:=⇑kd.1=⇑kd.2/\(∀q∈kd.1,q.isLeft=af)/\(∀(m:Nat) (d:D),aQ kd.1 kd.2 (kI m)=ae d->d=.bl (sZ x (tL m ⇑x))) /\∀d∈kd.2,∃b,d=.bl b
def GI(x:Q0a)(kd:KD)(m:Nat):KD:=if(aQ kd.1 kd.2 (kI m)).isSome=af then kd else cL kd.1 kd.2 (kI m) (.bl (sZ x (tL m ⇑x)))
def qK{ks:List rF}(h:∀q∈ks,q.isLeft=af)(m:Nat):kindB ks (kI m)=af:=by delta kindB;rw[jk];intro q a;rw[h q a];rfl
def aBF{m k:Nat}(h:kI m=kI k):m=k:=by have:=sx (sx h);lia
def QM{kd:KD}(h:lL x kd)(m:Nat):lL x (GI x kd m)/\⇑(GI x kd m).1<=⇑kd.1+1/\aQ (GI x kd m).1 (GI x kd m).2 (kI m)=ae (.bl (sZ x (tL m ⇑x))):=by
 delta GI;by_cases l:(aQ kd.1 kd.2 (kI m)).isSome=af
 .rw [Z_ l];obtain⟨d,a⟩:=a1R.1 l;show⟨h,∅,by rw[a,h.2.2.1 m d a]⟩
 .rw [Zz l];have n:=oH (k:=kI m) (v:=.bl (sZ x (tL m ⇑x))) h.1;show⟨⟨n.1,λq j=>?_,λk d a=>?_,λd a=>?_⟩,n.2,?_⟩
  .delta cL at j;split at j
   .exact h.2.1 q j
   .rcases ij.1 j with j|j
    .exact h.2.1 q j
    .rw [dh.1 j];rfl
  .rw [eL (ks:=kd.1) h.1] at a;split at a
   .rename_i e;cases a;rw[aBF e]
   .exact h.2.2.1 k d a
  .delta cL at a;split at a
   .obtain ⟨p,o,e⟩:=gf.1 a;split at e
    .exact ⟨_,e.symm⟩
    .rw [<- e];show h.2.2.2 _ (rf o).2
   .rcases ij.1 a with a|a
    .exact h.2.2.2 d a
    .exact ⟨_,dh.1 a⟩
  .rw [eL (ks:=kd.1) h.1,Z_ rfl]
def Yn{m:Nat}:In x (tL m ⇑x):=λt a=>(gA.1 a).1
def aBG{m n:Nat}(a:n<=9):⇑(tL m n)<=9:=by have:=mj (λb:Int=>m.testBit b.toNat) (aS 0 n);rw[aN] at this;show iq this a
theorem AW(v:Ord.Rows x)(l:⇑x<=9){kd:KD}(h:lL x kd)(O:⇑kd.1<16000000){m:Nat}(F:m<2^⇑x):cQ [aF x,.int m] kd=.ok (.bl (sZ x (tL m ⇑x)),GI x kd m):=by
 delta cQ;show zV λq=>?_;delta nU;rw[Z_ (show[aF x,D.int m].length+1=3 from rfl)];have e0:startM 3 [aF x,.int m] q kd=[.ro (aF x),.ri m,.ow (.aY q kd.1 kd.2)]:=rfl;rw[e0];have j:tV (aC (uB af) dC fO) (bH [.ro (aF x),.ri m,.ow (.aY q kd.1 kd.2)])=ae (!(aQ kd.1 kd.2 (kI m)).isSome):=by show sS (d:=.bl (!(aQ kd.1 kd.2 (kI m)).isSome)) (dD (x:=.int m) (y:=.aY q kd.1 kd.2) rfl rfl ?_) rfl;show(if kindB kd.1 (kI m)=af then _ else _)=_;rw[Z_ (qK h.2.1 m)];rfl
 have ret:∀(q2:Nat->ay->Prop) (a:KD),lL x a->(∀b o,q2 b o ->∃o2,q b o2)->aQ a.1 a.2 (kI m)=ae (.bl (sZ x (tL m ⇑x)))->zU (3-1) dC q [.ro (aF x),.ri m,.ow (.aY q2 a.1 a.2)]=ae (.bl (sZ x (tL m ⇑x)),a):=λq2 a h2 A I=>by have e:zU (3-1) dC q [.ro (aF x),.ri m,.ow (.aY q2 a.1 a.2)]=@ite _ (kindB a.1 (kI m)=af /\∀b o,q2 b o ->∃o2,q b o2) (qe _) ((aQ a.1 a.2 (kI m)).map λd=>(d,a)) ag:=rfl;rw[e];show(Z_ ⟨qK h2.2.1 m,A⟩).trans (by rw[I];rfl)
 obtain⟨L,U,p⟩:=QM h m
 cases hs:(aQ kd.1 kd.2 (kI m)).isSome with
 |true =>
  rw[hs] at j;have n:GI x kd m=kd:=by delta GI;rw[Z_ hs]
  rw[n] at p ⊢;rw[p7 j rfl];show ret q kd h (λb o z=>⟨o,z⟩) p
 |false =>
  rw[hs] at j;have n:GI x kd m=cL kd.1 kd.2 (kI m) (.bl (sZ x (tL m ⇑x))):=by delta GI;rw[Zz (by rw[hs];show cf)]
  have K:iE 2 (aZ (aO iB (aA b9 (aA (aO fK (bM 1)) aH)))) dC [.ro (aF x),.ri m,.ow (.aY q kd.1 kd.2)]=.nx [.ro (aF x),.ri m,.ow (.aY (adr q) (GI x kd m).1 (GI x kd m).2)]:=by
   have J:aZ (aO iB (aA b9 (aA (aO fK (bM 1)) aH))) [.ro (aF x),.ri m,.ow (.aY q kd.1 kd.2)]=ae ([.ro (aF x),.ri m,.ow (.aY q kd.1 kd.2)],.bl (sZ x (tL m ⇑x))):=by delta aZ;rw[dQ (x:=aF x) (y:=τ (tL m ⇑x)) rfl (fG rfl (of_ok F l)) (WW v l Yn (by have:=aBG (m:=m) l;lia))];rfl
   delta iE;rw[J,eg]
   show(match (if kindB kd.1 (kI m)=af/\⇑kd.2<jJ then ae ([.ro (aF x),.ri m,.ow (.aY (adr q) (cL kd.1 kd.2 (kI m) (.bl (sZ x (tL m ⇑x)))).1 (cL kd.1 kd.2 (kI m) (.bl (sZ x (tL m ⇑x)))).2)]:bB) else ag) with
    |some ρ'=>Out.nx ρ'
    |none=>.no)=_
   rw[Z_ ⟨qK h.2.1 m,by rw[<- h.1];delta jJ;lia⟩,<- n]
  rw[LX j K];show ret (adr q) (GI x kd m) L (λb o z=>z) p
abbrev PC:=List Int×List Int
def qL(p:PC):D:=.tup [.int (c6 p.1),aB p.2]
def nA(x:Q0a)(S:Q0e)(s:KD×List Int)(p:PC):KD×List Int:=if fW p.1 S=af then(GI x s.1 (c6 S-c6 p.1),if sZ x (g6 S p.1)=af then g5 s.2 p.2 else s.2) else s
def W2{S T:Q0e}(l:∀a∈S,0<=a)(d:∀a∈T,0<=a):(c6 T &&& c6 S=c6 T)↔fW T S=af:=by
 rw[AO,bX]
 constructor
 .intro h t j;obtain⟨i,rfl⟩:=js (d t j);show(cR l).1 (h i ((cR d).2 j))
 .intro h i m;show(cR l).2 (h _ ((cR d).1 m))
def W3{S T:Q0e}(l:∀a∈S,0<=a)(j:∀a∈T,0<=a)(h:fW T S=af):c6 S-c6 T=c6 (g6 S T)/\c6 T<=c6 S:=by
 have m:∀a∈g6 S T,0<=a:=λa n=>l a (bQ.1 n).1;have e:=uY (c6 T) (c6 (g6 S T));have e0:c6 T &&& c6 (g6 S T)=0:=by
  apply qz;intro i;rw[Bh,Ho,a2R];by_cases d:(i:Int)∈T
  .exact .inr (by rw[Ji,Ne,cR m];show λz=>(bQ.1 z).2 d)
  .exact .inl (by rw[Ji,Ne,cR j];show d)
 have e1:(c6 T ||| c6 (g6 S T))=c6 S:=by
  apply qz;intro i;rw[Hr,jz,Bu,cR j,cR m,cR l]
  constructor
  .rintro (a|a)
   .exact bX.1 h _ a
   .exact (bQ.1 a).1
  .intro a;by_cases d:(i:Int)∈T
   .exact .inl d
   .exact .inr (bQ.2 ⟨a,d⟩)
 rw[e0,e1] at e;lia
def aBH{S:Q0e}{n:Nat}(up:S.Pairwise (·<·))(h:∀a∈S,0<=a/\a<(n:Int)):tL (c6 S) n=S:=by
 show jC (C7 _ _) up λt=>?_;rw[gA]
 constructor
 .rintro ⟨a,b⟩;obtain⟨i,rfl⟩:=js a.1;show(cR λa j=>(h a j).1).1 b
 .intro d;show⟨h t d,?_⟩;obtain⟨i,rfl⟩:=js (h t d).1;show(cR λa j=>(h a j).1).2 d
theorem MG(hx:Ord.Rows x)(hn:⇑x<=9){S:Q0e}(O:DS x S){L:List PC}(n:∀p∈L,DS x p.1/\⇑p.2=⇑x+1)(hLl:⇑L<=1000){kd:KD}(h:lL x kd)(hl:⇑kd.1<=10000000):
  eO [aF x,.int (c6 S),.lst (L.map qL)] kd=.ok (aB (gR (L.foldl (nA x S) (kd,cc (⇑x+1) 0)).2),(L.foldl (nA x S) (kd,cc (⇑x+1) 0)).1)/\lL x (L.foldl (nA x S) (kd,cc (⇑x+1) 0)).1/\⇑(L.foldl (nA x S) (kd,cc (⇑x+1) 0)).1.1<=⇑kd.1+⇑L/\⇑(L.foldl (nA x S) (kd,cc (⇑x+1) 0)).2=⇑x+1:=by
 have I:∀{T:Q0e},DS x T ->∀a∈T,0<=a:=λhT a ha=>(hT.2 a ha).1.1;have v:∀(L:List PC),(∀p∈L,DS x p.1/\⇑p.2=⇑x+1) ->∀(s:KD×List Int),lL x s.1->⇑s.2=⇑x+1->lL x (L.foldl (nA x S) s).1/\⇑(L.foldl (nA x S) s).1.1<=⇑s.1.1+⇑L/\⇑(L.foldl (nA x S) s).2=⇑x+1:=by
  intro L
  induction L with
  |nil=>show λ_ s X h2=>⟨X,by simp,h2⟩
  |cons p L ih =>
   intro n s X h2;have K:=n p de;rw[jr];have one:lL x (nA x S s p).1/\⇑(nA x S s p).1.1<=⇑s.1.1+1/\⇑(nA x S s p).2=⇑x+1:=by
    delta nA;split
    .obtain ⟨c1,c2,_⟩:=QM X (c6 S-c6 p.1);show⟨c1,c2,?_⟩;dsimp only;split
     .rw [eM (by rw[h2,K.2]),h2]
     .exact h2
    .exact ⟨X,∅,h2⟩
   obtain⟨i1,i2,i3⟩:=ih (λr Z=>n r (fg _ Z)) _ one.1 one.2.2;show⟨i1,by rw[fj];lia,i3⟩
 have fin:=v L n (kd,cc (⇑x+1) 0) h (by simp);show⟨?_,fin⟩;delta eO;show VQ λq=>?_;delta uE;rw[Z_ (show[aF x,D.int (c6 S),D.lst (L.map qL)].length+1=4 from rfl)];have main:Nx ((aL (bF 4 (aC repLM (fB (aA (eI 0) aH)) (aC dF (cM cB (bM 0)) (eI 1))))
  (fC (bP fO) (VH 5 6)
   (OW (tV (aC rD (aC nV mO dC) mO)) cQ (aA b9 (aA (aC nO dC mO) aH)) 3
    (bF 4 (aO LL.i7 (aA kO (bM 6))))
    eG))) (startM 7 [aF x,.int (c6 S),.lst (L.map qL)] q kd)) λρ=>∃q2 l v6,(∀b o,q2 b o ->∃o2,q b o2)/\ρ=[.ro (aF x),.ro (.int (c6 S)),.ro (.lst (L.map qL)),.ow (.aY q2 (L.foldl (nA x S) (kd,cc (⇑x+1) 0)).1.1 (L.foldl (nA x S) (kd,cc (⇑x+1) 0)).1.2),.ro (aB (L.foldl (nA x S) (kd,cc (⇑x+1) 0)).2),l,v6]:=by
  show gG [.ro (aF x),.ro (.int (c6 S)),.ro (.lst (L.map qL)),.ow (.aY q kd.1 kd.2),.ro (aB (cc (⇑x+1) 0)),.no,.no] (fQ _ (dD (x:=.lst [.int 0]) (y:=.int ((⇑x+1:Nat):Int)) rfl (binI (x:=⇑x) (y:=1) (c8 rfl gZ) rfl iH) (rep0 (⇑x+1) ∅)) rfl) ?_;show m4 (L.map qL) (λi ρ=>∃q2 l v6,(∀b o,q2 b o ->∃o2,q b o2)/\ρ=[.ro (aF x),.ro (.int (c6 S)),.ro (.lst (L.map qL)),.ow (.aY q2 ((L.take i).foldl (nA x S) (kd,cc (⇑x+1) 0)).1.1 ((L.take i).foldl (nA x S) (kd,cc (⇑x+1) 0)).1.2),.ro (aB ((L.take i).foldl (nA x S) (kd,cc (⇑x+1) 0)).2),l,v6]) rfl ⟨q,.no,.no,λb o z=>⟨o,z⟩,rfl⟩ (λi d ρ hd U=>?_) λρ U=>by rw[bb,q_] at U;show U
  obtain⟨q2,l,v6,J,rfl⟩:=U;rw[c_] at hd;obtain⟨p,K,rfl⟩:=jf.1 hd;have hpm:=ko K;obtain⟨dT,hpl⟩:=n p hpm;have tk:(L.take (i+1)).foldl (nA x S) (kd,cc (⇑x+1) 0)=nA x S ((L.take i).foldl (nA x S) (kd,cc (⇑x+1) 0)) p:=by rw[wq,K,List.foldl_append];rfl
  have st:=v (L.take i) (λr Z=>n r (a2k Z)) (kd,cc (⇑x+1) 0) h (by simp);have til:⇑(L.take i)<=⇑L:=by rw[iz];lia
  rw[tk];generalize (L.take i).foldl (nA x S) (kd,cc (⇑x+1) 0)=s at st;obtain⟨s1,s2,s3⟩:=st;show⟨[.ro (aF x),.ro (.int (c6 S)),.ro (.lst (L.map qL)),.ow (.aY q2 s.1.1 s.1.2),.ro (aB s.2),.ro (.int (c6 p.1)),.ro (aB p.2)],rfl,?_⟩;generalize j:([.ro (aF x),.ro (.int (c6 S)),.ro (.lst (L.map qL)),.ow (.aY q2 s.1.1 s.1.2),.ro (aB s.2),.ro (.int (c6 p.1)),.ro (aB p.2)]:bB)=ρ;have te:tV (aC rD (aC nV mO dC) mO) (bH ρ)=ae (fW p.1 S):=by subst j;show sS (binI (x:=((c6 p.1 &&& c6 S:Nat):Int)) (y:=(c6 p.1)) (binI (x:=(c6 p.1)) (y:=(c6 S)) rfl rfl (uZ _ _)) rfl gF) ?_;show ae _=ae _;congr 1;rw[jz,decide_eq_true_eq,<- W2 (I O) (I dT)];lia
  delta OW IQ;rw[te];delta nA
  cases hsub:fW p.1 S with
  |false =>
   rw[Zz cf];show⟨ρ,rfl,q2,.ro (.int (c6 p.1)),.ro (aB p.2),J,j.symm⟩
  |true =>
   rw[Z_ rfl];obtain⟨md,Y⟩:=W3 (I O) (I dT) hsub;have hD:∀a∈g6 S p.1,0<=a/\a<(⇑x:Int):=λa ha=>(O.2 a (bQ.1 ha).1).1;have tl:tL (c6 S-c6 p.1) ⇑x=g6 S p.1:=by rw[md];show aBH (jl _ O.1) hD
   have cm:=AW hx hn s1 (by dsimp only at s2;lia) (m:=c6 S-c6 p.1) (by rw[md];show QL hD);rw[tl] at cm;have sm:stepM cQ (aA b9 (aA (aC nO dC mO) aH)) 3 ρ=ae (q2,.bl (sZ x (g6 S p.1)),GI x s.1 (c6 S-c6 p.1)):=by subst j;delta stepM;rw[args2 (x:=aF x) (y:=.int ((c6 S-c6 p.1:Nat):Int)) rfl ((binI (x:=(c6 S)) (y:=(c6 p.1)) rfl rfl nX).trans (by rw[Int.ofNat_sub Y]))];show(match cQ [aF x,.int ((c6 S-c6 p.1:Nat):Int)] s.1 with | .ok r=>ae (q2,r)|_=>ag)=_;rw[cm]
   dsimp only;rw[sm];have A:∀b o,adr q2 b o ->∃o2,q b o2:=λb o ⟨o3,z⟩=>J b o3 z
   cases hc:sZ x (g6 S p.1) with
   |false =>
    rw[Zz cf];show⟨_,rfl,adr q2,.ro (.int (c6 p.1)),.ro (aB p.2),A,by rw[<- j];rfl⟩
   |true =>
    rw[Z_ rfl];show qB (aB (g5 s.2 p.2)) ?_ ⟨adr q2,.ro (.int (c6 p.1)),.ro (aB p.2),A,by rw[<- j];rfl⟩;subst j;show dQ rfl rfl (CZ (by rw[s3];lia))
 obtain⟨ρ,e,q2,l,v6,J,rfl⟩:=main;rw[e];show zj 3 _ q _=_;generalize L.foldl (nA x S) (kd,cc (⇑x+1) 0)=s at fin;have ee:aC dF (fB (aA (eI 0) aH)) (IE kO LO (oE (tR (eI 1)))) (fZ [.ro (aF x),.ro (.int (c6 S)),.ro (.lst (L.map qL)),.ow (.aY q2 s.1.1 s.1.2),.ro (aB s.2),l,v6])=ae (aB (gR s.2)):=by
  obtain⟨r,z,F⟩:∃r z,s.2=r++[z]:=by
   rcases List.eq_nil_or_concat s.2 with e|⟨r,z,e⟩
   .have:=fin.2.2;rw[e] at this;simp at this
   .exact ⟨r,z,by rw[e,List.concat_eq_append]⟩
  have rl:⇑r<=9:=by have:=fin.2.2;rw[F,gi] at this;simp at this;lia
  show dD (x:=.lst [.int 0]) (y:=.lst (r.map D.int)) rfl ?_ ?_
  .delta IE;show slM (aB s.2) ag (ae (-1))=_;rw[F];delta aB;rw[gy];show WK
  .rw [uL (by rw[bb];simp;lia)];delta gR aB;rw[F,List.dropLast_concat];rfl
 have F:zj 3 (aC dF (fB (aA (eI 0) aH)) (IE kO LO (oE (tR (eI 1))))) q [.ro (aF x),.ro (.int (c6 S)),.ro (.lst (L.map qL)),.ow (.aY q2 s.1.1 s.1.2),.ro (aB s.2),l,v6]=(aC dF (fB (aA (eI 0) aH)) (IE kO LO (oE (tR (eI 1)))) (fZ [.ro (aF x),.ro (.int (c6 S)),.ro (.lst (L.map qL)),.ow (.aY q2 s.1.1 s.1.2),.ro (aB s.2),l,v6])).bind λd=>@ite _ (∀a o,q2 a o ->∃o2,q a o2) (qe _) (ae (d,s.1)) ag:=rfl;rw[F,ee,eg];show Z_ J
def JV:(cJ x).Perm (oN x):=by
 delta cJ;have:=(eB (lt:=w8) ((oN x).map MC)).map (·.2);rw[di] at this;have e:((λt:VN=>t.2)∘MC)=λa:List Int=>a:=rfl;rw[e,List.map_id''] at this
 .exact this
 .exact λ_=>rfl
def Ex:(cJ x).Nodup:=JV.nodup_iff.2 QG
def gS(d:Ord.Rows x){a:Q0e}:a∈cJ x↔DS x a:=by rw[JV.mem_iff,QH d]
def Ym:(cJ x).Pairwise λa b=>⇑a<=⇑b:=by
 delta cJ;rw[pk];have d:Z3 w8 (lC w8 ((oN x).map MC)):=l3 zY _;show Ja (λ{a b} l j h=>?_) d;obtain⟨u,_,rfl⟩:=gf.1 ((eB _).mem_iff.1 l);obtain⟨v,_,rfl⟩:=gf.1 ((eB _).mem_iff.1 j);show ⇑u<=⇑v;have h:iF FK (sD FK) (MC v) (MC u)=ah:=h;delta iF at h;by_cases e:(⇑v:Int)=(⇑u:Int)
 .omega
 .rw [Zz e] at h;have:¬ (⇑v:Int)<(⇑u:Int):=of_decide_eq_false h;lia
def sub_len{S T:Q0e}(m:S.Pairwise (·<·))(l:T.Pairwise (·<·))(h:fW T S=af)(a:T≠S):⇑T<⇑S:=by
 have e:T=S.filter λt=>T.contains t:=jC l (jl _ m) λt=>by rw[e_,ku];show⟨λz=>⟨bX.1 h t z,z⟩,λz=>z.2⟩
 have j:=mj (λt=>T.contains t) S;rw[<- e] at j;rcases uk ⇑T ⇑S with z|z
 .exact z
 .refine Zw ?_ a;rw[e];show Iw.2 λt d=>?_;have:⇑(S.filter λt=>T.contains t)=⇑S:=by rw[<- e];lia
  show List.length_filter_eq_length_iff.1 this t d
def jD(x:Q0a)(S:Q0e):List Int:=(cx (⇑x+1)).map λj=>cp x (cJ x) j S
def kB{S:Q0e}:⇑(jD x S)=⇑x+1:=by simp[jD]
def GJ{S:Q0e}{j:Nat}(h:j<=⇑x):η (jD x S) (j:Int)=cp x (cJ x) j S:=by delta η jD;rw[gj,c_,p0 ∅];rfl
theorem W4:jD x []=1::cc ⇑x 0:=by
 show JN (by rw[kB];simp) λi a=>?_;rw[kB] at a;rw[GJ ∅]
 cases i with
 |zero=>rfl
 |succ j =>
  have:η (1::cc ⇑x 0) ((j+1:Nat):Int)=0:=by delta η;rw[gj,jy,kg];split<;>rfl
  rw[this];show((cJ x).map λT=>if kU x T []=af then cp x (cJ x) j T else 0).sum=0;show m8 λT _=>?_
  cases T with
  |nil=>rfl
  |cons t T=>delta kU ME fW;simp
theorem fold_at(S:Q0e){j:Nat}(a:j<=⇑x):∀(L:Q0a) (s:KD×List Int),⇑s.2=⇑x+1 ->
  η ((L.map λT=>(T,jD x T)).foldl (nA x S) s).2 (j:Int)=η s.2 (j:Int)+(L.map λT=>if ME x T S=af then cp x (cJ x) j T else 0).sum/\⇑((L.map λT=>(T,jD x T)).foldl (nA x S) s).2=⇑x+1
 |[],s,h=>⟨by simp,h⟩
 |T::L,s,h=>by
  rw[bu,jr,bu,h_];have one:⇑(nA x S s (T,jD x T)).2=⇑x+1/\η (nA x S s (T,jD x T)).2 (j:Int)=η s.2 (j:Int)+if ME x T S=af then cp x (cJ x) j T else 0:=by
   delta nA ME;dsimp only
   cases hs:fW T S with
   |false=>rw[Zz cf,r9,Zz cf,ni];show⟨h,rfl⟩
   |true =>
    rw[Z_ rfl,qf];dsimp only
    cases hc:sZ x (g6 S T) with
    |false=>rw[Zz cf,Zz cf,ni];show⟨h,rfl⟩
    |true =>
     rw[Z_ rfl,Z_ rfl,eM (by rw[h,kB]),P8 (by rw[h,kB]),GJ a];show⟨h,rfl⟩
  obtain⟨l,d⟩:=fold_at S a L _ one.1;show⟨?_,d⟩;rw[l,one.2];lia
theorem aBI(o:Ord.Rows x){i:Nat}{S:Q0e}(n:(cJ x)[i]?=ae S)(q:S≠[])(kd:KD):gR ((((cJ x).take i).map λT=>(T,jD x T)).foldl (nA x S) (kd,cc (⇑x+1) 0)).2=jD x S:=by
 have y:=(gS o).1 (ko n);have p:=(fold_at (x:=x) S (gw _) ((cJ x).take i) (kd,cc (⇑x+1) 0) (by simp)).2;show JN (by rw[gJ ∅,p,kB]) λk v=>?_;rw[gJ ∅,p] at v;rw[GJ ∅,WJ ∅ ∅]
 cases k with
 |zero =>
  rw[Z_ (show((0:Nat):Int)=0 from rfl)];show 0=if S=[] then(1:Int) else 0
  rw[Zz q]
 |succ j =>
  rw[Zz ∅,show((j+1:Nat):Int)-1=(j:Int) by lia,(fold_at S (j:=j) ∅ _ _ (by simp)).1];have z:η (cc (⇑x+1) (0:Int)) (j:Int)=0:=by delta η;rw[kg];split<;>rfl
  rw[z,iu];show _=((cJ x).map λT=>if kU x T S=af then cp x (cJ x) j T else 0).sum;have e:(cJ x).map (λT=>if kU x T S=af then cp x (cJ x) j T else 0)=((cJ x).take i).map (λT=>if kU x T S=af then cp x (cJ x) j T else 0)++((cJ x).drop i).map (λT=>if kU x T S=af then cp x (cJ x) j T else 0):=by rw[<- gy,uq]
  have m:=(df.1 n).1;have l:=(df.1 n).2;rw[e,a2f];have d0:(((cJ x).drop i).map λT=>if kU x T S=af then cp x (cJ x) j T else 0).sum=0:=by
   show m8 λT d=>?_
   cases hb:kU x T S with
   |false=>rfl
   |true =>
    delta kU ME at hb;rw[gr,gr] at hb;have a:T≠S:=of_decide_eq_true hb.1;have dT:=(gS o).1 (List.mem_of_mem_drop d);have lt:=sub_len y.1 dT.1 hb.2.1 a;rw[mn m,l] at d;rcases cg.1 d with z|d
    .exact Zw z a
    .have h:=Ym (x:=x);rw[<- uq i (cJ x),Bj] at h;have h2:=h.2.1;rw[mn m,l,gc] at h2;have:=h2.1 T d;lia
  rw[d0,ni];show fT λT d=>?_;have a:T≠S:=λz=>by have nd:=Ex (x:=x);rw[<- uq i (cJ x),rh] at nd;show nd.2.2 T d S ?_ z;rw[mn m,l];show de
  delta kU;rw[Zx a,qf]
def aBJ{f k:L4.SF}{ρ:bB}{o:Out}{Q:bB->Prop}(h:Nx (f ρ) Q)(h2:∀a,Q a->k a=o):aL f k ρ=o:=by obtain⟨a,e,q⟩:=h;show bN a e (h2 a q)
def xB(x:Q0a)(S:Q0e):D:=.tup [τ S,τ (jD x S)]
theorem JW:∀{l:List D},(∀d∈l,∃b,d=.bl b)->kX l=af
 |[],_=>rfl
 |d::l,h=>by obtain⟨b,rfl⟩:=h d de;show(af&&kX l)=af;rw[JW λe a=>h e (fg _ a)];rfl
def uV(v:Ord.Rows x)(O:⇑x<=9):gH [aF x]=.ok (.tup ((cJ x).map (xB x))):=by
 delta gH;show fF rfl ?_;show bN [.ro (aF x),.ow (.lst []),.no,.no,.no,.no,.no] rfl (bN [.ro (aF x),.ow (.lst []),.ow (.lst []),.no,.no,.no,.no] rfl (bN [.ro (aF x),.ow (.lst []),.ow (.lst []),.ow (.aY gX [] []),.no,.no,.no] rfl ?_));have dl:⇑(cJ x)<=512:=by rw[sY];show AU O
 show aBJ (Q:=λρ=>∃(q:Nat->ay->Prop) (kd:KD) (l j v6:Sv),ρ=[.ro (aF x),.ow (.lst ((cJ x).map (xB x))),.ow (.lst (((cJ x).map λT=>(T,jD x T)).map qL)),.ow (.aY q kd.1 kd.2),l,j,v6]) ?_ λρ o=>?_
 rotate_left
 .obtain ⟨q,kd,l,j,v6,rfl⟩:=o;show fP (c8 (x:=.lst ((cJ x).map (xB x))) rfl rfl)
 show m4 ((cJ x).map τ) (λi ρ=>∃(q:Nat->ay->Prop) (kd:KD) (l j v6:Sv),(lL x kd/\⇑kd.1<=1000*i)/\ρ=[.ro (aF x),.ow (.lst (((cJ x).take i).map (xB x))),.ow (.lst ((((cJ x).take i).map λT=>(T,jD x T)).map qL)),.ow (.aY q kd.1 kd.2),l,j,v6]) ?_ ⟨gX,([],[]),.no,.no,.no,⟨⟨rfl,λq hq=>(by cases hq),λm d h=>(by cases h),λd F=>(by cases F)⟩,by simp⟩,rfl⟩ (λi d ρ F J=>?_) λρ J=>?_
 .delta bP;rw[fG (x:=aF x) rfl (C8 v O)];rfl
 .obtain ⟨q,kd,l,j,v6,⟨Z,hk⟩,rfl⟩:=J;rw[c_] at F;obtain⟨S,I,rfl⟩:=jf.1 F;have U:=(df.1 I).1;have dS:=(gS v).1 (ko I);have S9:∀a∈S,0<=a/\a<9:=λa ha=>by have:=(dS.2 a ha).1;lia
  have tk:(cJ x).take (i+1)=(cJ x).take i++[S]:=by rw[wq,I];rfl
  have L:⇑((cJ x).take i)=i:=by rw[iz];lia
  show⟨_,rfl,?_⟩;show gG [.ro (aF x),.ow (.lst (((cJ x).take i).map (xB x))),.ow (.lst ((((cJ x).take i).map λT=>(T,jD x T)).map qL)),.ow (.aY q kd.1 kd.2),.ro (τ S),.ro (.int (c6 S)),v6] (fQ _ (fG rfl (WZ S9)) rfl) ?_;show uN (λρ=>∃(q:Nat->ay->Prop) (kd:KD),(lL x kd/\⇑kd.1<=1000*(i+1))/\ρ=[.ro (aF x),.ow (.lst (((cJ x).take i).map (xB x))),.ow (.lst ((((cJ x).take i).map λT=>(T,jD x T)).map qL)),.ow (.aY q kd.1 kd.2),.ro (τ S),.ro (.int (c6 S)),.ro (aB (jD x S))]) ?_ λρ o=>?_
  .by_cases K:S=[]
   .refine ⟨_,?_,q,kd,⟨Z,∅⟩,rfl⟩;delta uF;rw[show tV (bE 4) (bH [.ro (aF x),.ow (.lst (((cJ x).take i).map (xB x))),.ow (.lst ((((cJ x).take i).map λT=>(T,jD x T)).map qL)),.ow (.aY q kd.1 kd.2),.ro (τ S),.ro (.int (c6 S)),v6])=ae ah by rw[K];rfl];dsimp only;rw[dD (x:=.lst [.int 1]) (y:=aB (cc ⇑x 0)) (z:=ae (aB (jD x S))) rfl (dD (x:=.lst [.int 0]) (y:=.int ⇑x) rfl (c8 rfl gZ) (rep0 ⇑x ∅)) ?_]
    .rfl
    .delta aB;rw[uL (by simp;lia),K,W4];rfl
   .have hL:∀p∈((cJ x).take i).map λT=>(T,jD x T),DS x p.1/\⇑p.2=⇑x+1:=λp hp=>by obtain⟨T,hT,rfl⟩:=gf.1 hp;show⟨(gS v).1 (a2k hT),kB⟩
    obtain⟨Y,X,c3,c4⟩:=MG v O dS hL (by rw[bb];lia) Z ∅;rw[aBI v I K] at Y;rw[bb,L] at c3;generalize (((cJ x).take i).map λT=>(T,jD x T)).foldl (nA x S) (kd,cc (⇑x+1) 0)=s at Y X c3;show⟨_,?_,adr q,s.1,⟨X,∅⟩,rfl⟩;delta uF;rw[show tV (bE 4) (bH [.ro (aF x),.ow (.lst (((cJ x).take i).map (xB x))),.ow (.lst ((((cJ x).take i).map λT=>(T,jD x T)).map qL)),.ow (.aY q kd.1 kd.2),.ro (τ S),.ro (.int (c6 S)),v6])=ae af by
     cases S with
     |nil=>show Zw rfl K
     |cons _ _=>rfl]
    dsimp only;have sa:CK eO (aA (bE 0) (aA (bE 5) (bM 2))) 2 3 [.ro (aF x),.ow (.lst (((cJ x).take i).map (xB x))),.ow (.lst ((((cJ x).take i).map λT=>(T,jD x T)).map qL)),.ow (.aY q kd.1 kd.2),.ro (τ S),.ro (.int (c6 S)),v6]=ae (q,aB (jD x S),s.1):=by
     have e1:CK eO (aA (bE 0) (aA (bE 5) (bM 2))) 2 3 [.ro (aF x),.ow (.lst (((cJ x).take i).map (xB x))),.ow (.lst ((((cJ x).take i).map λT=>(T,jD x T)).map qL)),.ow (.aY q kd.1 kd.2),.ro (τ S),.ro (.int (c6 S)),v6]=(match eO [aF x,.int (c6 S),.lst ((((cJ x).take i).map λT=>(T,jD x T)).map qL)] kd with
      |.ok r=>if LW ((((cJ x).take i).map λT=>(T,jD x T)).map qL) r.1=af/\kX r.2.2=af then ae (q,r) else ag
      |_=>ag):=rfl
     rw[e1,Y];dsimp only;have A:LW ((((cJ x).take i).map λT=>(T,jD x T)).map qL) (aB (jD x S))=af:=by
      have ec:jD x S=cp x (cJ x) 0 S::(jD x S).tail:=by delta jD;rw[wt];rfl
      have U:kX ((jD x S).tail.map D.int)=af:=LL.qE _;rw[ec]
      cases hh:((cJ x).take i) with
      |nil=>show U
      |cons _ _=>show U
     rw[Z_ ⟨A,JW X.2.2.2⟩]
    rw[sa];rfl
  .obtain ⟨q2,n,si,rfl⟩:=o;show gG [.ro (aF x),.ow (.lst (((cJ x).take i).map (xB x))),.ow (.lst ((((cJ x).take i).map λT=>(T,jD x T)).map qL++[qL (S,jD x S)])),.ow (.aY q2 n.1 n.2),.ro (τ S),.ro (.int (c6 S)),.ro (aB (jD x S))] (GB (d:=qL (S,jD x S)) (ds:=(((cJ x).take i).map λT=>(T,jD x T)).map qL) (zh rfl rfl) rfl (by rw[bb,bb];lia)) ?_;show⟨_,GB (d:=xB x S) (ds:=((cJ x).take i).map (xB x)) (zh rfl (c8 (x:=aB (jD x S)) rfl rfl)) rfl (by rw[bb];lia),q2,n,.ro (τ S),.ro (.int (c6 S)),.ro (aB (jD x S)),si,?_⟩;rw[tk,gy,gy,gy];rfl
 .rw [bb,q_] at J;obtain⟨q,kd,l,j,v6,_,e⟩:=J;show⟨q,kd,l,j,v6,e⟩
def DF(x:Q0a)(m:Nat):List (List Int):=(aS 0 m).map λb=>(aS 0 m).filter λa=>(row x b).contains a
def oO{m:Nat}:⇑(DF x m)=m:=by delta DF;rw[bb,aN]
def fR{b:Nat}(a:b<⇑x):x[b]?=ae (row x (b:Int)):=by delta row;simp[a]
def oP{m b:Nat}{r:Q0e}(h:(DF x m)[b]?=ae r):b<m/\r=(aS 0 m).filter λa=>(row x (b:Int)).contains a:=by
 have d:b<m:=by
  have:=(df.1 h).1
  rwa [oO] at this
 show⟨d,?_⟩;delta DF at h;rw[c_,gI d,iu] at h;show(dg h).symm
theorem QN(l:Ord.Rows x){m:Nat}(q:m<=⇑x):Ord.Rows (DF x m) where
 up:=λb r h=>by obtain⟨_,rfl⟩:=oP h;show jl _ (j7 m)
 rng:=λb r h a d=>by obtain⟨_,rfl⟩:=oP h;have:=aX.1 (e_.1 d).1;rw[oO];lia
 tr:=λb a r v h d h2 c j=>by obtain⟨n,rfl⟩:=oP h;obtain⟨p,rfl⟩:=oP h2;rw[e_] at d j ⊢;show⟨j.1,?_⟩;rw[ku] at d j ⊢;show l.tr b a _ _ (fR ∅) d.2 (fR ∅) c j.2
 B9:=λb r h n=>by obtain⟨o,rfl⟩:=oP h;have:=(e_.1 n).2;rw[ku] at this;show l.B9 b _ (fR ∅) this
def AX(q:⇑x<=9){m:Nat}(v:m<=⇑x):iM [aF x,τ (aS 0 m)]=.ok (aF (DF x m)):=by
 delta iM;show JO rfl ?_;show cD [.ro (aF x),.ro (τ (aS 0 m)),.ow (.lst []),.no] rfl ?_;show lH (λρ=>∃h,ρ=[.ro (aF x),.ro (τ (aS 0 m)),.ow (.lst ((DF x m).map τ)),h]) ?_ λρ ⟨h,e⟩=>?_
 .refine m4 ((aS 0 m).map D.int) (λi ρ=>∃h,ρ=[.ro (aF x),.ro (τ (aS 0 m)),.ow (.lst (((DF x m).take i).map τ)),h]) rfl ⟨.no,rfl⟩ (λi d ρ l j=>?_) λρ j=>?_
  .obtain ⟨h,rfl⟩:=j;have n:i<m:=by
    have:=(df.1 l).1
    rwa [bb,aN] at this
   rw[c_,gI n,iu] at l;cases l;have g:(DF x m)[i]?=ae ((aS 0 m).filter λa=>(row x (i:Int)).contains a):=by delta DF;rw[c_,gI n,iu];rfl
   show⟨[.ro (aF x),.ro (τ (aS 0 m)),.ow (.lst (((DF x m).take i).map τ)),.ri i],rfl,_,GB (i:=2) (ds:=((DF x m).take i).map τ) (d:=τ ((aS 0 m).filter λa=>(row x (i:Int)).contains a)) (c8 (x:=aB ((aS 0 m).filter λa=>(row x (i:Int)).contains a)) ?_ rfl) rfl (by rw[bb,iz,oO];lia),.ri i,?_⟩
   .refine eT ((aS 0 m).map D.int) (CP (c8 (x:=τ (aS 0 m)) rfl (by delta τ;rw[d9,bb,aN])) ∅) (by rw[bb,aN];lia) (fJ D.int (λa=>(row x (i:Int)).contains a) D.int (aS 0 m) λa p=>⟨[ae (.int a),ae (τ (aS 0 m)),ae (aF x),ae (.int i)],rfl,?_,λ_=>rfl⟩);have o:=aX.1 p;obtain⟨c,rfl⟩:=js o.1;show sS (d:=.bl ((row x (i:Int)).contains (c:Int))) (dD (x:=.int c) (y:=τ (row x i)) (dD (x:=τ (aS 0 m)) (y:=.int c) rfl rfl ?_) (dD (x:=aF x) (y:=.int i) rfl rfl (F7 ∅ ∅)) qH) rfl;show wV ((aS 0 m).map D.int) (c:Int)=_;show i6 ?_;rw[gI ∅,iu]
   .rw [wq,g,gy];rfl
  .rw [bb,aN] at j;obtain⟨h,rfl⟩:=j;show⟨h,?_⟩;rw[show(DF x m).take m=DF x m from pj (by rw[oO];lia)]
 .subst e;show j5 _ (c8 (x:=.lst ((DF x m).map τ)) rfl rfl) rfl
def Tj{ρ:cN}{m:Nat}(a:m<=9):ON (aA (eC (.int (m:Int))) aH) ρ=ae (τ (aS 0 m)):=by show(if((m:Int)).natAbs<=16777216 then ae (D.tup ((aS 0 ((m:Int)).toNat).map D.int)) else ag)=_;rw[Z_ ∅];rfl
def Yl:⇑(oN x)<=2^⇑x:=by
 delta oN;rw[bb];have:=mj (λS=>FL x S) (cx (2^⇑x))
 rwa [jh] at this
def JX(a:Ord.Rows x)(d:⇑x<=9){ρ:cN}{i:Nat}(h:bE i ρ=ae (aF x)):cM cB (aA (aO MA.iA (bM i)) aH) ρ=ae (.int (⇑(oN x):Int)):=by show c8 (x:=.lst ((cJ x).map τ)) (fG h (C9 a d)) ?_;rw[jL,bb,sY]
def oQ(x:Q0a):D:=.tup ((cJ x).map (xB x))
def W5{i:Nat}{S:Q0e}(a:(cJ x)[i]?=ae S):gT (oQ x) (.int (i:Int))=ae (xB x S):=by delta oQ;rw[n0];show oA ?_;rw[c_,a];rfl
end
end DB
namespace K29
open L3 L4
def eZ:kN:=c7 3 1
  (aL (bF 1 (aO LL.l7 (aA b9 (aA (eI 0) (aA (eI 9) (aA (eI 100003) aH))))))
  (aL (bF 2 (eI 80))
  (aL (iX (tV (aC rD (aC j3 (aC gT (aO LL.f9 (aA (aO LL.iG (aA b9 (aA (eI 40) aH))) (aA (eI 1) (aA (eI 900001) aH)))) (eI 0)) (eI 8)) (eI 3)))
   (bF 2 (eI 130))
   eG)
  (aL (iX (tV (aC FJ (cM cB (aA (aO MA.iA (bM 1)) aH)) fO))
   (b8 (aO DB.iM (aA dC (aA (ON (aA (eI 6) aH)) aH))))
   eG)
  (b8 dC)))))
def yJ:kN:=c7 8 1
  (aL (bF 1 (aO eZ (bM 0)))
  (aL (bF 2 (aO MA.iA (bM 1)))
  (aL (bF 3 (aO DB.gH (bM 1)))
  (aL (iX (OL (nN (tV (iW "tuple" xU))) (tV (aC neM (cM cB (bM 3)) (cM cB (bM 2)))))
   (b8 (eC (.bl ah)))
   eG)
  (aL (fC (bP (aO LL.f9 (aA (aO LL.iG (aA b9 (aA (eI 2) aH))) (aA (eI 3) (aA (eI 200017) aH))))) (t9 4)
   (aL (bF 5 (aC j3 kO (cM cB (bM 2))))
   (aL (bF 6 (aO LL.eF (aA (aO DB.iM (aA dC (aA (aC gT fO mO) aH))) aH)))
   (aL (iX (nN (tV (aO LL.mB (aA OE (aA (aC dF (cM cB (aA (aC gT fO mO) aH)) (eI 1)) aH)))))
    (b8 (eC (.bl ah)))
    eG)
   (aL (bF 7 (gQ (aA (aC gT fO mO) (aA (aC dF OE (aC CD (gQ (aA (eI 0) aH)) (aC nO (cM cB (bM 1)) (cM cB (aA (aC gT fO mO) aH))))) aH))))
   (iX (nN (tV (aO (LL.d7 6) (aA (aC gT xU mO) (bM 7)))))
    (b8 (eC (.bl ah)))
    eG))))))
  (b8 (eC (.bl af))))))))
open Z4 LL MA DB
section
variable{x:Q0a}{S:Q0e}
def jZ(x:Q0a)(S:Q0e):List (List Int):=S.map λb=>(aS 0 ⇑S).filter λa=>(row x b).contains (η S a)
def oR(S T:Q0e):List Int:=(aS 0 ⇑S).filter λa=>T.contains (η S a)
def fA:⇑(jZ x S)=⇑S:=by delta jZ;rw[bb]
def qM{i:Nat}(h:i<⇑S):S[i]?=ae (η S (i:Int)):=by delta η;rw[gj,cn h];rfl
def u6{a:Int}(d:0<=a)(h:a<(⇑S:Int)):η S a∈S:=by obtain⟨i,rfl⟩:=js d;show ko (qM ∅)
def DG{s:Int}(h:s∈S):∃a:Int,(0<=a/\a<(⇑S:Int))/\η S a=s:=by obtain⟨i,d,rfl⟩:=og h;show⟨i,⟨∅,∅⟩,?_⟩;have:=qM (S:=S) d;rw[cn d] at this;show(dg this).symm
def Ew(up:S.Pairwise (·<·)){a b:Int}(m:0<=a)(o:a<b)(n:b<(⇑S:Int)):η S a<η S b:=by
 obtain⟨i,rfl⟩:=js m;obtain⟨j,rfl⟩:=js (show 0<=b by lia);have h:i<⇑S:=∅
 have d:j<⇑S:=∅
 have e1:=qM h;have l:=qM d;rw[cn h] at e1;rw[cn d] at l;rw[<- dg e1,<- dg l];show ur.1 up i j h d ∅
def oS(up:S.Pairwise (·<·)){a b:Int}(j:0<=a/\a<(⇑S:Int))(d:0<=b/\b<(⇑S:Int)):a<b↔η S a<η S b:=by
 rcases Int.lt_trichotomy a b with h|h|h
 .exact ⟨λ_=>Ew up j.1 h d.2,λ_=>h⟩
 .subst h;lia
 .have:=Ew up d.1 h j.2;lia
def aBK(up:S.Pairwise (·<·)){a b:Int}(h:0<=a/\a<(⇑S:Int))(d:0<=b/\b<(⇑S:Int))(e:η S a=η S b):a=b:=by have j:=oS up h d;have h2:=oS up d h;lia
def dJ{T:Q0e}{a:Int}:a∈oR S T↔(0<=a/\a<(⇑S:Int))/\η S a∈T:=by delta oR;rw[e_,aX,ku,iu]
def AZ{b:Nat}(d:b<⇑S):(jZ x S)[b]?=ae ((aS 0 ⇑S).filter λa=>(row x (η S (b:Int))).contains (η S a)):=by delta jZ;rw[c_,qM d];rfl
def tE{a b:Int}(d:0<=b/\b<(⇑S:Int)):a∈row (jZ x S) b↔(0<=a/\a<(⇑S:Int))/\η S a∈row x (η S b):=by obtain⟨i,rfl⟩:=js d.1;rw[show row (jZ x S) (i:Int)=(aS 0 ⇑S).filter λa=>(row x (η S (i:Int))).contains (η S a) by delta row;rw[gj,AZ ∅];rfl];rw[e_,aX,ku,iu]
def oU{b:Nat}{r:Q0e}(h:(jZ x S)[b]?=ae r):b<⇑S/\r=(aS 0 ⇑S).filter λa=>(row x (η S (b:Int))).contains (η S a):=by
 have d:b<⇑S:=by
  have:=(df.1 h).1
  rwa [fA] at this
 rw[AZ d] at h;show⟨d,(dg h).symm⟩
theorem DH(y:Ord.Rows x)(o:DS x S):Ord.Rows (jZ x S) where
 up:=λb r h=>by obtain⟨_,rfl⟩:=oU h;show jl _ (j7 _)
 rng:=λb r h a d=>by obtain⟨_,rfl⟩:=oU h;have:=aX.1 (e_.1 d).1;rw[fA];lia
 tr:=λb a r v h d h2 c m=>by obtain⟨z,rfl⟩:=oU h;obtain⟨I,rfl⟩:=oU h2;rw[e_] at d m ⊢;show⟨m.1,?_⟩;rw[ku] at d m ⊢;have l:=(o.2 _ (u6 (S:=S) (a:=(b:Int)) ∅ ∅)).1;have p:=(o.2 _ (u6 (S:=S) (a:=(a:Int)) ∅ ∅)).1;obtain⟨i,n⟩:=js l.1;obtain⟨j,A⟩:=js p.1;rw[n] at d ⊢ l;rw[A] at d m p;show y.tr i j _ _ (fR ∅) d.2 (fR ∅) _ m.2
 B9:=λb r h z=>by obtain⟨F,rfl⟩:=oU h;have q:=(e_.1 z).2;rw[ku] at q;have l:=(o.2 _ (u6 (S:=S) (a:=(b:Int)) ∅ ∅)).1;obtain⟨i,n⟩:=js l.1;rw[n] at q l;show y.B9 i _ (fR ∅) q
def A1{T:Q0e}:(oR S T).Pairwise (·<·):=jl _ (j7 _)
def A2{T U:Q0e}(o:fW T S=af)(n:fW U S=af)(l:T.Pairwise (·<·))(j:U.Pairwise (·<·))(e:oR S T=oR S U):T=U:=by
 show jC l j λt=>?_;have go:∀{T U:Q0e},fW T S=af->oR S T=oR S U->t∈T->t∈U:=λ{T U} h e d=>by obtain⟨a,m,rfl⟩:=DG (bX.1 h t d);have:=dJ.2 ⟨m,d⟩;rw[e] at this;show(dJ.1 this).2
 show⟨go o e,go n e.symm⟩
def W6{T U:Q0e}(l:fW T S=af):fW (oR S T) (oR S U)=fW T U:=by
 rw[jz,bX,bX]
 constructor
 .intro h t j;obtain⟨a,d,rfl⟩:=DG (bX.1 l t j);show(dJ.1 (h a (dJ.2 ⟨d,j⟩))).2
 .intro h a d;have:=dJ.1 d;show dJ.2 ⟨this.1,h _ this.2⟩
def W7{T U:Q0e}:g6 (oR S U) (oR S T)=oR S (g6 U T):=by
 show jC (jl _ A1) A1 λa=>?_;rw[bQ,dJ,dJ,dJ,bQ]
 constructor
 .rintro ⟨⟨h,u⟩,n⟩;show⟨h,u,λt=>n ⟨h,t⟩⟩
 .rintro ⟨h,u,n⟩;show⟨⟨h,u⟩,λt=>n t.2⟩
def aBL(q:DS x S){D:Q0e}(v:fW D S=af):sZ (jZ x S) (oR S D)=sZ x D:=by
 rw[jz,AV,AV]
 constructor
 .intro h b l a p m d;obtain⟨i,o,rfl⟩:=DG (bX.1 v b l);obtain⟨j,n,rfl⟩:=DG (bX.1 v a d);show h i (dJ.2 ⟨o,l⟩) j ((tE o).2 ⟨n,p⟩) ((oS q.1 o n).2 m) (dJ.2 ⟨n,d⟩)
 .intro h b l a p m d;have l:=dJ.1 l;have d:=dJ.1 d;show h _ l.2 _ ((tE l.1).1 p).2 ((oS q.1 l.1 d.1).1 m) d.2
def aBM(n:DS x S){T U:Q0e}(d:fW T S=af)(a:fW U S=af)(l:T.Pairwise (·<·))(j:U.Pairwise (·<·)):kU (jZ x S) (oR S T) (oR S U)=kU x T U:=by delta kU ME;rw[W6 d,W7,aBL n (bX.2 λt m=>bX.1 a t (bQ.1 m).1)];congr 1;show decide_eq_decide.2 ⟨λh e=>h (by rw[e]),λh e=>h (A2 d a l j e)⟩
def aBN(l:DS x S){T:Q0e}(j:DS x T):DS (jZ x S) (oR S T):=by show⟨A1,λt a=>?_⟩;have h:=dJ.1 a;show⟨by rw[fA];show h.1,λs d=>?_⟩;have q:=(tE h.1).1 d;show dJ.2 ⟨q.1,(j.2 _ h.2).2 _ q.2⟩
def aBO(o:DS x S){T:Q0e}(m:DS (jZ x S) T):∃U,DS x U/\fW U S=af/\oR S U=T:=by
 have j:∀t∈T,0<=t/\t<(⇑S:Int):=λt d=>by have:=(m.2 t d).1;rwa [fA] at this
 show⟨T.map (η S),⟨?_,λu n=>?_⟩,?_,?_⟩
 .rw [pk];show m.1.imp_of_mem λ{a b} l v h=>(oS o.1 (j a l) (j b v)).1 h
 .obtain ⟨t,d,rfl⟩:=gf.1 n;have q:=o.2 _ (u6 (j t d).1 (j t d).2);show⟨q.1,λs p=>?_⟩;obtain⟨a,l,rfl⟩:=DG (q.2 s p);show rj ((m.2 t d).2 a ((tE (j t d)).2 ⟨l,p⟩))
 .refine bX.2 λu n=>?_;obtain⟨t,d,rfl⟩:=gf.1 n;show u6 (j t d).1 (j t d).2
 .refine jC A1 m.1 λa=>?_;rw[dJ]
  constructor
  .rintro ⟨l,h⟩;obtain⟨t,d,e⟩:=gf.1 h
   rwa [<- aBK o.1 (j t d) l e]
  .intro l;show⟨j a l,rj l⟩
def QO(x:Q0a)(S:Q0e):List (List Int):=((cJ x).filter λT=>fW T S).map (oR S)
def aBP(a:Ord.Rows x)(d:DS x S){T:Q0e}:T∈QO x S↔DS (jZ x S) T:=by
 delta QO;rw[gf]
 constructor
 .rintro ⟨U,l,rfl⟩;show aBN d ((gS a).1 (e_.1 l).1)
 .intro h;obtain⟨U,m,j,e⟩:=aBO d h;show⟨U,e_.2 ⟨(gS a).2 m,j⟩,e⟩
def Yk(j:Ord.Rows x):(QO x S).Nodup:=by delta QO;show pk.2 ((jl _ (Ex (x:=x))).imp_of_mem λ{a b} n m l e=>l ?_);have h:=e_.1 n;have d:=e_.1 m;show A2 h.2 d.2 ((gS j).1 h.1).1 ((gS j).1 d.1).1 e
theorem JY{α:Type}{p:α->Bool}{g:α->Int}:∀{L:List α},(∀t∈L,p t=ah->g t=0)->(L.map g).sum=((L.filter p).map g).sum
 |[],_=>rfl
 |a::L,h=>by
  have d:=JY (L:=L) (p:=p) (g:=g) λt j=>h t (fg _ j);rw[bu,h_,d]
  cases hp:p a with
  |true=>rw[List.filter_cons_of_pos hp,bu,h_]
  |false=>rw[List.filter_cons_of_neg (by rw[hp];decide),h a de hp,iu]
theorem JZ(l:Ord.Rows x)(m:DS x S):∀(j:Nat) {U:Q0e},DS x U->fW U S=af->cp (jZ x S) (QO x S) j (oR S U)=cp x (cJ x) j U
 |0,U,hU,sU=>by
  show(if oR S U=[] then(1:Int) else 0)=if U=[] then 1 else 0
  have e0:oR S []=[]:=by delta oR;show a2t.2 λa _=>by simp
  by_cases h:U=[]
  .rw [h,e0]
  .rw [Zz h,Zz λe=>h (A2 sU rfl hU.1 .nil (e.trans e0.symm))]
 |j+1,U,hU,sU=>by
  show((QO x S).map λT=>if kU (jZ x S) T (oR S U)=af then cp (jZ x S) (QO x S) j T else 0).sum=((cJ x).map λT=>if kU x T U=af then cp x (cJ x) j T else 0).sum;rw[JY (L:=cJ x) (p:=λT=>fW T S) λT _ d=>?_]
  .rw [show((QO x S).map λT=>if kU (jZ x S) T (oR S U)=af then cp (jZ x S) (QO x S) j T else 0)=((cJ x).filter λT=>fW T S).map λT=>if kU (jZ x S) (oR S T) (oR S U)=af then cp (jZ x S) (QO x S) j (oR S T) else 0 by
    conv=>lhs;rw[show QO x S=((cJ x).filter λT=>fW T S).map (oR S) from rfl]
    rw[di];rfl]
   show fT λT d=>?_;have q:=e_.1 d;have dT:=(gS l).1 q.1;rw[aBM m q.2 sU dT.1 hU.1,JZ l m j dT q.2]
  .rw [Zz λh=>?_];delta kU ME at h;rw[gr,gr] at h;have:fW T S=af:=bX.2 λt n=>bX.1 sU t (bX.1 h.2.1 t n);rw[this] at d;cases d
theorem J0(d:Ord.Rows x):∀(j:Nat) {U:Q0e},DS x U->⇑U<j->cp x (cJ x) j U=0
 |0,_,_,h=>by lia
 |j+1,U,hU,h=>by
  show((cJ x).map λT=>if kU x T U=af then cp x (cJ x) j T else 0).sum=0;rw[fT (g:=λT=>if(ah:Bool)=af then(0:Int) else 0) λT l=>?_]
  .exact m8 (p:=λ_=>ah) (c:=λ_=>0) λ_ _=>rfl
  .have dT:=(gS d).1 l;by_cases a:kU x T U=af
   .rw [Z_ a];delta kU ME at a;rw[gr,gr] at a;have:=sub_len hU.1 dT.1 a.2.1 (of_decide_eq_true a.1);rw[J0 d j dT ∅];rfl
   .rw [Zz a];rfl
def QP(l:Ord.Rows x)(d:DS x S):jD x S=eU (jZ x S)++cc (⇑x-⇑S) 0:=by
 have lS:=JT d;have m:⇑(eU (jZ x S))=⇑S+1:=by rw[K25.mR,fA]
 have full:oR S S=aS 0 ⇑S:=Iw.2 λa o=>by have:=aX.1 o;rw[ku];show u6 this.1 ∅
 show rn λj=>?_;rcases uk j (⇑S+1) with h|h
 .have e:=QK (x:=jZ x S) (DH l d) (Yk l) (λa=>aBP l d) (j:=j) (by rw[fA];lia);rw[jj ∅,e,fA,<- full,JZ l d j d (bX.2 λt n=>n)];delta jD;rw[c_,p0 ∅];rfl
 .rw [i_ ∅,m,kg];delta jD;rw[c_];rcases uk j (⇑x+1) with h2|h2
  .rw [p0 h2,Z_ ∅];show ae (cp x (cJ x) j S)=_;rw[J0 l j d ∅]
  .rw [ji (by rw[jh];lia),Zz ∅];rfl
def AX{S:Q0e}(q:DS x S)(v:⇑S<=9):DB.iM [aF x,τ S]=.ok (aF (jZ x S)):=by
 delta DB.iM;show JO rfl ?_;show cD [.ro (aF x),.ro (τ S),.ow (.lst []),.no] rfl ?_;show lH (λρ=>∃h,ρ=[.ro (aF x),.ro (τ S),.ow (.lst ((jZ x S).map τ)),h]) ?_ λρ ⟨h,e⟩=>?_
 .refine m4 (S.map D.int) (λi ρ=>∃h,ρ=[.ro (aF x),.ro (τ S),.ow (.lst (((jZ x S).take i).map τ)),h]) rfl ⟨.no,rfl⟩ (λi d ρ l j=>?_) λρ j=>?_
  .obtain ⟨h,rfl⟩:=j;have n:i<⇑S:=by
    have:=(df.1 l).1
    rwa [bb] at this
   rw[c_,qM n] at l;cases l;have m:=(q.2 _ (u6 (S:=S) (a:=(i:Int)) ∅ ∅)).1;show⟨[.ro (aF x),.ro (τ S),.ow (.lst (((jZ x S).take i).map τ)),.ro (.int (η S i))],rfl,_,GB (i:=2) (ds:=((jZ x S).take i).map τ) (d:=τ ((aS 0 ⇑S).filter λa=>(row x (η S (i:Int))).contains (η S a))) (c8 (x:=aB ((aS 0 ⇑S).filter λa=>(row x (η S (i:Int))).contains (η S a))) ?_ rfl) rfl (by rw[bb,iz,fA];lia),.ro (.int (η S i)),?_⟩
   .refine eT ((aS 0 ⇑S).map D.int) (CP (c8 (x:=τ S) rfl (by delta τ;rw[d9,bb])) ∅) (by rw[bb,aN];lia) (fJ D.int (λa=>(row x (η S (i:Int))).contains (η S a)) D.int (aS 0 ⇑S) λa p=>⟨[ae (.int a),ae (τ S),ae (aF x),ae (.int (η S i))],rfl,?_,λ_=>rfl⟩);have o:=aX.1 p;show sS (d:=.bl ((row x (η S (i:Int))).contains (η S a))) (dD (x:=.int (η S a)) (y:=τ (row x (η S i))) (dD (x:=τ S) (y:=.int a) rfl rfl (PB o.1 ∅)) (dD (x:=aF x) (y:=.int (η S i)) rfl rfl (F7 m.1 m.2)) qH) rfl
   .rw [wq,AZ n,gy];rfl
  .rw [bb] at j;obtain⟨h,rfl⟩:=j;show⟨h,?_⟩;rw[show(jZ x S).take ⇑S=jZ x S from pj (by rw[fA];lia)]
 .subst e;show j5 _ (c8 (x:=.lst ((jZ x S).map τ)) rfl rfl) rfl
def u7(ns:Q0e):∃d,eZ [.lZ ns]=.ok d /\∃y,Ord.Rows y/\⇑y<=9/\d=aF y:=by
 obtain⟨v,L⟩:=sV ns 40;obtain⟨j,J,q,o⟩:=oB v 1 900001 ⋯ ⋯;have I:⇑j=1:=J;delta eZ;show uP rfl ?_;obtain⟨_,K,y,O,l,rfl⟩:=O8 ns 0 9 100003 ⋯ ⋯;have n:⇑y<=9:=∅
 show cD [.ro (.lZ ns),.ro (aF y),.no] (fQ (aF y) (aAj rfl rfl rfl rfl K) rfl) ?_;show cD [.ro (.lZ ns),.ro (aF y),.ri 80] rfl ?_;show lH (λρ=>∃m:Int,80<=m/\ρ=[.ro (.lZ ns),.ro (aF y),.ri m]) ?_ λρ F=>?_
 .exact CO (Zv (η j 0%8=3)) (sS (d:=.bl (Zv (η j 0%8=3))) (binI (x:=(η j 0%8)) (y:=3) (binI (x:=(η j 0)) (y:=8) (dD (x:=aB j) (y:=.int 0) (qD (x:=.int v) (y:=.int 1) (z:=.int 900001) (dQ (x:=.lZ ns) (y:=.int 40) rfl rfl L) rfl rfl o) rfl (aAo ⋯ ∅)) rfl (d8 ⋯)) rfl rfl) rfl) (λ_=>qB (.int 130) rfl ⟨130,⋯,rfl⟩) λ_=>uO ⟨80,⋯,rfl⟩
 .obtain ⟨m,A,rfl⟩:=F;by_cases hw:m<(⇑(oN y):Int)
  .have p:6<=⇑y:=by
    rcases uk ⇑y 6 with h|h
    .have a:=Yl (x:=y);have b:2^⇑y<=2^6:=mz ⋯ ∅;lia
    .exact h
   show VX (Yv af (sS (d:=.bl (Zv (m<(⇑(oN y):Int)))) (dD (x:=.int ⇑(oN y)) (y:=.int m) (JX l n rfl) rfl rfl) (by rw[Zx hw];rfl)) (λ_=>?_) λh=>by cases h);show j5 (aF (DF y 6)) (dQ (x:=aF y) (y:=τ (aS 0 6)) rfl (Tj (m:=6) ⋯) (DB.AX n p)) ⟨DF y 6,QN l p,by rw[oO];decide,rfl⟩
  .refine cD [.ro (.lZ ns),.ro (aF y),.ri m] (p7 (sS (d:=.bl (Zv (m<(⇑(oN y):Int)))) (dD (x:=.int ⇑(oN y)) (y:=.int m) (JX l n rfl) rfl rfl) (by rw[Zy hw];rfl)) rfl) ?_;show j5 (aF y) rfl ⟨y,l,n,rfl⟩
theorem Yj{n:Nat}(h:n<=1000):CD (.tup [.int 0]) (.int (n:Int))=ae (τ (cc n 0)):=by
 show(if _ then _ else _)=_;rw[Z_ ⟨by simp[jJ];lia,∅⟩];delta τ;congr 2;erw[gj]
 induction n with
 |zero=>rfl
 |succ n ih=>rw[gx,ml,ih ∅,gx];rfl
def QQ:cB [oQ x]=ae (.int (⇑(cJ x):Int)):=by delta oQ;rw[d9,bb]
def vA{n:Nat}{l:Q0e}(h:⇑l<=1000):F6 (n+2) (τ l):=⟨by rw[bb];lia,λd a=>by obtain⟨i,_,rfl⟩:=gf.1 a;show trivial⟩
def QR{S:Q0e}(h:⇑S<=1000)(j:⇑x<=9):LL.d7 6 [xB x S,xB x S]=.ok (.bl af):=same_refl 6 _ ⟨by show 2<=_;decide,λd a=>by
 rcases cg.1 a with rfl|a
 .exact vA h
 .cases dh.1 a;show vA (by rw[kB];lia)⟩
abbrev T8(ns:Q0e)(x:Q0a)(d a v6 v7:Sv):bB:=[.ro (.lZ ns),.ro (aF x),.ro (.lst ((cJ x).map τ)),.ro (oQ x),d,a,v6,v7]
def QS(ns:Q0e)(L:⇑ns<=63):yJ [.lZ ns]=.ok (.bl af):=by
 obtain⟨_,X,x,j,m,rfl⟩:=u7 ns;obtain⟨J,Y⟩:=sV ns 2;obtain⟨Z,dl3,I,q⟩:=oB J 3 200017 ⋯ ⋯;have dl:⇑(cJ x)<=512:=by rw[sY];show AU m
 have dl1:0<⇑(cJ x):=a2n ((gS j).2 GH);delta yJ;show JO rfl ?_;show cD [.ro (.lZ ns),.ro (aF x),.no,.no,.no,.no,.no,.no] (fQ (aF x) (fG rfl X) rfl) ?_;show cD [.ro (.lZ ns),.ro (aF x),.ro (.lst ((cJ x).map τ)),.no,.no,.no,.no,.no] (fQ _ (fG (x:=aF x) rfl (C9 j m)) rfl) ?_;show cD (T8 ns x .no .no .no .no) (fQ (oQ x) (fG (x:=aF x) rfl (uV j m)) rfl) ?_;show cD (T8 ns x .no .no .no .no) (p7 (Ee (b:=ah) (tnE (b:=af) (sS (d:=.bl af) (isi (d:=oQ x) rfl) rfl) rfl) (λ_=>sS (d:=.bl ah) (dD (x:=.int ⇑(cJ x)) (y:=.int ⇑(cJ x)) (c8 (x:=oQ x) rfl QQ) (c8 (x:=.lst ((cJ x).map τ)) rfl (by rw[jL,bb])) (by rw[nZ,Zx rfl];rfl)) rfl) λh=>by cases h) rfl) ?_;show lH (λρ=>∃l a v6 v7,ρ=T8 ns x l a v6 v7) ?_ λρ ⟨l,a,v6,v7,e⟩=>?_
 .refine m4 (Z.map D.int) (λi ρ=>∃l a v6 v7,ρ=T8 ns x l a v6 v7) ?_ ⟨.no,.no,.no,.no,rfl⟩ (λi d ρ F O=>?_) λρ h=>h
  .delta bP;rw[qD (x:=.int J) (y:=.int 3) (z:=.int 200017) (dQ (x:=.lZ ns) (y:=.int 2) rfl rfl Y) rfl rfl q];rfl
  .obtain ⟨l,a,v6,v7,rfl⟩:=O;rw[c_] at F;obtain⟨z,hz,rfl⟩:=jf.1 F;have K:=qd z (b:=(⇑(cJ x):Int)) ∅;have m1:=vd z (b:=(⇑(cJ x):Int)) ∅;obtain⟨k,A⟩:=js K;rw[A] at m1;obtain⟨S,p⟩:∃S,(cJ x)[k]?=ae S:=⟨_,cn ∅⟩;have n:=(gS j).1 (ko p);have lS:=JT n;have o:∀{ρ:cN},bE 2 ρ=ae (.lst ((cJ x).map τ))->bE 5 ρ=ae (.int (k:Int))->aC gT fO mO ρ=ae (τ S):=λ{ρ} h2 U=>by show dD (x:=.lst ((cJ x).map τ)) (y:=.int k) h2 U ?_;rw[l9];show oA ?_;rw[c_,p];rfl
   have v:⇑(eU (jZ x S))=⇑S+1:=by rw[K25.mR,fA]
   show⟨T8 ns x (.ro (.int z)) a v6 v7,rfl,?_⟩;show gG (T8 ns x (.ro (.int z)) (.ro (.int k)) v6 v7) (fQ (.int (k:Int)) (dD (x:=.int z) (y:=.int ⇑(cJ x)) rfl (c8 (x:=.lst ((cJ x).map τ)) rfl (by rw[jL,bb])) (by rw[d8 ∅,A])) rfl) ?_;show gG (T8 ns x (.ro (.int z)) (.ro (.int k)) (.ro (τ (eU (jZ x S)))) v7) (fQ (τ (eU (jZ x S))) (fG (x:=aF (jZ x S)) (dQ (x:=aF x) (y:=τ S) rfl (o rfl rfl) (AX n ∅)) (PZ (by rw[fA];lia) (P9 (DH j n) (by rw[fA];lia)))) rfl) ?_;show gG (T8 ns x (.ro (.int z)) (.ro (.int k)) (.ro (τ (eU (jZ x S)))) v7) (p7 (tnE (b:=af) (sS (d:=.bl af) (dQ (x:=τ (eU (jZ x S))) (y:=.int (⇑(eU (jZ x S)):Int)) rfl (binI (x:=⇑S) (y:=1) (c8 (x:=τ S) (o rfl rfl) (by delta τ;rw[d9,bb])) rfl (by rw[v];rfl)) (K25.P6 ∅)) rfl) rfl) rfl) ?_;show gG (T8 ns x (.ro (.int z)) (.ro (.int k)) (.ro (τ (eU (jZ x S)))) (.ro (xB x S))) (fQ (xB x S) ?_ rfl) ?_
   .refine zh (o rfl rfl) (dD (x:=τ (eU (jZ x S))) (y:=τ (cc (⇑x-⇑S) 0)) rfl (dD (x:=.tup [.int 0]) (y:=.int ((⇑x:Int)-⇑S)) rfl (binI (x:=⇑x) (y:=⇑S) (c8 (x:=aF x) rfl gZ) (c8 (x:=τ S) (o rfl rfl) (by delta τ;rw[d9,bb])) rfl) ?_) ?_)
    .rw [show(⇑x:Int)-(⇑S:Int)=((⇑x-⇑S:Nat):Int) by lia];show Yj ∅
    .rw [QP j n];delta τ;rw[CL (by rw[bb,bb,n_,v];lia),<- gy]
   .refine ⟨_,p7 (tnE (b:=af) (sS (d:=.bl af) (dQ (x:=xB x S) (y:=xB x S) (dD (x:=oQ x) (y:=.int k) rfl rfl (W5 p)) rfl (QR ∅ m)) rfl) rfl) rfl,_,_,_,_,rfl⟩
 .subst e;show j5 _ rfl rfl
end
end K29
section
-- CHANGE: your row's module here,as the last of these rows
namespace L2
open PySem.Spec PyProof.Rows
abbrev Key:=Sum Int ak
noncomputable def yK:Key->aj->Bool
 |.inl k,v=>a0X k v
 |.inr x,v=>a0W x v
noncomputable def Ti(w:bg):Key->Int
 |.inl k=>hashInt k
 |.inr x=>hashStr w x
theorem bT:∀{k:Key} {v:aj},yK k v=af->(∃i t,k=dm i/\v=mw i t)\/(∃x t,k=jt x/\v=Ag x t)
 |.inl i,v,h=>by obtain⟨t,e⟩:=Value.isInt_shape (k:=i) (v:=v) h;show .inl ⟨i,t,rfl,e⟩
 |.inr x,v,h=>by obtain⟨t,e⟩:=Value.isStrOf_shape (x:=x) (v:=v) h;show .inr ⟨x,t,rfl,e⟩
def MH(i:Int)(t:gu):yK (.inl i) (.int i t)=af:=by simp[yK,a0X]
def MI(x:ak)(t:gu):yK (.inr x) (.str x t)=af:=by simp[yK,a0W]
def aBQ(a b:Int):Zv ((dm a:Key)=dm b)=(a == b):=by
 by_cases e:a=b
 .subst e;simp
 .have h:¬ (dm a:Key)=dm b:=λq=>e (sx q);rw[Zy h];show(beq_eq_false_iff_ne.mpr e).symm
def aBR(a b:ak):Zv ((jt a:Key)=jt b)=Zv (a=b):=by
 by_cases e:a=b
 .subst e;simp
 .have h:¬ (jt a:Key)=jt b:=λq=>e (Fm q);rw[Zy h,Zy e]
def aBS(a:Int)(b:ak):Zv ((dm a:Key)=jt b)=ah:=Zy (λq=>nomatch q)
def aBT(a:ak)(b:Int):Zv ((jt a:Key)=dm b)=ah:=Zy (λq=>nomatch q)
def aW(Ω:bj)(w:bg):PySem.KeyKind Ω w Key where
 is:=yK
 hash:=Ti w
 inj:=λv a b n l=>by
  rcases bT n with⟨i,t,rfl,rfl⟩|⟨x,t,rfl,rfl⟩
  .rcases bT l with⟨j,u,rfl,e⟩|⟨y,u,rfl,e⟩
   .injection e with e1 _;rw[e1]
   .exact nomatch e
  .rcases bT l with⟨j,u,rfl,e⟩|⟨y,u,rfl,e⟩
   .exact nomatch e
   .injection e with e1 _;rw[e1]
 byValue:=λk v h=>by rcases bT h with⟨i,t,rfl,rfl⟩|⟨x,t,rfl,rfl⟩<;>rfl
 pyHash:=λd h=>by
  rcases bT d with⟨i,t,rfl,rfl⟩|⟨x,t,rfl,rfl⟩
  .exact wpAny_pyHash_int h
  .exact wpAny_pyHash_str h
 eqBool:=λm d h=>by
  rcases bT m with⟨i,t,rfl,rfl⟩|⟨x,t,rfl,rfl⟩
  .rcases bT d with⟨j,u,rfl,rfl⟩|⟨y,u,rfl,rfl⟩
   .rw [aBQ] at h;show a0q h
   .rw [aBS] at h;show a00 i t y u _ _ _ _ h
  .rcases bT d with⟨j,u,rfl,rfl⟩|⟨y,u,rfl,rfl⟩
   .rw [aBT] at h;show a0Z x t j u _ _ _ _ h
   .rw [aBR] at h;show wpAny_eqBool_str h
 «strs»:=λk x t v h=>by
  rcases bT h with⟨i,u,rfl,e⟩|⟨y,u,rfl,e⟩
  .exact nomatch e
  .injection e with e1 _;subst e1;cases v<;>rfl
def DI(Ω:bj)(w:bg)(i:Int)(t:gu):(aW Ω w).is (.inl i) (.int i t)=af:=MH i t
def DJ(Ω:bj)(w:bg)(x:ak)(t:gu):(aW Ω w).is (.inr x) (.str x t)=af:=MI x t
abbrev N1:=List (Sum Key (List Key))
abbrev KX:=Sum Key N1
section
variable{Ω:bj}{w:bg}{K:Type}[dK:DecidableEq K](knd:KeyKind Ω w K)
noncomputable def nB(h:bh):Sum K (List K)->aj->Prop
 |.inl k,v=>knd.is k v=af
 |.inr ks,v=>∃b,v=.ref b/\IsTupleKey knd h ks b
inductive fU (h:bh):List (Sum K (List K))->List aj->Prop
 |nil:fU h [] []
 |cons {k:Sum K (List K)} {v:aj} {ks:List (Sum K (List K))} {vs:Q0f}:nB knd h k v->fU h ks vs->fU h (k::ks) (v::vs)
def gB(h:bh)(ks:List (Sum K (List K)))(a:ai):Prop:=∃o items n,h.get? a=ae o/\o.cls=.type "tuple" /\o.data=.seq items n/\fU knd h ks items.toList
variable{knd}
theorem nB.inj{h:bh}{v:aj}:∀{x y:Sum K (List K)},nB knd h x v->nB knd h y v->x=y
 |.inl a,.inl b,hx,hy=>by rw[knd.inj _ _ _ hx hy]
 |.inl a,.inr b,hx,⟨q,e,_⟩=>by subst e;show Zw (knd.byValue _ _ hx) (by simp[carriedByValue])
 |.inr a,.inl b,⟨q,e,_⟩,hy=>by subst e;show Zw (knd.byValue _ _ hy) (by simp[carriedByValue])
 |.inr a,.inr b,⟨q,e,hx⟩,⟨r,f,hy⟩=>by subst e;injection f with f;subst f;rw[hx.inj hy]
theorem fU.inj{h:bh}{x:List (Sum K (List K))}{vs:Q0f}(d:fU knd h x vs):∀{y},fU knd h y vs->x=y:=by
 induction d with
 |nil=>intro y a;cases a;rfl
 |cons h1 _ ih =>
  intro y a
  cases a with
  |cons h2 t2=>rw[h1.inj h2,ih t2]
def gB.typeIs{s:ao}{ks:List (Sum K (List K))}{a:ai}(x:gB knd s.heap ks a):s.TypeIs (.ref a) "tuple":=let ⟨o,_,_,ho,hc,_⟩:=x;⟨o,ho,hc⟩
def gB.inj{h:bh}{a:ai}{x y:List (Sum K (List K))}(p:gB knd h x a)(m:gB knd h y a):x=y:=by obtain⟨o,z,n,ho,_,v,q⟩:=p;obtain⟨A,its',F,d,_,j,l⟩:=m;rw[ho] at d;cases d;rw[v] at j;cases j;show q.inj l
theorem gB.keeps{es ep}(x:gB knd h ks a)(ho:h.get? d=ae o)(l:o.data=.dict es ep)(m:qv d h h'):gB knd h' ks a:=by
 obtain⟨q,items,n,p,F,y,j⟩:=x;have A:a≠d:=λz=>by subst z;rw[p] at ho;cases ho;rw[y] at l;cases l
 show⟨q,items,n,(m.2 a A).trans p,F,y,?_⟩;have go:∀{ks:List (Sum K (List K))} {vs:Q0f},fU knd h ks vs->fU knd h' ks vs:=by
  intro ks vs t
  induction t with
  |nil=>show .nil
  | @cons k v ks vs h1 _ ih =>
   show .cons ?_ ih
   cases k with
   |inl k=>show h1
   |inr k=>obtain⟨b,e,I⟩:=h1;show⟨b,e,I.keeps ho l m⟩
 show go j
noncomputable def oV(knd:KeyKind Ω w K):Sum K (List K)->Int
 |.inl k=>knd.hash k
 |.inr ks=>tupleKeyHash knd ks
noncomputable def jR:Sum K (List K)->Nat
 |.inl _=>1
 |.inr ks=>⇑ks+1
def vB(knd:KeyKind Ω w K)(ks:List (Sum K (List K))):Int:=reduceHash (a1s (ks.map (oV knd)))
def mF(ks:List (Sum K (List K))):Nat:=(ks.map jR).sum+1
variable{s:ao}{A:bx}{E:Q0c}
theorem MJ(d:A.units<dq)(a:nB knd s.heap k v)(h:Q (oV knd k) {s with toks:=s.toks+jR k}):az (au Ω w) A (pyHash v) Q E s:=by
 cases k with
 |inl k=>show knd.pyHash a h
 |inr k =>
  obtain⟨b,e,j⟩:=a;subst e;show wpAny_pyHash_tuple d j h
def vC(x:IsTupleKey knd h ks b):∃items,h.IsTuple b items:=by obtain⟨o,items,n,ho,d,a,_⟩:=x;show⟨items,o,ho,d,n,a⟩
end
section
variable{P:bj}{w:bg}{A:bx}{E:Q0c}{s:ao}
theorem W8(j:A.units<dq)(n:nB (aW P w) s.heap x u)(m:nB (aW P w) s.heap y v)(h:Q (Zv (x=y)) s):az (au P w) A (eqBool u v) Q E s:=by
 cases x with
 |inl x =>
  cases y with
  |inl y =>
   show(aW P w).eqBool n m ?_;rw[show Zv (x=y)=Zv ((dm x:Sum Key (List Key))=dm y) by simp];show h
  |inr y =>
   obtain⟨b,e,d⟩:=m;subst e;obtain⟨o,d⟩:=vC d;rw[show Zv ((dm x:Sum Key (List Key))=jt y)=ah by simp] at h;rcases bT n with⟨i,t,rfl,rfl⟩|⟨i,t,rfl,rfl⟩
   .exact a3d i t d j P w E Q h
   .exact a26 i t d j P w E Q h
 |inr x =>
  obtain⟨a,e,l⟩:=n;subst e
  cases y with
  |inl y =>
   obtain⟨o,l⟩:=vC l;rw[show Zv ((jt x:Sum Key (List Key))=dm y)=ah by simp] at h;rcases bT m with⟨i,t,rfl,rfl⟩|⟨i,t,rfl,rfl⟩
   .exact a25 i t l j P w E Q h
   .exact a24 i t l j P w E Q h
  |inr y =>
   obtain⟨b,e,d⟩:=m;subst e;show wpAny_eqBool_tuple j l d ?_;rw[show Zv (x=y)=Zv ((jt x:Sum Key (List Key))=jt y) by simp];show h
theorem yL:∀(a:Q0f) (left:List (Sum Key (List Key))) (b:Array Int) (s:ao) (R:Array Int->ao->Prop),A.units<dq->fU (aW P w) s.heap left a ->
  (∀d:Array Int,d.toList=b.toList++left.map (oV (aW P w))->R d {s with toks:=s.toks+(left.map jR).sum}) ->
  az (au P w) A (forIn a b λx r=>do
   let r' <- pyHash x
   pure (oh (r.push r'))) R E s
 |[],left,b,s,R,hu,t,k=>by cases t;show a_ (k b (by simp))
 |v::a,left,b,s,R,hu,t,k=>by
  cases t with
  | @cons kk _ ks _ h1 h2 =>
   rw[u_];show ar (ar (MJ hu h1 (a_ ?_)));show yL a ks _ _ _ hu h2 λd e=>?_;have:=k d (by rw[e];simp);simpa[Hw] using this
def MK{ks:List (Sum Key (List Key))}{a:ai}{Q:Int->ao->Prop}(q:A.units+1<dq)(m:gB (aW P w) s.heap ks a)(h:Q (vB (aW P w) ks) {s with toks:=s.toks+mF ks}):az (au P w) A (pyHash (.ref a)) Q E s:=by
 have j:=m.typeIs;obtain⟨o,p,n,ho,_,x,v⟩:=m;have d:=F.slot_tuple_hash;delta pyHash pyHashByItsType
 wp_walk using wpAny_cRoomFor_or (.inr ∅),Fu j d.lookup,(wpAny_callSpecialIfBoundUnlessNone?_slot j d (km d j F.entry_tuple_hash ?_ (F.args_tuple_hash_1 _)))
 rw[x];show a_ (a_ (ar ?_));rw[<- a2Z];show yL p.toList ks #[] s _ q v λb y=>?_;dsimp only;rw[y,uv];delta vB reduceHash at h;show wpAny_ret_mkInt ?_;have I:s.toks+(ks.map jR).sum+1=s.toks+mF ks:=by delta mF;lia
 show az (au P w) A (pyHashByItsType.reduced _) Q E {s with toks:=s.toks+(ks.map jR).sum+1};rw[I];delta pyHashByItsType.reduced;generalize a1s (ks.map (oV (aW P w)))=z at h ⊢;by_cases l:(Zv (-(2^63:Int)<=z)&&Zv (z<2^63))=af
 .rw [Z_ l] at h ⊢;show a_ h
 .rw [Zz l] at h ⊢;show ar (iw ?_);show a_ h
theorem eq_loop:∀(x y:List (Sum Key (List Key))) (xs ys:Q0f) (R:Option Fin×Unit->ao->Prop),A.units<dq->fU (aW P w) s.heap x xs->fU (aW P w) s.heap y ys ->
  (x≠y->R (ae (.done (.ret (.bool ah))),()) s)->((x=y↔⇑xs=⇑ys)->R (ag,()) s) ->
  az (au P w) A (forIn (xs.zip ys) ((ag,()):Option Fin×Unit) λp _=>do
   let c <- eqBool p.1 p.2
   if(!c)=af then do
    let q <- ret (vq ah)
    pure (a2M (ae q,()))
   else pure (oh (ag,()))) R E s
 |[],y,xs,ys,R,hu,hx,hy,k1,k2=>by cases hx;show a_ (k2 ?_);cases hy<;>simp
 |kx::x,[],xs,ys,R,hu,hx,hy,k1,k2=>by cases hx;cases hy;show a_ (k2 (by simp))
 |kx::x,ky::y,xs,ys,R,hu,hx,hy,k1,k2=>by
  cases hx with
  | @cons _ u _ xs hx1 hx2 =>
   cases hy with
   | @cons _ v _ ys hy1 hy2 =>
    rw[Hx,u_];show ar (ar (W8 hu hx1 hy1 ?_));by_cases a:kx=ky
    .subst a;rw[Zx rfl,Zz ⋯];show a_ (eq_loop x y xs ys R hu hx2 hy2 (λn=>k1 ↑n) λe=>k2 ?_);simpa using e
    .rw [Zy a,Z_ ⋯];show ar (a_ (a_ (a_ (k1 (by simp[a])))))
def W9{x y:List (Sum Key (List Key))}{a b:ai}{Q:Bool->ao->Prop}(U:A.units+1<dq)(l:gB (aW P w) s.heap x a)(j:gB (aW P w) s.heap y b)(h:Q (Zv (x=y)) s):az (au P w) A (eqBool (.ref a) (.ref b)) Q E s:=by
 have L:=l.typeIs;have ty:=j.typeIs;have O:=a08;by_cases d:a=b
 .subst d;rw[l.inj j,Zx rfl] at h;show Gq _ P w E Q h
 .obtain ⟨Z,xs,na,p,_,K,I⟩:=l;obtain⟨Y,ys,nb,o,_,J,v⟩:=j;delta eqBool;rw[Zz ↑d];have m:A.units<dq:=∅
  apply ik;apply ar;show(wpAny_richCompare_same_room (op:=.Eq) L ty O (km O L F.entry_tuple_eq ?_ (F.args_tuple_eq_2 _ _)) m);delta Builtin.«tuple.__eq__»
  wp_walk using Fx ty a0B,a0b p K,a0b o J
  show eq_loop x y xs.toList ys.toList _ U I v (λn=>?_) λe=>?_
  .rw [Zy n] at h;show a_ ⟨_,rfl,(λz=>nomatch z),lj h⟩
  .refine a_ ⟨_,rfl,(λz=>nomatch z),?_⟩;have X:(xs.size == ys.size)=Zv (x=y):=by
    by_cases q:x=y
    .rw [Zx q];simpa using e.1 q
    .rw [Zy q];simpa using λz=>q (e.2 z)
   show az (au P w) A (truthOfDropped (.bool (xs.size == ys.size))) Q E s;rw[X];show lj h
theorem vD:∀(vs:Q0f) (R:Option Bool×Unit->ao->Prop),(∀v∈vs,∀Q:Bool->ao->Prop,Q af s->az (au P w) A (eqIsQuiet d v) Q E s)->R (ag,()) s ->
  az (au P w) A (forIn vs ((ag,()):Option Bool×Unit) λy _=>do
   let c <- eqIsQuiet d y
   if(!c)=af then pure (a2M (ae ah,()))
   else pure (oh (ag,()))) R E s
 |[],R,hq,k=>a_ k
 |v::vs,R,hq,k=>by rw[u_];show ar (ar (hq v de _ ?_));rw[Zz ⋯];show a_ (vD vs R (λu a=>hq u (fg _ a)) k)
theorem yM(j:s.TypeIs (f_ a) "tuple")(ho:s.heap.get? a=ae o)(p:o.data=.seq xs n)(m:∀v∈xs.toList,∀Q:Bool->ao->Prop,Q af s->az (au P w) A (eqIsQuiet d v) Q E s)(h:Q af s):
  az (au P w) A (eqIsQuiet (d+1) (.ref a)) Q E s:=by
 have l:=a08;delta eqIsQuiet;show ar (Fu j l.lookup ?_);show az (au P w) A (isInstance (.ref a) (.type "tuple") >>= _) _ _ s;show ar (Fx j a0B ?_);rw[Zz ⋯];dsimp only;show ar (zr ho p (ar ?_));show az _ _ (forIn xs _ _) _ _ s;rw[<- a2Z];show vD xs.toList _ m (a_ h)
def GK{x:List (Sum Key (List Key))}{a:ai}{Q:Bool->ao->Prop}(z:gB (aW P w) s.heap x a)(h:Q af s):az (au P w) A (eqIsQuiet 8 (.ref a)) Q E s:=by
 have K:=z.typeIs;obtain⟨o,xs,n,ho,_,Y,X⟩:=z;show yM (d:=7) K ho Y ?_ h;have go:∀{ks:List (Sum Key (List Key))} {vs:Q0f},fU (aW P w) s.heap ks vs ->∀v∈vs,∀Q:Bool->ao->Prop,Q af s->az (au P w) A (eqIsQuiet 7 v) Q E s:=by
  intro ks vs t
  induction t with
  |nil=>intro v U;cases U
  | @cons k v ks vs h1 _ ih =>
   intro u m Q j;rcases cg.1 m with e|m
   .subst e
    cases k with
    |inl k =>
     rw[a0F _ ((aW P w).byValue _ _ h1)];show a_ j
    |inr k =>
     obtain⟨b,e,F⟩:=h1;subst e;have L:=F.typeIs;obtain⟨Z,I,n',p,_,y,q⟩:=F;show yM (d:=6) L p y (λJ l Q' O=>?_) j;rw[a0F _ (q.byValue J l)];show a_ O
   .exact ih u m Q j
 show go X
def iN(P:bj)(w:bg):HeapKind P w (List (Sum Key (List Key))) where
 is:=gB (aW P w)
 hash:=vB (aW P w)
 draws:=mF
 room:=λA=>A.units+1<dq
 inj:=λd a=>d.inj a
 keeps:=λx ho n m=>x.keeps ho n m
 pyHash:=λj l h=>MK j l h
 eqBool:=λj d a h=>W9 j d a h
 quiet:=λl h=>GK l h
def nest_room(a:A.units+2<dq):(iN P w).room A.in1:=a
end
inductive V where
 |non|bl (b:Bool)|int (i:Int)|str (x:ak)|ML (b:Array UInt8)|flt (b:UInt64)|ref (a:ai)|ty (n:String)
 deriving DecidableEq
noncomputable def Ψ:V->aj->Prop
 |.non,u=>u=gz
 |.bl b,u=>u=vq b
 |.int i,u=>∃t,u=mw i t
 |.str x,u=>∃t,u=Ag x t
 |.ML b,u=>∃t,u=Value.bytes b t
 |.flt b,u=>∃t,u=a0Y b t
 |.ref a,u=>u=f_ a
 |.ty n,u=>u=jc n
abbrev θ:List V->List aj->Prop:=jd Ψ
def θ.length{xs:List V}{us:Q0f}(r:θ xs us):⇑xs=⇑us:=tm r
theorem θ.get:∀{xs:List V} {us:Q0f} {i:Nat} {x:V},θ xs us->xs[i]?=ae x ->∃u,us[i]?=ae u/\Ψ x u
 |_,_,_,_,.nil,e=>by simp at e
 |_,_,0,_,.cons r _,e=>by simp at e;subst e;show⟨_,rfl,r⟩
 |_,_,i+1,x,.cons _ t,e=>by obtain⟨u,a,h2⟩:=θ.get (i:=i) (x:=x) t ↑e;show⟨u,↑a,h2⟩
theorem θ.set{x:V}{u:aj}(r:Ψ x u):∀{xs:List V} {us:Q0f} (i:Nat),θ xs us->θ (xs.set i x) (us.set i u)
 |_,_,_,.nil=>.nil
 |_,_,0,.cons _ t=>.cons r t
 |_,_,i+1,.cons q t=>.cons q (θ.set r i t)
theorem θ.append:∀{xs ys:List V} {us ws:Q0f},θ xs us->θ ys ws->θ (xs++ys) (us++ws)
 |_,_,_,_,.nil,s=>s
 |_,_,_,_,.cons r t,s=>.cons r (θ.append t s)
theorem θ.take:∀{xs:List V} {us:Q0f} (n:Nat),θ xs us->θ (xs.take n) (us.take n)
 |_,_,0,_=>.nil
 |_,_,_+1,.nil=>.nil
 |_,_,n+1,.cons r t=>.cons r (θ.take n t)
theorem θ.drop:∀{xs:List V} {us:Q0f} (n:Nat),θ xs us->θ (xs.drop n) (us.drop n)
 |_,_,0,r=>r
 |_,_,_+1,.nil=>.nil
 |_,_,n+1,.cons _ t=>θ.drop n t
def lM:Option V->Option aj->Prop
 |some v,ae u=>Ψ v u
 |none,ag=>True
 |_,_=>False
def KV{a:Type}:List (a×V)->List (a×aj)->Prop:=jd λ(p:a×V) (q:a×aj)=>p.1=q.1/\Ψ p.2 q.2
noncomputable def kV:Key->V
 |.inl i=>.int i
 |.inr x=>.str x
inductive HO where
 |lst (xs:List V)
 |tup (xs:List V)
 |dK (χ:List (Key×V))|dT (χ:List (List Key×V))
 |dX (o:ay) (χ:List (KX×V×V))
 |set (S:Int->Bool) (n:Nat)
 |ins (C dx:ai) (fs:List (ak×V))
 |own (x:ai)
 |xd (fs:List (ak×V))
 |met (f x:ai)
 |rng (lo hi:Int)
 |tF (o:ay) (u:HO)
 |MM (q:ak)
 |ext (φ:bh->Prop)
abbrev Hp:=ai->Option HO
def upd(H:Hp)(a:ai)(o:HO):Hp:=λb=>if b=a then ae o else H b
def aM{H:Hp}{a:ai}{o:HO}:upd H a o a=ae o:=by delta upd;rw[Z_ rfl]
def aP{H:Hp}{a b:ai}{o:HO}(h:b≠a):upd H a o b=H b:=by delta upd;rw[Zz h]
def Eu{H:Hp}{a b:ai}{o u:HO}(h:H a=ae o)(h':H b=ae u)(d:o≠u):a≠b:=by intro e;subst e;rw[h] at h';show d (dg h')
theorem aT{H:Hp}{a b:ai}{o:HO}(h:H a=ae o)(h':H b=ag):a≠b:=by intro e;subst e;rw[h] at h';cases h'
def vE(H:Hp):Sum Key (List Key)->V->Prop
 |.inl k,v=>v=kV k
 |.inr ks,v=>∃b,v=.ref b/\H b=ae (.tup (ks.map kV))
def lN(H:Hp)(ks:N1)(a:ai):Prop:=∃vs,H a=ae (.tup vs)/\jd (vE H) ks vs
def xC(P:bj)(w:bg)(H:Hp)(o:ay)(χ:List (KX×V×V)):Prop:=o.ExactDict /\∃a d,o.data=.dict a d /\
 ((∃vs:List (Key×aj),jd (λ(p:KX×V×V) (q:Key×aj)=>p.1=.inl q.1/\p.2.1=kV q.1/\Ψ p.2.2 q.2) χ vs/\KeysOf (aW P w) a/\Pairs (aW P w) a.toList vs/\(vs.map (·.1)).Nodup) \/
  ∃xs:List (N1×ai×aj),jd (λ(p:KX×V×V) (q:N1×ai×aj)=>p.1=.inr q.1/\p.2.1=.ref q.2.1/\lN H q.1 q.2.1/\Ψ p.2.2 q.2.2) χ xs/\a.toList=xs.map (entryOfKey (iN P w))/\(xs.map (·.1)).Nodup)
theorem Paired.za{α j:Type}{F G:α->j->Prop}:∀{h:List α} {d:List j},jd F h d->(∀a b,F a b->G a b)->jd G h d
 |_,_,.nil,_=>.nil
 |_,_,.cons r t,f=>.cons (f _ _ r) (Paired.za t f)
theorem lN.stay{H H':Hp}{ks:N1}{a:ai}(h:lN H ks a)(d:∀b xs,H b=ae (.tup xs)->H' b=ae (.tup xs)):lN H' ks a:=by
 obtain⟨vs,e,r⟩:=h;show⟨vs,d _ _ e,Paired.za r λk v q=>?_⟩
 cases k with
 |inl k=>show q
 |inr k=>obtain⟨b,e,q⟩:=q;show⟨b,e,d _ _ q⟩
def xC.stay{P:bj}{w:bg}{H H':Hp}{o:ay}{χ:List (KX×V×V)}(h:xC P w H o χ)(a:∀b xs,H b=ae (.tup xs)->H' b=ae (.tup xs)):xC P w H' o χ:=by
 obtain⟨x,j,l,e,h⟩:=h;show⟨x,j,l,e,?_⟩;rcases h with h|⟨xs,r,d,h2⟩
 .exact .inl h
 .exact .inr ⟨xs,Paired.za r λp q z=>⟨z.1,z.2.1,z.2.2.1.stay a,z.2.2.2⟩,d,h2⟩
def A3(h:bh)(a:ai):Prop:=∀o,h.get? a=ae o->o.dict=ag
def A3.at{h h':bh}{a:ai}{o:ay}(n:A3 h a)(e:h.get? a=ae o)(d:h'.get? a=ae o):A3 h' a:=λu q=>by rw[d] at q;cases q;show n _ e
def A3.new(h:bh)(a:Array aj){n:Nat}:A3 (h.push {cls:=.type "tuple",data:=.seq a n}) h.objs.size:=λu q=>by rw[fv h rfl] at q;cases q;rfl
def A3.is(e:h.get? a=ae o)(d:o.dict=ag):A3 h a:=λu q=>by rw[e] at q;cases q;show d
abbrev A4(a:ay):HO:=.tF a (.ext λ_=>True)
def J3(H:Hp)(q:ak)(a:Array aj):Prop:=TriplesOk a.toList /\
 ∀j h,codeAmong j a.toList=ae h ->∃c d vs t,h=.ref c/\H c=ae (A4 d)/\d.data=.fields vs/\vs[1]?=ae (.str q t)
theorem J3.stay{H H':Hp}{q:ak}{a:Array aj}(h:J3 H q a)(j:∀b o u,H b=ae (.tF o u)->H' b=ae (.tF o u)):J3 H' q a :=
 ⟨h.1,λd l e=>let ⟨c,oc,vs,t,e1,e2,e3⟩:=h.2 d l e;⟨c,oc,vs,t,e1,j _ _ _ e2,e3⟩⟩
section
variable(P:bj)(w:bg)
def cK(H:Hp)(h:bh)(a:ai):HO->Prop
 |.lst xs=>⇑xs<=bq /\∃(j:Q0f) (n:Nat),θ xs j/\h.get? a=ae {cls:=.type "list",data:=.seq j.toArray n}
 |.tup xs=>⇑xs<=bq /\∃j:Q0f,θ xs j/\g_ h a j.toArray/\A3 h a
 |.dK χ=>⇑χ<=bq/\(a == sysModules)=ah /\∃vs,KV χ vs/\h.DictOf (aW P w) a vs
 |.dT χ=>⇑χ<=bq/\(a == sysModules)=ah /\∃xs:List (List Key×ai×aj),
   jd (λ(p:List Key×V) (q:List Key×ai×aj)=>p.1=q.1/\H q.2.1=ae (.tup (p.1.map kV))/\Ψ p.2 q.2.2) χ xs /\
   ∃o y z,h.get? a=ae o/\o.ExactDict/\o.data=.dict y z/\y.toList=xs.map (entryOfKey (tupleKind (aW P w)))/\(xs.map (·.1)).Nodup
 |.dX o χ=>⇑χ<=bq/\(a == sysModules)=ah/\h.get? a=ae o/\xC P w H o χ
 |.set S n=>h.SetOf (intKind P w) a S n
 |.ins C dx fs=>H dx=ae (.own a)/\⇑fs<=1000/\dx≠a/\h.get? a=ae (instObj C dx) /\
   ∃d,h.Ns1 dx d/\(∀f,lM (fs.lookup f) (d f))/\a0J d (fs.map (·.1))
 |.own _=>∃o,h.get? a=ae o
 |.xd fs=>∃d,h.Ns1 a d /\∀f,lM (fs.lookup f) (d f)
 |.rng lo hi=>∃t u v,h.get? a=ae {cls:=.type "range",data:=.fields #[.int lo t,.int hi u,.int 1 v]}
 |.tF o u=>h.get? a=ae o/\cK H h a u
 |.MM q=>∃l:Array aj,h.get? a=ae {cls:=.none,data:=.fields l}/\J3 H q l
 |.met f x=>h.get? a=ae (methodObj (.ref f) (.ref x))
 |.ext φ=>φ h/\(∃o,h.get? a=ae o) /\∀m h2:bh,φ m->(∀o,m.get? a=ae o->h2.get? a=ae o)->φ h2
def mL(H:Hp)(h:bh):Prop:=∀a o,H a=ae o->cK P w H h a o
end
section
variable{P:bj}{w:bg}{H H':Hp}{h h':bh}{a:ai}{o:HO}
theorem cK.lt(x:cK P w H h a o):a<h.objs.size:=by
 cases o with
 |lst xs=>obtain⟨_,_,_,_,e⟩:=x;show cj e
 |tup xs=>obtain⟨_,_,_,p,_⟩:=x;show p.lt
 |dK χ=>obtain⟨_,_,_,_,o,_,_,e,_⟩:=x;show cj e
 |dT χ=>obtain⟨_,_,_,_,o,_,_,e,_⟩:=x;show cj e
 |dX ob χ=>obtain⟨_,_,e,_⟩:=x;show cj e
 |set S n=>obtain⟨o,_,_,_,e,_⟩:=x;show cj e
 |ins C dx fs=>obtain⟨_,_,_,e,_⟩:=x;show cj e
 |own y=>obtain⟨_,e⟩:=x;show cj e
 |xd fs=>obtain⟨_,⟨_,_,_,e,_⟩,_⟩:=x;show cj e
 |rng lo hi=>obtain⟨_,_,_,e⟩:=x;show cj e
 |tF ob u=>obtain⟨e,_⟩:=x;show cj e
 |MM q=>obtain⟨d,e,_⟩:=x;show cj e
 |met f y=>show cj (show h.get? a=ae _ from x)
 |ext φ=>obtain⟨_,⟨_,e⟩,_⟩:=x;show cj e
theorem Paired.y_{α l:Type}{F G:α->l->Prop}:∀{j:List α} {d:List l},jd F j d->(∀a b,F a b->G a b)->jd G j d
 |_,_,.nil,_=>.nil
 |_,_,.cons r t,f=>.cons (f _ _ r) (Paired.y_ t f)
theorem cK.stay(x:cK P w H h a o)(k:∀b u,(b=a\/H b=ae (.own a))->h.get? b=ae u->h'.get? b=ae u)
  (ho:∀b,H b=ae (.own a)->H' b=ae (.own a)) (K:∀b xs,H b=ae (.tup xs)->H' b=ae (.tup xs)) (U:∀b o u,H b=ae (.tF o u)->H' b=ae (.tF o u):=by show λ_ _ _ q=>q):cK P w H' h' a o:=by
 induction o with
 |lst xs=>obtain⟨z,A,n,r,e⟩:=x;show⟨z,A,n,r,k _ _ (.inl rfl) e⟩
 |tup xs=>obtain⟨z,A,r,⟨j,e,c⟩,nd⟩:=x;show⟨z,A,r,⟨j,k _ _ (.inl rfl) e,c⟩,nd.at e (k _ _ (.inl rfl) e)⟩
 |dK χ=>obtain⟨z,y,vs,r,j,l,m,e,c⟩:=x;show⟨z,y,vs,r,j,l,m,k _ _ (.inl rfl) e,c⟩
 |dT χ =>
  obtain⟨z,y,xs,r,j,l,m,e,c⟩:=x;show⟨z,y,xs,Paired.y_ r λp q z=>⟨z.1,K _ _ z.2.1,z.2.2⟩,j,l,m,k _ _ (.inl rfl) e,c⟩
 |dX j χ=>obtain⟨z,y,e,c⟩:=x;show⟨z,y,k _ _ (.inl rfl) e,c.stay K⟩
 |set S n=>obtain⟨j,l,m,t,e,c⟩:=x;show⟨j,l,m,t,k _ _ (.inl rfl) e,c⟩
 |ins C dx fs =>
  obtain⟨d,z,O,e,I,⟨F,l,m,X,c⟩,r⟩:=x;show⟨ho _ d,z,O,k _ _ (.inl rfl) e,I,⟨F,l,m,k _ _ (.inr d) X,c⟩,r⟩
 |own y=>obtain⟨j,e⟩:=x;show⟨j,k _ _ (.inl rfl) e⟩
 |xd fs=>obtain⟨I,⟨F,l,m,e,c⟩,r⟩:=x;show⟨I,⟨F,l,m,k _ _ (.inl rfl) e,c⟩,r⟩
 |rng lo hi=>obtain⟨t,u,v,e⟩:=x;show⟨t,u,v,k _ _ (.inl rfl) e⟩
 |tF j u ih=>obtain⟨e,q⟩:=x;show⟨k _ _ (.inl rfl) e,ih q⟩
 |MM q=>obtain⟨L,e,r⟩:=x;show⟨L,k a _ (.inl rfl) e,r.stay U⟩
 |met f y =>
  have e:h.get? a=ae (methodObj (.ref f) (.ref y)):=x;show h'.get? a=ae (methodObj (.ref f) (.ref y));show k a _ (.inl rfl) e
 |ext φ=>obtain⟨p,⟨o,e⟩,J⟩:=x;show⟨J _ _ p λo q=>k _ _ (.inl rfl) q,⟨o,k _ _ (.inl rfl) e⟩,J⟩
def mL.lt(x:mL P w H h)(e:H a=ae o):a<h.objs.size:=(x a o e).lt
theorem mL.fresh(x:mL P w H h)(e:h.objs.size<=a):H a=ag:=by
 cases q:H a with
 |none=>rfl
 |some u=>show Zw (gm (x.lt q) e) (jg _)
def mL.kept(x:mL P w H h)(k:∀b u,h.get? b=ae u->h'.get? b=ae u):mL P w H h':=λa o e =>
 (x a o e).stay (λb u _ q=>k b u q) (λ_ q=>q) λ_ _ q=>q
def mL.laid(x:mL P w H h)(k:∀b u,h.get? b=ae u->h'.get? b=ae u)(l:h.objs.size<=a)(new:cK P w (upd H a o) h' a o):mL P w (upd H a o) h':=λb u e=>by
 have d:=x.fresh l;by_cases j:b=a
 .subst j;rw[aM] at e;cases e;show new
 .rw [aP j] at e;show(x b u e).stay (λc v _ q=>k c v q) (λc q=>by rw[aP (aT q d)];show q) (λc xs q=>by rw[aP (aT q d)];show q) λc o u q=>by rw[aP (aT q d)];show q
end
def Rd(H:Hp)(a:ai)(u:HO):Prop:=H a=ae u \/∃o,H a=ae (.tF o u)
theorem Rd.ok{P:bj}{w:bg}{H:Hp}{h:bh}{a:ai}{u:HO}(r:Rd H a u)(x:mL P w H h):cK P w H h a u:=by
 rcases r with r|⟨o,r⟩
 .exact x a u r
 .obtain ⟨_,q⟩:=x a _ r;show q
def Mut:Option HO->Prop
 |some (.lst _)=>True
 |some (.dK _)=>True
 |some (.dT _)=>True
 |some (.dX _ _)=>True
 |some (.set _ _)=>True
 |some (.ins _ _ _)=>True
 |some (.ext _)=>True
 |_=>False
section
variable{P:bj}{w:bg}{H:Hp}{h h':bh}{x e:ai}{o':HO}
theorem mL.write(ok:mL P w H h)(d:Mut (H x))(p:e=x\/H e=ae (.own x))(k:∀b u,b≠e->h.get? b=ae u->h'.get? b=ae u)(m:∃u,h'.get? e=ae u)
  (new:cK P w (upd H x o') h' x o'):mL P w (upd H x o') h':=λb u q=>by
 have A:∀c y,H c=ae (.own y)->c≠x:=λc y r z=>by subst z;rw[r] at d;show d
 have I:∀c xs,H c=ae (.tup xs)->c≠x:=λc xs r z=>by subst z;rw[r] at d;show d
 by_cases l:b=x
 .subst l;rw[aM] at q;cases q;show new
 .rw [aP l] at q;by_cases a:b=e
  .have n:H b=ae (.own x):=by
    rcases p with z|z
    .exact Zw (a.trans z) l
    .rw [a];show z
   rw[q] at n;cases n;obtain⟨v,F⟩:=m;show⟨v,by rw[a];show F⟩
  .refine (ok b u q).stay (λc v j r=>k c v ?_ r) (λc r=>by rw[aP (A c b r)];show r) (λc xs r=>by rw[aP (I c xs r)];show r) λc o u r=>by rw[aP λz=>by subst z;rw[r] at d;show d];show r
   rcases j with rfl|j
   .exact a
   .rintro rfl;rcases p with z|z
    .exact A c b j z
    .rw [j] at z;cases z;show l rfl
end
structure Un (fs ex:List ai) (H H':Hp) (h h':bh):Prop where
 keep:∀b o,h.get? b=ae o->H b=ag->b∉fs->b∉ex->h'.get? b=ae o
 slot:∀b o,h.get? b=ae o->H b=ag->b∈fs->b∉ex ->∃sl,h'.get? b=ae {o with slots:=sl}
 free:∀b o,h.get? b=ae o->H b=ag->b∉ex->H' b=ag
 there:∀b o,h.get? b=ae o->b∉ex ->∃o',h'.get? b=ae o'
 tups:∀b xs,H b=ae (.tup xs)->H' b=ae (.tup xs)
 xD:∀b o u,H b=ae (.tF o u)->H' b=ae (.tF o u)
 vF:∀b q,H b=ae (.MM q)->H' b=ae (.MM q)
section
variable{fs fs' ex ex':List ai}{H H1 H2:Hp}{h h1 h2 h':bh}{a x e:ai}{o:HO}
def Un.any(u:Un fs ex H H1 h h1){b:ai}{d:ay}(q:h.get? b=ae d)(n:H b=ag)(j:b∉ex):∃m,h1.get? b=ae {d with slots:=m}:=by
 by_cases l:b∈fs
 .exact u.slot b d q n l j
 .exact ⟨d.slots,u.keep b d q n l j⟩
def Un.kept(k:∀b u,h.get? b=ae u->h'.get? b=ae u):Un fs ex H H h h' :=
 ⟨λb d q _ _ _=>k b d q,λb d q _ _ _=>⟨d.slots,k b d q⟩,λ_ _ _ n _=>n,λb d q _=>⟨d,k b d q⟩,λ_ _ q=>q,λ_ _ _ q=>q,λ_ j q=>q⟩
def Un.refl:Un fs ex H H h h:=Un.kept λ_ _ q=>q
theorem Un.laid(k:∀b u,h.get? b=ae u->h'.get? b=ae u)(j:h.objs.size<=a)(d:H a=ag):Un fs ex H (upd H a o) h h' where
 keep:=λb u q _ _ _=>k b u q
 slot:=λb u q _ _ _=>⟨u.slots,k b u q⟩
 free:=λb u q n _=>by rw[aP (gg (gm (cj q) j))];show n
 there:=λb u q _=>⟨u,k b u q⟩
 tups:=λb xs q=>by rw[aP (aT q d)];show q
 xD:=λb u xs q=>by rw[aP (aT q d)];show q
 vF:=λb l q=>by rw[aP (aT q d),q]
def Un.write(j:Mut (H x))(A:e=x\/H e=ae (.own x))(k:∀b u,b≠e->h.get? b=ae u->h'.get? b=ae u)(m:∃u,h'.get? e=ae u):Un fs ex H (upd H x o) h h':=by
 have p:∀b,H b=ag->b≠x:=λb n z=>by subst z;rw[n] at j;show j
 have v:∀b,H b=ag->b≠e:=λb n z=>by
  subst z;rcases A with r|r
  .exact p b n r
  .rw [n] at r;cases r
 have l:∀b u,H b=ae u->¬ Mut (ae u)->b≠x:=λb u q y z=>by subst z;rw[q] at j;show y j
 show⟨λb u q n _ _=>k b u (v b n) q,λb u q n _ _=>⟨u.slots,k b u (v b n) q⟩,λb u q n _=>by rw[aP (p b n)];show n,λb u q _=>?_,
  λb xs q=>by rw[aP (l b _ q λz=>z)];show q,λb u xs q=>by rw[aP (l b _ q λz=>z)];show q,λb F q=>by rw[aP (l b _ q λz=>z),q]⟩
 by_cases d:b=e
 .subst d;show m
 .exact ⟨u,k b u d q⟩
end
def trk(h:bh)(H:Hp):List ai:=(cx h.objs.size).filter λa=>(H a).isSome
def xE(h:bh)(H:Hp):bh:=PySem.W.hideAll h (trk h H)
def MN(h:bh)(H:Hp):(xE h H).objs.size=h.objs.size:=PySem.W.hideAll_size _ _
def QT(e:h.get? b=ae o)(n:H b=ag):(xE h H).get? b=ae o :=
 PySem.W.hideAll_get _ e λa=>by have q:(H b).isSome=af:=(e_.mp a).2;rw[n] at q;simp at q
theorem XA(e:(xE h H).get? b=ae o):h.get? b=ae o/\H b=ag:=by
 have a:h.get? b=ae o:=PySem.W.of_hideAll (trk h H) e;show⟨a,?_⟩
 cases q:H b with
 |none=>rfl
 |some x =>
  have d:b∈trk h H:=e_.mpr ⟨mi.mpr (cj a),by simp[q]⟩;have z:(xE h H).get? b=ag:=PySem.W.hideAll_none (trk h H) d;rw[z] at e;cases e
structure Mod (K:aq) (mg:Q0d) (ω:bh):Prop where
 kin:K.In ω
 glob:ω.Ns ie mg
 blt:∃mb,ω.Ns builtinsNs mb /\∀x:ak,x ≠ "__name__"->mb x=bootBuiltins x
 nolimit:ω.NoLimit
 bm:∃bm ob,mg "__builtins__"=ae (.ref bm)/\bm≠builtinsNs/\ω.get? bm=ae ob/\ob.cls=.type "module" /\ob.dict=ae builtinsNs/\ob.data=.plain
def DK:List ak:=["going_of","count_of_chain","cut_paper","downsets","strictest_chains"]
def lO(x:ak):ak:=x++".<locals>.<lambda>"
def cU(K:aq):List (ak×ai×ai):=DK.filterMap λx=>(z_ K x).map λp=>(x,p.1,p.2)
def XB(K:aq)(ω:bh)(H:Hp):Prop:=∀t∈cU K,CodeHd ω t.2.1 t.2.2/\H t.2.2=ae (.MM (lO t.1))
structure Cx where
 Ω:bj
 w:bg
 K:aq
 mg:ak->Option aj
 ω:bh
 A:bx
 N:List ak
 s₀:ao
 H₀:Hp
 env:fu
 Γ:List fu
 stack:List fu
 ex:List ai
 fn:ak->Bool
 calm:Bool
 pn:List (ai×ay)
 xe:aj->ao->Prop
abbrev Zu(x:ak):Prop:=(x == ("__debug__":ak))=ah
abbrev Zt(x:ak):Prop:=(x == ("__classdict__":ak))=ah
abbrev Zq(X:Cx)(e:av)(l:List av):Prop:=ax (e::l) X.env=(ah,eval e X.env)::ax l X.env
abbrev Zp(X:Cx)(x:ak):Prop:=X.fn x=af\/X.env.scope.names.lookup x=ae .local
abbrev Zo(X:Cx)(a:br)(e:av):Prop:=((d_ a (ax [e] X.env)).all (λx=>!x.1)&&(backToKw a (ox [] X.env)).all (λx=>x.1.isSome) && Zv ([e].length+⇑([]:List iy)+(if([]:List iy).isEmpty then 0 else 1)<30))=af
abbrev Zn(X:Cx)(i:av):Prop:=∀x,foldedSetIterable i X.env x=pure x
abbrev Si(X:Cx)(e:av)(x:ak)(p q:br):Prop:=gq e (ae (.Name x p)) q.line X.env=pure ah
abbrev H0(X:Cx)(x y:ak)(d a:br):Prop:=(fz [.Name x d,.Name y a] X.env).map (·.2)=assign (.Name x d) X.env::(fz [.Name y a] X.env).map (·.2)
abbrev gV(X:Cx)(y:ak)(a:br):Prop:=(fz [.Name y a] X.env).map (·.2)=assign (.Name y a) X.env::(fz [] X.env).map (·.2)
abbrev Q0h(X:Cx)(x y:ak)(d a:br):Prop:=(fz [.Name x d,.Name y a] X.env).findIdx? (·.1)=ag
abbrev Q0i(X:Cx)(x y:ak)(d a:br):Prop:=⇑(fz [.Name x d,.Name y a] X.env)=2
abbrev Q0j(p q:br):Prop:=(p.endLine == q.line)=af
abbrev Q0k(X:Cx)(p:br)(l:List av):Prop:=(d_ p (ax l X.env)).any (·.1)=ah
def frs(l:List fu):List ai:=l.filterMap (·.frame)
abbrev Cx.fs(X:Cx):List ai:=frs X.Γ
def xF(sc:gd)(x:ak):Prop:=sc.names.lookup x=ae .local\/sc.names.lookup x=ae .cell\/sc.names.lookup x=ae .free
def Loc(sc:gd)(x:ak):Prop:=sc.names.lookup x=ae .local\/sc.names.lookup x=ae .cell
def Look(env:fu)(h:bh)(m:Q0d)(x:ak)(u:aj):Prop :=
 (env.kindOf x=ae .local/\m x=ae u)\/((env.kindOf x=ae .cell\/env.kindOf x=ae .free) /\∃c,env.cells.lookup x=ae c/\h.IsCell c (ae u))
structure Cx.Ok (X:Cx):Prop where
 mod:Mod X.K X.mg X.ω
 kind:X.env.scope.kind=.function
 glob:X.env.globals=ie
 blt:X.env.builtins=builtinsNs
 above:↥X.s₀<=X.env.locals
 inj:∀x y c,X.env.cells.lookup x=ae c->X.env.cells.lookup y=ae c->x=y
 has:∀x,(X.env.kindOf x=ae .cell\/X.env.kindOf x=ae .free) ->∃c,X.env.cells.lookup x=ae c
 cab:∀x c,X.fn x=af->X.env.cells.lookup x=ae c->↥X.s₀<=c
 hd:X.calm=af->X.A.handled=ag
 frames:X.A.frames=ae X.stack
 stk:X.stack=X.Γ\/(X.stack=X.env::X.Γ/\X.env.frame=ae X.env.locals)
 exf:∀b∈X.ex,b≠X.env.locals /\∀x c,X.env.cells.lookup x=ae c->c≠b
 bs:∀b o,X.ω.get? b=ae o->X.s₀.heap.get? b=ae o/\X.H₀ b=ag
 U6:X.ω.objs.size<=↥X.s₀
 QU:∀b o,X.ω.get? b=ae o->b∉X.ex
 XD:∀b∈X.ex,b∉X.fs
 vG:X.s₀.heap.FunFrames X.ω X.Γ
 frf:∀b∈X.fs,X.H₀ b=ag
 tab:XB X.K X.ω X.H₀
structure Φ (X:Cx) (π:Q0b) (σ:List (Option V)) (H:Hp) (s:ao):Prop where
 ok:X.Ok
 os:s.os=X.s₀.os
 bare:nu s.gens
 ω:Un X.fs X.ex X.H₀ H X.s₀.heap s.heap
 loc:∃m,s.heap.Ns X.env.locals m /\∀(i:Nat) (x:ak) (v:V),X.N[i]?=ae x->σ[i]?=ae (ae v)->xF X.env.scope x ->∃u,Ψ v u/\Look X.env s.heap m x u
 cell:∀x c,X.env.cells.lookup x=ae c ->∃v,s.heap.IsCell c v
 free:H X.env.locals=ag
 kP:∀x c,X.env.cells.lookup x=ae c->H c=ag
 pin:∀p∈X.pn++π,s.heap.get? p.1=ae p.2/\H p.1=ag/\p.1≠X.env.locals/\p.1∉X.fs /\∀v,p.2.data≠.cell v
 hok:mL X.Ω X.w H s.heap
 len:⇑σ=⇑X.N
variable{X:Cx}
section
variable{π:Q0b}{σ:List (Option V)}{H H':Hp}{s:ao}{h':bh}
def Cx.Ok.Tg(ok:X.Ok)(e:X.ω.get? b=ae o):b∉X.fs:=λa=>by have:=(ok.vG.mem a).1;rw[e] at this;cases this
def Φ.bs(I:Φ X π σ H s):∀b o,X.ω.get? b=ae o->s.heap.get? b=ae o/\H b=ag:=λb o e =>
 ⟨I.ω.keep b o (I.ok.bs b o e).1 (I.ok.bs b o e).2 (I.ok.Tg e) (I.ok.QU b o e),I.ω.free b o (I.ok.bs b o e).1 (I.ok.bs b o e).2 (I.ok.QU b o e)⟩
def Φ.bk(I:Φ X π σ H s):∀b o,X.ω.get? b=ae o->s.heap.get? b=ae o:=λb o e=>(I.bs b o e).1
def Φ.mod(I:Φ X π σ H s):Mod X.K X.mg X.ω:=I.ok.mod
def Φ.tab(I:Φ X π σ H s):XB X.K X.ω H:=λt a=>⟨(I.ok.tab t a).1,I.ω.vF _ _ (I.ok.tab t a).2⟩
def Φ.A5(I:Φ X π σ H s):X.K.In s.heap:=I.ok.mod.kin.keeps I.bk
def Φ.nolimit(I:Φ X π σ H s):s.heap.NoLimit:=I.ok.mod.nolimit.keeps I.bk
def Φ.fr(I:Φ X π σ H s):∃m,Fr X.ω X.env.locals s.heap m :=
 let ⟨m,hn,_⟩:=I.loc
 ⟨m,hn,I.bk,iq I.ok.U6 I.ok.above⟩
def Φ.lt(I:Φ X π σ H s):X.env.locals<↥s:=let ⟨_,hn,_⟩:=I.loc;hn.lt
def Φ.sz(I:Φ X π σ H s):↥X.s₀<=↥s:=iq I.ok.above (mh I.lt)
def Φ.Tf(I:Φ X π σ H s)(h:↥s<=a):a∉X.fs:=λd=>by obtain⟨_,o,ho,_⟩:=I.ok.vG.mem d;show Zw (gm (cj ho) (iq I.sz h)) (jg _)
def Φ.cne(I:Φ X π σ H s):∀x c,X.env.cells.lookup x=ae c->c≠X.env.locals:=λx c e z=>by obtain⟨v,o,ho,h⟩:=I.cell x c e;obtain⟨m,⟨j,l,n,a,d,_⟩,_⟩:=I.loc;rw[z,a] at ho;cases ho;rw[d] at h;cases h
def Φ.vG(I:Φ X π σ H s):s.heap.FunFrames X.ω X.Γ:=by
 have all:∀(l:List fu),(∀b∈frs l,b∈X.fs)->X.s₀.heap.FunFrames X.ω l->s.heap.FunFrames X.ω l:=by
  intro l
  induction l with
  |nil=>intro _ _;trivial
  |cons env r ih =>
   intro j p;obtain⟨q,⟨L,o,a,n,ho,v⟩,m⟩:=p;have h:L∈X.fs:=j L (by delta frs;rw[Iy,a];show de);obtain⟨x,e⟩:=I.ω.slot L o ho (I.ok.frf L h) h λz=>I.ok.XD L z h;show⟨q,⟨L,_,a,n,e,v⟩,ih (λb d=>j b (by delta frs;rw[Iy,a];show fg _ d)) m⟩
 show all X.Γ (λ_ d=>d) I.ok.vG
def Φ.stack(I:Φ X π σ H s):s.heap.FunFrames X.ω X.stack:=by
 rcases I.ok.stk with e|⟨e,d⟩
 .rw [e];show I.vG
 .rw [e];obtain⟨m,a,_⟩:=I.loc;show .cons (by rw[I.ok.kind];decide) d a ?_ I.vG;show Heap.get?_none_of_le (iq I.ok.U6 I.ok.above)
def Φ.vH(I:Φ X π σ H s):∀b∈frs X.stack,b∈X.env.locals::X.fs:=λb a=>by
 rcases I.ok.stk with e|⟨e,d⟩
 .rw [e] at a;show fg _ a
 .rw [e] at a;delta frs at a;rw[Iy,d] at a;show a
def Φ.A6(I:Φ X π σ H s):∀b∈frs X.stack,H b=ag:=λb a=>by
 rcases cg.mp (I.vH b a) with e|a
 .rw [e];show I.free
 .obtain ⟨_,o,ho,_⟩:=I.ok.vG.mem a;show I.ω.free b o ho (I.ok.frf b a) λz=>I.ok.XD b z a
theorem Φ.step{g':Array GenState}{t':Nat}{d':Drawn}{ch:List ai}(I:Φ X π σ H s)
  (j:∀b∈ch,(b∈X.ex\/↥X.s₀<=b)/\b≠X.env.locals/\(∀x c,X.env.cells.lookup x=ae c->c≠b) /\∀p∈X.pn++π,p.1≠b)
  (keep:∀b o,b≠X.env.locals->b∉X.fs->b∉ch->s.heap.get? b=ae o->H b=ag->h'.get? b=ae o)
  (slot:∀b o,b≠X.env.locals->b∈X.fs->b∉ch->s.heap.get? b=ae o->H b=ag ->∃L,h'.get? b=ae {o with slots:=L}) (free:∀b o,b∉ch->s.heap.get? b=ae o->H b=ag->H' b=ag)
  (there:∀b o,b∉ch->s.heap.get? b=ae o ->∃F,h'.get? b=ae F)
  (tups:∀b xs,H b=ae (.tup xs)->H' b=ae (.tup xs)) (xD:∀b o u,H b=ae (.tF o u)->H' b=ae (.tF o u)) (vF:∀b q,H b=ae (.MM q)->H' b=ae (.MM q))
  (ns:∀m,s.heap.Ns X.env.locals m->h'.Ns X.env.locals m) (U:mL X.Ω X.w H' h') (hg:nu g'):
  Φ X π σ H' {s with heap:=h',gens:=g',drawn:=d',toks:=t' }:=by
 have J:∀b o,X.s₀.heap.get? b=ae o->b≠X.env.locals:=λb o e=>gg (gm (cj e) I.ok.above);have y:∀b o,X.s₀.heap.get? b=ae o->b∉X.ex->b∉ch:=λb o e a A=>by
  rcases(j b A).1 with z|z
  .exact a z
  .exact Zw (gm (cj e) z) (jg _)
 have cellK:∀x c,X.env.cells.lookup x=ae c ->∀v,s.heap.IsCell c v->h'.IsCell c v:=λx c e v O=>by
  obtain⟨o,ho,Y⟩:=O;have h:c∉ch:=λz=>(j c z).2.2.1 x c e rfl;by_cases hc:c∈X.fs
  .obtain ⟨L,q⟩:=slot c o (I.cne x c e) hc h ho (I.kP x c e);show⟨_,q,Y⟩
  .exact ⟨o,keep c o (I.cne x c e) hc h ho (I.kP x c e),Y⟩
 show⟨I.ok,I.os,hg,⟨λb o e n A a=>?_,λb o e n A a=>?_,λb o e n a=>?_,λb o e a=>?_,λb xs e=>tups b xs (I.ω.tups b xs e),λb o xs e=>xD b o xs (I.ω.xD b o xs e),λb ps e=>vF b ps (I.ω.vF b ps e)⟩,?_,λx c e=>?_,?_,λx c e=>?_,λp hp=>?_,U,I.len⟩
 .exact keep b o (J b o e) A (y b o e a) (I.ω.keep b o e n A a) (I.ω.free b o e n a)
 .obtain ⟨L,e1⟩:=I.ω.slot b o e n A a;obtain⟨K,Z⟩:=slot b _ (J b o e) A (y b o e a) e1 (I.ω.free b o e n a);show⟨K,Z⟩
 .obtain ⟨F,e1⟩:=I.ω.there b o e a;show free b F (y b o e a) e1 (I.ω.free b o e n a)
 .obtain ⟨F,e1⟩:=I.ω.there b o e a;show there b F (y b o e a) e1
 .obtain ⟨m,hn,hl⟩:=I.loc;show⟨m,ns m hn,λi x v e1 Z e3=>?_⟩;obtain⟨u,r,l⟩:=hl i x v e1 Z e3;show⟨u,r,?_⟩;rcases l with l|⟨k,c,e,z⟩
  .exact .inl l
  .exact .inr ⟨k,c,e,cellK x c e _ z⟩
 .obtain ⟨v,z⟩:=I.cell x c e;show⟨v,cellK x c e v z⟩
 .obtain ⟨m,⟨o,_,_,ho,_⟩,_⟩:=I.loc;show free _ o (λz=>(j _ z).2.1 rfl) ho I.free
 .obtain ⟨v,o,ho,Y⟩:=I.cell x c e;show free c o (λz=>(j c z).2.2.1 x c e rfl) ho (I.kP x c e)
 .obtain ⟨e,n,ne,nf,d⟩:=I.pin p hp;have h:p.1∉ch:=λz=>(j p.1 z).2.2.2 p hp rfl;show⟨keep p.1 p.2 ne nf h e n,free p.1 p.2 h e n,ne,nf,d⟩
def Φ.un{t':Nat}(I:Φ X π σ H s)(u:Un X.fs [] H H' s.heap h')(d:mL X.Ω X.w H' h'):Φ X π σ H' {s with heap:=h',toks:=t' }:=by
 obtain⟨m,⟨o,F,J,ho,r⟩,_⟩:=id I.loc;obtain⟨x,v⟩:=u.any ho I.free (by simp);show I.step (g':=s.gens) (d':=s.drawn) (ch:=[]) (λ_ z=>nomatch z) (λb o _ h _ e n=>u.keep b o e n h (by simp)) (λb o _ h _ e n=>u.slot b o e n h (by simp)) (λb o _ e n=>u.free b o e n (by simp)) (λb o _ e=>u.there b o e (by simp)) u.tups u.xD u.vF (λA q=>by obtain⟨y,j,l,a,p⟩:=q;rw[ho] at a;cases a;show⟨_,j,l,v,p⟩) d I.bare
theorem Φ.call{g':Array GenState}{t':Nat}{d':Drawn}{ch:List ai}(I:Φ X π σ H s)(u:Un (frs X.stack) ch H H' s.heap h')(j:mL X.Ω X.w H' h')(F:nu g')
  (h:∀b∈ch,(b∈X.ex\/↥X.s₀<=b)/\b≠X.env.locals/\(∀x c,X.env.cells.lookup x=ae c->c≠b) /\∀p∈X.pn++π,p.1≠b):
  Φ X π σ H' {s with heap:=h',gens:=g',drawn:=d',toks:=t' }:=by
 obtain⟨m,⟨o,U,Y,ho,r⟩,_⟩:=id I.loc;obtain⟨K,l⟩:=u.any ho I.free λz=>(h _ z).2.1 rfl;show I.step (ch:=ch) h (λb o l J a e n=>u.keep b o e n (λz=>(cg.mp (I.vH b z)).elim l J) a) (λb o _ _ a e n=>u.any e n a) (λb o a e n=>u.free b o e n a) (λb o a e=>u.there b o e a) u.tups u.xD u.vF (λO A=>by obtain⟨L,q,v,d,y⟩:=A;rw[ho] at d;cases d;show⟨_,q,v,l,y⟩) j F
theorem Φ.turned{t':Nat}{it:ai}(I:Φ X π σ H s)(k:∀b o,b≠it->s.heap.get? b=ae o->h'.get? b=ae o)(j:H it=ag)(h:it≠X.env.locals)
  (F:it∈X.ex\/↥X.s₀<=it) (h2:∀x c,X.env.cells.lookup x=ae c->c≠it) (A:∀p∈X.pn++π,p.1≠it):Φ X π σ H {s with heap:=h',toks:=t' }:=by
 have d:∀b u,H b=ae u->b≠it:=λb u e z=>by rw[z,j] at e;cases e
 show I.step (g':=s.gens) (d':=s.drawn) (ch:=[it]) (λb y=>?_) (λb o _ _ a e _=>k b o (λz=>a (by simp[z])) e) (λb o _ _ a e _=>⟨o.slots,k b o (λz=>a (by simp[z])) e⟩) (λ_ _ _ _ n=>n)
  (λb o a e=>⟨o,k b o (λz=>a (by simp[z])) e⟩) (λ_ _ e=>e) (λ_ _ _ e=>e) (λb L e=>e) (λm l=>?_) (λb u e=>?_) I.bare
 .have e:b=it:=by simpa using y
  subst e;show⟨F,h,h2,A⟩
 .obtain ⟨o,J,K,ho,r⟩:=l;show⟨o,J,K,k _ o (gb h) ho,r⟩
 .refine (I.hok b u e).stay (λc v a q=>k c v ?_ q) (λ_ q=>q) λ_ _ q=>q;rcases a with z|z
  .rw [z];show d b u e
  .exact d c _ z
def Φ.tok(I:Φ X π σ H s)(t:Nat):Φ X π σ H {s with toks:=t}:=I.un (h':=s.heap) (t':=t) Un.refl I.hok
def Φ.kept(I:Φ X π σ H s)(k:∀b u,s.heap.get? b=ae u->h'.get? b=ae u):Φ X π σ H {s with heap:=h',toks:=t' }:=I.un (Un.kept k) (I.hok.kept k)
theorem Φ.laid{a:ai}{o:HO}{t':Nat}(I:Φ X π σ H s)(k:∀b u,s.heap.get? b=ae u->h'.get? b=ae u)(d:↥s<=a)(new:cK X.Ω X.w (upd H a o) h' a o):
  Φ X π σ (upd H a o) {s with heap:=h',toks:=t' }:=I.un (Un.laid k d (I.hok.fresh d)) (I.hok.laid k d new)
theorem Φ.write(I:Φ X π σ H s)(d:Mut (H x))(h:e=x\/H e=ae (.own x))(k:∀b u,b≠e->s.heap.get? b=ae u->h'.get? b=ae u)(a:∃u,h'.get? e=ae u)
  (new:cK X.Ω X.w (upd H x o) h' x o):Φ X π σ (upd H x o) {s with heap:=h',toks:=t' }:=I.un (Un.write d h k a) (I.hok.write d h k a new)
def Φ.weak(I:Φ X π σ H s)(a:⇑σ'=⇑σ)(w:∀(i:Nat) v,σ'[i]?=ae (ae v)->σ[i]?=ae (ae v)):Φ X π σ' H s :=
 ⟨I.ok,I.os,I.bare,I.ω,let ⟨m,hn,hl'⟩:=I.loc;⟨m,hn,λi x v e1 h d=>hl' i x v e1 (w i v h) d⟩,I.cell,I.free,I.kP,I.pin,I.hok,a.trans I.len⟩
def Φ.A7(I:Φ X π σ H s)(h:∀p∈QV,s.heap.get? p.1=ae p.2/\H p.1=ag/\p.1≠X.env.locals/\p.1∉X.fs /\∀v,p.2.data≠.cell v):Φ X QV σ H s :=
 ⟨I.ok,I.os,I.bare,I.ω,I.loc,I.cell,I.free,I.kP,λp a=>(ij.mp a).elim (λz=>I.pin p (kq _ z)) (h p),I.hok,I.len⟩
def DL{N:Q0g}(hN:N.Nodup){i j:Nat}{x:ak}(a:N[i]?=ae x)(b:N[j]?=ae x):i=j:=by obtain⟨h,e1⟩:=df.mp a;obtain⟨h2,d⟩:=df.mp b;show(a2q hN).mp (e1.trans d.symm)
theorem yN{M:qu}{A:bx}{E:Q0c}{i:Nat}{x:ak}{v:V}{u:aj}{Q:Unit->ao->Prop}(I:Φ X π σ H s)(hN:X.N.Nodup)(hi:X.N[i]?=ae x)(J:Loc X.env.scope x)(r:Ψ v u)
  (h:∀s',Φ X π (σ.set i (ae v)) H s'->(∃a,qv a s.heap s'.heap/\(a=X.env.locals\/X.env.cells.lookup x=ae a))->Q () s') (hf:Zp X x<|>9):az M A (storeName X.env x u) Q E s:=by
 obtain⟨m,hn,hl⟩:=id I.loc;have hcls:(X.env.scope.kind == .class||(X.env.scope.kind == .module&&X.env.locals !=X.env.globals))=ah:=by rw[I.ok.kind];rfl
 have U:i<⇑σ:=by rw[I.len];show(df.mp hi).1
 have cne:=I.cne;have tracked:∀{a:ai} {h':bh},(∃o,s.heap.get? a=ae o/\H a=ag)->qv a s.heap h'->mL X.Ω X.w H h':=λ{a h'} ha l b ob e=>by
  obtain⟨_,_,K⟩:=ha;show(I.hok b ob e).stay (λc w' F q=>(l.2 c ?_).trans q) (λ_ q=>q) λ_ _ q=>q;rintro rfl;rcases F with rfl|F
  .rw [K] at e;cases e
  .rw [K] at F;cases F
 rcases J with O|O
 .refine wpAny_storeName_local O hn (λh' hn' l=>?_) hcls;obtain⟨oL,_,_,hoL,_⟩:=id hn;show h _ ⟨I.ok,I.os,I.bare,⟨λb o e n hb J=>?_,λb o e n hb J=>?_,I.ω.free,λb o e J=>?_,I.ω.tups,I.ω.xD,I.ω.vF⟩,⟨_,hn',λj y v' e1 L e3=>?_⟩,λy c e=>?_,I.free,I.kP,λp hp=>?_,tracked ⟨oL,hoL,I.free⟩ l,↑I.len⟩ ⟨_,l,.inl rfl⟩
  .exact (l.2 b (gg (gm (cj e) I.ok.above))).trans (I.ω.keep b o e n hb J)
  .obtain ⟨sl,e1⟩:=I.ω.slot b o e n hb J;show⟨sl,(l.2 b (gg (gm (cj e) I.ok.above))).trans e1⟩
  .obtain ⟨o',e1⟩:=I.ω.there b o e J;show⟨o',(l.2 b (gg (gm (cj e) I.ok.above))).trans e1⟩
  .by_cases Y:j=i
   .subst Y;rw[hi] at e1;cases e1;rw[nh U] at L;cases L;show⟨u,r,.inl ⟨O,by simp⟩⟩
   .rw [jq (gb Y)] at L;obtain⟨u',r',q⟩:=hl j y v' e1 L e3;show⟨u',r',?_⟩;rcases q with⟨k,e⟩|⟨k,c,e,z⟩
    .refine .inl ⟨k,?_⟩;have:y≠x:=λe=>Y (DL hN e1 (e▸hi));simp[this,e]
    .exact .inr ⟨k,c,e,z.sameBut l (cne y c e)⟩
  .obtain ⟨w',z⟩:=I.cell y c e;show⟨w',z.sameBut l (cne y c e)⟩
  .obtain ⟨e,n,ne,nf,d⟩:=I.pin p hp;show⟨(l.2 p.1 ne).trans e,n,ne,nf,d⟩
 .have Z:X.fn x=af:=by
   rcases hf with z|z
   .exact z
   .rw [z] at O;cases O
  obtain⟨c,F⟩:=I.ok.has x (.inl O);obtain⟨w',z⟩:=I.cell x c F;show wpAny_storeName_cell I.ok.kind O F z (λh' hc' l=>?_);obtain⟨oc,hoc,Te⟩:=id z;show h {s with heap:=h' } ⟨I.ok,I.os,I.bare,⟨λb o e n hb J=>?_,λb o e n hb J=>?_,I.ω.free,λb o e J=>?_,I.ω.tups,I.ω.xD,I.ω.vF⟩,⟨m,hn.sameBut l (gb (cne x c F)),λj y v' e1 L e3=>?_⟩,λy c' e=>?_,I.free,I.kP,λp hp=>?_,tracked ⟨oc,hoc,I.kP x c F⟩ l,↑I.len⟩ ⟨c,l,.inr F⟩
  .exact (l.2 b (gg (gm (cj e) (I.ok.cab x c Z F)))).trans (I.ω.keep b o e n hb J)
  .obtain ⟨sl,e1⟩:=I.ω.slot b o e n hb J;show⟨sl,(l.2 b (gg (gm (cj e) (I.ok.cab x c Z F)))).trans e1⟩
  .obtain ⟨o',e1⟩:=I.ω.there b o e J;show⟨o',(l.2 b (gg (gm (cj e) (I.ok.cab x c Z F)))).trans e1⟩
  .by_cases Y:j=i
   .subst Y;rw[hi] at e1;cases e1;rw[nh U] at L;cases L;show⟨u,r,.inr ⟨.inl O,c,F,hc'⟩⟩
   .rw [jq (gb Y)] at L;obtain⟨u',r',q⟩:=hl j y v' e1 L e3;show⟨u',r',?_⟩;rcases q with q|⟨k,c',e,z'⟩
    .exact .inl q
    .refine .inr ⟨k,c',e,z'.sameBut l ?_⟩;rintro rfl;show Y (DL hN e1 (I.ok.inj _ _ _ e F▸hi))
  .by_cases hcc:c'=c
   .subst hcc;show⟨_,hc'⟩
   .obtain ⟨w2,z2⟩:=I.cell y c' e;show⟨w2,z2.sameBut l hcc⟩
  .obtain ⟨e,n,ne,nf,d⟩:=I.pin p hp;show⟨(l.2 p.1 ?_).trans e,n,ne,nf,d⟩;intro q;rw[q,hoc] at e;have q':oc=p.2:=dg e;show d w' (by rw[<- q'];show Te)
theorem DM(I:Φ X π σ H s)(hN:X.N.Nodup)(d:X.N[i]?=ae x)(a:Loc X.env.scope x)(r:Ψ v u)
  (h:∀s',Φ X π (σ.set i (ae v)) H s'->Q () s') (j:Zp X x<|>9):az M A (storeName X.env x u) Q E s :=
 yN I hN d a r (λs' l _=>h s' l) j
theorem Φ.call'(I:Φ X π σ H s)(ho:s'.os=s.os)(u:Un (frs X.stack) ch H H' s.heap s'.heap)(a:mL X.Ω X.w H' s'.heap)(j:nu s'.gens)
  (d:∀b∈ch,(b∈X.ex\/↥X.s₀<=b)/\b≠X.env.locals/\(∀x c,X.env.cells.lookup x=ae c->c≠b) /\∀p∈X.pn++π,p.1≠b):Φ X π σ H' s':=by
 obtain⟨h',g',d',t',h⟩:=s';have e:h=s.os:=ho;subst e;show I.call (g':=g') (t':=t') (d':=d') u a j d
end
abbrev XK:=aj->Option ai->Hp->Prop
abbrev St:=List (Option V)
abbrev VK:=V->Hp->Prop
abbrev TE:=St->Hp->VK->Prop
abbrev TT:=St->Hp->(Bool->Hp->Prop)->Prop
abbrev TA:=St->Hp->(List V->Hp->Prop)->Prop
structure Ends where
 nx:St->Hp->Prop
 rt:VK
 bk:St->Hp->Prop:=λ_ _=>False
 ct:St->Hp->Prop:=λ_ _=>False
abbrev TS:=Ends->St->Hp->Prop
inductive EP (X:Cx) (π:Q0b) (σ:St) (Q:VK) (u:aj) (s':ao):Prop
 |mk (v:V) (H':Hp) (I:Φ X π σ H' s') (r:Ψ v u) (q:Q v H'):EP X π σ Q u s'
inductive TP (X:Cx) (π:Q0b) (σ:St) (Q:Bool->Hp->Prop) (b:Bool) (s':ao):Prop
 |mk (H':Hp) (I:Φ X π σ H' s') (q:Q b H'):TP X π σ Q b s'
inductive AP (X:Cx) (π:Q0b) (σ:St) (Q:List V->Hp->Prop) (us:Q0f) (s':ao):Prop
 |mk (vs:List V) (H':Hp) (I:Φ X π σ H' s') (r:θ vs us) (q:Q vs H'):AP X π σ Q us s'
def SP(X:Cx)(π:Q0b)(D:Ends)(f:Flow)(s':ao):Prop :=
 match f with
 |.next=>∃a H',Φ X π a H' s'/\D.nx a H'
 |.brk=>∃a H',Φ X π a H' s'/\D.bk a H'
 |.cont=>∃a H',Φ X π a H' s'/\D.ct a H'
 |.ret u=>∃v a H',Φ X π a H' s'/\Ψ v u/\D.rt v H'
def PE(X:Cx)(e:av)(t:TE):Prop :=
 ∀(π:Q0b) (s:ao) (σ:St) (H:Hp) (Q:VK),Φ X π σ H s->t σ H Q->az (au X.Ω X.w) X.A (eval e X.env) (EP X π σ Q) X.xe s
def PT(X:Cx)(e:av)(t:TT):Prop :=
 ∀(π:Q0b) (s:ao) (σ:St) (H:Hp) (Q:Bool->Hp->Prop),Φ X π σ H s->t σ H Q->az (au X.Ω X.w) X.A (isTrue e X.env (eval e X.env)) (TP X π σ Q) X.xe s
def PW(X:Cx)(e:av)(t:TT):Prop :=
 ∀(whole:gk aj) (π:Q0b) (s:ao) (σ:St) (H:Hp) (Q:Bool->Hp->Prop),Φ X π σ H s->t σ H Q->az (au X.Ω X.w) X.A (isTrue e X.env whole) (TP X π σ Q) X.xe s
def PW.pt(h:PW X e t):PT X e t:=h _
def PA(X:Cx)(d:List av)(t:TA):Prop :=
 ∀(a:br) (π:Q0b) (s:ao) (σ:St) (H:Hp) (Q:List V->Hp->Prop),Φ X π σ H s->t σ H Q->az (au X.Ω X.w) X.A (spliced (d_ a (ax d X.env))) (AP X π σ Q) X.xe s
def PS(X:Cx)(a:dc)(t:TS):Prop :=
 ∀(π:Q0b) (s:ao) (σ:St) (H:Hp) (D:Ends),Φ X π σ H s->t D σ H->az (au X.Ω X.w) X.A (exec a X.env) (SP X π D) X.xe s
def qN(X:Cx)(a:List dc)(t:TS):Prop :=
 ∀(π:Q0b) (s:ao) (σ:St) (H:Hp) (D:Ends),Φ X π σ H s->t D σ H->az (au X.Ω X.w) X.A (execs a X.env) (SP X π D) X.xe s
def dB{α:Type}{t:gk α}{Q Q':α->ao->Prop}{M:qu}{A:bx}{E:Q0c}{s:ao}(h:az M A t Q E s)(d:∀a s,Q a s->Q' a s):az M A t Q' E s:=jb h d λ_ _ x=>x
section
def sF(i:Nat):TE:=λσ H Q=>∃v,σ[i]?=ae (ae v)/\Q v H
def tC(v:V):TE:=λ_ H Q=>Q v H
def iO(hN:X.N[i]?=ae x)(p:xF X.env.scope x)(j:Zu x<|>1)(n:Zt x<|>1):PE X (.Name x ν) (sF i):=by
 intro π s σ H Q I h;obtain⟨v,e,h⟩:=h;obtain⟨m,q,z⟩:=I.loc;obtain⟨u,r,l⟩:=z i x v hN e p;have fin:EP X π σ Q u s:=⟨v,H,I,r,h⟩;rcases l with⟨d,y⟩|⟨d,c,o,a⟩
 .exact Fy (wpAny_loadName_local I.ok.kind d q y fin) j
 .rcases d with d|d
  .exact Fy (wpAny_loadName_cell I.ok.kind d o a fin) j
  .exact Fy (wpAny_loadName_free I.ok.kind d o a fin n) j
def aBX{i j ν}:PE X (.Constant (.int i) j ν) (tC (.int i)):=λ_ _ _ H _ I h=>wpAny_Constant_int ⟨.int i,H,I.tok _,⟨_,rfl⟩,h⟩
def Yd{b j ν}:PE X (.Constant (.bool b) j ν) (tC (.bl b)):=λ_ _ _ H _ I h=>Constant_bool ⟨.bl b,H,I,rfl,h⟩
def aBY{j ν}:PE X (.Constant .none j ν) (tC .non):=λ_ _ _ H _ I h=>Constant_none ⟨.non,H,I,rfl,h⟩
def aBZ{x j ν}:PE X (.Constant (.str x) j ν) (tC (.str x)):=λ_ _ _ H _ I h=>Calls.Constant_str ⟨.str x,H,I.tok _,⟨_,rfl⟩,h⟩
def Gl(X:Cx)(x:ak):Prop:=X.env.kindOf x=ae .globalImplicit
theorem XE(I:Φ X π σ H s)(d:Gl X x)(a:X.mg x=ae u)(h:Q u s)
  (j:Zu x<|>1):az (au X.Ω X.w) X.A (eval (.Name x ν) X.env) Q E s :=
 a1q I.ok.kind d (Calls.loadGlobal_global (by rw[I.ok.glob];show I.mod.glob.keeps I.bk) a h) j
theorem kC(I:Φ X π σ H s)(l:Gl X x)(j:X.mg x=ag)(a:bootBuiltins x=ae u)(h:Q u s)
  (d:x ≠ "__name__"<|>1) (m:Zu x<|>1):az (au X.Ω X.w) X.A (eval (.Name x ν) X.env) Q E s:=by
 obtain⟨mb,n,h2⟩:=I.mod.blt;show a1q I.ok.kind l (Calls.loadGlobal_builtin (by rw[I.ok.glob];show I.mod.glob.keeps I.bk) j (by rw[I.ok.blt];show n.keeps I.bk) ((h2 x d).trans a) h) m
def XG(l:Gl X x)(j:X.mg x=ag)(a:bootBuiltins x=ae u)(r:Ψ v u)(d:x ≠ "__name__"<|>1)(m:Zu x<|>1):PE X (.Name x ν) (tC v) :=
 λ_ _ _ H _ I h=>kC I l j a ⟨v,H,I,r,h⟩ d m
variable{a b:av}{ta tb:TE}{ν:br}
def PC(X:Cx)(op:CmpOp)(a b:av)(t:TE):Prop :=
 ∀(π:Q0b) (s:ao) (σ:St) (H:Hp) (Q:VK),Φ X π σ H s->t σ H Q ->
  az (au X.Ω X.w) X.A (eval a X.env) (λv h=>az (au X.Ω X.w) X.A (eval b X.env) (λu d=>az (au X.Ω X.w) X.A (compareOp op v u) (EP X π σ Q) X.xe d) X.xe h) X.xe s
def tB(t:TE):TT:=λσ H Q=>t σ H λx H1=>∃c,x=.bl c/\Q c H1
def aB0{op:CmpOp}{t:TE}(h:PC X op a b t)(j:behindInMarks op b=ah:=by first|show aED _ ⋯ ⋯|rfl):PT X (.Compare a [op] [b] ν) (tB t):=by intro π s σ H Q I hw;show a0k (dB (h π s σ H _ I hw) λv n j=>dB j λu m h2=>dB h2 λc s3 ⟨x,H1,l,r1,q1⟩=>?_) j;obtain⟨d,rfl,q⟩:=q1;cases r1;show lj ⟨H1,l,q⟩
def aB1{e:av}{t:TE}(h:PE X e t)(j:(∀whole,isTrue e X.env whole=(do let v <- whole;standAt e.pos;holding [v] (truthy v)))<|>4):PT X e (tB t):=by intro π s σ H Q I hw;show a1H (dB (h π s σ H _ I hw) λv m ⟨x,H1,l,r1,q1⟩=>?_) (j _);obtain⟨d,rfl,q⟩:=q1;cases r1;show lj ⟨H1,l,q⟩
variable{tA tB':TT}{Θ:List av}
def VZ(t u:TT):TT:=λσ H Q=>t σ H λc H1=>if c=af then u σ H1 Q else Q ah H1
def OL(t u:TT):TT:=λσ H Q=>t σ H λc H1=>if c=af then Q af H1 else u σ H1 Q
def nN(t:TT):TT:=λσ H Q=>t σ H λc H1=>Q (!c) H1
theorem XH(d:PT X a tA):PW X (.BoolOp .And [a] ν) tA:=by
 intro j π s σ H Q I h;show isTrue_and (dB (d π s σ H Q I h) λc l e=>?_)
 cases c with
 |true=>show isTrue_and_nil e
 |false=>show e
theorem aB2(d:PT X a tA):PW X (.BoolOp .Or [a] ν) tA:=by
 intro j π s σ H Q I h;show isTrue_or (dB (d π s σ H Q I h) λc l e=>?_)
 cases c with
 |false=>show isTrue_or_nil e
 |true=>show e
theorem aB3(n:PT X a tA)(m:PW X (.BoolOp .And (b::Θ) ν) tB'):PW X (.BoolOp .And (a::b::Θ) ν) (VZ tA tB'):=by
 intro j π s σ H Q I h;show isTrue_and (dB (n π s σ H _ I h) λc l ⟨H1,d,q1⟩=>?_)
 cases c with
 |true=>show m j π l σ H1 Q d q1
 |false=>show⟨H1,d,q1⟩
theorem Yc(n:PT X a tA)(m:PW X (.BoolOp .Or (b::Θ) ν) tB'):PW X (.BoolOp .Or (a::b::Θ) ν) (OL tA tB'):=by
 intro j π s σ H Q I h;show isTrue_or (dB (n π s σ H _ I h) λc l ⟨H1,d,q1⟩=>?_)
 cases c with
 |true=>show⟨H1,d,q1⟩
 |false=>show m j π l σ H1 Q d q1
def aB4(d:PT X a tA):PT X (.UnaryOp .Not a ν) (nN tA):=by intro π s σ H Q I h;show isTrue_not (dB (d π s σ H (λc H1=>Q (!c) H1) I h) λ_ _ ⟨H1,j,q⟩=>⟨H1,j,q⟩)
def Yb(ta tb:TE):TE:=λσ H Q=>ta σ H λx H1=>∃c,x=.bl c/\if c=af then tb σ H1 Q else Q (.bl ah) H1
def Ya(ta:TE):TE:=λσ H Q=>ta σ H λx H1=>∃c,x=.bl c/\Q (.bl (!c)) H1
def aB5{op}(h:PE X a t):PE X (.BoolOp op [a] ν) t:=λπ s σ H Q I hw=>BoolOp_one (h π s σ H Q I hw)
theorem aB6(m:PE X a ta)(l:PE X (.BoolOp .And (b::Θ) ν) tb):PE X (.BoolOp .And (a::b::Θ) ν) (Yb ta tb):=by
 intro π s σ H Q I h;show BoolOp_and (dB (m π s σ H _ I h) λv j ⟨x,H1,d,r1,q1⟩=>?_);obtain⟨c,rfl,q1⟩:=q1;cases r1;show lj ?_
 cases c with
 |true=>show l π j σ H1 Q d q1
 |false=>show⟨.bl ah,H1,d,rfl,q1⟩
def aB7(d:PE X a ta):PE X (.UnaryOp .Not a ν) (Ya ta):=by intro π s σ H Q I h;show UnaryOp_ (dB (d π s σ H _ I h) λv l ⟨x,H1,j,r1,q1⟩=>?_);obtain⟨c,rfl,q1⟩:=q1;cases r1;show not_of (lj ⟨.bl (!c),H1,j,rfl,q1⟩)
def Js(t:TT)(ta tb:TE):TE:=λσ H Q=>t σ H λc H1=>if c=af then ta σ H1 Q else tb σ H1 Q
theorem DN{c:av}(m:PT X c tA)(o:PE X a ta)(n:PE X b tb):PE X (.IfExp c a b ν) (Js tA ta tb):=by
 intro π s σ H Q I h;show wpAny_IfExp (dB (m π s σ H _ I h) λd j ⟨H1,l,q1⟩=>?_)
 cases d with
 |true=>show o π j σ H1 Q l q1
 |false=>show n π j σ H1 Q l q1
end
def dM(K:aq)(H:Hp)(a:ai)(xs:List V):Prop :=
 Rd H a (.lst xs) \/
  ∃(o:ay) (d:Array aj) (n:Nat),K.lookup a=ae o/\o.cls=.type "list" /\o.dict=ag/\o.data=.seq d n/\d.size<=bq/\θ xs d.toList
def eV(K:aq)(H:Hp)(a:ai)(xs:List V):Prop :=
 Rd H a (.tup xs) \/
  ∃(o:ay) (d:Array aj) (n:Nat),K.lookup a=ae o/\o.cls=.type "tuple" /\o.data=.seq d n/\d.size<=bq/\θ xs d.toList
noncomputable def Td:aj->Option V
 |.none=>ae .non
 |.bool b=>ae (.bl b)
 |.int i _=>ae (.int i)
 |.str x _=>ae (.str x)
 |.bytes b _=>ae (.ML b)
 |.float b _=>ae (.flt b)
 |.ref a=>ae (.ref a)
 |.type n=>ae (.ty n)
 |_=>ag
theorem Ψ.abs(r:Ψ x u):Td u=ae x:=by
 cases x with
 |non=>cases r;rfl
 |bl _=>cases r;rfl
 |int _=>obtain⟨t,rfl⟩:=r;rfl
 |str _=>obtain⟨t,rfl⟩:=r;rfl
 |ML _=>obtain⟨t,rfl⟩:=r;rfl
 |flt _=>obtain⟨t,rfl⟩:=r;rfl
 |ref _=>cases r;rfl
 |ty _=>cases r;rfl
def Ψ.inj{x y:V}{u:aj}(r:Ψ x u)(q:Ψ y u):x=y:=dg (r.abs.symm.trans q.abs)
theorem θ.inj:∀{xs ys:List V} {us:Q0f},θ xs us->θ ys us->xs=ys
 |_,_,_,.nil,.nil=>rfl
 |_,_,_,.cons r t,.cons r' t'=>by rw[r.inj r',θ.inj t t']
section
variable{π:Q0b}{σ:St}{H:Hp}{s:ao}{a:ai}{xs ys:List V}
def dM.of{K:aq}(h:H a=ae (.lst xs)):dM K H a xs:=.inl (.inl h)
def eV.of{K:aq}(h:H a=ae (.tup xs)):eV K H a xs:=.inl (.inl h)
def Φ.list(I:Φ X π σ H s)(h:dM X.K H a xs):∃d:Q0f,θ xs d/\PlainL s.heap a d.toArray/\⇑xs<=bq:=by
 rcases h with h|⟨o,d,n,l,p,m,j,q,r⟩
 .obtain ⟨z,d,n,r,e⟩:=h.ok I.hok;show⟨d,r,⟨_,n,e,rfl,rfl,rfl⟩,z⟩
 .refine ⟨d.toList,r,⟨o,n,I.A5 a o l,p,m,↑j⟩,?_⟩;have e:=⇑r;erw[ic] at e;lia
def Φ.tuple(I:Φ X π σ H s)(h:eV X.K H a xs):∃d:Q0f,θ xs d/\g_ s.heap a d.toArray/\⇑xs<=bq:=by
 rcases h with h|⟨o,d,n,l,m,j,q,r⟩
 .obtain ⟨z,d,r,p,_⟩:=h.ok I.hok;show⟨d,r,p,z⟩
 .refine ⟨d.toList,r,⟨o,I.A5 a o l,m,n,↑j⟩,?_⟩;have e:=⇑r;erw[ic] at e;lia
def Φ.eW(I:Φ X π σ H s)(h:dM X.K H a xs)(h':dM X.K H a ys):xs=ys:=by
 obtain⟨l,r,⟨o,n,e,_,_,d⟩,_⟩:=I.list h;obtain⟨its',m,⟨q,v,j,_,_,d'⟩,_⟩:=I.list h';rw[e] at j;cases j;rw[d] at d';injection d' with p _;have:l=its':=by simpa using congrArg a2U p
 subst this;show r.inj m
def Φ.mG(I:Φ X π σ H s)(h:eV X.K H a xs)(h':eV X.K H a ys):xs=ys:=by
 obtain⟨l,r,⟨o,e,_,n,d⟩,_⟩:=I.tuple h;obtain⟨its',m,⟨q,j,_,v,d'⟩,_⟩:=I.tuple h';rw[e] at j;cases j;rw[d] at d';injection d' with p _;have:l=its':=by simpa using congrArg a2U p
 subst this;show r.inj m
end
abbrev Cx.wish(X:Cx)(E:Q0c):Cx:={X with xe:=E}
abbrev Cx.DO(X:Cx):Cx:=X.wish λ_ _=>False
def Cx.Ok.wish{X:Cx}(ok:X.Ok)(E:Q0c):(X.wish E).Ok :=
 ⟨ok.mod,ok.kind,ok.glob,ok.blt,ok.above,ok.inj,ok.has,ok.cab,ok.hd,ok.frames,ok.stk,ok.exf,ok.bs,ok.U6,ok.QU,ok.XD,ok.vG,ok.frf,ok.tab⟩
def Cx.Ok.lP{X:Cx}{E:Q0c}(ok:(X.wish E).Ok):X.Ok :=
 ⟨ok.mod,ok.kind,ok.glob,ok.blt,ok.above,ok.inj,ok.has,ok.cab,ok.hd,ok.frames,ok.stk,ok.exf,ok.bs,ok.U6,ok.QU,ok.XD,ok.vG,ok.frf,ok.tab⟩
section
variable{π:Q0b}{σ:St}{H:Hp}{s:ao}{E:Q0c}
def Φ.wish(I:Φ X π σ H s)(E:Q0c):Φ (X.wish E) π σ H s:=⟨I.ok.wish E,I.os,I.bare,I.ω,I.loc,I.cell,I.free,I.kP,I.pin,I.hok,I.len⟩
def Φ.lP(I:Φ (X.wish E) π σ H s):Φ X π σ H s:=⟨I.ok.lP,I.os,I.bare,I.ω,I.loc,I.cell,I.free,I.kP,I.pin,I.hok,I.len⟩
theorem SP.lP{D:Ends}{f:Flow}{s':ao}(h:SP (X.wish E) π D f s'):SP X π D f s':=by
 cases f with
 |next=>obtain⟨a,H',I,q⟩:=h;show⟨a,H',I.lP,q⟩
 |brk=>obtain⟨a,H',I,q⟩:=h;show⟨a,H',I.lP,q⟩
 |cont=>obtain⟨a,H',I,q⟩:=h;show⟨a,H',I.lP,q⟩
 |ret u=>obtain⟨v,a,H',I,r,q⟩:=h;show⟨v,a,H',I.lP,r,q⟩
def qN.DO{a:List dc}{t:TS}(h:qN X.DO a t):qN X a t:=λπ s σ H D I hw =>
 jb (h π s σ H D (I.wish _) hw) (λ_ _ q=>q.lP) λ_ _ z=>kj z
variable{st:dc}{Θ:List dc}{t u:TS}{e:av}{te:TE}{ν:br}
def X_:TS:=λD σ H=>D.nx σ H
def vJ(t u:TS):TS:=λD σ H=>t {D with nx:=u D} σ H
def XI:qN X [] X_:=λ_ _ σ H _ I h=>zw ⟨σ,H,I,h⟩
theorem oW(j:PS X st t)(h2:qN X Θ u):qN X (st::Θ) (vJ t u):=by
 intro π s σ H D I h;show a0p (dB (j π s σ H {D with nx:=u D} I h) λf d q=>?_)
 cases f with
 |next =>
  obtain⟨a,H',l,q⟩:=q;show h2 π d a H' D l q
 |ret v=>show q
 |brk=>show q
 |cont=>show q
theorem A8(a:PS X st t):qN X [st] t:=by
 intro π s σ H D I h;show a0p (dB (a π s σ H D I h) λf d q=>?_)
 cases f with
 |next=>show zw q
 |ret v=>show q
 |brk=>show q
 |cont=>show q
def Φ.quiet(I:Φ X π σ H s):interactive X.env=ah:=by simp[interactive,I.ok.kind]
def Xz(te:TE):TS:=λD σ H=>te σ H λ_ H1=>D.nx σ H1
def J4(d:PE X e te)(a:gq e ag ν.line X.env=pure ah<|>0):PS X (.Expr e ν) (Xz te):=by intro π s σ H D I h;show wpAny_Expr_any (dB (d π s σ H _ I h) λv l ⟨x,H1,j,r1,q1⟩=>⟨σ,H1,j,q1⟩) I.quiet a
def ze(te:TE):TS:=λD σ H=>te σ H D.rt
def GL(a:PE X e te):PS X (.Return (ae e) ν) (ze te):=by intro π s σ H D I h;show wpAny_Return_some (dB (a π s σ H _ I h) λv j ⟨x,H1,d,r1,q1⟩=>⟨x,σ,H1,d,r1,q1⟩)
def Tc(c:TT)(t u:TS):TS:=λD σ H=>c σ H λb H1=>if b=af then t D σ H1 else u D σ H1
theorem Et(m:PT X c tc)(o:qN X a t)(n:qN X b u):PS X (.If c a b ν) (Tc tc t u):=by
 intro π s σ H D I h;show wpAny_If (dB (m π s σ H _ I h) λd j ⟨H1,l,q1⟩=>?_)
 cases d with
 |true=>show o π j σ H1 D l q1
 |false=>show n π j σ H1 D l q1
end
abbrev TG:=V->St->Hp->(St->Hp->Prop)->Prop
abbrev TGs:=List V->St->Hp->(St->Hp->Prop)->Prop
def PG(X:Cx)(target:av)(t:TG):Prop :=
 ∀(π:Q0b) (s:ao) (σ:St) (H:Hp) (v:V) (u:aj) (Q:St->Hp->Prop),Φ X π σ H s->Ψ v u->t v σ H Q ->
  az (au X.Ω X.w) X.A (assign target X.env u) (λ_ s'=>∃a H',Φ X π a H' s'/\Q a H') X.xe s
def PGs(X:Cx)(d:List av)(t:TGs):Prop :=
 ∀(π:Q0b) (s:ao) (σ:St) (H:Hp) (vs:List V) (us:Q0f) (Q:St->Hp->Prop),Φ X π σ H s->θ vs us->t vs σ H Q ->
  az (au X.Ω X.w) X.A (assignInOrder ((fz d X.env).map (·.2)) us) (λ_ s'=>∃a H',Φ X π a H' s'/\Q a H') X.xe s
abbrev Dt:=V->V->V->Hp->(Hp->Prop)->Prop
def Ds(X:Cx)(t:Dt):Prop :=
 ∀(π:Q0b) (s:ao) (σ:St) (H:Hp) (o i v:V) (a d u:aj) (Q:Hp->Prop),Φ X π σ H s->Ψ o a->Ψ i d->Ψ v u->t o i v H Q ->
  az (au X.Ω X.w) X.A (setItem a d u) (λ_ s'=>∃H',Φ X π σ H' s'/\Q H') X.xe s
section
variable{ν:br}
def yO(i:Nat):TG:=λv σ H Q=>Q (σ.set i (ae v)) H
def kD(hN:X.N.Nodup)(d:X.N[i]?=ae x)(a:Loc X.env.scope x)(j:Zp X x<|>9):PG X (.Name x ν) (yO i):=by intro π s σ H v u Q I r h;show a0s (DM I hN d a r (λs' l=>⟨_,H,l,h⟩) j)
def Ud:TGs:=λvs σ H Q=>vs=[]/\Q σ H
def Xy(t:TG)(u:TGs):TGs:=λvs σ H Q=>∃v r,vs=v::r/\t v σ H λa H'=>u r a H' Q
def J5:PGs X [] Ud:=by intro π s σ H vs us Q I r h;obtain⟨e,h⟩:=h;subst e;cases r;show assignInOrder_nil ⟨σ,H,I,h⟩
theorem oX(l:PG X e t)(h2:PGs X es u)
  (j:((fz (e::es) X.env).map (·.2)=assign e X.env::(fz es X.env).map (·.2))<|>0):PGs X (e::es) (Xy t u):=by
 intro π s σ H vs us Q I r h;obtain⟨v,n,e1,h⟩:=h;subst e1
 cases r with
 |cons r rr =>
  rw[j];show assignInOrder_cons (dB (l π s σ H _ _ _ I r h) λ_ d ⟨a,H1,m,q1⟩=>?_);show h2 π d a H1 _ _ Q m rr q1
def Uc(K:aq)(n:Nat)(t:TGs):TG:=λv σ H Q=>∃a xs,v=.ref a/\eV K H a xs/\⇑xs=n/\t xs σ H Q
theorem QW(y:X.calm=af)(h:PGs X es t)
  (q:⇑(fz es X.env)=n<|>0) (d:(fz es X.env).findIdx? (·.1)=ag<|>0):PG X (.Tuple es k ν) (Uc X.K n t):=by
 intro π s σ H v u Q I r hw;obtain⟨a,xs,e1,p,x,hw⟩:=hw;subst e1;cases r;obtain⟨A,j,m,F⟩:=I.tuple p;show assign_Tuple_tuple (I.ok.hd y) m (by simp[q,<- x,⇑j]) d λh' l=>?_;have z:Φ X π σ H {s with heap:=h' }:=I.kept (t':=s.toks) λb o e=>l b o (gg (cj e)) e;show h π _ σ H xs _ Q z ↑j hw
def Ub(a d:TE)(t:Dt):TG:=λv σ H Q=>a σ H λo H1=>d σ H1 λi j=>t o i v j λh=>Q σ h
theorem aB9(ho:PE X o to)(q:PE X i ti)(p:Ds X t)
  (z:∀v,assign (.Subscript o i ν) X.env v=(do
   let a <- holding [v] (eval o X.env)
   let d <- holding [v,a] (eval i X.env)
   standAt ν
   holding [v,a,d] (setItem a d v)
   release [v,a,d] []):=by intro _;rfl):PG X (.Subscript o i ν) (Ub to ti t):=by
 intro π s σ H v u Q I r h;rw[z];show ar (ik (dB (ho π s σ H _ I h) λa l ⟨x,H1,J,r1,q1⟩=>?_));show ar (ik (dB (q π l σ H1 _ J q1) λd j ⟨y,L,F,m,q2⟩=>?_));show ar (Ft (ar (ik (dB (p π j σ L x y v a d u _ F r1 m r q2) λ_ s3 ⟨K,A,n⟩=>?_))));show wpAny_release ⟨σ,K,A,n⟩
def yz(te:TE)(g:TG):TS:=λD σ H=>te σ H λx H1=>g x σ H1 D.nx
def aBb(l:PE X e te)(j:PG X tg g)(d:swapsWithSole [tg] e ν.line X.env=pure ah<|>0)(hw:swappedStores [tg] e X.env=pure ag<|>0)
  (m:(fz [tg] X.env).map (·.2)=[assign tg X.env]<|>0):PS X (.Assign [tg] e ν) (yz te g):=by
 intro π s σ H D I h;show wpAny_Assign_stores (dB (l π s σ H _ I h) λv a ⟨x,H1,n,r1,q1⟩=>?_) d hw;rw[m];show dB (j π a σ H1 x v _ n r1 q1) λ_ o q=>q
def nE(hN:X.N.Nodup)(j:X.N[i]?=ae x)(a:Loc X.env.scope x)(m:PE X e te)(d:Si X e x pos' ν<|>0)(l:Zp X x<|>9):
  PS X (.Assign [.Name x pos'] e ν) (yz te (yO i)):=by
 intro π s σ H D I h;show wpAny_Assign_Name (dB (m π s σ H _ I h) λv q ⟨y,H1,o,r1,q1⟩=>?_) d;show DM o hN j a r1 (λp n=>⟨_,H1,n,q1⟩) l
def aBd(c:TT)(h:TS):TS:=λD σ H=>∃W:Nat->St->Hp->Prop,(∃m,W m σ H) /\∀m σ H,W m σ H ->
 c σ H λb H1=>if b=af then ∃N:St->Hp->Prop,(∀a H',N a H' ->∃d,d<m/\W d a H')/\h {D with nx:=N,ct:=N,bk:=D.nx} σ H1 else D.nx σ H1
theorem QX(y:tj (au X.Ω X.w) X.A X.env X.xe)(Y:PT X c tc)(Z:qN X body tb):PS X (.While c body [] ν) (aBd tc tb):=by
 intro π s σ H D I h;obtain⟨W,⟨U,K⟩,turn⟩:=h;show wpAny_While (codeAny_whileLoop (λn s'=>∃j H',Φ X π j H' s'/\W n j H') ?_ U ⟨σ,H,I,K⟩);rintro n O ⟨d,H1,I1,J⟩;show qk y (dB (Y π O d H1 _ I1 (turn n d H1 J)) λb L ⟨F,z,q2⟩=>?_)
 cases b with
 |true =>
  obtain⟨N,hN,q2⟩:=q2;rw[Z_ rfl];show qk y (dB (Z π L d F _ z q2) λf s3 m=>?_)
  cases f with
  |next =>
   obtain⟨a,l,x,n3⟩:=m;obtain⟨p,q,o⟩:=hN a l n3;show⟨p,q,a,l,x,o⟩
  |cont =>
   obtain⟨a,l,x,n3⟩:=m;obtain⟨p,q,o⟩:=hN a l n3;show⟨p,q,a,l,x,o⟩
  |brk=>show m
  |ret v=>show m
 |false =>
  rw[Zz cf];show zw ⟨d,F,z,q2⟩
end
structure It where
 go:Nat->Hp->Prop
 yld:Nat->Hp->V->Hp->Prop
 stop:Nat->Hp->Prop
def mM(X:Cx)(π:Q0b)(H:Hp)(b:ai):Prop :=
 H b=ag/\b≠X.env.locals/\b∉X.fs/\(b∈X.ex\/↥X.s₀<=b)/\(∀x c,X.env.cells.lookup x=ae c->c≠b) /\∀p∈X.pn++π,p.1≠b
theorem Φ.xG(I:Φ X π σ H s)(a:↥s<=b)(h:H' b=ag):mM X π H' b:=by
 show⟨h,ny (gm I.lt a),I.Tf a,.inr (iq I.sz a),λx c e z=>?_,λp d z=>?_⟩
 .obtain ⟨v,q⟩:=I.cell x c e;show Zw (gm q.lt (by rw[z];show a)) (jg _)
 .exact Zw (gm (cj (I.pin p d).1) (by rw[z];show a)) (jg _)
structure Turn (P:bj) (w:bg) (K:aq) (tg:av) (J:It) (fp:List ai) (it:ai) (tn:Nat->bh->Prop):Prop where
 mem:it∈fp
 obj:∀i h,tn i h ->∀b∈fp,∃o,h.get? b=ae o /\∀v,o.data≠.cell v
 keep:∀i h h',tn i h->(∀b∈fp,∀o,h.get? b=ae o->h'.get? b=ae o)->tn i h'
 item:∀(X:Cx),X.Ω=P->X.w=w->X.K=K->X.calm=af ->∀(i:Nat) (π:Q0b) (s:ao) (σ:St) (H:Hp) (E:Q0c),Φ X π σ H s->(∀b∈fp,mM X π H b)->tn i s.heap->J.go i H ->
  az (au P w) X.A (pyNext (.ref it)) (λr s1=>∃u,r=ae u /\
   az (au P w) X.A (letOwnedTupleGo tg (.ref it) u) (λ_ s2=>∃x H',Φ X π σ H' s2/\Ψ x u/\J.yld i H x H'/\tn (i+1) s2.heap /\∀b∈fp,H' b=ag) E s1) E s
 done:∀(X:Cx),X.Ω=P->X.w=w->X.K=K->X.calm=af ->∀(i:Nat) (π:Q0b) (s:ao) (σ:St) (H:Hp) (E:Q0c),Φ X π σ H s->(∀b∈fp,mM X π H b)->tn i s.heap->J.stop i H ->
  az (au P w) X.A (pyNext (.ref it)) (λr s1=>r=ag/\Φ X π σ H s1) E s
 self:∀(A:bx) (i:Nat) (s:ao) (Q:Q0c) (E:Q0c),tn i s.heap->Q (.ref it) s->az (au P w) A (pyIter (.ref it)) Q E s
abbrev TI:=St->Hp->(It->Hp->Prop)->Prop
inductive PIE (X:Cx) (π:Q0b) (σ:St) (tg:av) (R:It->Hp->Prop) (itv:aj) (s2:ao):Prop
 |mk (it:ai) (fp:List ai) (tn:Nat->bh->Prop) (J:It) (H':Hp) (e:itv=.ref it) (I:Φ X π σ H' s2) (t:Turn X.Ω X.w X.K tg J fp it tn) (h0:tn 0 s2.heap) (hf:∀b∈fp,mM X π H' b) (r:R J H'):PIE X π σ tg R itv s2
def PI(X:Cx)(a iter:av)(wi:TI):Prop :=
 ∀(π:Q0b) (s:ao) (σ:St) (H:Hp) (R:It->Hp->Prop),Φ X π σ H s->wi σ H R ->
  az (au X.Ω X.w) X.A (eval iter X.env) (λv d=>az (au X.Ω X.w) X.A (pyIter v) (PIE X π σ a R) X.xe d) X.xe s
theorem QY(ho:s.heap.get? it=ae o)(l:o.cls=.type n)(j:o.data=.fields vs)
  (d:["enumerate","zip","dict_itemiterator","dict_reverseitemiterator","odict_iterator","itertools.zip_longest","itertools.pairwise"].contains n=ah) (a:Q () s):az M A (letOwnedTupleGo tg (.ref it) u) Q E s:=by
 delta letOwnedTupleGo;cases tg<;>first
  |show a_ a
  | (cases u<;>first
    |show a_ a
    | (show ar (zv ho ?_)
       rw[l,j];show az M A (if(["enumerate","zip","dict_itemiterator","dict_reverseitemiterator","odict_iterator","itertools.zip_longest","itertools.pairwise"].contains n&&vs[0]? == ae (rawInt _))=af then _ else _) Q E s;rw[Zz (by intro h;rw[d,r9] at h;cases h)];show a_ a))
def Itl(K:aq)(a:ai):It :=
 ⟨λi H=>∃xs x,dM K H a xs/\xs[i]?=ae x,λi H x H'=>H'=H /\∀xs,dM K H a xs->xs[i]?=ae x,λi H=>∃xs,dM K H a xs/\⇑xs<=i⟩
def Itt(K:aq)(a:ai):It :=
 ⟨λi H=>∃xs x,eV K H a xs/\xs[i]?=ae x,λi H x H'=>H'=H /\∀xs,eV K H a xs->xs[i]?=ae x,λi H=>∃xs,eV K H a xs/\⇑xs<=i⟩
def Itr(lo:Int)(n:Nat):It:=⟨λi _=>i<n,λi H x H'=>H'=H/\x=.int (lo+i),λi _=>n<=i⟩
theorem yP{P:bj}{w:bg}{K:aq}{tg:av}(a it:ai):Turn P w K tg (Itl K a) [it] it (λi h=>h.IsListIter it a i) where
 mem:=by simp
 obj:=λi h j b l=>by
  have e:b=it:=by simpa using l
  subst e;obtain⟨o,e,c,d⟩:=j;show⟨o,e,λv z=>by rw[d] at z;cases z⟩
 keep:=λi h h' j k=>j.at λo e=>k it (by simp) o e
 item:=by intro X J hw L hc i π s σ H E I q j F;subst J hw L;obtain⟨xs,x,n,A⟩:=F;obtain⟨ι,y,p,hz⟩:=I.list n;obtain⟨u,hu,ru⟩:=y.get A;obtain⟨f0,Z,f2,Y,U,O⟩:=q it (by simp);show wpAny_pyNext_list_item j p.isList (x:=u) ↑hu λh' m sb=>?_;have I1:Φ X π σ H {s with heap:=h' }:=I.turned (t':=s.toks) (λb o l e=>(sb.2 b l).trans e) f0 Z Y U O;obtain⟨o,e,c,d⟩:=id m;show⟨u,rfl,QY (s:={s with heap:=h' }) e c d ⋯ ⟨x,H,I1,ru,⟨rfl,λys hy=>by rw[I.eW hy n];show A⟩,m,λb l=>(q b l).1⟩⟩
 done:=by intro X J hw L hc i π s σ H E I q j F;subst J hw L;obtain⟨xs,n,A⟩:=F;obtain⟨ι,y,p,hz⟩:=I.list n;obtain⟨f0,Z,f2,Y,U,O⟩:=q it (by simp);have hl:=⇑y;show wpAny_pyNext_list_end (I.ok.hd hc) j p.isList (by simp;lia) λh' eb=>⟨rfl,I.turned (t':=s.toks) (λb o l e=>eb b o l e) f0 Z Y U O⟩
 self:=λ_ _ _ _ _ j h=>wpAny_pyIter_listiter j h
theorem GN{P:bj}{w:bg}{K:aq}{tg:av}(a it:ai):Turn P w K tg (Itt K a) [it] it (λi h=>h.IsTupleIter it a i) where
 mem:=by simp
 obj:=λi h j b l=>by
  have e:b=it:=by simpa using l
  subst e;obtain⟨o,e,c,d⟩:=j;show⟨o,e,λv z=>by rw[d] at z;cases z⟩
 keep:=λi h h' j k=>j.at λo e=>k it (by simp) o e
 item:=by intro X L hw O hc i π s σ H E I q j J;subst L hw O;obtain⟨xs,x,n,F⟩:=J;obtain⟨y,A,p,hz⟩:=I.tuple n;obtain⟨u,hu,ru⟩:=A.get F;obtain⟨f0,f1,f2,Z,Y,U⟩:=q it (by simp);show wpAny_pyNext_tuple_item j (show s.heap.IsTuple a y.toArray from p) (x:=u) ↑hu λh' m sb=>?_;have I1:Φ X π σ H {s with heap:=h' }:=I.turned (t':=s.toks) (λb o l e=>(sb.2 b l).trans e) f0 f1 Z Y U;obtain⟨o,e,c,d⟩:=id m;show⟨u,rfl,QY (s:={s with heap:=h' }) e c d ⋯ ⟨x,H,I1,ru,⟨rfl,λys hy=>by rw[I.mG hy n];show F⟩,m,λb l=>(q b l).1⟩⟩
 done:=by intro X L hw O hc i π s σ H E I q j J;subst L hw O;obtain⟨xs,n,F⟩:=J;obtain⟨y,A,p,hz⟩:=I.tuple n;obtain⟨f0,f1,f2,Z,Y,U⟩:=q it (by simp);have hl:=⇑A;show wpAny_pyNext_tuple_end (I.ok.hd hc) j (show s.heap.IsTuple a y.toArray from p) (by simp;lia) λh' eb=>⟨rfl,I.turned (t':=s.toks) (λb o l e=>eb b o l e) f0 f1 Z Y U⟩
 self:=λ_ _ _ _ _ j h=>wpAny_pyIter_tupleiter j h
theorem GO{P:bj}{w:bg}{K:aq}{Y:av}(it:ai)(lo:Int)(n:Nat):Turn P w K Y (Itr lo n) [it] it (λi h=>a04 h it (lo+(i:Nat)*1) ((n:Int)-(i:Nat)) 1) where
 mem:=by simp
 obj:=λi h a b d=>by
  have e:b=it:=by simpa using d
  subst e;show⟨_,a,λv z=>by have U:Data.fields _=Data.cell v:=z;cases U⟩
 keep:=λi h h' a k=>k it (by simp) _ a
 item:=by intro X q hw x p i π s σ H E I l a m;subst q hw x;obtain⟨L,J,f2,F,A,y⟩:=l it (by simp);have W:=Walks.range (prog:=X.Ω) (w:=X.w) (I.ok.hd p) it lo 1 n;show W.item i s _ _ m a λv h' O hv j Z=>?_;obtain⟨t,rfl⟩:=hv;have I1:Φ X π σ H {s with heap:=h',toks:=O}:=I.turned (λb o d e=>Z b o ↑d e) L J F A y;show⟨_,rfl,QY (s:={s with heap:=h',toks:=O}) (n:="range_iterator") j rfl rfl ⋯ ⟨.int (lo+i),H,I1,⟨t,?_⟩,⟨rfl,rfl⟩,j,λb d=>(l b d).1⟩⟩;rw[Jc]
 done:=by intro X q hw x p i π s σ H E I l a m;subst q hw x;obtain⟨L,J,f2,F,A,y⟩:=l it (by simp);show wpAny_pyNext_range_end (I.ok.hd p) a (by have:n<=i:=m;lia) λh' eb=>⟨rfl,I.turned (t':=s.toks) (λb o d e=>eb b o d e) L J F A y⟩
 self:=λ_ _ _ _ _ a h=>wpAny_pyIter_rangeiter a h
section
variable{tg:av}
def QZ(K:aq)(d:TE):TI:=λσ H R=>d σ H λx H1=>∃a,x=.ref a/\(∃xs,dM K H1 a xs)/\R (Itl K a) H1
def XJ{l:av}{n:TE}(z:PE X l n):PI X tg l (QZ X.K n):=by
 intro π s σ H R I h;show dB (z π s σ H _ I h) λv d m=>?_;obtain⟨x,H1,j,r1,q1⟩:=m;obtain⟨a,e,⟨xs,y⟩,q⟩:=q1;subst e;cases r1;obtain⟨F,J,p,L⟩:=j.list y;show zt p.isList ?_;show⟨↥d,[↥d],_,_,H1,rfl,j.kept (t':=d.toks) λb o e=>cy _ e,yP a _,⟨_,fv _ rfl,rfl,rfl⟩,λb A=>?_,q⟩;have e:b=↥d:=by simpa using A
 subst e;show j.xG (bt _) (j.hok.fresh (bt _))
theorem Q0{π:Q0b}{σ:St}{H:Hp}{s:ao}{R:It->Hp->Prop}{E:Q0c}{lo a:Int}{t u v:gu}{d:Nat}(I:Φ X π σ H s)(n:-(2^62)<=lo)(h2:lo<2^62)(m:-(2^62)<=a)(l:a<2^62)
  (q:R (Itr lo (a-lo).toNat) H):az (au X.Ω X.w) X.A (pyIter (.ref ↥s)) (PIE X π σ tg R) E {s with heap:=s.heap.push {cls:=.type "range",data:=.fields #[.int lo t,.int a u,.int 1 v]},toks:=d}:=by
 show wpAny_pyIter_range (IsRange.new ..) (Fz n h2 m l) ?_;have h:Φ X π σ H {s with heap:=s.heap.push {cls:=.type "range",data:=.fields #[.int lo t,.int a u,.int 1 v]},toks:=d}:=I.kept λb o e=>cy _ e;show⟨(s.heap.push {cls:=.type "range",data:=.fields #[.int lo t,.int a u,.int 1 v]}).objs.size,[(s.heap.push {cls:=.type "range",data:=.fields #[.int lo t,.int a u,.int 1 v]}).objs.size],_,_,H,rfl,
  h.kept (t':=d) λb o e=>cy _ e,GO _ lo (a-lo).toNat,?_,λb j=>?_,q⟩
 .have e1:lo+((0:Nat):Int)*1=lo:=by simp
  have p:(((a-lo).toNat:Nat):Int)-((0:Nat):Int)=uc lo a 1:=by rw[Gd];split<;>lia
  show a04 _ _ (lo+((0:Nat):Int)*1) ((((a-lo).toNat:Nat):Int)-((0:Nat):Int)) 1;rw[e1,p];show fv _ rfl
 .have e:b=(s.heap.push {cls:=.type "range",data:=.fields #[.int lo t,.int a u,.int 1 v]}).objs.size:=by simpa using j
  subst e;show h.xG (bt _) (h.hok.fresh (bt _))
def Xx(a:TA):TI:=λσ H R=>a σ H λvs H1=>∃j:Int,vs=[.int j] /\ -(2^62)<=j/\j<2^62/\R (Itr 0 j.toNat) H1
theorem MO{a:av}{l:TA}{p d:br}(o:Gl X "range")(n:X.mg "range"=ag)(v:PA X [a] l)(m:ax [a] X.env=[(ah,eval a X.env)]<|>0):PI X tg (.Call (.Name "range" p) [a] [] d) (Xx l):=by
 intro π s σ H R I h;show Call_ (kC I o n a1M (wc (dB (v d π s σ H _ I h) λus y ⟨vs,H1,x,r1,q1⟩=>?_) m rfl));obtain⟨j,e,q1,q2,q⟩:=q1;subst e
 cases r1 with
 |cons r rr =>
  cases rr;obtain⟨t,rfl⟩:=r;show a0G (Q0 x ∅ ∅ q1 q2 ↑q)
def Ua(wi:TI)(g:TG)(j:TS):TS:=λD σ H=>wi σ H λJ H1=>∃W:Nat->Nat->St->Hp->Prop,(∃m,W 0 m σ H1) /\∀i m σ H,W i m σ H ->
 (J.stop i H/\D.nx σ H)\/(J.go i H /\∃N:St->Hp->Prop,(∀a H',N a H' ->∃h,h<m/\W (i+1) h a H') /\∀x H',J.yld i H x H'->g x σ H' λd l=>j {D with nx:=N,ct:=N,bk:=D.nx} d l)
def vK(a:List ai)(h:bh):List (ai×ay):=a.filterMap λb=>(h.get? b).map λo=>(b,o)
def kE(a:b∈fp)(e:h.get? b=ae o):(b,o)∈vK fp h:=wu.mpr ⟨b,a,by rw[e];rfl⟩
theorem MP(a:p∈vK fp h):p.1∈fp/\h.get? p.1=ae p.2:=by
 obtain⟨b,d,e⟩:=wu.mp a
 cases q:h.get? b with
 |none=>rw[q] at e;cases e
 |some o =>
  rw[q] at e;have j:(b,o)=p:=dg e;subst j;show⟨d,q⟩
def Φ.pinned(I:Φ X π σ H s)(l:∀b∈fp,mM X π H b)(ho:∀b∈fp,∃o,s.heap.get? b=ae o /\∀v,o.data≠.cell v):Φ X (π++vK fp s.heap) σ H s :=
 I.A7 λp j=>(ij.mp j).elim (λz=>I.pin p (ir _ z)) λz=>by obtain⟨a,e⟩:=MP z;obtain⟨q,n,m,_⟩:=l p.1 a;obtain⟨o,h,d⟩:=ho p.1 a;rw[e] at h;cases h;show⟨e,q,n,m,d⟩
def Φ.gL(I:Φ X (π++pl) σ H s):Φ X π σ H s:=I.A7 λp a=>I.pin p (ir _ (kq _ a))
theorem aBe(U:tj (au X.Ω X.w) X.A X.env X.xe)(hc:X.calm=af)(hi:PI X tg iter wi)(hg:PG X tg g)(q:qN X body tb)
  (hs:Zn X iter<|>4):PS X (.For tg iter body [] ν) (Ua wi g tb):=by
 intro π s σ H D I h;show wpAny_For (dB (hi π s σ H _ I h) λv s1 h1=>dB h1 λitv s2 h2=>?_) hs;obtain⟨it,Z,tn,J,H2,e,I2,T,st2,f2,W,⟨m0,w0⟩,turn⟩:=h2;subst e
 -- what stays af of the iterator's objects through the loop
 have p:∀{H':Hp},(∀b∈Z,H' b=ag) ->∀b∈Z,mM X π H' b:=λhn b q=>⟨hn b q,(f2 b q).2⟩;show codeAny_forLoop_any (λn s'=>∃i l H',Φ X π l H' s'/\tn i s'.heap/\(∀b∈Z,H' b=ag)/\W i n l H') ?_ m0 ⟨0,σ,H2,I2,st2,λb q=>(f2 b q).1,w0⟩;rintro n s3 ⟨i,j,H3,I3,L,Y,w3⟩;rcases turn i n j H3 w3 with⟨stop,qn⟩|⟨go,N,hN,step⟩
 .refine qk U (dB (T.done X rfl rfl rfl hc i π s3 j H3 X.xe I3 (p Y) L stop) λr s4 ⟨hr,I4⟩=>?_);subst hr;show zw ⟨j,H3,I4,qn⟩
 .refine qk U (dB (T.item X rfl rfl rfl hc i π s3 j H3 X.xe I3 (p Y) L go) λr s4 ⟨u,hr,h4⟩=>?_);subst hr;show qk U (dB h4 λ_ s5 ⟨x,H5,I5,r5,y5,K,fr5⟩=>?_);have I5':=I5.pinned (p fr5) (T.obj _ _ K);show qk U (dB (hg _ s5 j H5 x u _ I5' r5 (step x H5 y5)) λ_ s6 ⟨σ6,H6,I6,q6⟩=>?_);show qk U (dB (q _ s6 σ6 H6 _ I6 q6) λf s7 F=>?_);have again:∀{a:St} {z:Hp},Φ X (π++vK Z s5.heap) a z s7->N a z ->∃m,m<n /\∃i l H',Φ X π l H' s7/\tn i s7.heap/\(∀b∈Z,H' b=ag)/\W i m l H':=λ{a z} y O=>by obtain⟨m',hm,w7⟩:=hN a z O;show⟨m',hm,i+1,a,z,y.gL,T.keep _ _ _ K λb q o e=>(y.pin (b,o) (ir _ (ir _ (kE q e)))).1,λb q=>?_,w7⟩;obtain⟨o,e,d⟩:=T.obj _ _ K b q;show(y.pin (b,o) (ir _ (ir _ (kE q e)))).2.1
  cases f with
  |next=>obtain⟨a,z,y,O⟩:=F;show again y O
  |cont=>obtain⟨a,z,y,O⟩:=F;show again y O
  |brk=>obtain⟨a,z,y,F⟩:=F;show⟨a,z,y.gL,F⟩
  |ret v=>obtain⟨x7,a,z,y,r7,F⟩:=F;show⟨x7,a,z,y.gL,r7,F⟩
end
abbrev R2:=V->V->Hp->VK->Prop
def iP(X:Cx)(f:aj->aj->gk aj)(r:R2):Prop :=
 ∀(π:Q0b) (s:ao) (σ:St) (H:Hp) (x y:V) (v u:aj) (Q:VK),Φ X π σ H s->Ψ x v->Ψ y u->r x y H Q ->
  az (au X.Ω X.w) X.A (f v u) (EP X π σ Q) X.xe s
def UnR(X:Cx)(f:aj->gk aj)(r:V->Hp->VK->Prop):Prop :=
 ∀(π:Q0b) (s:ao) (σ:St) (H:Hp) (x:V) (v:aj) (Q:VK),Φ X π σ H s->Ψ x v->r x H Q ->
  az (au X.Ω X.w) X.A (f v) (EP X π σ Q) X.xe s
def eX(X:Cx)(f:aj)(r:List V->Hp->VK->Prop):Prop :=
 ∀(π:Q0b) (s:ao) (σ:St) (H:Hp) (xs:List V) (us:Q0f) (Q:VK),Φ X π σ H s->θ xs us->r xs H Q ->
  az (au X.Ω X.w) X.A (call f us) (EP X π σ Q) X.xe s
def T_(X:Cx)(r:V->Hp->(Bool->Hp->Prop)->Prop):Prop :=
 ∀(π:Q0b) (s:ao) (σ:St) (H:Hp) (x:V) (v:aj) (Q:Bool->Hp->Prop),Φ X π σ H s->Ψ x v->r x H Q ->
  az (au X.Ω X.w) X.A (truthy v) (TP X π σ Q) X.xe s
def sh(r:R2)(d a:TE):TE:=λσ H Q=>d σ H λx H1=>a σ H1 λy h=>r x y h Q
def Jq(r:V->Hp->VK->Prop)(a:TE):TE:=λσ H Q=>a σ H λx H1=>r x H1 Q
def rI(C:Int->Int->Prop)(g:Int->Int->V):R2:=λx y H Q=>∃i j,x=.int i/\y=.int j/\C i j/\Q (g i j) H
def MQ(g:Int->Int->V):R2:=λx y H Q=>∃i j,x=.int i/\y=.int j/\Q (g i j) H
def rU(g:Int->V):V->Hp->VK->Prop:=λx H Q=>∃i,x=.int i/\Q (g i) H
section
variable{a b c:av}{ta tb tc:TE}{ν:br}
theorem yy(J:PE X a ta)(F:PE X b tb){π:Q0b}{s:ao}{σ:St}{H:Hp}{R:V->V->Hp->Prop}(I:Φ X π σ H s)
  (h:ta σ H λx H1=>tb σ H1 λy d=>R x y d) {Q:Q0c} {f:aj->aj->gk aj}
  (z:∀v u m x y d,Φ X π σ d m->Ψ x v->Ψ y u->R x y d->az (au X.Ω X.w) X.A (f v u) Q X.xe m):
  az (au X.Ω X.w) X.A (eval a X.env) (λv l=>az (au X.Ω X.w) X.A (eval b X.env) (λu j=>az (au X.Ω X.w) X.A (f v u) Q X.xe j) X.xe l) X.xe s:=by
 show dB (J π s σ H _ I h) λv p o=>?_;obtain⟨x,H1,L,r1,q1⟩:=o;show dB (F π p σ H1 _ L q1) λu m n=>?_;obtain⟨y,d,K,q,q2⟩:=n;show z v u m x y d K r1 q q2
def J6{op:Operator}{r:R2}(ho:iP X (binaryOp op) r)(n:PE X a ta)(m:PE X b tb):PE X (.BinOp a op b ν) (sh r ta tb):=by intro π s σ H Q I h;show wpAny_BinOp (yy n m I h λv u d x y p o l j q=>ho π d σ p x y v u Q o l j q)
def Xw(ho:UnR X (unaryOp op) r)(j:PE X a ta):PE X (.UnaryOp op a ν) (Jq r ta):=by intro π s σ H Q I h;show UnaryOp_ (dB (j π s σ H _ I h) λv d ⟨x,H1,l,r1,q1⟩=>ho π d σ H1 x v Q l r1 q1)
theorem opI{f:aj->aj->gk aj}{C:Int->Int->Prop}{g:Int->Int->Int}
  (rule:∀(i j:Int) (t u:gu) (s:ao) (Q:Q0c) (E:Q0c),C i j->Q (.int (g i j) s.toks) {s with toks:=s.toks+1}->az (au X.Ω X.w) X.A (f (.int i t) (.int j u)) Q E s):
  iP X f (rI C λi j=>.int (g i j)):=by
 intro π s σ H x y v u Q I l d h;obtain⟨i,j,rfl,rfl,m,q⟩:=h;obtain⟨t,rfl⟩:=l;obtain⟨t',rfl⟩:=d;show rule i j t t' s _ _ m ⟨.int (g i j),H,I.tok _,⟨_,rfl⟩,q⟩
theorem Dr{f:aj->aj->gk aj}{g:Int->Int->Int}
  (rule:∀(i j:Int) (t u:gu) (s:ao) (Q:Q0c) (E:Q0c),Q (.int (g i j) s.toks) {s with toks:=s.toks+1}->az (au X.Ω X.w) X.A (f (.int i t) (.int j u)) Q E s):
  iP X f (MQ λi j=>.int (g i j)):=by
 intro π s σ H x y v u Q I l d h;obtain⟨i,j,rfl,rfl,q⟩:=h;obtain⟨t,rfl⟩:=l;obtain⟨t',rfl⟩:=d;show rule i j t t' s _ _ ⟨.int (g i j),H,I.tok _,⟨_,rfl⟩,q⟩
theorem XM{f:aj->aj->gk aj}{g:Int->Int->Bool}
  (rule:∀(i j:Int) (t u:gu) (s:ao) (Q:Q0c) (E:Q0c),Q (.bool (g i j)) s->az (au X.Ω X.w) X.A (f (.int i t) (.int j u)) Q E s):
  iP X f (MQ λi j=>.bl (g i j)):=by
 intro π s σ H x y v u Q I l d h;obtain⟨i,j,rfl,rfl,q⟩:=h;obtain⟨t,rfl⟩:=l;obtain⟨t',rfl⟩:=d;show rule i j t t' s _ _ ⟨.bl (g i j),H,I,rfl,q⟩
def Dq(i j:Int):Prop:=0<j/\j<1073741824
def yx(i j:Int):Prop:=0<=j/\j<=1000000/\i.natAbs<2^64
def XN(i j:Int):Prop:=(-(2^64)<i/\i<2^64)\/(-(2^64)<j/\j<2^64)
def XN.ok{i j:Int}(h:XN i j):vz i j:=by
 rcases h with⟨d,h2⟩|⟨d,h2⟩
 .exact .of_left (a0C d h2)
 .exact .of_right (a0C d h2)
def GP(k:Nat):(0:Int)<=2^k:=by rw[two_pow_cast];show Int.natCast_nonneg _
def aBi:iP X (binaryOp .Add) (MQ λi j=>.int (i+j)):=Dr λ_ _ _ _ _ _ _ q=>add_int q
def aBj:iP X (binaryOp .Sub) (MQ λi j=>.int (i-j)):=Dr λ_ _ _ _ _ _ _ q=>sub_int q
def XQ:iP X (binaryOp .FloorDiv) (rI Dq λi j=>.int (i/j)):=opI λi j _ _ _ _ _ d q=>by have h:(0:Int)<j:=d.1;have h2:j<1073741824:=d.2;show floordiv_int ∅ (by rw[a2J i ∅];show q) (.inl (PyProof.noPylong_small ∅))
def aBk:iP X (binaryOp .Mod) (rI (λ_ j=>0<j) λi j=>.int (i%j)):=opI λi j _ _ _ _ _ d q=>by have h:(0:Int)<j:=d;show mod_int' ∅ (by rw[Int.fmod_eq_emod_of_nonneg i ∅];show q)
def aBl:iP X (binaryOp .Pow) (rI yx λi j=>.int (i^j.toNat)):=opI λ_ _ _ _ _ _ _ d q=>pow_int_small d.1 d.2.1 d.2.2 q
def aBm:iP X (binaryOp .LShift) (rI yx λi j=>.int (i*2^j.toNat)):=opI λ_ _ _ _ _ _ _ d q=>lshift_int_small d.1 d.2.1 d.2.2 q
def aBn:iP X (binaryOp .RShift) (rI (λ_ j=>0<=j) λi j=>.int (i/2^j.toNat)):=opI λi j _ _ _ _ _ d q =>
 rshift_int d (by rw[a2J i (GP _)];show q)
theorem unI{f:aj->gk aj}{g:Int->Int}
  (rule:∀(i:Int) (t:gu) (s:ao) (Q:Q0c) (E:Q0c),Q (.int (g i) s.toks) {s with toks:=s.toks+1}->az (au X.Ω X.w) X.A (f (.int i t)) Q E s):
  UnR X f (rU λi=>.int (g i)):=by
 intro π s σ H x v Q I d h;obtain⟨i,rfl,q⟩:=h;obtain⟨t,rfl⟩:=d;show rule i t s _ _ ⟨.int (g i),H,I.tok _,⟨_,rfl⟩,q⟩
def aBo:UnR X (unaryOp .USub) (rU λi=>.int (-i)):=unI λ_ _ _ _ _ q=>neg_int q
end
noncomputable def yw:V->V->Bool
 |.non,.non=>af | .non,.int _=>af | .int _,.non=>af | .non,.bl _=>af | .bl _,.non=>af | .non,.str _=>af | .str _,.non=>af
 |.int _,.int _=>af | .bl _,.bl _=>af | .str _,.str _=>af | .ML _,.ML _=>af
 |.int _,.str _=>af | .str _,.int _=>af | .bl _,.str _=>af | .str _,.bl _=>af
 |_,_=>ah
def B_:R2:=λx y H Q=>yw x y=af/\Q (.bl (Zv (x=y))) H
def Bz:R2:=λx y H Q=>yw x y=af/\Q (.bl (!Zv (x=y))) H
def A9:Zv (V.int i=V.int j)=(i == j):=by rw[jz];simp
def GQ:Zv (V.bl i=V.bl j)=(i == j):=by rw[jz];simp
def BA:Zv (V.str i=V.str j)=(i == j):=by rw[jz];simp
def J7:Zv (V.ML i=V.ML j)=(i.toList == j.toList):=by rw[jz];cases i;cases j;simp
section
variable{a b c:av}{ta tb tc:TE}{ν:br}
def bL(I:Φ X π σ H s)(q:Q (.bl k) H)(e:k=k'):EP X π σ Q (.bool k') s:=by subst e;show⟨.bl k,H,I,rfl,q⟩
theorem Es:iP X (compareOp .Eq) B_:=by
 intro π s σ H x y v u Q I m d h;obtain⟨l,q⟩:=h
 cases x with
 |non =>
  cases m
  cases y with
  |non=>cases d;show a3x (bL I q (by simp))
  |bl j=>cases d;show a3z (bL I q (by simp))
  |int j=>obtain⟨t',rfl⟩:=d;show a3y (bL I q (by simp))
  |str j=>obtain⟨t',rfl⟩:=d;show a3w (bL I q (by simp))
  |_=>show Zw (show ah=af from l) cf
 |bl i =>
  cases m
  cases y with
  |non=>cases d;show a3B (bL I q (by simp))
  |bl j=>cases d;show eq_bool (bL I q GQ)
  |str j=>obtain⟨t',rfl⟩:=d;show a3J (bL I q (by simp))
  |_=>show Zw (show ah=af from l) cf
 |int i =>
  obtain⟨t,rfl⟩:=m
  cases y with
  |non=>cases d;show a3A (bL I q (by simp))
  |int j=>obtain⟨t',rfl⟩:=d;show eq_int (bL I q A9)
  |str j=>obtain⟨t',rfl⟩:=d;show a3I (bL I q (by simp))
  |_=>show Zw (show ah=af from l) cf
 |str i =>
  obtain⟨t,rfl⟩:=m
  cases y with
  |non=>cases d;show a3v (bL I q (by simp))
  |bl j=>cases d;show a3H (bL I q (by simp))
  |int j=>obtain⟨t',rfl⟩:=d;show a3G (bL I q (by simp))
  |str j=>obtain⟨t',rfl⟩:=d;show eq_str (bL I q BA)
  |_=>show Zw (show ah=af from l) cf
 |ML i =>
  obtain⟨t,rfl⟩:=m
  cases y with
  |ML j=>obtain⟨t',rfl⟩:=d;show PySem.W.eq_bytes (bL I q J7)
  |_=>show Zw (show ah=af from l) cf
 |_=>cases y<;>show Zw (show ah=af from l) cf
theorem Xv:iP X (compareOp .NotEq) Bz:=by
 intro π s σ H x y v u Q I m d h;obtain⟨l,q⟩:=h
 cases x with
 |non =>
  cases m
  cases y with
  |non=>cases d;show a3q (bL I q (by simp))
  |bl j=>cases d;show a3s (bL I q (by simp))
  |int j=>obtain⟨t',rfl⟩:=d;show a3r (bL I q (by simp))
  |str j=>obtain⟨t',rfl⟩:=d;show a3p (bL I q (by simp))
  |_=>show Zw (show ah=af from l) cf
 |bl i =>
  cases m
  cases y with
  |non=>cases d;show a3u (bL I q (by simp))
  |bl j=>cases d;show ne_bool (bL I q (congrArg not GQ))
  |str j=>obtain⟨t',rfl⟩:=d;show a3F (bL I q (by simp))
  |_=>show Zw (show ah=af from l) cf
 |int i =>
  obtain⟨t,rfl⟩:=m
  cases y with
  |non=>cases d;show a3t (bL I q (by simp))
  |int j=>obtain⟨t',rfl⟩:=d;show ne_int (bL I q (congrArg not A9))
  |str j=>obtain⟨t',rfl⟩:=d;show a3E (bL I q (by simp))
  |_=>show Zw (show ah=af from l) cf
 |str i =>
  obtain⟨t,rfl⟩:=m
  cases y with
  |non=>cases d;show a3o (bL I q (by simp))
  |bl j=>cases d;show a3D (bL I q (by simp))
  |int j=>obtain⟨t',rfl⟩:=d;show a3C (bL I q (by simp))
  |str j=>obtain⟨t',rfl⟩:=d;show ne_str (bL I q (congrArg not BA))
  |_=>show Zw (show ah=af from l) cf
 |ML i =>
  obtain⟨t,rfl⟩:=m
  cases y with
  |ML j=>obtain⟨t',rfl⟩:=d;show PySem.W.ne_bytes (bL I q (congrArg not J7))
  |_=>show Zw (show ah=af from l) cf
 |_=>cases y<;>show Zw (show ah=af from l) cf
def Er:iP X (compareOp .Lt) (MQ λi j=>.bl (Zv (i<j))):=XM λ_ _ _ _ _ _ _ q=>A_ q
def Xu:iP X (compareOp .LtE) (MQ λi j=>.bl (Zv (i<=j))):=XM λ_ _ _ _ _ _ _ q=>le_int q
def Ep:iP X (compareOp .Gt) (MQ λi j=>.bl (Zv (j<i))):=XM λ_ _ _ _ _ _ _ q=>gt_int q
def Xt:iP X (compareOp .GtE) (MQ λi j=>.bl (Zv (j<=i))):=XM λ_ _ _ _ _ _ _ q=>ge_int q
def Q1:iP X (compareOp .Is) (λx y H Q=>y=.non/\Q (.bl (Zv (x=.non))) H):=by
 intro π s σ H x y v u Q I d j h;obtain⟨rfl,q⟩:=h;cases j;show is_none_gen (bL I q ?_);cases x<;>first
  | (cases d;rfl)
  | (obtain⟨t,rfl⟩:=d;rfl)
def iP.or(h:iP X f r)(h':iP X f r'):iP X f (λx y H Q=>r x y H Q\/r' x y H Q):=by
 intro π s σ H x y v u Q I j d q;rcases q with q|q
 .exact h π s σ H x y v u Q I j d q
 .exact h' π s σ H x y v u Q I j d q
def kF(b:av)(h:op≠.In<|>1)(h2:op≠.NotIn<|>1):behindInMarks op b=ah:=by
 have e1:(op == CmpOp.In)=ah:=by cases op<;>first|rfl|show Zw rfl h
 have d:(op == CmpOp.NotIn)=ah:=by cases op<;>first|rfl|show Zw rfl h2
 cases b<;>simp[behindInMarks,e1,d]
def XR{op:CmpOp}{r:R2}(ho:iP X (compareOp op) r)(o:PE X a ta)(n:PE X b tb)(m:behindInMarks op b=ah):PE X (.Compare a [op] [b] ν) (sh r ta tb):=by intro π s σ H Q I h;show wpAny_Compare1 (yy o n I h λv u d x y z p l j q=>ho π d σ z x y v u Q p l j q) m
def J8(t:TE):TT:=λσ H Q=>t σ H λx H'=>∃k,x=.bl k/\Q k H'
def XS(ho:iP X (compareOp op) r)(q:PE X a ta)(p:PE X b tb)(o:behindInMarks op b=ah):PT X (.Compare a [op] [b] ν) (J8 (sh r ta tb)):=by
 intro π s σ H Q I h;show a0k (dB (q π s σ H _ I h) λv j ⟨x,H1,J,r1,q1⟩=>dB (p π j σ H1 _ J q1) λu d ⟨y,L,F,m,q2⟩ =>
  dB (ho π d σ L x y v u _ F r1 m q2) λc s3 ⟨z,K,A,l,k,e,n⟩=>?_) o
 subst e;cases l;show lj ⟨K,A,n⟩
def Q2(r j:R2)(ta tb tc:TE):TE:=λσ H Q=>ta σ H λx H1=>tb σ H1 λy m=>r x y m λz d=>∃k,z=.bl k /\
 (if k=af then tc σ d λh l=>j y h l Q else Q (.bl ah) d)
theorem Q4(ho:iP X (compareOp op) r)(j:iP X (compareOp op') r')(ha:PE X a ta)(Z:PE X b tb)(Y:PE X c tc)
  (U:lastMarks [op,op'] [b,c]=ah<|>5):PE X (.Compare a [op,op'] [b,c] ν) (Q2 r r' ta tb tc):=by
 intro π s σ H Q I h;show Compare_chain (dB (ha π s σ H _ I h) λv J ⟨x,H1,I1,r1,q1⟩=>chain_link (dB (Z π J σ H1 _ I1 q1) λu F ⟨y,H2,I2,l,q2⟩ =>
  dB (ho π F σ H2 x y v u _ I2 r1 l q2) λd s3 ⟨z,o,n,L,k,e,m⟩=>?_)) U
 subst e;cases L;show lj ?_
 cases k with
 |false=>show ite_ff ⟨.bl ah,o,n,rfl,m⟩
 |true=>show ite_tt (chain_last (dB (Y π s3 σ o _ n m) λq A ⟨p,H4,I4,K,O⟩=>j π A σ H4 y p u q Q I4 l K O))
def Dp(K:aq)(x:V)(H:Hp)(k:Bool):Prop :=
 match x with
 |.non=>k=ah
 |.bl b=>k=b
 |.int i=>k=(i !=0)
 |.str y=>⇑y<=bq/\k=((⇑y:Int) !=0)
 |.ML y=>y.size<=bq/\k=((y.size:Int) !=0)
 |.ref p=>(∃xs,dM K H p xs/\k=!xs.isEmpty)\/(∃xs,eV K H p xs/\k=!xs.isEmpty) \/∃χ,H p=ae (.dK χ)/\k=!χ.isEmpty
 |_=>False
def GR{d:Type}{χ:List (d×V)}{vs:List (d×aj)}(r:KV χ vs):(!vs.isEmpty)=!χ.isEmpty:=by cases r<;>rfl
def kG{xs:List V}{d:Q0f}(r:θ xs d):(!d.toArray.isEmpty)=!xs.isEmpty:=by cases r<;>simp
def vL:(bq:Nat)<2^63:=by rw[fw];decide
theorem aBq:T_ X (λx H Q=>∃k,Dp X.K x H k/\Q k H):=by
 intro π s σ H x v Q I j h;obtain⟨k,e,q⟩:=h;have L:=vL;have J:bq=16777216:=fw
 cases x with
 |non =>
  cases j;have d:k=ah:=e;subst d;show truthy_none ⟨H,I,q⟩
 |bl b =>
  cases j;have d:k=b:=e;subst d;show lj ⟨H,I,q⟩
 |int i =>
  obtain⟨t,rfl⟩:=j;have d:k=(i !=0):=e;subst d;show PySem.P.truthy_int ⟨H,I,q⟩
 |str y =>
  obtain⟨t,rfl⟩:=j;obtain⟨A,d⟩:⇑y<=bq/\k=((⇑y:Int) !=0):=e;subst d;show PySem.P.truthy_str ∅ ⟨H,I.tok _,q⟩
 |ML y =>
  obtain⟨t,rfl⟩:=j;obtain⟨A,d⟩:y.size<=bq/\k=((y.size:Int) !=0):=e;subst d;show PySem.W.truthy_bytes ∅ ⟨H,I.tok _,q⟩
 |ref p =>
  cases j;have d:(∃xs,dM X.K H p xs/\k=!xs.isEmpty)\/(∃xs,eV X.K H p xs/\k=!xs.isEmpty) \/∃χ,H p=ae (.dK χ)/\k=!χ.isEmpty:=e;rcases d with⟨xs,l,d⟩|⟨xs,l,d⟩|⟨χ,l,d⟩
  .subst d;obtain⟨z,r,n,o⟩:=I.list l;have hlen:=⇑r;show a0c n.isList (by erw[cz];lia) ⟨H,I.tok _,by rw[kG r];show q⟩
  .subst d;obtain⟨z,r,n,o⟩:=I.tuple l;have hlen:=⇑r;show a1z n (by erw[cz];lia) ⟨H,I.tok _,by rw[kG r];show q⟩
  .subst d;obtain⟨o,F,vs,r,m⟩:⇑χ<=bq/\(p == sysModules)=ah /\∃vs,KV χ vs/\s.heap.DictOf (aW X.Ω X.w) p vs:=I.hok p _ l;have hlen:⇑χ=⇑vs:=tm r;show wpAny_truthy_dict F m ∅ ⟨H,I.tok _,by rw[GR r];show q⟩
 |_=>show(show False from e).elim
theorem Q5(l:PE X a ta)(j:∀whole,isTrue a X.env whole=(do let v <- whole;standAt a.pos;holding [v] (truthy v))):
  PT X a (λσ H Q=>ta σ H λx H'=>∃k,Dp X.K x H' k/\Q k H'):=by
 intro π s σ H Q I h;show a1H (dB (l π s σ H _ I h) λv d ⟨x,H1,m,r1,q1⟩=>aBq π d σ H1 x v Q m r1 q1) (j _)
def GS:iP X (binaryOp .Add) (λx y H Q=>∃i j,x=.str i/\y=.str j/\⇑i+⇑j<=bq/\Q (.str (i++j)) H):=by intro π s σ H x y v u Q I l d h;obtain⟨i,j,rfl,rfl,m,q⟩:=h;obtain⟨t,rfl⟩:=l;obtain⟨t',rfl⟩:=d;show add_str (λt' n=>⟨.str (i++j),H,I.tok _,⟨_,rfl⟩,q⟩) m
theorem vals1(r:θ [x] us):∃u,us=[u]/\Ψ x u:=by
 cases r with
 |cons r1 r2=>cases r2;show⟨_,rfl,r1⟩
theorem vals2(r:θ [x,y] us):∃u d,us=[u,d]/\Ψ x u/\Ψ y d:=by
 cases r with
 |cons r1 r2 =>
  cases r2 with
  |cons r3 r4=>cases r4;show⟨_,_,rfl,r1,r3⟩
end
structure yu (h:bh) (x dx C:ai) (mA:Q0d):Prop where
 obj:h.get? x=ae (instObj C dx)
 ns:h.Ns1 dx mA
 ne:dx≠x
def MR{h:bh}{p:ai}{l:Q0d}(n:h.Ns1 p l):∃j,h.get? p=ae j /\∀name,lookIn name j=ae (l name):=by
 obtain⟨o,m,J,ho,F,A,_,x⟩:=n;show⟨o,ho,λname=>?_⟩;have e:=x name;delta nsFind findBy at e;rw[<- Array.find?_toList] at e;delta lookIn;rw[F];dsimp only;split
 .rename_i y q;rw[q] at e;show congrArg ae e
 .rename_i q;rw[q] at e;have a:m.toList.any (·.refKey)=ah:=by rw[a2B];intro y v;obtain⟨z,t,d⟩:=A y (Array.mem_toList_iff.mp v);simp[a3K,d]
  have I:¬ m.toList.any (·.refKey)=af:=by rw[a];show cf
  rw[Zz I];show congrArg ae e
def yu.look(I:yu h x dx C mA):∃a,PySem.W.InstAt h x (instObj C dx) C (ae a) /\∀name,lookIn name a=ae (mA name) :=
 let ⟨a,ho,hl⟩:=MR I.ns
 ⟨a,⟨I.obj,rfl,rfl,ho⟩,hl⟩
theorem lM.some_of(r:lM (ae v) o):∃u,o=ae u/\Ψ v u:=by
 cases o with
 |none=>show(show False from r).elim
 |some u=>show⟨u,rfl,r⟩
section
variable{P:bj}{w:bg}{H H':Hp}{h h':bh}{a C dx:ai}{fs fs':List (ak×V)}
def XT(l:mL P w H h)(e:H a=ae (.ins C dx fs)):∃j,yu h a dx C j/\(∀f,lM (fs.lookup f) (j f))/\a0J j (fs.map (·.1))/\⇑fs<=1000/\H dx=ae (.own a):=by obtain⟨d,z,o,m,j,n,r,q⟩:=(show cK P w H h a (.ins C dx fs) from l a _ e);show⟨j,⟨m,n,o⟩,r,q,z,d⟩
end
structure Cls (K:aq) (C:ai):Prop where
 pg:a0L K C Str.empty=af
 hd:PySem.W.hasDictIn K C=af
 po:PySem.W.plainOver K C=af
 sa:a0Q K (.ref C) "__setattr__"=ae (ae (.builtin "object.__setattr__"))
def Cls.get{K:aq}{C:ai}(c:Cls K C)(f:ak):a0L K C f=af:=c.pg
section
variable{π:Q0b}{σ:St}{H:Hp}{s:ao}{A:bx}{E:Q0c}{Q:Q0c}{c:aj}{b:Bool}
inductive oY (K:aq) (H:Hp):V->aj->Prop where
 |non:oY K H .non (.type "NoneType")
 |bl (x:Bool):oY K H (.bl x) (.type "bool")
 |int (i:Int):oY K H (.int i) (.type "int")
 |str (x:ak):oY K H (.str x) (.type "str")
 |flt (x:UInt64):oY K H (.flt x) (.type "float")
 |lst {a:ai} {xs:List V} (e:H a=ae (.lst xs)):oY K H (.ref a) (.type "list")
 |tF {a:ai} {o:ay} {xs:List V} (e:H a=ae (.tF o (.lst xs))):oY K H (.ref a) (.type "list")
 |tup {a:ai} {xs:List V} (e:H a=ae (.tup xs)):oY K H (.ref a) (.type "tuple")
 |dK {a:ai} {χ:List (Key×V)} (e:H a=ae (.dK χ)):oY K H (.ref a) (.type "dict")
 |dT {a:ai} {χ:List (List Key×V)} (e:H a=ae (.dT χ)):oY K H (.ref a) (.type "dict")
 |ins {a C dx:ai} {fs:List (ak×V)} (e:H a=ae (.ins C dx fs)) (cl:Cls K C) (ha:a0Q K (.ref C) "__class__"=ae (ae (.builtin "object.__class__")))
   (hn:PySem.W.specialIn K (.builtin "object.__class__") "__get__"=ae (ae (.builtin "getset_descriptor.__get__"))) (htk:PySem.W.takesIn K (.builtin "object.__class__")=ae af)
   (hm:PySem.W.mroIn K C (.type "object")=ae af):oY K H (.ref a) (.ref C)
theorem MS(I:Φ X π σ H s)(d:Ψ x u)(ty:oY X.K H x t)(e:kitOne X.K t c=ae b)(h:∀l,Q (.bool b) {s with toks:=l}):
  az (au X.Ω X.w) A (call (.builtin "isinstance") [u,c]) Q E s:=by
 cases ty with
 |non=>cases (show u=gz from d);show j_ PySem.W.kitx_none I.A5 kl e (λz=>nomatch z) h
 |bl y=>cases (show u=vq y from d);show j_ PySem.W.kitx_bool I.A5 kl e (λz=>nomatch z) h
 |int i=>obtain⟨t,q⟩:=(show ∃t,u=mw i t from d);cases q;show j_ PySem.W.kitx_int I.A5 kl e (λz=>nomatch z) h
 |str y=>obtain⟨t,q⟩:=(show ∃t,u=Ag y t from d);cases q;show j_ PySem.W.kitx_str I.A5 kl e (λz=>nomatch z) h
 |flt y=>obtain⟨t,q⟩:=(show ∃t,u=a0Y y t from d);cases q;show j_ PySem.W.kitx_float I.A5 kl e (λz=>nomatch z) h
 | @lst a xs ea =>
  cases (show u=f_ a from d);obtain⟨_,_,n,_,j⟩:=(show cK X.Ω X.w H s.heap a (.lst xs) from I.hok a _ ea);show j_ Gi I.A5 ⟨_,j,rfl⟩ e (λz=>nomatch z) h
 | @tF a ob xs ea =>
  cases (show u=f_ a from d);obtain⟨_,_,_,n,_,j⟩:=(show cK X.Ω X.w H s.heap a (.tF ob (.lst xs)) from I.hok a _ ea);show j_ Gi I.A5 ⟨_,j,rfl⟩ e (λz=>nomatch z) h
 | @tup a xs ea =>
  cases (show u=f_ a from d);obtain⟨_,_,_,p,_⟩:=(show cK X.Ω X.w H s.heap a (.tup xs) from I.hok a _ ea);obtain⟨o,j,h2,_⟩:=p;show j_ a0N I.A5 ⟨o,j,h2⟩ e (λz=>nomatch z) h
 | @dK a χ ea =>
  cases (show u=f_ a from d);obtain⟨_,_,vs,_,p⟩:=(show cK X.Ω X.w H s.heap a (.dK χ) from I.hok a _ ea);obtain⟨o,m,v,j,h2,_⟩:=p;show j_ a0O I.A5 ⟨o,j,h2.1⟩ e (λz=>nomatch z) h
 | @dT a χ ea =>
  cases (show u=f_ a from d);obtain⟨_,_,xs,_,o,m,v,j,h2,_⟩:=(show cK X.Ω X.w H s.heap a (.dT χ) from I.hok a _ ea);show j_ a0O I.A5 ⟨o,j,h2.1⟩ e (λz=>nomatch z) h
 | @ins a C dx fs ea cl ha hn htk hm =>
  cases (show u=f_ a from d);obtain⟨L,O,_⟩:=XT I.hok ea;obtain⟨F,J,_⟩:=O.look;show j_ (PySem.W.kitx_own (cl.get _) cl.hd ha hn htk hm) I.A5 J e (λz=>nomatch z) h
end
structure dW (k:Nat) (A:bx):Prop where
 hd:A.handled=ag
 dp:A.depth+3*k+5<recursionLimit
 un:A.units+16*k+200<dq
def dW.mono(r:dW k A)(h:j<=k):dW j A:=⟨r.hd,by have:=r.dp;lia,by have:=r.un;lia⟩
def dW.deeper(r:dW (k+1) A)(env:fu):dW k (A.deeper env) :=
 ⟨r.hd,by have:=r.dp;show A.depth+1+3*k+5<_;lia,by have:=r.un;show A.units+3+16*k+200<_;lia⟩
def dW.depth(r:dW k A):A.depth<recursionLimit:=by have:=r.dp;lia
def dW.units(r:dW k A):A.units+64<dq:=by have:=r.un;lia
def XU:TA:=λ_ H Q=>Q [] H
def rH(a:TE)(tr:TA):TA:=λσ H Q=>a σ H λx H1=>tr σ H1 λxs d=>Q (x::xs) d
section
variable{e:av}{es:List av}{te:TE}{t:TA}{ν:br}
def kH:PA X [] XU:=λ_ _ _ _ H Q I h=>Calls.spliced_nil ⟨[],H,I,.nil,h⟩
def eR(n:PE X e te)(m:PA X es t)(l:Zq X e es<|>0):PA X (e::es) (rH te t):=by intro ν π s σ H Q I h;rw[l];show az _ _ (spliced ((ah,eval e X.env)::d_ ν (ax es X.env))) _ _ s;show Calls.spliced_cons (dB (n π s σ H _ I h) λu d ⟨x,H1,p,r1,q1⟩=>?_);show dB (m ν π d σ H1 _ p q1) λus v a=>by obtain⟨xs,q,o,j,q2⟩:=a;show⟨x::xs,q,o,.cons r1 j,q2⟩
def TM(t:TA):TE:=λσ H Q=>t σ H λxs H1=>⇑xs<=bq /\∀p,H1 p=ag->Q (.ref p) (upd H1 p (.tup xs))
def Tz(t:TA):TE:=λσ H Q=>t σ H λxs H1=>⇑xs<=bq /\∀p,H1 p=ag->Q (.ref p) (upd H1 p (.lst xs))
def aBs{x1}(h:PA X es t):PE X (.Tuple es x1 ν) (TM t):=by intro π s σ H Q I j;show wpAny_Tuple_spliced (dB (h ν π s σ H _ I j) λus a ⟨xs,H1,d,r,z,q⟩=>⟨by rw[<- ⇑r];show z,?_⟩);have l:H1 ↥a=ag:=d.hok.fresh (bt _);show⟨.ref ↥a,upd H1 ↥a (.tup xs),d.laid (t':=a.toks) (λb u e=>cy _ e) (bt _) ?_,rfl,q _ l⟩;show⟨z,us,r,⟨_,fv _ rfl,rfl,_,rfl⟩,A3.new _ _⟩
def aBt(h:PA X es t):PE X (.List es ν) (Tz t):=by intro π s σ H Q I j;show wpAny_List_spliced (dB (h ν π s σ H _ I j) λus a ⟨xs,H1,d,r,z,q⟩=>⟨by rw[<- ⇑r];show z,?_⟩);have l:H1 ↥a=ag:=d.hok.fresh (bt _);show⟨.ref ↥a,upd H1 ↥a (.lst xs),d.laid (t':=a.toks) (λb u e=>cy _ e) (bt _) ?_,rfl,q _ l⟩;show⟨z,us,0,r,fv _ rfl⟩
end
abbrev Sp:=List V->Hp->VK->XK->Prop
abbrev J9:=List fu->Hp->ao->XK->aj->ao->Prop
structure XW (P:bj) (w:bg) (K:aq) (mg:Q0d) (ω:bh) (A:bx) (Γ:List fu) (s:ao) (H:Hp):Prop where
 frames:A.frames=ae Γ
 mod:Mod K mg ω
 bs:∀b o,ω.get? b=ae o->s.heap.get? b=ae o/\H b=ag
 U6:ω.objs.size<=↥s
 vG:s.heap.FunFrames ω Γ
 frf:∀b∈frs Γ,H b=ag
 hok:mL P w H s.heap
 bare:nu s.gens
 tab:XB K ω H
def CE(Γ:List fu)(P:bj)(w:bg)(H:Hp)(s:ao)(Q:VK)(u:aj)(s':ao):Prop :=
 ∃v H',s'.os=s.os/\nu s'.gens/\Un (frs Γ) [] H H' s.heap s'.heap/\mL P w H' s'.heap/\Ψ v u/\Q v H'
def CR(CX:J9)(Γ:List fu)(P:bj)(w:bg)(H:Hp)(s:ao)(Q:VK)(E:XK)(r:Ai)(s':ao):Prop :=
 match r with
 |.ok (.ret u)=>CE Γ P w H s Q u s'
 |.ok _=>False
 |.error e=>CX Γ H s E e s'
structure jE (P:bj) (w:bg) (K:aq) (mg:Q0d) (ω:bh) (CX:J9) (k:Nat) (f:ai) (fd:gn) (ps:Q0g) (sp:Sp):Prop where
 len:∀vs H Q E,sp vs H Q E->⇑vs=⇑ps
 run:∀(A:bx) (Γ:List fu) (s:ao) (H:Hp) (args:Args) (us:Q0f) (vs:List V) (Q:VK) (E:XK),dW k A->XW P w K mg ω A Γ s H->ud s fd args (ps.zip us)->θ vs us->sp vs H Q E ->
  mr (au P w) A (.call (.ref f) args) (CR CX Γ P w H s Q E) s
theorem jE.mono{P:bj}{w:bg}{K:aq}{mg:Q0d}{ω:bh}{CX:J9}{j k:Nat}{f:ai}{fd:gn}{a:Q0g}{sp:Sp}(F:jE P w K mg ω CX j f fd a sp)(h:j<=k):
  jE P w K mg ω CX k f fd a sp:=⟨F.len,λA Γ s H args us vs Q E d=>F.run A Γ s H args us vs Q E (d.mono h)⟩
section
variable{π:Q0b}{σ:St}{H:Hp}{s s':ao}
def Φ.env0(I:Φ X π σ H s):XW X.Ω X.w X.K X.mg X.ω X.A X.stack s H :=
 ⟨I.ok.frames,I.ok.mod,I.bs,iq I.ok.U6 I.sz,I.stack,I.A6,I.hok,I.bare,I.tab⟩
def Φ.after(I:Φ X π σ H s)(h:CE X.stack X.Ω X.w H s Q u s'):EP X π σ Q u s':=by obtain⟨v,H',l,bare,un,j,r,q⟩:=h;obtain⟨m,g,d,t,a⟩:=s';obtain rfl:a=s.os:=l;show⟨v,H',I.call (h':=m) (g':=g) (d':=d) (t':=t) (ch:=[]) un j bare (λb z=>Zw z (by simp)),r,q⟩
end
def KA(sp:Sp)(a:List V)(E:XK)(t:TA):TE:=λσ H Q=>t σ H λvs H1=>sp (vs++a) H1 Q E
def Binds(K:aq)(fd:gn)(a:Q0g)(ds:Q0f):Prop :=
 ∀(s:ao) (us:Q0f),K.In s.heap->⇑(us++ds)=⇑a->ud s fd ⟨us,[]⟩ (a.zip (us++ds))
def Binds.all{K:aq}{fd:gn}{a:Q0g}(h:∀us:Q0f,⇑us=⇑a->bindArgs fd ⟨us,[]⟩=pure (a.zip us)):Binds K fd a []:=λs us _ d=>by rw[ki] at d ⊢;show .of_eq (h us d)
def Passes(CX:J9)(X:Cx)(E:XK):Prop:=∀(π:Q0b) (σ:St) (H:Hp) (s:ao) (e:aj) (s':ao),Φ X π σ H s->CX X.stack H s E e s'->X.xe e s'
section
variable{CX:J9}{k:Nat}{f C:ai}{fd:gn}{ps:Q0g}{sp:Sp}{dvs:List V}{ds:Q0f}{E:XK}{x m:ak}{p ν apos:br}{e o:av}{es:List av}{ta:TE}{t:TA}
theorem aBu(F:jE X.Ω X.w X.K X.mg X.ω CX k f fd ps sp)(l:dW k X.A)(v:Binds X.K fd ps ds)(q:θ dvs ds)(j:Passes CX X E)
  (I:Φ X π σ H s) (r:θ vs us) (h:sp (vs++dvs) H Q E):az (au X.Ω X.w) X.A (call (.ref f) us) (EP X π σ Q) X.xe s:=by
 have d:θ (vs++dvs) (us++ds):=r.append q;have n:⇑(us++ds)=⇑ps:=by rw[<- ⇑d];show F.len _ _ _ _ h
 show wpAny_call (Gg (F.run X.A X.stack s H ⟨us,[]⟩ (us++ds) (vs++dvs) Q E l I.env0 (v s us I.A5 n) d h) λr s' a=>?_)
 cases r with
 |error e=>show j π σ H s e s' I a
 |ok fl =>
  cases fl with
  |ret u=>show I.after a
  |next=>show kj a
  |brk=>show kj a
  |cont=>show kj a
theorem mH(F:jE X.Ω X.w X.K X.mg X.ω CX k f fd ps sp)(n:dW k X.A)(z:Gl X x)(v:X.mg x=ae (.ref f))(y:keepIn X.K (.ref f)=af)(O:Binds X.K fd ps ds)(L:θ dvs ds)(l:Passes CX X E)
  (U:PA X (e::es) t) (d:Zu x<|>1) (J:Zq X e es<|>0) (a:Q0k X ν es<|>0):
  PE X (.Call (.Name x p) (e::es) [] ν) (KA sp dvs E t):=by
 intro π s σ H Q I h;show vm (XE I z v ?_ d);show PySem.W.callWith_K (h₀:=X.ω) I.ok.mod.kin y (dB (U ν π s σ H _ I h) λus Y ⟨vs,H1,j,r,q⟩=>⟨j.A5,?_⟩) J a;show aBu F n O L l j r q
end
structure dN (N P:Q0g) (sc:gd):Prop where
 kind:sc.kind=.function
 co:sc.isCoroutine=ah
 gen:sc.isGenerator=ah
 nd:N.Nodup
 pre:N.take ⇑P=P
 par:∀x∈P,sc.names.lookup x=ae .local\/sc.names.lookup x=ae .cell
 aBv:∀y∈sc.names,y.2≠.free
theorem yQ{kindOf:ak->Option jn}{x:ak}:∀{binds:List (ak×aj)} {m:Q0d},(∀v,(x,v)∉binds)->bindL kindOf binds m x=m x
 |[],_,_=>rfl
 | (n,v)::r,m,h=>by
  delta bindL;rw[yQ λw hw=>h w (fg _ hw)];split
  .have:x≠n:=by rintro rfl;show h v de
   simp[this]
  .rfl
theorem yR{kindOf:ak->Option jn}{x:ak}:∀{binds:List (ak×aj)} {m:Q0d},(∀v,(x,v)∉binds)->bindC kindOf binds m x=m x
 |[],_,_=>rfl
 | (n,v)::r,m,h=>by
  delta bindC;rw[yR λw hw=>h w (fg _ hw)];split
  .rfl
  .have:x≠n:=by rintro rfl;show h v de
   simp[this]
theorem yS{kindOf:ak->Option jn}{x:ak}{v:aj}:∀{P:Q0g} {vs:Q0f} {i:Nat} {m:Q0d},P.Nodup->P[i]?=ae x->vs[i]?=ae v->kindOf x=ae .local ->
  bindL kindOf (P.zip vs) m x=ae v
 |[],_,_,_,_,h,_,_=>by simp at h
 |_::_,[],_,_,_,_,h,_=>by simp at h
 |p::P,w::vs,0,m,nd,h1,h2,hk=>by simp at h1 h2;subst h1;subst h2;show bindL kindOf ((p,w)::P.zip vs) m p=_;delta bindL;rw[yQ λv a=>(ke.mp nd).1 (rf a).1,Z_ hk];simp
 |p::P,w::vs,i+1,m,nd,h1,h2,hk=>by show bindL kindOf ((p,w)::P.zip vs) m x=_;delta bindL;show yS (i:=i) (ke.mp nd).2 ↑h1 ↑h2 hk
theorem yT{kindOf:ak->Option jn}{x:ak}{v:aj}:∀{P:Q0g} {vs:Q0f} {i:Nat} {m:Q0d},P.Nodup->P[i]?=ae x->vs[i]?=ae v->kindOf x≠ae .local ->
  bindC kindOf (P.zip vs) m x=ae v
 |[],_,_,_,_,h,_,_=>by simp at h
 |_::_,[],_,_,_,_,h,_=>by simp at h
 |p::P,w::vs,0,m,nd,h1,h2,hk=>by simp at h1 h2;subst h1;subst h2;show bindC kindOf ((p,w)::P.zip vs) m p=_;delta bindC;rw[yR λv a=>(ke.mp nd).1 (rf a).1,Zz hk];simp
 |p::P,w::vs,i+1,m,nd,h1,h2,hk=>by show bindC kindOf ((p,w)::P.zip vs) m x=_;delta bindC;show yT (i:=i) (ke.mp nd).2 ↑h1 ↑h2 hk
def start(N:Q0g)(vs:List V):St:=vs.map ae++cc (⇑N-⇑vs) ag
def kQ(CX:J9)(P:bj)(w:bg)(K:aq)(mg:Q0d)(ω:bh)(N:Q0g)(qual:ak)(scope:gd)(f:ai)(cd:aj)(A:bx)(Γ:List fu)(s:ao)(H:Hp)(E:XK):Cx where
 Ω:=P
 w:=w
 K:=K
 mg:=mg
 ω:=ω
 A:=A.deeper (envOfC qual scope ↥s f cd)
 N:=N
 s₀:=s
 H₀:=H
 env:=envOfC qual scope ↥s f cd
 Γ:=Γ
 stack:=envOfC qual scope ↥s f cd::Γ
 ex:=[]
 calm:=af
 fn:=λ_=>af
 pn:=[]
 xe:=λe s'=>az (au P w) (A.deeper (envOfC qual scope ↥s f cd)) (leaving (envOfC qual scope ↥s f cd) e) (λ_ a=>CX Γ H s E e a) (λd a=>CX Γ H s E d a) s'
def DP{sc:gd}{n:Nat}{x:ak}(h:sc.names.lookup x=ae .cell):∃c,(cellsFrom n sc.names []).lookup x=ae c:=by have q:=a0R sc.names n [] (.inl h);show a1R.mp q
theorem MT{CX:J9}{P:bj}{w:bg}{K:aq}{mg:Q0d}{ω:bh}{N d:Q0g}{qual:ak}{scope:gd}{f:ai}{cd:aj}{A:bx}{Γ:List fu}{s J:ao}{H:Hp}{E:XK}{us:Q0f}{vs:List V}
  (S:dN N d scope) (Y:A.handled=ag) (e0:XW P w K mg ω A Γ s H) (hl:⇑vs=⇑d) (r:θ vs us)
  (x:InCallC s ↥s (bindL (envOfC qual scope ↥s f cd).kindOf (d.zip us) λ_=>ag) (cellsFrom (↥s+1) scope.names []) (bindC (envOfC qual scope ↥s f cd).kindOf (d.zip us) λ_=>ag) J):
  Φ (kQ CX P w K mg ω N qual scope f cd A Γ s H E) [] (start N vs) H J:=by
 have X:⇑d<=⇑N:=by have:=congrArg uz S.pre;rw[iz] at this;lia
 obtain⟨I,tk,rfl,O⟩:=x.done;have j:∀b:ai,b∉(kQ CX P w K mg ω N qual scope f cd A Γ s H E).ex:=λb z=>Zw (show b∈([]:List ai) from z) (by simp);show⟨⟨e0.mod,S.kind,rfl,rfl,bt _,λy z c I h2=>?_,λy l=>?_,λy c _ h=>?_,λ_=>Y,a1x e0.frames,.inr ⟨rfl,rfl⟩,λb z=>Zw z (j b),e0.bs,e0.U6,λb _ _=>j b,λb z=>Zw z (j b),e0.vG,e0.frf,e0.tab⟩,
  rfl,e0.bare,Un.kept O,⟨_,x.toInCall.ns,λi y v I h2 h3=>?_⟩,λy c h=>⟨_,x.cell y c h⟩,e0.hok.fresh (bt _),λy c h=>?_,λp o=>Zw (show p∈([]:Q0b) from o) (by simp),e0.hok.kept O,?_⟩
 .exact a0A x.apart (kn I) (kn h2)
 .have l:scope.names.lookup y=ae .cell\/scope.names.lookup y=ae .free:=l;rcases l with l|l
  .exact DP l
  .exact Zw rfl (S.aBv _ (kn l))
 .exact mh (x.above y c (kn h))
 .have F:i<⇑vs:=by
   delta start at h2;by_cases F:i<⇑vs
   .exact F
   .rw [i_ ↑F] at h2;rw[kg] at h2;split at h2<;>cases h2
  have Z:vs[i]?=ae v:=by
   delta start at h2;rw[jj ↑F,c_] at h2
   cases e:vs[i]? with
   |none=>rw[e] at h2;cases h2
   |some a=>rw[e] at h2;cases h2;rfl
  obtain⟨u,L,U⟩:=r.get Z;have o:d[i]?=ae y:=by rw[<- S.pre,Iq ∅];show I
  have m:d.Nodup:=by rw[<- S.pre];show S.nd.sublist (a2e _ _)
  show⟨u,U,?_⟩;rcases S.par y (ko o) with k|k
  .exact .inl ⟨k,yS m o L k⟩
  .obtain ⟨c,e⟩:=DP (n:=↥s+1) k;show .inr ⟨.inl k,c,e,?_⟩;have q:=x.cell y c e;rw[yT m o L (by show scope.names.lookup y≠_;rw[k];decide)] at q;show q
 .exact e0.hok.fresh (mh (x.above y c (kn h)))
 .delta start;show _=⇑N;rw[gi,bb,n_];lia
theorem Eo{CX:J9}{P:bj}{w:bg}{K:aq}{mg:Q0d}{ω:bh}{k:Nat}{f:ai}{name qual:ak}{params:Ax}{body:List dc}{scope:gd}{X kV doc pm a ct oc:aj}{Y Z:Option ai}
  {F:Array (Option aj)} {N p:Q0g} {sp:Sp} (lk:K.lookup f=ae ⟨oc,Z,.func (fnOf name qual params body scope X kV doc pm Y a ct),F⟩) (O:codeIn K a qual=af) (S:dN N p scope)
  (len:∀vs H Q E,sp vs H Q E->⇑vs=⇑p)
  (j:∀(A:bx) (Γ:List fu) (s:ao) (H:Hp) (vs:List V) (Q:VK) (E:XK),dW k (A.deeper (envOfC qual scope ↥s f a))->sp vs H Q E ->
   ∃t,qN (kQ CX P w K mg ω N qual scope f a A Γ s H E) body t/\t {nx:=λ_ H'=>Q .non H',rt:=Q} (start N vs) H):
  jE P w K mg ω CX (k+1) f (fnOf name qual params body scope X kV doc pm Y a ct) p sp:=by
 show⟨len,λA Γ s H args us vs Q E L e0 hb r m=>?_⟩;have hl:=len _ _ _ _ m;have KX:K.In s.heap:=e0.mod.kin.keeps λb o e=>(e0.bs b o e).1;have lim:s.heap.NoLimit:=e0.mod.nolimit.keeps λb o e=>(e0.bs b o e).1;have h:∀y∈p.zip us,scope.names.lookup y.1=ae .local\/(scope.names.lookup y.1=ae .cell/\((cellsFrom (↥s+1) scope.names []).lookup y.1).isSome=af):=λ⟨n,v⟩ hy=>by
  rcases S.par n (rf hy).1 with q|q
  .exact .inl q
  .exact .inr ⟨q,a0R _ _ _ (.inl q)⟩
 show codeAny_call_function L.depth (KX _ _ lk) rfl S.co S.gen rfl (PySem.W.codeRec_of KX O) (hb _ _ _ _ ?_);show wpAny_newFunctionEnv_cells S.kind h λenv he U x=>?_;subst he;show⟨lim.keeps x.toInCall.keep,codeAny_func ?_⟩;obtain⟨t,ht,hq⟩:=j A Γ s H vs Q E (L.deeper _) m;have I:Φ (kQ CX P w K mg ω N qual scope f a A Γ s H E) [] (start N vs) H U:=MT S L.hd e0 hl r x;show jb (ht [] U (start N vs) H _ I hq) (λfl s' l=>?_) λe s' l=>l;have fin:∀{d:St} {H':Hp} {v:V} {u:aj},Φ (kQ CX P w K mg ω N qual scope f a A Γ s H E) [] d H' s'->Ψ v u->Q v H'->CE Γ P w H s Q u s' :=
  λ{d H' v u} J z q=>⟨v,H',J.os,J.bare,J.ω,J.hok,z,q⟩
 cases fl with
 |ret u =>
  obtain⟨v,d,H',J,z,q⟩:=l;show fin J z q
 |next =>
  obtain⟨d,H',J,q⟩:=l;show fin (v:=V.non) (u:=gz) J rfl q
 |brk =>
  obtain⟨_,_,_,q⟩:=l;show kj q
 |cont =>
  obtain⟨_,_,_,q⟩:=l;show kj q
section
variable{x:ak}{p ν:br}{e:av}{es:List av}{t:TA}{id T:String}{r:List V->Hp->VK->Prop}
def vf(r:List V->Hp->VK->Prop)(t:TA):TE:=λσ H Q=>t σ H λvs H1=>r vs H1 Q
def lQ(v:eX X (.builtin id) r)(o:Gl X x)(n:X.mg x=ag)(l:bootBuiltins x=ae (.builtin id))(y:PA X (e::es) t)(m:x ≠ "__name__"<|>1)(d:Zu x<|>1)
  (q:Zq X e es<|>0) (a:Q0k X ν es<|>0):PE X (.Call (.Name x p) (e::es) [] ν) (vf r t):=by
 intro π s σ H Q I h;show vm (kC I o n l ?_ m d);show a3T (dB (y ν π s σ H _ I h) λus j ⟨vs,H1,z,r1,q1⟩=>v π j σ H1 vs us Q z r1 q1) q a
def qO(v:eX X (.type T) r)(o:Gl X x)(n:X.mg x=ag)(l:bootBuiltins x=ae (.type T))(y:PA X (e::es) t)(m:x ≠ "__name__"<|>1)(d:Zu x<|>1)
  (q:Zq X e es<|>0) (a:Q0k X ν es<|>0):PE X (.Call (.Name x p) (e::es) [] ν) (vf r t):=by
 intro π s σ H Q I h;show vm (kC I o n l ?_ m d);show wc (dB (y ν π s σ H _ I h) λus j ⟨vs,H1,z,r1,q1⟩=>v π j σ H1 vs us Q z r1 q1) q a
end
end L2
namespace HT
open PyProof.Rows
section
open PySem.SeqAt

open PySem.MeetsSeq PySem.MeetsSeq2 PySem.MeetsSeq3
end
section
variable{Ω:bj}{w:bg}{A:bx}{E:Q0c}{s:ao}
theorem XX(y:g_ s.heap t vs.toArray)(z:g_ s.heap b ws.toArray)(o:vs≠[])
  (F:ws=[]->Q (.ref t) s) (h2:ws≠[]->Q (.ref ↥s) {s with heap:=s.heap.push {cls:=.type "tuple",data:=.seq (vs++ws).toArray} })
  (hsz:⇑vs+⇑ws<=bq):az (au Ω w) A (binaryOp .Add (.ref t) (.ref b)) Q E s:=by
 obtain⟨⟨cls,v,data,l⟩,ho,q,n,p⟩:=id y;obtain⟨⟨x,j,data2,d⟩,a,h,m,hd2⟩:=id z;simp only at q p h hd2;subst q p h hd2;have e:vs.toArray++ws.toArray=(vs++ws).toArray:=by simp
 by_cases hw:ws=[]
 .exact Gf ⟨_,ho,rfl⟩ ⟨_,a,rfl⟩ Ge F_ Gv Gx (G_ _ _)
   (tuple_addW1 t b vs.toArray ws.toArray n m v j l d ↑o (by simp[hw])) ⟨ho,a,F hw⟩
 .refine Gf ⟨_,ho,rfl⟩ ⟨_,a,rfl⟩ Ge F_ Gv Gx (G_ _ _)
   (tuple_addW2 t b vs.toArray ws.toArray n m v j l d ↑o ↑hw (by rw[cz,cz];show hsz)) ⟨ho,a,?_⟩
  rw[e];show h2 hw
noncomputable def fN(n d:Nat):Option Int->Nat
 |none=>d
 |some v=>if v<0 then(v+(n:Int)).toNat else min v.toNat n
theorem aBw(n d:Nat)(h:d<=n)(o:Option Int):fN n d o<=n:=by
 cases o with
 |none=>show h
 |some v =>
  show(if v<0 then(v+(n:Int)).toNat else min v.toNat n)<=n;by_cases a:v<0
  .rw [Z_ a];lia
  .rw [Zz a];show Nat.min_le_right _ _
def KC(v:Int)(n d:Nat):(if v<0 then max (v+(n:Int)) 0 else min v (n:Int))=((fN n d (ae v):Nat):Int):=by
 show(if v<0 then max (v+(n:Int)) 0 else min v (n:Int))=(((if v<0 then(v+(n:Int)).toNat else min v.toNat n):Nat):Int);by_cases a:v<0
 .erw[Z_ a];lia
 .erw[Zz a];lia
def GU(lo a:Option Int)(n:Nat):Hb lo a 1 (n:Int)=(((fN n 0 lo:Nat):Int),((fN n n a:Nat):Int)):=by
 have d:¬ ((1:Int)<0):=∅
 delta Hb;erw[d,if_false];show a1P ?_ ?_
 .cases lo with
  |none=>rfl
  |some v=>show KC v n 0
 .cases a with
  |none=>rfl
  |some v=>show KC v n n
def GV(i j:Nat):Au (i:Int) (j:Int) 1=j-i:=by
 delta Au;have a:(1:Int)>0:=∅
 erw[a,if_true,Int.ediv_one];split<;>lia
theorem vM(p:mx v o)(h:Q o s):az (au Ω w) A (a3O v) Q E s:=by
 cases p with
 |none=>show a1F h
 |int i t=>show slicePart_int h
theorem jS{o:ai}{m l:aj}{lo d:Option Int}{n:Nat}{Q:Int×Int×Nat->ao->Prop}(v:s.heap.IsSliceOf o m l .none)(q:mx m lo)(p:mx l d)
  (h:Q (((fN n 0 lo:Nat):Int),1,fN n n d-fN n 0 lo) s):az (au Ω w) A (a1u (.ref o) (pure (n:Int))) Q E s:=by
 obtain⟨z,a,y,j⟩:=id v;delta a1u a3P;show ar (ar (qo a j (x:=m) rfl (ar (qo a j (x:=l) rfl (ar (qo a j (x:=.none) rfl (a_ ?_)))))));show ar (a1F ?_);show az _ _ (if((1:Int) == 0)=af then _ else _) _ _ s;rw[Zz ⋯];show ar (vM q (ar (vM p (ar (a_ ?_)))));show az _ _ (match Hb lo d 1 (n:Int) with|(lo,d)=>pure (lo,(1:Int),Au lo d 1)) _ _ s;rw[GU lo d n];show az _ _ (pure (((fN n 0 lo:Nat):Int),(1:Int),Au ((fN n 0 lo:Nat):Int) ((fN n n d:Nat):Int) 1)) _ _ s;rw[GV];show a_ h
def Q6(xs:Array aj)(i k:Nat):((cx k).filterMap λ(m:Nat)=>xs[((i:Int)+(m:Int)*1).toNat]?).toArray=((xs.toList.drop i).take k).toArray:=by
 have e:(λ(m:Nat)=>xs[((i:Int)+(m:Int)*1).toNat]?)=λm=>xs[i+m]?:=by
  funext m
  have:((i:Int)+(m:Int)*1).toNat=i+m:=∅
  rw[this]
 rw[e];have:=pick_run xs i k;rw[List.filterMap_map] at this;have a:((λx=>xs[x]?)∘λx=>i+x)=λm=>xs[i+m]?:=rfl;rw[a] at this;rw[this]
theorem oZ{t l:ai}{items:Array aj}{x v:aj}{lo a:Option Int}{Q:Q0c}(d:g_ s.heap t items)(y:s.heap.IsSliceOf l x v .none)(F:mx x lo)(z:mx v a)
  (hw:¬ (fN items.size 0 lo=0/\fN items.size items.size a=items.size))
  (h:Q (.ref ↥s) {s with heap:=s.heap.push {cls:=.type "tuple",data:=.seq ((items.toList.drop (fN items.size 0 lo)).take (fN items.size items.size a-fN items.size 0 lo)).toArray} })
  (hsz:items.size<=bq):az (au Ω w) A (getItem (.ref t) (.ref l)) Q E s:=by
 have j:sizeOk (.seq ((items.toList.drop (fN items.size 0 lo)).take (fN items.size items.size a-fN items.size 0 lo)).toArray):=by show((items.toList.drop (fN items.size 0 lo)).take (fN items.size items.size a-fN items.size 0 lo)).toArray.size<=bq;rw[cz,iz,rm,ic];lia
 have L:fN items.size items.size a<=items.size:=aBw _ _ (bt _) a;obtain⟨I,n,p,J⟩:=id y;have K:s.TypeIs (.ref l) "slice":=⟨I,n,p⟩;delta getItem
 try with_reducible show ik ?_
 first|show ar (a_ ?_)|skip
 show ar (a0h d.typeIs ⋯ ?_);show ar (sy (name:=kc "__getitem__") d.typeIs qx
  (km qx d.typeIs a1J ?_ (a1O _ _)))
 show az _ _ (a1r (.ref t) >>= _) _ _ s;show ar (a1y d ?_);show ar (vj K ?_);rw[Z_ ⋯];show ar (jS y F z ?_);have o:¬ ((((fN items.size 0 lo:Nat):Int) == 0&&(1:Int) == 1&&(fN items.size items.size a-fN items.size 0 lo) == items.size)=af):=by intro q;rw[gr,gr] at q;have q1:((fN items.size 0 lo:Nat):Int)=0:=eq_of_beq q.1.1;have q2:fN items.size items.size a-fN items.size 0 lo=items.size:=eq_of_beq q.2;show hw ⟨∅,∅⟩
 show az _ _ (if(((fN items.size 0 lo:Nat):Int) == 0&&(1:Int) == 1&&(fN items.size items.size a-fN items.size 0 lo) == items.size)=af then _ else _) _ _ s;rw[Zz o,Q6]
 first
  |show ar (m:=As _) (ql (a_ ⟨_,rfl,a_ h⟩) j)
  |show ar (m:=As _) (ql (ar (a_ (a_ ⟨_,rfl,a_ h⟩))) j)
  |show ar (ar (m:=As _) (ql (a_ (a_ ⟨_,rfl,a_ h⟩)) j))
  |show ar (ar (m:=As _) (ql (a_ ⟨_,rfl,a_ h⟩) j))
end
end HT
namespace L2
open PySem.Spec PyProof.Rows
abbrev TO:=St->Hp->(Option Int->Hp->Prop)->Prop
def PO(X:Cx)(e:Option av)(t:TO):Prop :=
 ∀(π:Q0b) (s:ao) (σ:St) (H:Hp) (Q:Option Int->Hp->Prop),Φ X π σ H s->t σ H Q ->
  az (au X.Ω X.w) X.A (evalPart e X.env) (λu s'=>∃o H',Φ X π σ H' s'/\mx u o/\Q o H') X.xe s
def XY:TO:=λ_ H Q=>Q ag H
def Xs(t:TE):TO:=λσ H Q=>t σ H λx H1=>∃i,x=.int i/\Q (ae i) H1
theorem intsAre_of:∀{us:Q0f},θ (ns.map V.int) us->mf us ns:=by
 induction ns with
 |nil=>intro us r;rw[m_] at r;cases r;show .nil
 |cons n ns ih =>
  intro us r;rw[bu] at r
  cases r with
  |cons r1 r2 =>
   obtain⟨t,e⟩:=r1;subst e;show .cons n t (ih r2)
variable{X:Cx}
section
variable{e:av}{te:TE}{lo hi:Option av}{tl th:TO}{ν p2:br}
def XZ:PO X ag XY:=by intro π s σ H Q I h;rw[a0E];show a_ ⟨ag,H,I,.none,h⟩
def X0(h:PE X e te):PO X (ae e) (Xs te):=by intro π s σ H Q I hw;rw[evalPart_some];show dB (h π s σ H _ I hw) λu j a=>?_;obtain⟨x,H1,d,r1,q1⟩:=a;obtain⟨i,rfl,q⟩:=q1;obtain⟨t,rfl⟩:=r1;show⟨ae i,H1,d,.int i t,q⟩
def SlR(X:Cx)(r:V->Option Int->Option Int->Hp->VK->Prop):Prop :=
 ∀(π:Q0b) (s:ao) (σ:St) (H:Hp) (x:V) (v d a:aj) (lo hi:Option Int) (h:ai) (Q:VK),Φ X π σ H s->Ψ x v->s.heap.IsSliceOf h d a .none->mx d lo->mx a hi->r x lo hi H Q ->
  ∃T id,typeLookup (.type T) "__getitem__"=pure (ae (.builtin id))/\s.TypeIs v T/\az (au X.Ω X.w) X.A (getItem v (.ref h)) (EP X π σ Q) X.xe s
def SlR.or(h:SlR X r)(h':SlR X r'):SlR X (λx lo hi H Q=>r x lo hi H Q\/r' x lo hi H Q):=by
 intro π s σ H x v d a lo hi j Q I l o n m q;rcases q with q|q
 .exact h π s σ H x v d a lo hi j Q I l o n m q
 .exact h' π s σ H x v d a lo hi j Q I l o n m q
def Jr(r:V->Option Int->Option Int->Hp->VK->Prop)(te:TE)(tl th:TO):TE:=λσ H Q=>te σ H λx H1=>tl σ H1 λl d=>th σ d λu a=>r x l u a Q
def Q7(J:SlR X r)(O:PE X e te)(K:PO X lo tl)(z:PO X hi th):PE X (.Subscript e (.Slice lo hi ag p2) ν) (Jr r te tl th):=by intro π s σ H Q I h;show Hi (dB (O π s σ H _ I h) λv n ⟨x,H1,I1,r1,q1⟩=>?_);show wpAny_Slice (dB (K π n σ H1 _ I1 q1) λd m ⟨l,H2,I2,y,q2⟩=>dB (z π m σ H2 _ I2 q2) λa s3 ⟨u,j,Z,p,o⟩=>?_);rw[a0E];show a_ ?_;have Y:Φ X π σ j {s3 with heap:=s3.heap.push {cls:=.type "slice",data:=.fields #[d,a,.none]} }:=Z.kept (t':=s3.toks) λb ob q=>cy _ q;obtain⟨T,id,U,F,L⟩:=J π {s3 with heap:=s3.heap.push {cls:=.type "slice",data:=.fields #[d,a,.none]} } σ j x v d a l u ↥s3 Q Y r1 (a3m ..) y p o;show az (au X.Ω X.w) X.A (subscriptTail e (.Slice lo hi ag p2) v (.ref ↥s3)) (EP X π σ Q) X.xe {s3 with heap:=s3.heap.push {cls:=.type "slice",data:=.fields #[d,a,.none]} };show tail_any (ops:=[.ref ↥s3,v]) F U L (by with_unfolding_all rfl)
def DQ(xs:List V)(lo hi:Option Int):List V:=(xs.drop (HT.fN ⇑xs 0 lo)).take (HT.fN ⇑xs ⇑xs hi-HT.fN ⇑xs 0 lo)
def rJ(xs:List V)(lo hi:Option Int):⇑(DQ xs lo hi)<=⇑xs:=by delta DQ;rw[iz,rm];lia
def Tb(K:aq):V->Option Int->Option Int->Hp->VK->Prop:=λx lo hi H Q=>∃a xs,x=.ref a/\eV K H a xs /\
 ¬ (HT.fN ⇑xs 0 lo=0/\HT.fN ⇑xs ⇑xs hi=⇑xs) /\∀p,H p=ag->Q (.ref p) (upd H p (.tup (DQ xs lo hi)))
def aBx:SlR X (Tb X.K):=by
 intro π s σ H x v F A lo hi J Q I m z p n h;obtain⟨a,xs,rfl,y,hw,q⟩:=h;cases m;obtain⟨l,r,j,d⟩:=I.tuple y;have hlen:l.toArray.size=⇑xs:=by rw[cz];show r.length.symm
 show⟨"tuple",_,qx.lookup,j.typeIs,?_⟩;show HT.oZ j z p n (by rw[hlen];show hw) ?_ (by rw[hlen];show d);rw[hlen];show⟨.ref ↥s,_,I.laid (t':=s.toks) (o:=.tup (DQ xs lo hi)) (λb L q=>cy _ q) (bt _) ?_,rfl,q _ (I.hok.fresh (bt _))⟩;show⟨iq (rJ xs lo hi) d,_,(r.drop (HT.fN ⇑xs 0 lo)).take (HT.fN ⇑xs ⇑xs hi-HT.fN ⇑xs 0 lo),Hj _ _,A3.new _ _⟩
def Xr(K:aq):R2:=λx y H Q=>∃a b xs ys,x=.ref a/\y=.ref b/\eV K H a xs/\eV K H b ys/\xs≠[]/\⇑xs+⇑ys<=bq /\
 (ys=[]->Q (.ref a) H)/\(ys≠[] ->∀p,H p=ag->Q (.ref p) (upd H p (.tup (xs++ys))))
theorem θ.BB(r:θ xs us):us=[]↔xs=[]:=by
 cases r with
 |nil=>simp
 |cons _ _=>simp
def X1:iP X (binaryOp .Add) (Xr X.K):=by intro π s σ H x y v u Q I n m h;obtain⟨a,b,xs,ys,rfl,rfl,F,A,p,l,q1,q2⟩:=h;cases n;cases m;obtain⟨J,r1,p1,_⟩:=I.tuple F;obtain⟨j,d,p2,_⟩:=I.tuple A;show HT.XX p1 p2 (λz=>p (r1.BB.mp z)) (λz=>⟨.ref a,H,I,rfl,q1 (d.BB.mp z)⟩) (λz=>?_) (by rw[<- ⇑r1,<- ⇑d];show l);show⟨.ref ↥s,_,I.laid (t':=s.toks) (o:=.tup (xs++ys)) (λb L q=>cy _ q) (bt _) ?_,rfl,q2 (λw=>z (d.BB.mpr w)) _ (I.hok.fresh (bt _))⟩;show⟨by rw[gi];show l,_,r1.append d,Hj _ _,A3.new _ _⟩
end
def MU(n:Nat)(i:Int):Option Nat:=if 0<=i then(if i<n then ae i.toNat else ag) else if -(n:Int)<=i then ae (i+n).toNat else ag
def sG{α:Type}(xs:List α)(i:Int):Option α:=(MU ⇑xs i).bind λj=>xs[j]?
def BC(h:MU n i=ae j):seqIndex? i n=ae j/\j<n /\ -(n:Int)<=i/\i<n:=by
 delta MU at h;by_cases d:0<=i
 .rw [Z_ d] at h;by_cases a:i<n
  .rw [Z_ a] at h;have e:i.toNat=j:=dg h;show⟨by rw[Ga d a,e],∅,∅,a⟩
  .rw [Zz a] at h;cases h
 .rw [Zz d] at h;by_cases a:-(n:Int)<=i
  .rw [Z_ a] at h;have e:(i+n).toNat=j:=dg h;show⟨by rw[Gb ∅ a,e],∅,a,∅⟩
  .rw [Zz a] at h;cases h
theorem KH{α:Type}{xs:List α}{i:Int}{v:α}(h:sG xs i=ae v):∃j,seqIndex? i ⇑xs=ae j/\xs[j]?=ae v/\j<⇑xs /\ -(⇑xs:Int)<=i/\i<⇑xs:=by
 delta sG at h
 cases e:MU ⇑xs i with
 |none=>rw[e] at h;cases h
 |some j =>
  rw[e] at h;obtain⟨l,h2,d,a⟩:=BC e;show⟨j,l,h,h2,d,a⟩
def BD(b:av):Prop:=∀o i,subscripted b ah o i=operate [o,i] (getItem o i)
def IxR(X:Cx)(r:R2):Prop :=
 ∀(value slice:av) (π:Q0b) (s:ao) (σ:St) (H:Hp) (x y:V) (v u:aj) (Q:VK),Φ X π σ H s->Ψ x v->Ψ y u->r x y H Q ->
  subscripted slice ah v u=operate [v,u] (getItem v u)->az (au X.Ω X.w) X.A (subscriptTail value slice v u) (EP X π σ Q) X.xe s
def MtR(X:Cx)(id:String)(r:V->List V->Hp->VK->Prop):Prop :=
 ∀(π:Q0b) (s:ao) (σ:St) (H:Hp) (x:V) (xs:List V) (v:aj) (us:Q0f) (Q:VK),Φ X π σ H s->Ψ x v->θ xs us->r x xs H Q ->
  az (au X.Ω X.w) X.A (call (.builtin id) (v::us)) (EP X π σ Q) X.xe s
section
variable{a b:av}{ta tb:TE}{ν:br}
def IxR.or(h:IxR X r)(h':IxR X r'):IxR X (λx y H Q=>r x y H Q\/r' x y H Q):=by
 intro value slice π s σ H x y v u Q I j d q l;rcases q with q|q
 .exact h value slice π s σ H x y v u Q I j d q l
 .exact h' value slice π s σ H x y v u Q I j d q l
def Yi(n:IxR X r)(p:PE X a ta)(o:PE X b tb)(m:BD b):PE X (.Subscript a b ν) (sh r ta tb):=by intro π s σ H Q I h;show Hi (yy p o I h λv u d x y A z l j q=>n a b π d σ A x y v u Q z l j q (m _ _))
def Dz(K:aq):R2:=λx y H Q=>∃p xs i v,x=.ref p/\y=.int i/\dM K H p xs/\sG xs i=ae v/\Q v H
def Dy(K:aq):R2:=λx y H Q=>∃p xs i v,x=.ref p/\y=.int i/\eV K H p xs/\sG xs i=ae v/\Q v H
def X2:IxR X (Dz X.K):=by
 intro value slice π s σ H x y v u Q I L J h n;obtain⟨p,xs,i,z,rfl,rfl,O,Y,q⟩:=h;cases L;obtain⟨t,rfl⟩:=J;obtain⟨F,r,l,hz⟩:=I.list O;obtain⟨j,d,h2,h3,h4,Z⟩:=KH Y;obtain⟨w,A,GW⟩:=r.get h2;have U:=⇑r;have hn:=vL;have fin:EP X π σ Q w s:=⟨z,H,I,GW,q⟩;by_cases o:0<=i
 .have m:i.toNat=j:=by rw[Ga o Z] at d;show dg d
  show item_listR l.isList o ∅ (by rw[m];simpa using A) fin n
 .have m:(i+(F.toArray.size:Int)).toNat=j:=by rw[Gb ∅ h4] at d;rw[cz,<- U];show dg d
  show a1A (x:=w) l.isList.typeIs a0w.lookup
   (wpAny_getItem_list_neg (Q:=λr s'=>r=w/\EP X π σ Q r s') l.isList ∅ (by rw[cz]<;>lia) ∅ (by rw[m];simpa using A) ⟨rfl,fin⟩) n
def aBz:IxR X (Dy X.K):=by
 intro value slice π s σ H x y v u Q I m l h n;obtain⟨p,xs,i,z,rfl,rfl,o,F,q⟩:=h;cases m;obtain⟨t,rfl⟩:=l;obtain⟨U,r,d,Y⟩:=I.tuple o;obtain⟨j,J,h2,h3,h4,h5⟩:=KH F;obtain⟨w,L,O⟩:=r.get h2;have A:=⇑r;have Z:=vL;have fin:EP X π σ Q w s:=⟨z,H,I,O,q⟩;show a1A (x:=w) d.typeIs qx.lookup
  (getItem_tuple (j:=j) (Q:=λr s'=>r=w/\EP X π σ Q r s') d ∅ ∅ (by rw[cz,<- A];show J) ↑L ⟨rfl,fin⟩) n
def GX(d:Q0f)(n j:Nat)(u:aj):ft (·.setIfInBounds j u) {cls:=.type "list",data:=.seq d.toArray n}={cls:=.type "list",data:=.seq (d.set j u).toArray n}:=by simp[ft]
theorem Φ.lst{π:Q0b}{σ:St}{H:Hp}{s:ao}{p:ai}{xs:List V}(I:Φ X π σ H s)(h:H p=ae (.lst xs)):
  ∃(d:Q0f) (n:Nat),θ xs d/\s.heap.get? p=ae {cls:=.type "list",data:=.seq d.toArray n}/\⇑xs<=bq:=by
 obtain⟨z,d,n,r,e⟩:=I.hok p _ h;show⟨d,n,r,e,z⟩
theorem Φ.aCA{π:Q0b}{σ:St}{H:Hp}{s:ao}{p:ai}{xs ys:List V}{j its':Q0f}{n d:Nat}{f:ay->ay}(I:Φ X π σ H s)(h:H p=ae (.lst xs))
  (ho:s.heap.get? p=ae {cls:=.type "list",data:=.seq j.toArray n}) (l:f {cls:=.type "list",data:=.seq j.toArray n}={cls:=.type "list",data:=.seq its'.toArray d }) (r:θ ys its') (m:⇑ys<=bq) (t:Nat):
  Φ X π σ (upd H p (.lst ys)) {s with heap:=s.heap.update p f,toks:=t}:=by
 have e:(s.heap.update p f).get? p=ae {cls:=.type "list",data:=.seq its'.toArray d }:=by rw[tw f ho (by rw[l]<;>rfl),l]
 show I.write (x:=p) (e:=p) (by rw[h];trivial) (.inl rfl) (λb u o q=>(An _ _ (gb o)).trans q) ⟨_,e⟩ ?_;show⟨m,its',d,r,e⟩
def Yh:V->V->V->Hp->(Hp->Prop)->Prop:=λo i v H Q=>∃p xs k j,o=.ref p/\i=.int k/\H p=ae (.lst xs)/\MU ⇑xs k=ae j/\Q (upd H p (.lst (xs.set j v)))
def set_list:Ds X Yh:=by
 intro π s σ H o i v U Y u Q I ro ri K h;obtain⟨p,xs,k,j,rfl,rfl,y,O,q⟩:=h;cases ro;obtain⟨t,rfl⟩:=ri;obtain⟨x,n,r,ho,L⟩:=I.lst y;obtain⟨d,h2,A,z⟩:=BC O;have l:=⇑r;have Z:=vL;have J:Φ X π σ (upd H p (.lst (xs.set j v))) {s with heap:=s.heap.update p (ft (·.setIfInBounds j u))} :=
  I.aCA y ho (GX x n j u) (r.set K j) (by rw[jo];show L) s.toks
 by_cases F:0<=k
 .have m:k.toNat=j:=by rw[Ga F z] at d;show dg d
  show PySem.W.ki_setAt ho F ∅ (by rw[cz,<- l];show z) (by rw[m];show⟨_,J,q⟩)
 .have m:(k+(x.toArray.size:Int)).toNat=j:=by rw[Gb ∅ A] at d;rw[cz,<- l];show dg d
  show PySem.W.ki_setBack ho ∅ (by rw[cz,<- l];show A) ∅ (by rw[m];show⟨_,J,q⟩)
def BE(lo d:Option Int)(n:Nat):(sliceBounds lo d ag n).1=((HT.fN n 0 lo:Nat):Int)/\(sliceBounds lo d ag n).2.1=((HT.fN n n d:Nat):Int)/\(sliceBounds lo d ag n).2.2=1:=by
 show⟨?_,?_,rfl⟩
 .cases lo with
  |none=>simp[sliceBounds,HT.fN]
  |some i =>
   erw[sliceBounds,HT.fN,a1S,show(1:Int)>0 by decide,if_true];by_cases h:i<0
   .erw[h,if_true]<;>lia
   .erw[h,if_false]<;>lia
 .cases d with
  |none=>simp[sliceBounds,HT.fN]
  |some i =>
   erw[sliceBounds,HT.fN,a1S,show(1:Int)>0 by decide,if_true];by_cases h:i<0
   .erw[h,if_true]<;>lia
   .erw[h,if_false]<;>lia
def xH(d:Q0f)(lo h:Option Int):slicePick d.toArray lo h ag=((d.drop (HT.fN ⇑d 0 lo)).take (HT.fN ⇑d ⇑d h-HT.fN ⇑d 0 lo)).toArray:=by obtain⟨l,h2,j⟩:=BE lo h d.toArray.size;delta slicePick;rw[l,h2,j];erw[sliceRange_one,pick_run,cz]<;>rfl
def Ta(K:aq):V->Option Int->Option Int->Hp->VK->Prop:=λx lo d H Q=>∃a xs,x=.ref a/\dM K H a xs /\∀p,H p=ag->Q (.ref p) (upd H p (.lst (DQ xs lo d)))
theorem X3:SlR X (Ta X.K):=by intro π s σ H x v J F lo d L Q I l z n m h;obtain⟨a,xs,rfl,y,q⟩:=h;cases l;obtain⟨A,r,j,p⟩:=I.list y;have hlen:=⇑r;show⟨"list",_,a0w.lookup,j.isList.typeIs,?_⟩;show wpAny_getItem_list_slice j.isList z n m .none (by simp) ?_ (by rw[cz]<;>lia);rw[xH,<- hlen];show⟨.ref ↥s,_,I.laid (t':=s.toks) (o:=.lst (DQ xs lo d)) (λb O q=>cy _ q) (bt _) ?_,rfl,q _ (I.hok.fresh (bt _))⟩;show⟨iq (rJ xs lo d) p,_,0,(r.drop (HT.fN ⇑xs 0 lo)).take (HT.fN ⇑xs ⇑xs d-HT.fN ⇑xs 0 lo),fv _ rfl⟩
noncomputable def pA:V->Bool
 |.non=>af
 |.bl _=>af
 |.int _=>af
 |.str _=>af
 |_=>ah
noncomputable def eqV:V->V->Bool
 |.non,.non=>af
 |.bl a,.bl b=>a == b
 |.bl a,.int b=>(if a then 1 else 0) == b
 |.int a,.bl b=>a == (if b then 1 else 0)
 |.int a,.int b=>a == b
 |.str a,.str b=>a == b
 |_,_=>ah
theorem aCB(h:Ψ y u)(d:Ψ x v)(l:pA y=af)(j:pA x=af):vt A s u v (eqV y x):=by
 cases y with
 |non =>
  cases h
  cases x with
  |non=>cases d;show Gq _
  |bl b=>cases d;show a3c b
  |int b=>obtain⟨t,rfl⟩:=d;show a3b b t
  |str b=>obtain⟨t,rfl⟩:=d;show a3a b t
  |_=>show Zw (show ah=af from j) cf
 |bl a =>
  cases h
  cases x with
  |non=>cases d;show a3h a
  |bl b=>cases d;show a3j a b
  |int b=>obtain⟨t,rfl⟩:=d;show a3i a b t
  |str b=>obtain⟨t,rfl⟩:=d;show a3g a b t
  |_=>show Zw (show ah=af from j) cf
 |int a =>
  obtain⟨t',rfl⟩:=h
  cases x with
  |non=>cases d;show a3e a t'
  |bl b=>cases d;show a3f a t' b
  |int b=>obtain⟨t,rfl⟩:=d;show Ah a t' b t
  |str b=>obtain⟨t,rfl⟩:=d;show a00 a t' b t
  |_=>show Zw (show ah=af from j) cf
 |str a =>
  obtain⟨t',rfl⟩:=h
  cases x with
  |non=>cases d;show a28 a t'
  |bl b=>cases d;show a29 a t' b
  |int b=>obtain⟨t,rfl⟩:=d;show a0Z a t' b t
  |str b=>obtain⟨t,rfl⟩:=d;show a27 a t' b t
  |_=>show Zw (show ah=af from j) cf
 |_=>show Zw (show ah=af from l) cf
def GY(x:V)(u:aj):Bool:=match u with
 |.none=>eqV .non x
 |.bool b=>eqV (.bl b) x
 |.int i _=>eqV (.int i) x
 |.str z _=>eqV (.str z) x
 |_=>ah
theorem Q8(r:Ψ y u)(f:pA y=af):GY x u=eqV y x:=by
 cases y with
 |non=>cases r;rfl
 |bl b=>cases r;rfl
 |int i=>obtain⟨t,rfl⟩:=r;rfl
 |str z=>obtain⟨t,rfl⟩:=r;rfl
 |_=>show Zw (show ah=af from f) cf
theorem pB:∀{xs:List V} {us:Q0f},θ xs us->xs.all pA=af->us.any (GY x)=xs.any λy=>eqV y x
 |_,_,.nil,_=>rfl
 |y::xs,u::us,.cons r t,f=>by rw[vc,gr] at f;rw[kz,kz,Q8 r f.1,pB t f.2]
theorem lR(h:Ψ x v)(j:pA x=af):∀{xs:List V} {us:Q0f},θ xs us->xs.all pA=af ->∀u∈us,vt A s u v (GY x u)
 |_,_,.nil,_=>λu d=>by cases d
 |y::xs,u::us,.cons r t,f=>λl d=>by
  rw[vc,gr] at f;rcases cg.mp d with rfl|d
  .rw [Q8 r f.1];show aCB r h f.1 j
  .exact lR h j t f.2 l d
def inV(x:V)(xs:List V):Bool:=xs.any λy=>eqV y x
def xi(K:aq)(neg:Bool):R2:=λx y H Q=>∃p xs,y=.ref p/\(dM K H p xs\/eV K H p xs)/\pA x=af/\xs.all pA=af/\Q (.bl (if neg then !inV x xs else inV x xs)) H
def yU:iP X (compareOp .In) (xi X.K ah):=by
 intro π s σ H x y v u Q I m o h;obtain⟨p,xs,rfl,j,n,fs,q⟩:=h;cases o;rcases j with j|j
 .obtain ⟨d,r,l,z⟩:=I.list j;show SeqAt.in_listAt (GY x) l.isList (λw hw=>lR m n r fs w ↑hw) ⟨.bl _,H,I,rfl,?_⟩;rw[show d.toArray.any (GY x)=d.any (GY x) by simp,pB r fs];show q
 .obtain ⟨d,r,l,z⟩:=I.tuple j;show SeqAt.in_tupleAt (GY x) l (λw hw=>lR m n r fs w ↑hw) ⟨.bl _,H,I,rfl,?_⟩;rw[show d.toArray.any (GY x)=d.any (GY x) by simp,pB r fs];show q
def BF:iP X (compareOp .NotIn) (xi X.K af):=by
 intro π s σ H x y v u Q I m o h;obtain⟨p,xs,rfl,j,n,fs,q⟩:=h;cases o;rcases j with j|j
 .obtain ⟨d,r,l,z⟩:=I.list j;show SeqAt.notIn_listAt (GY x) l.isList (λw hw=>lR m n r fs w ↑hw) ⟨.bl _,H,I,rfl,?_⟩;rw[show d.toArray.any (GY x)=d.any (GY x) by simp,pB r fs];show q
 .obtain ⟨d,r,l,z⟩:=I.tuple j;show SeqAt.notIn_tupleAt (GY x) l (λw hw=>lR m n r fs w ↑hw) ⟨.bl _,H,I,rfl,?_⟩;rw[show d.toArray.any (GY x)=d.any (GY x) by simp,pB r fs];show q
def BG:eX X (.builtin "len") (λxs H Q=>∃p ys,xs=[.ref p]/\(dM X.K H p ys\/eV X.K H p ys)/\Q (.int ⇑ys) H):=by
 intro π s σ H xs us Q I r h;obtain⟨p,ys,rfl,d,q⟩:=h;obtain⟨u,rfl,n⟩:=vals1 r;cases n;have v:=vL;rcases d with d|d
 .obtain ⟨m,j,l,o⟩:=I.list d;have hlen:=⇑j;show Calls.call_len_list l.isList (by erw[cz]<;>lia) ⟨.int ⇑ys,H,I.tok _,⟨s.toks+1,by rw[cz,hlen]⟩,q⟩
 .obtain ⟨m,j,l,o⟩:=I.tuple d;have hlen:=⇑j;show len_tuple l (by erw[cz]<;>lia) ⟨.int ⇑ys,H,I.tok _,⟨s.toks+1,by rw[cz,hlen]⟩,q⟩
theorem xI:eX X (.type "tuple") (λxs H Q=>∃p ys,xs=[.ref p]/\((dM X.K H p ys /\∀l,H l=ag->Q (.ref l) (upd H l (.tup ys)))\/(eV X.K H p ys/\Q (.ref p) H))):=by
 intro π s σ H xs us Q I r h;obtain⟨p,ys,rfl,h⟩:=h;obtain⟨u,rfl,y⟩:=vals1 r;cases y;rcases h with⟨n,q⟩|⟨n,q⟩
 .obtain ⟨d,j,m,v⟩:=I.list n;have hlen:=⇑j;show call_tuple_list m.isList (λh' z=>?_) (by erw[cz]<;>lia);have x:Φ X π σ H {s with heap:=h' }:=I.kept (t':=s.toks) z;have A:Φ X π σ (upd H h'.objs.size (.tup ys)) {s with heap:=h'.push {cls:=.type "tuple",data:=.seq d.toArray} } :=
   x.laid (t':=s.toks) (λb o e=>cy _ e) (bt _) (show cK X.Ω X.w _ _ _ (.tup ys) from⟨v,d,j,Hj _ _,A3.new _ _⟩)
  show⟨.ref h'.objs.size,_,A,rfl,q _ (x.hok.fresh (bt _))⟩
 .obtain ⟨d,j,m,v⟩:=I.tuple n;show call_tuple_same m ⟨.ref p,H,I,rfl,q⟩
def tyV(K:aq)(T:String)(x:V)(H:Hp):Prop:=match x with
 |.str _=>T="str"
 |.int _=>T="int"
 |.ref p=>(T="list" /\∃xs,dM K H p xs)\/(T="tuple" /\∃o,K.lookup p=ae o/\o.cls=.type "tuple" /\o.dict=ag) \/
   (T="dict" /\((∃χ,H p=ae (.dK χ)) \/∃χ,H p=ae (.dT χ)))\/(T="set" /\∃S n,H p=ae (.set S n))\/(T="tuple" /\∃xs,H p=ae (.tup xs))
 |_=>False
theorem aCC(I:Φ X π σ H s)(r:Ψ x v)(ty:tyV X.K T x H):
  s.TypeIs v T /\∀a,v=.ref a ->∃m,s.heap.get? a=ae m/\m.dict=ag:=by
 cases x with
 |str z =>
  obtain⟨t,rfl⟩:=r;cases (show T="str" from ty);show⟨typeIs_str s z t,λ_ e=>nomatch e⟩
 |int i =>
  obtain⟨t,rfl⟩:=r;cases (show T="int" from ty);show⟨vn s i t,λ_ e=>nomatch e⟩
 |ref p =>
  cases r;rcases ty with⟨rfl,xs,q⟩|⟨rfl,o,d,y,j⟩|⟨rfl,d⟩|⟨rfl,S,n,d⟩|⟨rfl,xs,d⟩
  .obtain ⟨A,_,l,_⟩:=I.list q;show⟨l.isList.typeIs,λa e=>?_⟩;cases e;obtain⟨o,n,e,c,j,_⟩:=l;show⟨o,e,j⟩
  .refine ⟨⟨o,I.A5 p o d,y⟩,λa e=>?_⟩;cases e;show⟨o,I.A5 _ o d,j⟩
  .have z:∃o,s.heap.get? p=ae o/\o.ExactDict:=by
    rcases d with⟨χ,d⟩|⟨χ,d⟩
    .obtain ⟨_,_,_,_,o,_,_,e,ex,_⟩:=I.hok p _ d;show⟨o,e,ex⟩
    .obtain ⟨_,_,_,_,o,_,_,e,ex,_⟩:=I.hok p _ d;show⟨o,e,ex⟩
   obtain⟨o,e,ex⟩:=z;show⟨⟨o,e,ex.1⟩,λa h=>?_⟩;cases h;show⟨o,e,ex.2.1⟩
  .obtain ⟨o,_,_,_,e,ex,_⟩:=I.hok p _ d;show⟨⟨o,e,ex.1⟩,λa h=>?_⟩;cases h;show⟨o,e,ex.2.1⟩
  .obtain ⟨_,_,_,⟨o,e,c,_⟩,nd⟩:=I.hok p _ d;show⟨⟨o,e,c⟩,λa h=>?_⟩;cases h;show⟨o,e,nd _ e⟩
 |_=>show kj ty
def By(K:aq)(T:String)(r:V->List V->Hp->VK->Prop)(d:TE)(t:TA):TE:=λσ H Q=>d σ H λx H1=>tyV K T x H1/\t σ H1 λxs h=>r x xs h Q
variable{o e:av}{es:List av}{to:TE}{t:TA}{name:ak}{apos cpos:br}{T id:String}{r:V->List V->Hp->VK->Prop}
theorem Yg(F:PlainAttrs T)(slot:Slot T name id)(m:typeOf (.builtin id)=pure (.type "method_descriptor"))(L:MtR X id r)(ho:PE X o to)(O:PA X (e::es) t)
  (j:attributeBase o name X.env (eval o X.env)=eval o X.env<|>0)
  (l:((d_ cpos (ax (e::es) X.env)).all (λx=>!x.1)&&(backToKw cpos (ox [] X.env)).all (λx=>x.1.isSome)
   && Zv (⇑(e::es)+⇑([]:List iy)+(if([]:List iy).isEmpty then 0 else 1)<30))=af:=by rfl)
  (d:Q0j apos cpos<|>0) (J:Zq X e es<|>0) (hplain:Q0k X cpos es<|>0):
  PE X (.Call (.Attribute o name apos) (e::es) [] cpos) (By X.K T r to t):=by
 intro π s σ H Q I h;show wpAny_Call_method_late j l d rfl (dB (ho π s σ H _ I h) λv z ⟨x,H1,q,r1,ty,q1⟩=>?_);obtain⟨U,h2⟩:=aCC q r1 ty;show⟨T,id,F,slot,m,U,h2,?_⟩;have p:=O cpos π z σ H1 _ q q1;rw[J] at p ⊢;show Calls.callWith_builtin (by show(ah||(d_ cpos (ax es X.env)).any (·.1))=ah;rw[hplain]<;>rfl) (Calls.evalArgs_plain ?_);show dB p λus y n=>by obtain⟨vs,Z,Y,A,q2⟩:=n;show L π y σ Z x vs v us Q Y r1 A q2
end
def MtM(X:Cx)(id:String)(r:V->List V->Hp->VK->Prop):Prop :=
 ∀(π:Q0b) (s:ao) (σ:St) (H:Hp) (x:V) (xs:List V) (v:aj) (us:Q0f) (Q:VK),Φ X π σ H s->Ψ x v->θ xs us->r x xs H Q ->
  az (au X.Ω X.w) X.A (call (.builtin id) (v::us)) (EP X π σ Q) X.xe s
theorem θ.one:∀{x:V} {us:Q0f},θ [x] us ->∃u,us=[u]/\Ψ x u
 |_,_,.cons r .nil=>⟨_,rfl,r⟩
theorem θ.eraseIdx:∀{xs:List V} {us:Q0f} (i:Nat),θ xs us->θ (xs.eraseIdx i) (us.eraseIdx i)
 |_,_,_,.nil=>.nil
 |_,_,0,.cons _ t=>t
 |_,_,i+1,.cons r t=>.cons r (θ.eraseIdx i t)
theorem θ.rep(h:θ xs us):∀k:Nat,θ (cc k xs).flatten (cc k us).flatten
 |0=>.nil
 |k+1=>by rw[gx,gx,ml,ml];show θ.append h (θ.rep h k)
theorem yV{α:Type}:∀(l:List α) (i:Nat),⇑(l.eraseIdx i)<=⇑l
 |[],_=>bt _
 |_::_,0=>pf _
 |_::r,i+1=>Nat.succ_le_succ (yV r i)
theorem foldl_rep(d:Q0f):∀(k:Nat) (a:Q0f),
  Iu (λx1 h=>x1++h) a.toArray (cc k d.toArray)=(a++(cc k d).flatten).toArray
 |0,a=>by simp
 |k+1,a=>by
  have e:a.toArray++d.toArray=(a++d).toArray:=by simp
  have j:(a++d)++(cc k d).flatten=a++(cc (k+1) d).flatten:=by rw[gx,ml,Bo]
  rw[<- j,<- foldl_rep d k (a++d),<- e,gx,jr]
section
variable{π:Q0b}{σ:St}{H:Hp}{s:ao}{l b:ai}{xs ys zs:List V}
theorem Φ.yt{a its':Q0f}{n:Nat}{f:Array aj->Array aj}{t':Nat}(I:Φ X π σ H s)(p:H l=ae (.lst xs))
  (e:s.heap.get? l=ae {cls:=.type "list",data:=.seq a.toArray n}) (m:f a.toArray=its'.toArray) (h:θ ys its') (d:⇑ys<=bq):
  Φ X π σ (upd H l (.lst ys)) {s with heap:=s.heap.update l (ft f),toks:=t' }:=by
 have q:=a3l e f;rw[m] at q;show I.write (x:=l) (e:=l) (by rw[p];show trivial) (.inl rfl) (λv u o j=>(An s.heap (ft f) (gb o)).trans j) ⟨_,q⟩ ?_;show⟨d,its',_,h,q⟩
theorem Φ.Dx(I:Φ X π σ H s)(d:θ ys ι)(a:⇑ys<=bq):
  Φ X π σ (upd H ↥s (.lst ys)) {s with heap:=s.heap.push {cls:=.type "list",data:=.seq ι.toArray},toks:=t' } :=
 I.laid (λ_ _ q=>cy _ q) (bt _) ⟨a,ι,0,d,fv _ rfl⟩
def Φ.fresh(I:Φ X π σ H s):H ↥s=ag:=I.hok.fresh (bt _)
def Φ.GZ(I:Φ X π σ H s)(d:H l=ae (.lst xs)):⇑xs<=bq /\∃(a:Q0f) (n:Nat),θ xs a/\⇑xs=⇑a/\s.heap.get? l=ae {cls:=.type "list",data:=.seq a.toArray n}:=by obtain⟨z,a,n,r,e⟩:=I.hok l _ d;show⟨z,a,n,r,⇑r,e⟩
def DR{n:Nat}(h:n<=bq):Aw n=ah:=by delta Aw;show Zy ∅
def KI:V->List V->Hp->VK->Prop:=λx vs H Q=>∃l xs y,x=.ref l/\vs=[y]/\H l=ae (.lst xs)/\⇑xs<bq/\Q .non (upd H l (.lst (xs++[y])))
def yW:MtM X "list.append" KI:=by intro π s σ H x vs v us Q I j m h;obtain⟨l,xs,y,rfl,rfl,d,p,q⟩:=h;cases j;obtain⟨u,rfl,o⟩:=m.one;obtain⟨z,a,n,r,A,e⟩:=I.GZ d;show qp a1b ⟨_,e,rfl⟩ F.entry_list_append (F.args_list_append_2 _ _) (PySem.list_append l a.toArray n u (by rw[cz];lia)) ⟨e,?_⟩;show⟨.non,_,I.yt (its':=a++[u]) d e (by simp) (r.append (.cons o .nil)) ?_,rfl,q⟩;rw[gi,Im];lia
def KJ:V->List V->Hp->VK->Prop:=λx vs H Q=>∃l b xs zs,x=.ref l/\vs=[.ref b]/\H l=ae (.lst xs)/\H b=ae (.lst zs)/\⇑xs+⇑zs<=bq/\Q .non (upd H l (.lst (xs++zs)))
def MV:MtM X "list.extend" KJ:=by
 intro π s σ H x vs v us Q I m o h;obtain⟨l,b,xs,zs,rfl,rfl,j,K,Y,q⟩:=h;cases m;obtain⟨u,rfl,p⟩:=o.one;cases p;obtain⟨z,d,n,r,Z,e⟩:=I.GZ j;obtain⟨U,a,A,y,J,L⟩:=I.GZ K;have hsz:d.toArray.size+a.toArray.size<=bq:=by rw[cz,cz];lia
 have O:¬ (!d.toArray.isEmpty&&Aw (d.toArray.size+a.toArray.size))=af:=by rw[DR hsz,Bool.and_false];show cf
 show qp a1a ⟨_,e,rfl⟩ F.entry_list_extend (F.args_list_extend_2 _ _)
  (a3R l d.toArray n b a.toArray A O (by rw[cz];lia) ∅) ⟨e,L,?_⟩
 show⟨.non,_,I.yt (its':=d++a) j e (by simp) (r.append y) ?_,rfl,q⟩;rw[gi];lia
def RA:V->List V->Hp->VK->Prop:=λx vs H Q=>∃l xs i k y,x=.ref l/\vs=[.int i]/\H l=ae (.lst xs) /\ -(2^63)<=i/\i<2^63/\seqIndex? i ⇑xs=ae k/\xs[k]?=ae y/\Q y (upd H l (.lst (xs.eraseIdx k)))
def RB:MtM X "list.pop" RA:=by
 intro π s σ H x vs v us Q I j m h;obtain⟨l,xs,i,k,y,rfl,rfl,d,K,h2,J,p,q⟩:=h;cases j;obtain⟨u,rfl,o⟩:=m.one;obtain⟨t,rfl⟩:=o;obtain⟨z,a,n,r,A,e⟩:=I.GZ d;obtain⟨w,hw,L⟩:=r.get p;show qp a09 ⟨_,e,rfl⟩ F.entry_list_pop (F.args_list_pop_2 _ _)
  (a3k l a.toArray n i t k w (a0D K h2) (by rw[cz,<- A];show J) (by rw[<- sd];show hw) (by rw[cz];lia)) ⟨e,?_⟩
 show⟨y,_,I.yt (its':=a.eraseIdx k) d e ?_ (r.eraseIdx k) ?_,L,q⟩
 .show a.toArray.eraseIdxIfInBounds k=(a.eraseIdx k).toArray;rw[List.eraseIdxIfInBounds_toArray]
 .have:=yV xs k;lia
def Dw:R2:=λx y H Q=>∃l b xs zs,x=.ref l/\y=.ref b/\H l=ae (.lst xs)/\H b=ae (.lst zs)/\⇑xs+⇑zs<=bq /\∀p,H p=ag->Q (.ref p) (upd H p (.lst (xs++zs)))
def RC:iP X (binaryOp .Add) Dw:=by
 intro π s σ H x y v u Q I m j h;obtain⟨l,b,xs,zs,rfl,rfl,A,F,U,q⟩:=h;cases m;cases j;obtain⟨z,d,n,r,Y,e⟩:=I.GZ A;obtain⟨L,a,O,o,p,K⟩:=I.GZ F;show PySem.P.add_list e K ?_ (by rw[cz,cz];lia);have J:d.toArray++a.toArray=(d++a).toArray:=by simp
 rw[J];show⟨.ref _,_,I.Dx (t':=s.toks) (r.append o) (by rw[gi];lia),rfl,q _ I.fresh⟩
def S_:R2:=λx y H Q=>∃l k xs,x=.ref l/\y=.int k/\H l=ae (.lst xs) /\ -(2^63)<=k/\k<2^63/\⇑xs*k.toNat<=bq /\
 ∀p,H p=ag->Q (.ref p) (upd H p (.lst (cc k.toNat xs).flatten))
theorem len_rep{α:Type}(xs:List α)(k:Nat):⇑(cc k xs).flatten=k*⇑xs:=by
 induction k with
 |zero=>simp
 |succ k ih=>rw[gx,ml,gi,ih,uh,a19]
def aCE:iP X (binaryOp .Mult) S_:=by
 intro π s σ H x y v u Q I L K h;obtain⟨l,k,xs,rfl,rfl,Y,Z,h2,J,q⟩:=h;cases L;obtain⟨t,rfl⟩:=K;obtain⟨z,d,n,r,O,e⟩:=I.GZ Y;have hlen:d.toArray.size*k.toNat<=bq:=by rw[cz,<- O];show J
 have p:¬ d.toArray.size*k.toNat>(2^63-1)/8:=by
  have:(bq:Nat)<=(2^63-1)/8:=by decide
  lia
 have o:¬ (!Builtin.List.listFitsIndex k)=af:=by rw[a0D Z h2];show cf
 have Q9:¬ Aw (d.toArray.size*k.toNat)=af:=by rw[DR hlen];show cf
 have j:Iu (λx1 A=>x1++A) #[] (cc (if d.toArray.isEmpty=af then 0 else k.toNat) d.toArray)=(cc k.toNat d).flatten.toArray:=by
  have f0:∀m:Nat,Iu (λx1 A=>x1++A) #[] (cc m d.toArray)=(cc m d).flatten.toArray:=λm=>by have:=foldl_rep d m [];rw[uv] at this;show this
  rw[f0]
  cases d with
  |nil=>simp
  |cons a r'=>rw[Zz (by simp)]
 show a0r (T:="list") (U:="int") ⋯ ⟨_,e,rfl⟩ (λs'=>vn s' k t) noFill_list_mul a1f Ap repeat_list a1c.lookup
  (qp Ap (vn s k t) a1h (a1n _ _) (int___rmul___int_list k t l d.toArray n)
   ⟨e,rfl,⟨_,e,rfl⟩,qp F.slot_list_mul ⟨_,e,rfl⟩ F.entry_list_mul (F.args_list_mul_2 _ _) (a3S l d.toArray n k t o p Q9) ⟨e,?_⟩⟩)
 rw[j];show⟨.ref _,_,I.Dx (t':=s.toks) (r.rep k.toNat) (by rw[len_rep,Hv];show J),rfl,q _ I.fresh⟩
end
section
variable{Ω:bj}{w:bg}{A:bx}{E:Q0c}{s:ao}
set_option maxRecDepth 100000 in
end
end L2
namespace KL
open PySem.W PySem.Calls PyProof.Rows
theorem sH:∀(ns:Q0e) (vs:Q0f),WellAll P h vs (ns.map a0T)->mf vs ns:=by
 intro ns
 induction ns with
 |nil =>
  intro vs w;rw[m_] at w;cases w;show .nil
 |cons n ns ih =>
  intro vs w;rw[bu] at w
  cases w with
  |cons a b =>
   cases a;show .cons _ _ (ih _ b)
theorem MW{l:s_}{n:Nat}(z:l.most=ae n){P:Params}{h:bh}{args:List WData}{vals:Q0f}
  (j:l.row.toRowW.claim.pre args=af) (p:WellAll P h vals args):
  ∃a vs ns,vals=[f_ a]/\args=[WData.list (ns.map a0T)]/\h.get? a=ae {cls:=.type "list",data:=.seq vs.toArray}/\mf vs ns/\⇑ns<=n:=by
 have v:WShape.hasAll [] args [.list .int]=af:=(pre_splitW j).1;have x:l.pre.holds [] {args:=args}=af:=(pre_splitW j).2;obtain⟨d,r,rfl,F,h2⟩:=hasAllW_cons v;obtain rfl:=hasAllW_nil h2;obtain⟨xs,rfl,A⟩:=hasW_list F;obtain⟨ns,rfl⟩:=items_int A;have hlen:⇑ns<=n:=by
  delta OpenLaw.pre at x;have o:(WTm.not (.lt (.lit (.int (n:Int))) (.len (.arg 0)))).holds [] {args:=[.list (ns.map .int)]}=af:=by have o:=(holds_andW x).1;rw[z] at o;show o
  have m:=condW_of o (w_not (w_lt w_lit (w_len_list (w_arg rfl))));rw[bb] at m;show Nat.le_of_not_lt λq=>?_;have y:(n:Int)<((⇑ns:Nat):Int):=∅
  first
   | (rw[Zx y] at m;show Zw m ⋯)
   | (simp at m;lia)
 cases p with
 |cons w1 w2 =>
  cases w2
  cases w1 with
  |list ho hall=>show⟨_,_,ns,rfl,rfl,ho,sH ns _ hall,hlen⟩
def MX(l:s_)(args:List WData):l.row.toRowW.claim.post args (.bool af) args=af :=
 postW_of (r:=l.row.toRowW) (X:=(af == af))
  (show a0S [] (.bool af) .bool=af by first|rfl|decide|simp[a0S,WShape.arms,WShape.armsAll])
  (show(WTm.eq .res (.lit (.bool af))).value [] {args:=args,res:=ae (.bool af),after:=args}=ae (.bool (af == af)) from w_eq_bool (w_res rfl) w_lit) rfl
theorem DT{l:s_}{n:Nat}{q:bj}{loose:Q0g}{I:(ak->Option aj)->bh->Prop}{YP:bg->bh->Prop}{d:DefRec}
  (L:l.most=ae n) (y:d.params.defaults=[])
  (call:∀(w:bg) (s₀ h:ao) (mg mb:Q0d) (p:ai) (o:ay) (pm cd doc:aj) (a:ai) (vs:Q0f) (ns:Q0e),
   Ground q loose [] I w s₀ mg mb h.heap->YP w h.heap ->
   h.heap.get? p=ae o->o.data=.func (docDef d.name d.params d.body d.scope pm cd doc)->h.heap.CodeRec cd d.name->mg d.name=ae (.ref p) ->
   h.heap.get? a=ae {cls:=.type "list",data:=.seq vs.toArray}->mf vs ns->⇑ns<=n->h.gens=#[] ->
   mr (au l.prog w) callerA (.call (.ref p) ⟨[.ref a],[]⟩) (λr s'=>r=.ok (.ret (.bool af))/\OldK h.heap s'.heap/\s'.os=h.os/\nu s'.gens) h):
  Gp q loose I YP l.row.toRowW d [] (λf vs=>Gh f vs):=by
 intro w s₀ h mg mb G Y p o pm cd doc dV kV ho Z z F x X args vals as j A J v U;obtain rfl:dV=.none:=Dflts.none F y;obtain rfl:kV=.none:=Dflts.noKw F;obtain⟨a,vs,ns,rfl,rfl,m,hints,hlen⟩:=MW L j v;show enter_call (Gg (call w s₀ h mg mb p o pm cd doc a vs ns G Y ho (fd_plain Z) z x m hints hlen X) λr s' K=>?_);obtain⟨rfl,h2,h3,h4⟩:=K;show⟨.inl ⟨.bool af,.bool af,[],rfl,λ_=>rfl,.bool af,MX l _,λ_=>⟨Bq,λ_ O=>(nomatch O)⟩⟩,h2,h3,h4⟩
section
variable{Ω:bj}{w:bg}{A:bx}{E:Q0c}{s:ao}{K:aq}
def BH(h:bh):bh:={h with objs:=#[]}
theorem vN(h:bh)(b:ai):(BH h).get? b=ag:=by
 cases e:(BH h).get? b with
 |none=>rfl
 |some o=>show Zw (cj e) (Nat.not_lt_zero _)
def ledger(h:bh)(L d:ai):List (ai×ay):=(cx h.objs.size).filterMap λa=>if a=L\/a=d then ag else(h.get? a).map λo=>(a,o)
def kJ:(a,o)∈ledger h L d↔a≠L/\a≠d/\h.get? a=ae o:=by
 delta ledger;rw[wu]
 constructor
 .rintro ⟨b,_,e⟩;split at e
  .cases e
  .rename_i hb;obtain⟨n,ho,m⟩:=jf.mp e;cases m;show⟨λq=>hb (.inl q),λq=>hb (.inr q),ho⟩
 .rintro ⟨l,j,ho⟩;show⟨a,mi.mpr (cj ho),?_⟩;rw[Zz (show ¬ (a=L\/a=d) from λq=>q.elim l j),ho]<;>rfl
def aCF(n:h.Ns L m):Fr (BH h) L h m :=
 ⟨n,λb o e=>(by rw[vN] at e;cases e),gw _⟩
end
end KL
namespace L2
open PySem.Spec PyProof.Rows
theorem fL:∀{vs:Q0f} {ns:Q0e},mf vs ns->θ (ns.map V.int) vs
 |_,_,.nil=>.nil
 |_,_,.cons n t h=>.cons ⟨t,rfl⟩ (fL h)
def Only(H:Hp):Prop:=∀b,H b=ag\/(∃o xs,H b=ae (.tF o (.lst xs))) \/∃q,H b=ae (.MM q)
structure TabsOk (K:aq) (q:bj):Prop where
 nd:((cU K).map (·.2.2)).Nodup
 rc:∀t∈cU K,∃e,(recsOf q).find? (λe=>e.name == t.1)=ae e
theorem G0{K:aq}{t:ak×ai×ai}(h:t∈cU K):z_ K t.1=ae (t.2.1,t.2.2):=by
 obtain⟨x,_,e⟩:=wu.mp h
 cases q:z_ K x with
 |none=>rw[q] at e;cases e
 |some p=>rw[q] at e;cases e;show q
def G2(K:aq)(a:ai)(u:Option HO):Hp:=λb=>if b=a then u else((cU K).find? λt=>t.2.2 == b).map λt=>.MM (lO t.1)
theorem MY{l:List (ak×ai×ai)}(nd:(l.map (·.2.2)).Nodup){t:ak×ai×ai}(h:t∈l):l.find? (λu=>u.2.2 == t.2.2)=ae t:=by
 induction l with
 |nil=>cases h
 |cons u l ih =>
  rw[bu,ke] at nd;rw[ja];by_cases e:(u.2.2 == t.2.2)=af
  .rw [e];rcases cg.1 h with z|z
   .rw [z]
   .exact Zw (gf.2 ⟨t,z,(eq_of_beq e).symm⟩) nd.1
  .rw [Jg] at e;rw[e];rcases cg.1 h with z|z
   .rw [z,beq_self_eq_true] at e;cases e
   .exact ih nd.2 z
theorem RD{P:bj}{w:bg}{K:aq}{mg mb:Q0d}{CX:J9}{k:Nat}{fa a:ai}{fd:gn}{x:ak}{sp:Sp}{j:ao}{vs:Q0f}{ns:Q0e}
  (KX:K.In j.heap) (hns:j.heap.Ns ie mg) (U:j.heap.Ns builtinsNs mb) (hbb:∀x:ak,x ≠ "__name__"->mb x=bootBuiltins x) (hlim:j.heap.NoLimit)
  (hbm:∃bm L,mg "__builtins__"=ae (.ref bm)/\bm≠builtinsNs/\j.heap.get? bm=ae L/\L.cls=.type "module" /\L.dict=ae builtinsNs/\L.data=.plain)
  (J:∀t∈cU K,CodeHd j.heap t.2.1 t.2.2/\j.heap.get? t.2.2=ae (tabObj #[])) (hnd:((cU K).map (·.2.2)).Nodup) (hnt:noTabs K=af) (hg:j.gens=#[])
  (Z:j.heap.get? a=ae {cls:=.type "list",data:=.seq vs.toArray}) (hi:mf vs ns) (hl:⇑ns<=bq) (hr:dW k callerA)
  (F:∀ω:bh,K.In ω->ω.Ns ie mg->jE P w K mg ω CX k fa fd [x] sp) (X:∀(s:ao) (u:aj),ud s fd ⟨[u],[]⟩ [(x,u)])
  (hsp:∀H:Hp,Only H->dM K H a (ns.map V.int)->sp [.ref a] H (λv _=>v=.bl af) λ_ _ _=>False)
  (xm:∀H e s',CX [] H j (λ_ _ _=>False) e s'->False):
  mr (au P w) callerA (.call (.ref fa) ⟨[.ref a],[]⟩) (λr s'=>r=.ok (.ret (.bool af))/\OldK j.heap s'.heap/\s'.os=j.os/\nu s'.gens) j:=by
 have rv:=fL hi;have lenV:=⇑hi;have neA:∀t∈cU K,t.2.2≠a:=λt l z=>by have e:=(J t l).2;rw[z,Z] at e;cases e
 -- a tracked address: the script or a table
 have core:∀u:Option HO,(u=ag \/∃o xs,u=ae (.tF o (.lst xs)))->dM K (G2 K a u) a (ns.map V.int)->(∀v,u=ae v->cK P w (G2 K a u) j.heap a v)->(u≠ag->K.lookup a=ag) ->
   mr (au P w) callerA (.call (.ref fa) ⟨[.ref a],[]⟩) (λr s'=>r=.ok (.ret (.bool af))/\OldK j.heap s'.heap/\s'.os=j.os/\nu s'.gens) j:=by
  intro u hu hS Dv hK;obtain⟨H,eH⟩:∃H,G2 K a u=H:=⟨_,rfl⟩;have wV:∀t∈cU K,H t.2.2=ae (.MM (lO t.1)):=λt l=>by rw[<- eH];delta G2;rw[Zz (neA t l),MY hnd l];rfl
  have Y:∀b,H b=ag\/(b=a/\H b=u/\u≠ag) \/∃t∈cU K,t.2.2=b/\H b=ae (.MM (lO t.1)):=λb=>by
   by_cases U:b=a
   .cases hu2:u with
    |none=>left;rw[<- eH];delta G2;rw[Z_ U,hu2]
    |some v=>right;left;show⟨U,?_,by simp⟩;rw[<- eH];delta G2;rw[Z_ U,hu2]
   .cases q:(cU K).find? λt=>t.2.2 == b with
    |none=>left;rw[<- eH];delta G2;rw[Zz U,q];rfl
    |some t =>
     have e1:t.2.2=b:=eq_of_beq (List.find?_some (p:=λt:ak×ai×ai=>t.2.2 == b) q);have A:=List.mem_of_find?_eq_some q;show .inr (.inr ⟨t,A,e1,by rw[<- e1];show wV t A⟩)
  rw[eH] at hS Dv;have hO:Only H:=λb=>by
   rcases Y b with z|⟨_,z,_⟩|⟨t,_,_,z⟩
   .exact .inl z
   .rcases hu with y|⟨o,xs,y⟩
    .exact .inl (z.trans y)
    .exact .inr (.inl ⟨o,xs,z.trans y⟩)
   .exact .inr (.inr ⟨_,z⟩)
  have hok:mL P w H j.heap:=λb v e=>by
   rcases Y b with z|⟨rfl,z,_⟩|⟨t,l,rfl,z⟩
   .rw [z] at e;cases e
   .exact Dv v (by rw[<- z];show e)
   .rw [z] at e;cases e;show⟨#[],(J t l).2,trivial,λν cv e=>by cases e⟩
  -- an object that is neither the script nor a table is not tracked
  have RE:∀{b:ai} {o:ay},j.heap.get? b=ae o->o.cls≠.none->(∀ys n,o.data≠.seq ys n)->H b=ag:=λ{b o} e hc hs=>by
   rcases Y b with z|⟨rfl,_,_⟩|⟨t,l,rfl,z⟩
   .exact z
   .rw [Z] at e;cases e;show Zw rfl (hs _ _)
   .rw [(J t l).2] at e;cases e;show Zw rfl hc
  have nsN:∀{b:ai} {o:ay} {es:Array wb} {ep:Nat},j.heap.get? b=ae o->o.data=.dict es ep->H b=ag:=λ{b o es ep} e d=>by
   rcases Y b with z|⟨rfl,_,_⟩|⟨t,l,rfl,z⟩
   .exact z
   .rw [Z] at e;cases e;cases d
   .rw [(J t l).2] at e;cases e;cases d
  have tG:∀{b:ai} {o:ay},j.heap.get? b=ae o->H b=ag->(xE j.heap H).get? b=ae o:=λe n=>QT e n;have I:∀{b:ai} {m:Q0d},j.heap.Ns b m->(xE j.heap H).Ns b m:=λ{b m} ⟨o,es,ep,e,d,r⟩=>⟨o,es,ep,tG e (nsN e d),d,r⟩;have Cj:K.In (xE j.heap H):=λb o e=>tG (KX b o e) (by
   rcases Y b with z|⟨rfl,_,z⟩|⟨t,l,rfl,z⟩
   .exact z
   .rw [hK z] at e;cases e
   .have A:=KX _ o e;rw[(J t l).2] at A;cases A;have h2:=jk.mp hnt (t.2.2,tabObj #[]) (PySem.W.mem_of_lookupK e);show Zw (show ah=af from h2) cf)
  have hM:Mod K mg (xE j.heap H):=⟨Cj,I hns,⟨mb,I U,hbb⟩,let ⟨mc,h1,h2⟩:=hlim;⟨mc,I h1,h2⟩,
   let ⟨bm,L,b1,b2,b3,b4,b5,b6⟩:=hbm;⟨bm,L,b1,b2,tG b3 (RE b3 (by rw[b4];nofun) λys n z=>by rw[b6] at z;cases z),b4,b5,b6⟩⟩
  have S0:XB K (xE j.heap H) H:=λt l=>by obtain⟨o,vs',file,tf,flags,tg,inF,text,tt,e1,r1,r2,r3⟩:=(J t l).1;show⟨⟨o,vs',file,tf,flags,tg,inF,text,tt,tG e1 (RE e1 (by rw[r1];nofun) λys n z=>by rw[r2] at z;cases z),r1,r2,r3⟩,wV t l⟩
  have e0:XW P w K mg (xE j.heap H) callerA [] j H:=⟨rfl,hM,λb o e=>XA e,nz (MN _ _),trivial,λb U=>Zw (show b∈([]:List ai) from U) (by simp),hok,.of_eq hg,S0⟩;show Gg ((F _ Cj (I hns)).run callerA [] j H ⟨[.ref a],[]⟩ [.ref a] [.ref a] _ _ hr e0 (X j (.ref a)) (.cons rfl .nil) (hsp H hO hS)) λr s' h=>?_
  cases r with
  |error e=>show(xm H e s' h).elim
  |ok fl =>
   cases fl with
   |next=>show kj h
   |brk=>show kj h
   |cont=>show kj h
   |ret v =>
    obtain⟨y,H',os,bare,un,O,r',q⟩:=h;have q':y=.bl af:=q;subst q';obtain rfl:v=vq af:=r';have old:∀b o,j.heap.get? b=ae o->asItWas j.heap s'.heap b o /\∃o',s'.heap.get? b=ae o':=λb o e=>by
     rcases Y b with z|⟨rfl,z,hne⟩|⟨t,l,rfl,z⟩
     .have k:=un.keep b o e z (by intro z;show Zw (show b∈([]:List ai) from z) (by simp)) (by simp);show⟨.inl k,o,k⟩
     .rcases hu with y|⟨L,xs,y⟩
      .exact Zw y hne
      .have z1:=z.trans y;have z2:=un.xD b L _ z1;obtain⟨e1,_⟩:=hok b _ z1;obtain⟨A,_⟩:=O b _ z2;rw[e] at e1;cases e1;show⟨.inl A,o,A⟩
     .obtain ⟨ps,A,_⟩:=O _ _ (un.vF _ _ z);have e1:=(J t l).2;rw[e] at e1;cases e1;show⟨.inr (.inl ⟨((J t l).1.tab (J t l).2).isCodeTable,rfl,#[],ps,rfl,by rw[A,a23]⟩),_,A⟩
    show⟨rfl,⟨λb o e=>(old b o e).1,λb o e=>(old b o e).2⟩,os,bare⟩
 cases hk:K.lookup a with
 |some o =>
  -- the script is one of the module's own objects
  have e:=KX a o hk;rw[Z] at e;cases e;show core ag (.inl rfl) (.inr ⟨_,vs.toArray,_,hk,rfl,rfl,rfl,by rw[cz,lenV];show hl,↑rv⟩) (λv z=>by cases z) λz=>Zw rfl z
 |none =>
  show core (ae (.tF {cls:=.type "list",data:=.seq vs.toArray} (.lst (ns.map V.int)))) (.inr ⟨_,_,rfl⟩) (.inl (.inr ⟨{cls:=.type "list",data:=.seq vs.toArray},Z_ rfl⟩)) (λv z=>?_) λ_=>hk;cases z;show⟨Z,by rw[bb];show hl,vs,_,rv,Z⟩
abbrev KOf{K:aq}{h:bh}(_:K.In h):aq:=K
theorem X4{l:s_}{n k:Nat}{q:bj}{loose:Q0g}{XP:(ak->Option aj)->bh->Prop}{YP:bg->bh->Prop}{d:DefRec}{K:Params->aq}{CX:bg->J9}{sp:bg->Sp}{x:ak}
  (Z:l.most=ae n) (A:n<=bq) (J:d.params.defaults=[]) (X:dW k callerA)
  (hY:∀(w:bg) (h:bh),YP w h->(K w.params).In h)
  (L:∀w:bg,TabsOk (K w.params) q) (z:∀w:bg,noTabs (K w.params)=af)
  (F:∀(w:bg) (mg:Q0d) (p:ai) (h:bh),(K w.params).In h->h.Ns ie mg->mg d.name=ae (.ref p) ->
   ∃fd:gn,(∀(s:ao) (u:aj),ud s fd ⟨[u],[]⟩ [(x,u)]) /\
    ∀ω:bh,(K w.params).In ω->ω.Ns ie mg->jE l.prog w (K w.params) mg ω (CX w) k p fd [x] (sp w))
  (y:∀(w:bg) (H:Hp) (a:ai) (ns:Q0e),⇑ns<=n->Only H->dM (K w.params) H a (ns.map V.int)->sp w [.ref a] H (λv _=>v=.bl af) λ_ _ _=>False)
  (U:∀(w:bg) (H:Hp) (s:ao) (e:aj) (s':ao),CX w [] H s (λ_ _ _=>False) e s'->False):
  Gp q loose XP YP l.row.toRowW d [] (λf vs=>Gh f vs):=by
 show KL.DT Z J λw s₀ j mg mb p o pm cd doc a vs ns G Y ho hd hcd I m hints hlen hg=>?_;have KX:=hY w _ Y;obtain⟨fd,hb,hF⟩:=F w mg p _ KX G.T.g I;have hT:∀t∈cU (K w.params),CodeHd j.heap t.2.1 t.2.2/\j.heap.get? t.2.2=ae (tabObj #[]):=λt O=>by obtain⟨e,he⟩:=(L w).rc t O;show PySem.W.tab_of G.T KX he (G0 O)
 show RD KX G.T.g G.T.b G.T.builtins G.T.nolimit G.T.bmain hT (L w).nd (z w) hg m hints (iq hlen A) X hF hb (λH hO hS=>y w H a ns hlen hO hS) λH e s'=>U w H j e s'
noncomputable def pC(s:dc):Ax:=match s with
 |.FunctionDef _ a _ _ _ _ _ _ _ _=>a
 |_=>{posonlyargs:=[],args:=[],vararg:=ag,kwonlyargs:=[],kw_defaults:=[],kwarg:=ag,defaults:=[]}
noncomputable def cV(s:dc):List dc:=match s with
 |.FunctionDef _ _ b _ _ _ _ _ _ _=>b
 |_=>[]
noncomputable def aJ(s:dc):gd:=match s with
 |.FunctionDef _ _ _ _ _ _ sc _ _ _=>sc
 |_=>{kind:=.function,names:=[],isGenerator:=ah,isCoroutine:=ah}
abbrev g7:J9:=λ_ _ _ _ _ _=>False
abbrev E0:XK:=λ_ _ _=>False
def yX:Passes g7 X E0:=λ_ _ _ _ _ _ _ h=>h.elim
structure U7 (K:aq) (x qual:ak) (st:dc) (f:ai) (fd:gn):Prop where
 ex:∃(oc:aj) (od:Option ai) (kV doc pm:aj) (an:Option ai) (cdv ct:aj) (osl:Array (Option aj)),
  fd=fnOf x qual (pC st) (cV st) (aJ st) .none kV doc pm an cdv ct/\K.lookup f=ae ⟨oc,od,.func fd,osl⟩/\codeIn K cdv qual=af
 kp:keepIn K (.ref f)=af
section
variable{P:bj}{w:bg}{K:aq}{mg:Q0d}{ω:bh}
theorem U7.ok{x qual:ak}{j:dc}{f:ai}{fd:gn}{N l:Q0g}{k:Nat}{sp:Sp}(F:U7 K x qual j f fd)(S:dN N l (aJ j))(len:∀vs H Q E,sp vs H Q E->⇑vs=⇑l)
  (d:∀(a:aj) (A:bx) (Γ:List fu) (s:ao) (H:Hp) (vs:List V) (Q:VK) (E:XK),dW k (A.deeper (envOfC qual (aJ j) ↥s f a))->sp vs H Q E ->
   ∃t,qN (kQ g7 P w K mg ω N qual (aJ j) f a A Γ s H E).DO (cV j) t/\t {nx:=λ_ H'=>Q .non H',rt:=Q} (start N vs) H):jE P w K mg ω g7 (k+1) f fd l sp:=by
 obtain⟨z,y,kV,doc,pm,I,a,ct,o,rfl,p,n⟩:=F.ex;show Eo p n S len λA Γ s H vs Q E v m=>?_;obtain⟨t,h,q⟩:=d a A Γ s H vs Q E v m;show⟨t,h.DO,q⟩
theorem aCG{x qual:ak}{d:dc}{f:ai}{n:aj}{m j:Option ai}{h:Array (Option aj)}{kV doc pm a ct:aj}(l:K.lookup f=ae ⟨n,m,.func (fnOf x qual (pC d) (cV d) (aJ d) .none kV doc pm j a ct),h⟩)
  (c:codeIn K a qual=af) (k:keepIn K (.ref f)=af):U7 K x qual d f (fnOf x qual (pC d) (cV d) (aJ d) .none kV doc pm j a ct):=⟨⟨n,m,kV,doc,pm,j,a,ct,h,rfl,l,c⟩,k⟩
end
def ξ(H H':Hp):Prop:=∀b o,H b=ae o->H' b=ae o
def ξ.refl(H:Hp):ξ H H:=λ_ _ h=>h
def ξ.trans{H H1 d:Hp}(a:ξ H H1)(b:ξ H1 d):ξ H d:=λc o h=>b c o (a c o h)
theorem ξ.free{H H':Hp}(e:ξ H H'){l:ai}(h:H' l=ag):H l=ag:=by
 cases q:H l with
 |none=>rfl
 |some o =>
  rw[e l o q] at h;cases h
section
variable{κ:Type}[DecidableEq κ]
def kR(χ:List (κ×V))(k:κ):Option V:=(χ.find? λa=>Zv (a.1=k)).map (·.2)
def putK(χ:List (κ×V))(k:κ)(v:V):List (κ×V) :=
 if(χ.any λa=>Zv (a.1=k))=af then χ.map (λa=>if a.1=k then(a.1,v) else a) else χ++[(k,v)]
def vO{p:κ×V}{r:List (κ×V)}{k:κ}(e:p.1=k):kR (p::r) k=ae p.2:=by simp[kR,ja,e]
def vP{p:κ×V}{r:List (κ×V)}{k:κ}(e:¬ p.1=k):kR (p::r) k=kR r k:=by simp[kR,ja,e]
theorem vQ(k:κ):∀χ:List (κ×V),(χ.any λa=>Zv (a.1=k))=(kR χ k).isSome
 |[]=>rfl
 |p::r=>by
  rw[kz];by_cases e:p.1=k
  .erw[vO e,Zx e,a2P,Option.isSome_some]
  .rw [vP e,Zy e,a2Q];show vQ k r
def rK(χ:List (κ×V))(k:κ)(v:V):⇑(putK χ k v)<=⇑χ+1:=by
 delta putK;split
 .rw [bb];lia
 .rw [gi,fj,nc];lia
def RF{χ:List (κ×V)}{k:κ}(v:V)(h:kR χ k=ag):putK χ k v=χ++[(k,v)]:=by delta putK;rw[vQ,h];show Zz ⋯
theorem lM.mI(r:lM o u):o.isSome=u.isSome:=by
 cases o with
 |none=>cases u with
  |none=>rfl
  |some _=>show(show False from r).elim
 |some _=>cases u with
  |none=>show(show False from r).elim
  |some _=>rfl
theorem lM.getD{o:Option V}{u:Option aj}{d:V}{d':aj}(r:lM o u)(rd:Ψ d d'):Ψ (o.getD d) (u.getD d'):=by
 cases o with
 |none=>cases u with
  |none=>show rd
  |some _=>show(show False from r).elim
 |some _=>cases u with
  |none=>show(show False from r).elim
  |some _=>show r
theorem KV.val{χ:List (κ×V)}{vs:List (κ×aj)}(r:KV χ vs)(k:κ):lM (kR χ k) (valueAt vs k):=by
 delta KV at r
 induction r with
 |nil=>show kl
 | @cons p q ps qs h t ih =>
  obtain⟨d,h2⟩:=h;by_cases e:p.1=k
  .have a:q.1=k:=d.symm.trans e;have b:valueAt (q::qs) k=ae q.2:=by simp[valueAt,ja,a]
   rw[vO e,b];show h2
  .have a:¬ q.1=k:=λz=>e (d.trans z);have b:valueAt (q::qs) k=valueAt qs k:=by simp[valueAt,ja,a]
   rw[vP e,b];show ih
theorem KV.any{χ:List (κ×V)}{vs:List (κ×aj)}(r:KV χ vs)(k:κ):(χ.any λa=>Zv (a.1=k))=vs.any λa=>Zv (a.1=k):=by
 delta KV at r
 induction r with
 |nil=>rfl
 |cons h t ih=>rw[kz,kz,ih,h.1]
theorem KV.repl(r:KV χ vs)(k:κ)(j:Ψ y u):
  KV (χ.map λa=>if a.1=k then(a.1,y) else a) (vs.map λa=>if a.1=k then(a.1,u) else a):=by
 delta KV at r ⊢
 induction r with
 |nil=>show .nil
 | @cons p q ps qs h t ih =>
  rw[bu,bu];show .cons ?_ ih;obtain⟨d,h2⟩:=h;by_cases e:p.1=k
  .rw [Z_ e,Z_ (d.symm.trans e)];show⟨d,j⟩
  .rw [Zz e,Zz (λz=>e (d.trans z))];show⟨d,h2⟩
def KV.put(r:KV χ vs)(k:κ)(a:Ψ y u):KV (putK χ k y) (stored vs k u):=by
 delta putK stored;rw[r.any k];by_cases e:(vs.any λd=>Zv (d.1=k))=af
 .rw [Z_ e,Z_ e];show r.repl k a
 .rw [Zz e,Zz e];show Aj r ⟨rfl,a⟩
def KV.length{χ:List (κ×V)}{vs:List (κ×aj)}(r:KV χ vs):⇑χ=⇑vs:=tm r
end
theorem rL(r:Ψ (kV k) u):(aW P w).is k u=af:=by
 cases k with
 |inl i=>obtain⟨t,e⟩:=(show ∃t,u=mw i t from r);subst e;show DI P w i t
 |inr x=>obtain⟨t,e⟩:=(show ∃t,u=Ag x t from r);subst e;show DJ P w x t
theorem yY:∀{ks:List Key} {us:Q0f},θ (ks.map kV) us->ItemsAre (aW P w) ks us
 |[],_,r=>by rw[m_] at r;cases r;show .nil
 |k::ks,_,r=>by
  rw[bu] at r
  cases r with
  |cons h t=>show .cons (rL h) (yY t)
abbrev KT(H:Hp):List (List Key×V)->List (List Key×ai×aj)->Prop:=jd λp q=>p.1=q.1/\H q.2.1=ae (.tup (p.1.map kV))/\Ψ p.2 q.2.2
theorem KT.val{H:Hp}{χ:List (List Key×V)}{xs:List (List Key×ai×aj)}(r:KT H χ xs)(k:List Key):lM (kR χ k) ((atKey xs k).map (·.2)):=by
 induction r with
 |nil=>show kl
 | @cons p q ps qs h t ih =>
  obtain⟨d,_,h2⟩:=h;by_cases e:p.1=k
  .have a:q.1=k:=d.symm.trans e;have b:atKey (q::qs) k=ae q.2:=by simp[atKey,ja,a]
   rw[vO e,b];show h2
  .have a:¬ q.1=k:=λz=>e (d.trans z);have b:atKey (q::qs) k=atKey qs k:=by simp[atKey,ja,a]
   rw[vP e,b];show ih
theorem KT.repl(r:KT H χ xs)(k:List Key)(j:Ψ y u):
  KT H (χ.map λd=>if d.1=k then(d.1,y) else d) (xs.map (putAt k u)):=by
 induction r with
 |nil=>show .nil
 | @cons p q ps qs h t ih =>
  rw[bu,bu];show .cons ?_ ih;obtain⟨a,h2,l⟩:=h;delta putAt;by_cases e:p.1=k
  .rw [Z_ e,Z_ (a.symm.trans e)];show⟨a,h2,j⟩
  .rw [Zz e,Zz (λz=>e (a.trans z))];show⟨a,h2,l⟩
theorem KT.put(r:KT H χ xs)(k:List Key)(h:H b=ae (.tup (k.map kV)))(a:Ψ y u):
  KT H (putK χ k y) (storedH xs k b u):=by
 have e:(χ.any λd=>Zv (d.1=k))=(atKey xs k).isSome:=by rw[vQ,(r.val k).mI,we]
 delta putK storedH;rw[e];by_cases q:(atKey xs k).isSome=af
 .rw [Z_ q,Z_ q];show r.repl k a
 .rw [Zz q,Zz q];show Aj r ⟨rfl,h,a⟩
def KT.keeps(r:KT H χ xs)(a:∀b ys,H b=ae (.tup ys)->H' b=ae (.tup ys)):KT H' χ xs :=
 Paired.y_ r λ_ _ z=>⟨z.1,a _ _ z.2.1,z.2.2⟩
section
variable{P:bj}{w:bg}{H:Hp}{h:bh}{a:ai}
def En(ok:mL P w H h)(e:Rd H a u):cK P w H h a u:=e.ok ok
def RG(ok:mL P w H h)(e:Rd H a (.dK χ)):⇑χ<=bq/\(a == sysModules)=ah /\∃vs,KV χ vs/\h.DictOf (aW P w) a vs :=
 show cK P w H h a (.dK χ) from En ok e
def Yf(ok:mL P w H h)(e:H a=ae (.dK χ)):⇑χ<=bq/\(a == sysModules)=ah /\∃vs,KV χ vs/\h.DictOf (aW P w) a vs:=RG ok (.inl e)
def BI(ok:mL P w H h)(e:H a=ae (.tup (ks.map kV))):(tupleKind (aW P w)).is h ks a:=by obtain⟨_,d,r,⟨o,l,h2,n,j⟩,_⟩:=(show cK P w H h a (.tup (ks.map kV)) from ok a _ e);show⟨o,d.toArray,n,l,h2,j,by simpa using yY r⟩
theorem RH(ok:mL P w H h)(e:Rd H a (.dT χ)):⇑χ<=bq/\(a == sysModules)=ah /\
  ∃xs,KT H χ xs/\h.DictOfH (tupleKind (aW P w)) a xs:=by
 obtain⟨z,y,xs,r,o,F,I,A,h2,v,n,j⟩:=(show cK P w H h a (.dT χ) from En ok e);show⟨z,y,xs,r,o,F,I,A,h2,v,n,λx d=>?_,j⟩;have all:∀{l:List (List Key×V)} {m:List (List Key×ai×aj)},KT H l m ->∀x∈m,(tupleKind (aW P w)).is h x.1 x.2.1:=by
  intro l m q
  induction q with
  |nil=>intro x d;show nomatch d
  | @cons p q ps qs hq t ih =>
   intro x d;rcases cg.mp d with e|d
   .subst e;show BI ok (by rw[<- hq.1];show hq.2.1)
   .exact ih x d
 show all r x d
theorem Ye(ok:mL P w H h)(e:H a=ae (.dT χ)):⇑χ<=bq/\(a == sysModules)=ah /\
  ∃xs,KT H χ xs/\h.DictOfH (tupleKind (aW P w)) a xs:=RH ok (.inl e)
end
def MZ(H:Hp)(a:ai)(y:V)(r:Option V):Prop :=
 (∃χ k,Rd H a (.dK χ)/\y=kV k/\r=kR χ k) \/∃χ k b,Rd H a (.dT χ)/\y=.ref b/\H b=ae (.tup (k.map kV))/\r=kR χ k
def RI(H:Hp)(a:ai)(y v:V)(H':Hp):Prop :=
 (∃χ k,H a=ae (.dK χ)/\y=kV k/\⇑χ<bq/\H'=upd H a (.dK (putK χ k v))) \/
 ∃χ k b,H a=ae (.dT χ)/\y=.ref b/\H b=ae (.tup (k.map kV))/\⇑χ<bq/\H'=upd H a (.dT (putK χ k v))
def MZ.k{H:Hp}{a:ai}{χ:List (Key×V)}{k:Key}(e:H a=ae (.dK χ)):MZ H a (kV k) (kR χ k):=.inl ⟨χ,k,.inl e,rfl,rfl⟩
def RI.k{H:Hp}{a:ai}{χ:List (Key×V)}{k:Key}{v:V}(e:H a=ae (.dK χ))(d:⇑χ<bq):RI H a (kV k) v (upd H a (.dK (putK χ k v))):=.inl ⟨χ,k,e,rfl,d,rfl⟩
variable{X:Cx}
section
variable{π:Q0b}{σ:St}{H:Hp}{s:ao}{a:ai}{y v:V}{u r:aj}{o:Option V}{A:bx}{E:Q0c}
def Φ.big(I:Φ X π σ H s):sysModules<↥s:=by have h:ie<↥s:=(I.mod.glob.keeps I.bk).lt;show wj ⋯ h
theorem M4(F:A.units+1<dq)(I:Φ X π σ H s)(g:MZ H a y (ae v))(x:Ψ y u)(h:∀d s',Φ X π σ H s'->Ψ v d->Q d s'):
  az (au X.Ω X.w) A (getItem (.ref a) u) Q E s:=by
 rcases g with⟨χ,k,e,m,l⟩|⟨χ,k,b,e,m,L,l⟩
 .subst m;obtain⟨z,K,vs,rel,n⟩:=RG I.hok e;obtain⟨d,hw,q⟩:=lM.some_of (v:=v) (o:=valueAt vs k) (by rw[l];show rel.val k);show a0m (rL x) n.mapOf hw (h d _ (I.tok _) q)
 .subst m;cases (show u=f_ b from x);obtain⟨z,K,xs,rel,n⟩:=RH I.hok e;obtain⟨d,hw,q⟩:=lM.some_of (v:=v) (o:=(atKey xs k).map (·.2)) (by rw[l];show rel.val k);obtain⟨p,J,j⟩:=jf.mp hw;show a0n (a0v F) (BI I.hok L) n J ?_;rw[j];show h d _ (I.tok _) q
theorem tH(I:Φ X π σ H s)(d:Mut (H a))(h:qv a s.heap h')(j:∃q,h'.get? a=ae q)(new:cK X.Ω X.w (upd H a ob) h' a ob):
  Φ X π σ (upd H a ob) {s with heap:=h',toks:=t' } :=
 I.write (x:=a) (e:=a) d (.inl rfl) (λb q l z=>(h.2 b l).trans z) j new
theorem aCH(z:⇑χ<=bq)(d:(a == sysModules)=ah)(rel:KV χ vs)(h:h'.DictOf (aW P w) a vs):
  cK P w H' h' a (.dK χ):=⟨z,d,vs,rel,h⟩
theorem M5(Z:A.units+1<dq)(I:Φ X π σ H s)(g:RI H a y v H')(L:Ψ y u)(O:Ψ v r)(h:∀s',Φ X π σ H' s'->Q () s'):
  az (au X.Ω X.w) A (setItem (.ref a) u r) Q E s:=by
 rcases g with⟨χ,k,e,F,l,J⟩|⟨χ,k,b,e,F,Y,l,J⟩
 .subst F J;obtain⟨z,x,vs,rel,K⟩:=Yf I.hok e;have m:⇑vs<=bq:=by rw[<- ⇑rel];show z
  have p:⇑(putK χ k v)<=bq:=by have:=rK χ k v;lia
  show a0e (hsz:=m) (rL L) K λh' d n=>h _ ?_;have he:∃q,h'.get? a=ae q:=let ⟨q,_,_,j,_⟩:=d;⟨q,j⟩;show tH I (by rw[e];show kl) n he (aCH p x (rel.put k O) d)
 .subst F J;cases (show u=f_ b from L);obtain⟨z,x,xs,rel,K⟩:=Ye I.hok e;have m:⇑xs<=bq:=by rw[<- tm rel];show z
  have p:⇑(putK χ k v)<=bq:=by have:=rK χ k v;lia
  show a0f (hsz:=m) (a0v Z) (BI I.hok Y) K λh' d n=>h _ ?_;obtain⟨q,es,ep,j,h2,h3,h4,_,h5⟩:=d;show tH I (by rw[e];show kl) n ⟨q,j⟩ ⟨p,x,_,(rel.put k Y O).keeps λc ys U=>?_,q,es,ep,j,h2,h3,h4,h5⟩;rw[aP (Eu U e (λz=>nomatch z))];show U
end
def G3(i:av):Prop:=∀a d,subscripted i ah a d=operate [a,d] (getItem a d)
theorem KN{Ω:bj}{w:bg}{A:bx}{E:Q0c}{s:ao}{env:fu}{value slice:av}{q:br}{T id:String}{Q:Q0c}
  (y:typeLookup (.type T) "__getitem__"=pure (ae (.builtin id))) (v:G3 slice)
  (h:az (au Ω w) A (eval value env) (λo l=>az (au Ω w) A (eval slice env) (λi a=>a.TypeIs o T/\az (au Ω w) A (getItem o i) Q E a) E l) E s):
  az (au Ω w) A (eval (.Subscript value slice q) env) Q E s:=by
 show Hi (jb h (λo l n=>jb n (λi a d=>?_) λ_ _ x=>x) λ_ _ x=>x);obtain⟨p,d⟩:=d;delta subscriptTail;show ar ?_;rw[getitemInPython_of_ne p.not_modules];show ar (Fu p y ?_);have fin:az (au Ω w) A (subscripted slice ah o i) (λr j=>az (au Ω w) A (letTemporaryGo value o r >>= λ_=>pure r) Q E j) E a:=by rw[v o i];show wpAny_operating (jb d (λr j m=>ar (wpAny_letTemporaryGo (a_ m))) λ_ _ x=>x)
 first
  |show a_ (ar fin)
  |show ar (a_ (ar fin))
  |show ar fin
def DU(I:Φ X π σ H s)(g:MZ H a y o):s.TypeIs (.ref a) "dict":=by
 rcases g with⟨χ,k,e,_,_⟩|⟨χ,k,b,e,_,_,_⟩
 .obtain ⟨_,_,vs,_,d⟩:=RG I.hok e;show d.typeIs
 .obtain ⟨_,_,xs,_,d⟩:=RH I.hok e;show d.typeIs
def Xq(h ty:TE):TE:=λσ H Q=>h σ H λx H1=>ty σ H1 λy d=>∃a v,x=.ref a/\MZ d a y (ae v)/\Q v d
def Xp(j ty h:TE):TS:=λD σ H=>h σ H λv H1=>j σ H1 λx m=>ty σ m λy l=>∃a d,x=.ref a/\RI l a y v d/\D.nx σ d
section
variable{o i e value:av}{ν pos' tpos:br}{td ty tv:TE}
def X5(n:X.A.units+1<dq)(ho:PE X o td)(q:PE X i ty)(p:G3 i):PE X (.Subscript o i ν) (Xq td ty):=by intro π s σ H Q I h;show KN a1e.lookup p (dB (ho π s σ H _ I h) λu j ⟨x,H1,F,m,q1⟩=>dB (q π j σ H1 _ F q1) λU O ⟨y,J,d,l,a,v,ex,g,q2⟩=>?_);subst ex;obtain rfl:u=f_ a:=m;show⟨DU d g,M4 n d g l λL s3 z K=>⟨v,J,z,K,q2⟩⟩
theorem X6(z:X.A.units+1<dq)(ho:PE X o td)(J:PE X i ty)(q:PE X value tv)(F:gq value (ae (.Subscript o i pos')) ν.line X.env=pure ah):
  PS X (.Assign [.Subscript o i pos'] value ν) (Xp td ty tv):=by
 intro π s σ H D I h;show a0u (dB (q π s σ H _ I h) λr j ⟨v,H1,U,n,q1⟩=>dB (ho π j σ H1 _ U q1) λu d ⟨x,Z,O,m,q2⟩=>dB (J π d σ Z _ O q2) λiv s3 ⟨y,H3,L,l,a,Y,ex,g,p⟩=>?_) F;subst ex;obtain rfl:u=f_ a:=m;show M5 z L g l n λs4 K=>⟨σ,Y,K,p⟩
end
def RJ(h:bh)(a:sysModules<h.objs.size):cK P w H (h.push {cls:=.type "dict",data:=.dict #[]}) h.objs.size (.dK []) :=
 ⟨gw _,beq_eq_false_iff_ne.mpr (gb (gg a)),[],.nil,a3n h⟩
def aCI:TE:=λ_ H Q=>∀p,H p=ag->Q (.ref p) (upd H p (.dK []))
section
variable{ν:br}
def RK:PE X (.Dict [] [] ν) aCI:=λπ s σ H Q I h =>
 a0t ⟨.ref ↥s,_,I.laid (a:=↥s) (o:=.dK []) (t':=s.toks) (λ_ _ q=>cy _ q) (bt _) (RJ s.heap I.big),rfl,h _ (I.hok.fresh (bt _))⟩
end
end L2
end
namespace L3
open L2
def Scr(K:aq)(H:Hp)(a:ai)(ns:Q0e):Prop:=(∃o,H a=ae (.tF o (.lst (ns.map V.int))))\/dM K (λ_=>ag) a (ns.map V.int)
def Rw(S:ai->Prop)(H:Hp)(xs:Q0a)(p:ai):Prop:=∃as:List ai,H p=ae (.lst (as.map V.ref))/\as.Nodup/\(∀a∈as,S a)/\as.map H=xs.map λx=>ae (.lst (x.map V.int))
mutual
noncomputable def Dn(K:aq)(S:ai->Prop)(H:Hp):D->V->Prop
 |.non,v=>v=.non
 |.bl b,v=>v=.bl b
 |.int i,v=>v=.int i
 |.str x,v=>v=.str x
 |.tup ds,v=>∃a xs,v=.ref a/\H a=ae (.tup xs)/\aK K S H ds xs
 |.lst ds,v=>∃a xs,v=.ref a/\H a=ae (.lst xs)/\S a/\aK K S H ds xs
 |.lZ ns,v=>∃a,v=.ref a/\Scr K H a ns
 |.iV ks ds,v=>∃a xs,v=.ref a/\H a=ae (.dK (ks.zip xs))/\S a/\⇑ks=⇑xs/\aK K S H ds xs
 |.aY q ks ds,v=>∃a o χ,v=.ref a/\H a=ae (.dX o χ)/\S a/\(χ.map (·.1)=ks/\q a o)/\aK K S H ds (χ.map (·.2.2))
 |.exc _ a,v=>v=.ref a
 |.rws xs,v=>∃a,v=.ref a/\S a/\Rw S H xs a
noncomputable def aK(K:aq)(S:ai->Prop)(H:Hp):List D->List V->Prop
 |[],xs=>xs=[]
 |d::ds,xs=>∃v r,xs=v::r/\Dn K S H d v/\aK K S H ds r
end
structure Fits (K:aq) (S S':ai->Prop) (H H':Hp):Prop where
 t:∀a xs,H a=ae (.tup xs)->H' a=ae (.tup xs)
 s:∀a ns,Scr K H a ns->Scr K H' a ns
 l:∀a xs,H a=ae (.lst xs)->S a->H' a=ae (.lst xs)/\S' a
 d:∀a xs,H a=ae (.dK xs)->S a->H' a=ae (.dK xs)/\S' a
 e:∀a o xs,H a=ae (.dX o xs)->S a->H' a=ae (.dX o xs)/\S' a
section
variable{K:aq}{S S':ai->Prop}{H H':Hp}
def Rw.fits(f:Fits K S S' H H')(v:∀ys,H p=ae (.lst ys)->H' p=ae (.lst ys))(h:Rw S H xs p):Rw S' H' xs p:=by
 obtain⟨as,y,h2,q,o⟩:=h;have m:⇑as=⇑xs:=by have:=congrArg uz o;simpa using this
 have j:∀i (d:i<⇑as),H as[i]=ae (.lst ((xs[i]'(m▸d)).map V.int)):=λi d=>by have:=congrArg (λl=>l[i]?) o;simpa[d,m▸d] using this
 show⟨as,v _ y,h2,λa n=>?_,a2w ↑m λi d x=>?_⟩
 .obtain ⟨i,d,rfl⟩:=og n;show(f.l _ _ (j i d) (q _ n)).2
 .rw [bb] at d;rw[a2p,a2p];show(f.l _ _ (j i d) (q _ (wx d))).1
mutual
theorem Dn.fits(f:Fits K S S' H H'):∀(d:D) (v:V),Dn K S H d v->Dn K S' H' d v
 |.non,v,h=>by simpa only[Dn] using h
 |.bl b,v,h=>by simpa only[Dn] using h
 |.int i,v,h=>by simpa only[Dn] using h
 |.str x,v,h=>by simpa only[Dn] using h
 |.tup ds,v,h=>by symm at h ⊢;obtain⟨a,xs,e,q,r⟩:=h;show⟨a,xs,e,f.t a xs q,aK.fits f ds xs r⟩
 |.lst ds,v,h=>by symm at h ⊢;obtain⟨a,xs,e,q,s,r⟩:=h;obtain⟨j,s'⟩:=f.l a xs q s;show⟨a,xs,e,j,s',aK.fits f ds xs r⟩
 |.lZ ns,v,h=>by symm at h ⊢;obtain⟨a,e,q⟩:=h;show⟨a,e,f.s a ns q⟩
 |.iV ks ds,v,h=>by symm at h ⊢;obtain⟨a,xs,e,q,s,l,r⟩:=h;obtain⟨j,s'⟩:=f.d a _ q s;show⟨a,xs,e,j,s',l,aK.fits f ds xs r⟩
 |.aY _ ks ds,v,h=>by symm at h ⊢;obtain⟨a,o,χ,e,q,s,l,r⟩:=h;obtain⟨j,s'⟩:=f.e a _ _ q s;show⟨a,o,χ,e,j,s',l,aK.fits f ds _ r⟩
 |.exc _ _,v,h=>by simpa only[Dn] using h
 |.rws xs,v,h=>by symm at h ⊢;obtain⟨a,e,s,r⟩:=h;obtain⟨as,m,h2⟩:=r;show⟨a,e,(f.l a _ m s).2,Rw.fits f (λys e1=>(f.l a ys e1 s).1) ⟨as,m,h2⟩⟩
theorem aK.fits(f:Fits K S S' H H'):∀(ds:List D) (xs:List V),aK K S H ds xs->aK K S' H' ds xs
 |[],xs,h=>by simpa only[aK] using h
 |d::ds,xs,h=>by erw[aK] at h ⊢;obtain⟨v,r,e,a,h2⟩:=h;show⟨v,r,e,Dn.fits f d v a,aK.fits f ds r h2⟩
end
mutual
theorem Dn.M6:∀(d:D) (v:V),d.B8=af->Dn K S H d v->Dn K S' H d v
 |.non,v,_,h=>by simpa only[Dn] using h
 |.bl b,v,_,h=>by simpa only[Dn] using h
 |.int i,v,_,h=>by simpa only[Dn] using h
 |.str x,v,_,h=>by simpa only[Dn] using h
 |.tup ds,v,hi,h=>by symm at h ⊢;obtain⟨a,xs,e,q,r⟩:=h;show⟨a,xs,e,q,aK.M6 ds xs (by simpa only[D.B8] using hi) r⟩
 |.lst _,v,hi,h=>by erw[D.B8] at hi;cases hi
 |.lZ ns,v,_,h=>by simpa only[Dn] using h
 |.iV _ _,v,hi,h=>by erw[D.B8] at hi;cases hi
 |.aY _ _ _,v,hi,h=>by erw[D.B8] at hi;cases hi
 |.exc _ _,v,_,h=>by simpa only[Dn] using h
 |.rws _,v,hi,h=>by erw[D.B8] at hi;cases hi
theorem aK.M6:∀(ds:List D) (xs:List V),kX ds=af->aK K S H ds xs->aK K S' H ds xs
 |[],xs,_,h=>by simpa only[aK] using h
 |d::ds,xs,hi,h=>by erw[kX,gr] at hi;erw[aK] at h ⊢;obtain⟨v,r,e,a,h2⟩:=h;show⟨v,r,e,Dn.M6 d v hi.1 a,aK.M6 ds r hi.2 h2⟩
end
def Dn.B8(a:d.B8=af)(h:Dn K S H d v):Dn K S' H d v:=Dn.M6 d v a h
def aK.B8(a:kX ds=af)(h:aK K S H ds xs):aK K S' H ds xs:=aK.M6 ds xs a h
def dM.some(h:dM K (λ_=>ag) a xs):dM K H a xs:=by
 rcases h with(h|⟨o,h⟩)|h
 .cases h
 .cases h
 .exact .inr h
def Scr.sq(h:Scr K H a ns):dM K H a (ns.map V.int):=by
 rcases h with⟨o,h⟩|h
 .exact .inl (.inr ⟨o,h⟩)
 .exact dM.some h
def Wr(H:Hp)(p:ai):Prop:=(∃xs,H p=ae (.lst xs))\/(∃xs,H p=ae (.dK xs)) \/∃o xs,H p=ae (.dX o xs)
def Wr.tup(w:Wr H p)(h:H a=ae (.tup xs)):upd H p o a=ae (.tup xs):=by
 rw[aP]
 .exact h
 .intro e;subst e;rcases w with⟨ys,w⟩|⟨ys,w⟩|⟨_,ys,w⟩<;>rw[h] at w<;>cases w
def Wr.lZ(w:Wr H p)(h:Scr K H a ns):Scr K (upd H p o) a ns:=by
 rcases h with⟨d,h⟩|h
 .refine .inl ⟨d,?_⟩;rw[aP]
  .exact h
  .intro e;subst e;rcases w with⟨ys,w⟩|⟨ys,w⟩|⟨_,ys,w⟩<;>rw[h] at w<;>cases w
 .exact .inr h
def Fits.same(e:ξ H H'):Fits K S S H H' :=
 ⟨λa xs h=>e _ _ h,λa ns h=>h.elim (λ⟨o,h⟩=>.inl ⟨o,e _ _ h⟩) .inr,λa xs h s=>⟨e _ _ h,s⟩,λa xs h s=>⟨e _ _ h,s⟩,λa _ xs h s=>⟨e _ _ h,s⟩⟩
def Fits.mono(m:∀a,S a->S' a):Fits K S S' H H :=
 ⟨λ_ _ h=>h,λ_ _ h=>h,λa _ h s=>⟨h,m a s⟩,λa _ h s=>⟨h,m a s⟩,λa _ _ h s=>⟨h,m a s⟩⟩
def Fits.fresh(d:H p=ag):Fits K S (λa=>S a/\a≠p) H H :=
 ⟨λ_ _ h=>h,λ_ _ h=>h,λa _ h s=>⟨h,s,aT h d⟩,λa _ h s=>⟨h,s,aT h d⟩,λa _ _ h s=>⟨h,s,aT h d⟩⟩
def Fits.upd(w:Wr H p)(j:¬ S p):Fits K S S H (upd H p o):=by have d:∀a,S a->a≠p:=λa s e=>j (e▸s);show⟨λa xs h=>w.tup h,λa ns h=>w.lZ h,λa xs h s=>⟨by rw[aP (d a s)];show h,s⟩,λa xs h s=>⟨by rw[aP (d a s)];show h,s⟩,λa _ xs h s=>⟨by rw[aP (d a s)];show h,s⟩⟩
def Fits.trans(a:Fits K S S' H H')(b:Fits K S' S'' H' H''):Fits K S S'' H H'' :=
 ⟨λx xs h=>b.t x xs (a.t x xs h),λx ns h=>b.s x ns (a.s x ns h),λx xs h s=>let ⟨h1,s1⟩:=a.l x xs h s;b.l x xs h1 s1,λx xs h s=>let ⟨h1,s1⟩:=a.d x xs h s;b.d x xs h1 s1,λx o xs h s=>let ⟨h1,s1⟩:=a.e x o xs h s;b.e x o xs h1 s1⟩
def aI(a:H p=ag):ξ H (upd H p o):=λb u h=>by rw[aP (aT h a)];show h
theorem aK.len:∀{ds:List D} {xs:List V},aK K S H ds xs->⇑ds=⇑xs
 |[],xs,h=>by erw[aK] at h;subst h;rfl
 |d::ds,xs,h=>by erw[aK] at h;obtain⟨v,r,e,_,h2⟩:=h;subst e;simp[aK.len h2]
theorem aK.get:∀{ds:List D} {xs:List V} {i:Nat} {d:D},aK K S H ds xs->ds[i]?=ae d ->∃v,xs[i]?=ae v/\Dn K S H d v
 |[],xs,i,d,h,e=>by simp at e
 |d::ds,xs,i,d',h,e=>by
  erw[aK] at h;obtain⟨v,r,e1,a,h2⟩:=h;subst e1
  cases i with
  |zero=>simp at e;subst e;show⟨v,by simp,a⟩
  |succ i =>
   obtain⟨u,j,q⟩:=aK.get (i:=i) (d:=d') h2 ↑e;show⟨u,↑j,q⟩
def aK.nil:aK K S H [] []:=by erw[aK]
def aK.cons(h:Dn K S H d v)(t:aK K S H ds xs):aK K S H (d::ds) (v::xs):=by erw[aK];show⟨v,xs,rfl,h,t⟩
def aK.bA(h:aK K S H (d::ds) xs):∃v r,xs=v::r/\Dn K S H d v/\aK K S H ds r:=by simpa only[aK] using h
theorem aK.append:∀{ds a:List D} {xs ys:List V},aK K S H ds xs->aK K S H a ys->aK K S H (ds++a) (xs++ys)
 |[],a,xs,ys,h,g=>by erw[aK] at h;subst h;show g
 |d::ds,a,xs,ys,h,g=>by obtain⟨v,r,e,j,h2⟩:=h.bA;subst e;show aK.cons j (aK.append h2 g)
def aK.one(h:Dn K S H d v):aK K S H [d] [v]:=aK.cons h aK.nil
theorem aK.take:∀{ds:List D} {xs:List V} (n:Nat),aK K S H ds xs->aK K S H (ds.take n) (xs.take n)
 |_,_,0,_=>by simp[aK.nil]
 |[],xs,n+1,h=>by erw[aK] at h;subst h;simp[aK.nil]
 |d::ds,xs,n+1,h=>by obtain⟨v,r,e,a,h2⟩:=h.bA;subst e;simpa using aK.cons a (aK.take n h2)
theorem aK.drop:∀{ds:List D} {xs:List V} (n:Nat),aK K S H ds xs->aK K S H (ds.drop n) (xs.drop n)
 |_,_,0,h=>by simpa using h
 |[],xs,n+1,h=>by erw[aK] at h;subst h;simp[aK.nil]
 |d::ds,xs,n+1,h=>by obtain⟨v,r,e,a,h2⟩:=h.bA;subst e;simpa using aK.drop n h2
theorem aK.set:∀{ds:List D} {xs:List V} {d:D} {v:V} (n:Nat),Dn K S H d v->aK K S H ds xs->aK K S H (ds.set n d) (xs.set n v)
 |[],xs,d,v,n,h,g=>by erw[aK] at g;subst g;simp[aK.nil]
 |d::ds,xs,d',v',n,h,g=>by
  obtain⟨v,r,e,a,h2⟩:=g.bA;subst e
  cases n with
  |zero=>show aK.cons h h2
  |succ n=>show aK.cons a (aK.set n h h2)
theorem aK.erase:∀{ds:List D} {xs:List V} (n:Nat),aK K S H ds xs->aK K S H (ds.eraseIdx n) (xs.eraseIdx n)
 |[],xs,n,g=>by erw[aK] at g;subst g;simp[aK.nil]
 |d::ds,xs,n,g=>by
  obtain⟨v,r,e,a,h2⟩:=g.bA;subst e
  cases n with
  |zero=>show h2
  |succ n=>show aK.cons a (aK.erase n h2)
theorem aK.ints:∀{ns:Q0e} {xs:List V},aK K S H (ns.map D.int) xs↔xs=ns.map V.int
 |[],xs=>by simp[aK]
 |n::ns,xs=>by
  rw[bu,bu]
  constructor
  .intro h;obtain⟨v,r,e,a,h2⟩:=h.bA;symm at a;rw[e,a,aK.ints.mp h2]
  .intro e;rw[e];show aK.cons (by symm) (aK.ints.mpr rfl)
end
def Sl(K:aq)(S:ai->Prop)(H:Hp)(ρ:cN)(σ:St):Prop:=∀(i:Nat) (d:D),ρ[i]?=ae (ae d) ->∃v,σ[i]?=ae (ae v)/\Dn K S H d v
theorem Sl.fits{K:aq}{S S':ai->Prop}{H H':Hp}{ρ:cN}{σ:St}(f:Fits K S S' H H')(h:Sl K S H ρ σ):Sl K S' H' ρ σ:=λi d e =>
 let ⟨v,e1,q⟩:=h i d e;⟨v,e1,Dn.fits f d v q⟩
def sI(K:aq)(S:ai->Prop)(H:Hp)(d:D)(p:ai):Prop :=
 match d with
 |.lst ds=>∃xs,H p=ae (.lst xs)/\aK K S H ds xs
 |.iV ks ds=>∃xs,H p=ae (.dK (ks.zip xs))/\⇑ks=⇑xs/\aK K S H ds xs
 |.aY q ks ds=>∃o χ,H p=ae (.dX o χ)/\(χ.map (·.1)=ks/\q p o)/\aK K S H ds (χ.map (·.2.2))
 |.rws xs=>Rw S H xs p
 |_=>False
def SO(S:ai->Prop)(w:Nat->ai)(ρ:bB):ai->Prop:=λa=>S a /\∀(i:Nat) (d:D),ρ[i]?=ae (Sv.ow d)->a≠w i
structure ST (K:aq) (H₀:Hp) (S:ai->Prop) (w:Nat->ai) (σ:St) (H:Hp) (ρ:bB) (G:List (D×V)):Prop where
 fc:∀a,H₀ a=ag->S a
 sm:ξ H₀ H
 own:∀(i:Nat) (d:D),ρ[i]?=ae (Sv.ow d)->σ[i]?=ae (ae (.ref (w i)))/\H₀ (w i)=ag/\sI K (SO S w ρ) H d (w i)
 inj:∀(i j:Nat) (d e:D),ρ[i]?=ae (Sv.ow d)->ρ[j]?=ae (Sv.ow e)->w i=w j->i=j
 ro:∀(i:Nat) (d:D),ρ[i]?=ae (Sv.ro d) ->∃v,σ[i]?=ae (ae v)/\Dn K (SO S w ρ) H d v
 gh:∀g∈G,Dn K (SO S w ρ) H g.1 g.2
 rw:∀(i:Nat) (xs:Q0a),ρ[i]?=ae (Sv.ow (.rws xs)) ->∀ys,H (w i)=ae (.lst ys) ->∀a,V.ref a∈ys->H₀ a=ag
section
variable{K:aq}{H₀ H H':Hp}{S S':ai->Prop}{w:Nat->ai}{σ:St}{ρ:bB}{G:List (D×V)}
theorem sI.wr(h:sI K S H d p):Wr H p:=by
 cases d with
 |lst ds=>obtain⟨xs,e,_⟩:=h;show .inl ⟨_,e⟩
 |iV ks ds=>obtain⟨xs,e,_⟩:=h;show .inr (.inl ⟨_,e⟩)
 |aY q0 ks ds=>obtain⟨o,χ,e,_⟩:=h;show .inr (.inr ⟨_,_,e⟩)
 |rws xs=>obtain⟨_,e,_⟩:=h;show .inl ⟨_,e⟩
 |_=>show kj h
theorem sI.dn{d:D}{p:ai}(h:sI K S H d p)(j:S' p)(m:∀a,S a->S' a):Dn K S' H d (.ref p):=by
 cases d with
 |lst ds=>obtain⟨xs,e,q⟩:=h;symm;show⟨p,xs,rfl,e,j,aK.fits (.mono m) ds xs q⟩
 |iV ks ds=>obtain⟨xs,e,l,q⟩:=h;symm;show⟨p,xs,rfl,e,j,l,aK.fits (.mono m) ds xs q⟩
 |aY q0 ks ds=>obtain⟨o,χ,e,l,q⟩:=h;symm;show⟨p,o,χ,rfl,e,j,l,aK.fits (.mono m) ds _ q⟩
 |rws xs=>symm;show⟨p,rfl,j,Rw.fits (.mono (K:=K) m) (λ_ e=>e) h⟩
 |_=>show kj h
theorem sI.fits{d:D}{p:ai}(f:Fits K S S' H H')(a:∀o,H p=ae o->H' p=ae o)(h:sI K S H d p):sI K S' H' d p:=by
 cases d with
 |lst ds=>obtain⟨xs,e,q⟩:=h;show⟨xs,a _ e,aK.fits f ds xs q⟩
 |iV ks ds=>obtain⟨xs,e,l,q⟩:=h;show⟨xs,a _ e,l,aK.fits f ds xs q⟩
 |aY q0 ks ds=>obtain⟨o,χ,e,l,q⟩:=h;show⟨o,χ,a _ e,l,aK.fits f ds _ q⟩
 |rws xs=>show Rw.fits f (λ_ e=>a _ e) h
 |_=>show kj h
def ST.rwN(h:ST K H₀ S w σ H ρ G)(q:ρ[i]?=ae (Sv.ow (.rws xs)))(j:∀o,H (w i)=ae o->H' (w i)=ae o):∀ys,H' (w i)=ae (.lst ys) ->∀a,V.ref a∈ys->H₀ a=ag:=λys d=>by obtain⟨as,e,_⟩:=(h.own i _ q).2.2;rw[j _ e] at d;cases d;show h.rw i xs q _ e
def ST.RL(h:ST K H₀ S w σ H ρ G):∀a,H a=ag->S a:=λa e=>h.fc a (h.sm.free e)
def ST.FN(h:ST K H₀ S w σ H ρ G):∀a,H a=ag->SO S w ρ a:=λa e=>⟨h.RL a e,λi d q z=>by have wr:=(h.own i d q).2.2.wr;subst z;rcases wr with⟨xs,k⟩|⟨xs,k⟩|⟨_,xs,k⟩<;>rw[e] at k<;>cases k⟩
theorem xJ{i:Nat}{d:D}(h:(bH ρ)[i]?=ae (ae d)):ρ[i]?=ae (Sv.ro d)\/ρ[i]?=ae (Sv.ow d):=by
 delta bH at h;rw[c_] at h
 cases e:ρ[i]? with
 |none=>rw[e] at h;cases h
 |some s =>
  rw[e] at h
  cases s with
  |no=>cases h
  |ro d'=>cases h;show .inl rfl
  |ow d'=>cases h;show .inr rfl
theorem BJ{i:Nat}{d:D}(h:(fZ ρ)[i]?=ae (ae d)):ρ[i]?=ae (Sv.ro d):=by
 delta fZ at h;rw[c_] at h
 cases e:ρ[i]? with
 |none=>rw[e] at h;cases h
 |some s =>
  rw[e] at h
  cases s with
  |no=>cases h
  |ro d'=>cases h;rfl
  |ow d'=>cases h
def ST.all(h:ST K H₀ S w σ H ρ G):Sl K S H (bH ρ) σ:=λi d e=>by
 rcases xJ e with e|e
 .obtain ⟨v,e1,q⟩:=h.ro i d e;show⟨v,e1,Dn.fits (.mono λ_ z=>z.1) d v q⟩
 .obtain ⟨e1,a,q⟩:=h.own i d e;show⟨_,e1,q.dn (h.fc _ a) λ_ z=>z.1⟩
def ST.rd(h:ST K H₀ S w σ H ρ G):Sl K (SO S w ρ) H (fZ ρ) σ:=λi d e=>h.ro i d (BJ e)
def ST.same(h:ST K H₀ S w σ H ρ G)(e:ξ H H'):ST K H₀ S w σ H' ρ G :=
 ⟨h.fc,h.sm.trans e,λi d q=>let ⟨a,b,c⟩:=h.own i d q;⟨a,b,c.fits (.same e) λo z=>e _ o z⟩,h.inj,λi d q=>let ⟨v,a,b⟩:=h.ro i d q;⟨v,a,Dn.fits (.same e) d v b⟩,λg j=>Dn.fits (.same e) _ _ (h.gh g j),λi xs q=>h.rwN q λo z=>e _ o z⟩
def SO.mono{h:bB}(hw:∀(i:Nat) (d:D),h[i]?=ae (Sv.ow d) ->∃e,ρ[i]?=ae (Sv.ow e)):∀a,SO S w ρ a->SO S w h a:=λa j=>by obtain⟨s,n⟩:=j;show⟨s,λi d e=>let ⟨d',e'⟩:=hw i d e;n i d' e'⟩
def get_set{α:Type}{l:List α}{i j:Nat}{x y:α}(h:(l.set i x)[j]?=ae y):(j=i/\y=x/\i<⇑l)\/(j≠i/\l[j]?=ae y):=by
 by_cases e:j=i
 .subst e;by_cases a:j<⇑l
  .rw [nh a] at h;show .inl ⟨rfl,(dg h).symm,a⟩
  .rw [ji (by simp;lia)] at h;cases h
 .rw [jq (gb e)] at h;show .inr ⟨e,h⟩
theorem ST.kK{i:Nat}{d:D}{v:V}(h:ST K H₀ S w σ H ρ G)(y:i<⇑σ)(q:Dn K (SO S w ρ) H d v):ST K H₀ S w (σ.set i (ae v)) H (ρ.set i (.ro d)) G:=by
 have hw:∀(j:Nat) (e:D),(ρ.set i (.ro d))[j]?=ae (Sv.ow e)->j≠i/\ρ[j]?=ae (Sv.ow e):=λj e l=>by
  rcases get_set l with⟨_,z,_⟩|z
  .cases z
  .exact z
 have m:∀a,SO S w ρ a->SO S w (ρ.set i (.ro d)) a:=SO.mono λj e l=>⟨e,(hw j e l).2⟩;show⟨h.fc,h.sm,λj e l=>?_,λj k d' p F h2=>h.inj j k d' p (hw j d' F).2 (hw k p h2).2,λj e l=>?_,λg A=>Dn.fits (.mono m) _ _ (h.gh g A),λj xs x=>h.rw j xs (hw j _ x).2⟩
 .obtain ⟨n,o⟩:=hw j e l;obtain⟨a,b,c⟩:=h.own j e o;show⟨by rw[jq (gb n)];show a,b,c.fits (.mono m) λ_ z=>z⟩
 .rcases get_set l with⟨n,z,_⟩|⟨n,z⟩
  .cases z;subst n;show⟨v,nh y,Dn.fits (.mono m) d v q⟩
  .obtain ⟨u,a,b⟩:=h.ro j e z;show⟨u,by rw[jq (gb n)];show a,Dn.fits (.mono m) e u b⟩
noncomputable def freeze(ρ:bB)(i:Nat):bB:=match ρ[i]? with
 |some (.ow d)=>ρ.set i (.ro d)
 |_=>ρ
theorem ST.frozen{i:Nat}(h:ST K H₀ S w σ H ρ G):ST K H₀ S w σ H (freeze ρ i) G:=by
 delta freeze
 cases e:ρ[i]? with
 |none=>show h
 |some s =>
  cases s with
  |no=>show h
  |ro d=>show h
  |ow d =>
   dsimp only;obtain⟨a,b,c⟩:=h.own i d e;have J:i<⇑σ:=(df.mp a).1;have hw:∀(j:Nat) (e:D),(ρ.set i (.ro d))[j]?=ae (Sv.ow e)->j≠i/\ρ[j]?=ae (Sv.ow e):=λj e p=>by
    rcases get_set p with⟨_,z,_⟩|z
    .cases z
    .exact z
   have m:∀a,SO S w ρ a->SO S w (ρ.set i (.ro d)) a:=SO.mono λj e p=>⟨e,(hw j e p).2⟩;show⟨h.fc,h.sm,λj f o=>?_,λj k d' v F h2=>h.inj j k d' v (hw j d' F).2 (hw k v h2).2,λj f o=>?_,λg A=>Dn.fits (.mono m) _ _ (h.gh g A),λj xs x=>h.rw j xs (hw j _ x).2⟩
   .obtain ⟨a,b,c⟩:=h.own j f (hw j f o).2;show⟨a,b,c.fits (.mono m) λ_ z=>z⟩
   .rcases get_set o with⟨q,z,_⟩|⟨q,z⟩
    .cases z;subst q;show⟨_,a,c.dn ⟨h.fc _ b,λk I y z=>?_⟩ m⟩;obtain⟨n,l⟩:=hw k I y;show n (h.inj _ _ _ _ e l z).symm
    .obtain ⟨u,a,b⟩:=h.ro j f z;show⟨u,a,Dn.fits (.mono m) f u b⟩
theorem ST.G4{i:Nat}{d:D}{p:ai}(h:ST K H₀ S w σ H ρ G)(X:i<⇑σ)(e:ξ H H')(A:H p=ag)(q:sI K (λa=>SO S w ρ a/\a≠p) H' d p)
  (U:(∀xs,d=.rws xs ->∀ys,H' p=ae (.lst ys) ->∀a,V.ref a∈ys->H₀ a=ag)<|>10):
  ST K H₀ S (λj=>if j=i then p else w j) (σ.set i (ae (.ref p))) H' (ρ.set i (.ow d)) G:=by
 have h0:H₀ p=ag:=h.sm.free A;have hw:∀(j:Nat) (e:D),j≠i->(ρ.set i (.ow d))[j]?=ae (Sv.ow e)->ρ[j]?=ae (Sv.ow e):=λj e l Z=>by
  rcases get_set Z with⟨z,_,_⟩|⟨_,z⟩
  .exact Zw z l
  .exact z
 have m:∀a,(SO S w ρ a/\a≠p)->SO S (λj=>if j=i then p else w j) (ρ.set i (.ow d)) a:=λa ⟨⟨s,n⟩,O⟩=>⟨s,λj f v=>by
  show a≠(if j=i then p else w j);by_cases l:j=i
  .rw [Z_ l];show O
  .rw [Zz l];show n j f (hw j f l v)⟩
 have F:Fits K (SO S w ρ) (SO S (λj=>if j=i then p else w j) (ρ.set i (.ow d))) H H':=((Fits.fresh A).trans (.mono m)).trans (.same e);have I:∀(j:Nat) (f:D),ρ[j]?=ae (Sv.ow f)->w j≠p:=λj f v z=>by have wr:=(h.own j f v).2.2.wr;rw[z] at wr;rcases wr with⟨xs,k⟩|⟨xs,k⟩|⟨_,xs,k⟩<;>rw[A] at k<;>cases k
 show⟨h.fc,h.sm.trans e,λj f v=>?_,λj k d' y L h2 z=>?_,λj f v=>?_,λg Y=>Dn.fits F _ _ (h.gh g Y),λj xs J=>?_⟩
 rotate_right
 .show ∀ys,H' (if j=i then p else w j)=ae (.lst ys)->_;by_cases l:j=i
  .subst l;rw[Z_ rfl];rcases get_set J with⟨_,z,_⟩|⟨z,_⟩
   .exact U xs (Sv.ow.inj z).symm
   .exact Zw rfl z
  .rw [Zz l];show h.rwN (hw j _ l J) λo z=>e _ o z
 .by_cases l:j=i
  .subst l;rcases get_set v with⟨_,z,_⟩|⟨z,_⟩
   .cases z;rw[Z_ rfl];show⟨nh X,h0,q.fits (.mono m) λ_ z=>z⟩
   .exact Zw rfl z
  .rw [Zz l];obtain⟨a,b,c⟩:=h.own j f (hw j f l v);show⟨by rw[jq (gb l)];show a,b,c.fits F λo z=>e _ o z⟩
 .have z:(if j=i then p else w j)=(if k=i then p else w k):=z;by_cases l:j=i
  .by_cases x:k=i
   .rw [l,x]
   .rw [Z_ l,Zz x] at z;show Zw z.symm (I k y (hw k y x h2))
  .by_cases x:k=i
   .rw [Zz l,Z_ x] at z;show Zw z (I j d' (hw j d' l L))
   .rw [Zz l,Zz x] at z;show h.inj j k d' y (hw j d' l L) (hw k y x h2) z
 .rcases get_set v with⟨_,z,_⟩|⟨l,z⟩
  .cases z
  .obtain ⟨u,a,b⟩:=h.ro j f z;show⟨u,by rw[jq (gb l)];show a,Dn.fits F f u b⟩
def ST.write{i:Nat}{d d':D}{o:HO}(h:ST K H₀ S w σ H ρ G)(e:ρ[i]?=ae (Sv.ow d))(q:sI K (SO S w ρ) (upd H (w i) o) d' (w i))(U:(∀xs,d'≠.rws xs)<|>10):ST K H₀ S w σ (upd H (w i) o) (ρ.set i (.ow d')) G:=by
 obtain⟨a0,I,Z⟩:=h.own i d e;have v:SO S w (ρ.set i (.ow d'))=SO S w ρ:=by
  funext a
  show propext ⟨λ⟨s,n⟩=>⟨s,λj f m=>?_⟩,λ⟨s,n⟩=>⟨s,λj f m=>?_⟩⟩
  .by_cases l:j=i
   .subst l;show n j d' (by rw[nh (df.mp e).1])
   .exact n j f (by rw[jq (gb l)];show m)
  .by_cases l:j=i
   .subst l;show n j d e
   .exact n j f (by rw[jq (gb l)] at m;show m)
 have L:¬ SO S w ρ (w i):=λ⟨_,n⟩=>n i d e rfl;have F:Fits K (SO S w ρ) (SO S w ρ) H (upd H (w i) o):=.upd Z.wr L;show⟨h.fc,λb u A=>?_,λj f m=>?_,λj k d1 e1 Y h2 z=>?_,λj f m=>?_,λg X=>by rw[v];show Dn.fits F _ _ (h.gh g X),λj xs O=>?_⟩
 rotate_right
 .rcases get_set O with⟨_,z,_⟩|⟨l,z⟩
  .exact Zw (Sv.ow.inj z).symm (U xs)
  .exact h.rwN z λJ p=>by rw[aP λy=>l (h.inj _ _ _ _ z e y)];show p
 .rw [aP (aT A I)];show h.sm b u A
 .rw [v];rcases get_set m with⟨l,z,_⟩|⟨l,z⟩
  .cases z;subst l;show⟨a0,I,q⟩
  .obtain ⟨a,b,c⟩:=h.own j f z;show⟨a,b,c.fits F λJ p=>by rw[aP λy=>l (h.inj _ _ _ _ z e y)];show p⟩
 .have g1:∃x,ρ[j]?=ae (Sv.ow x):=by
   rcases get_set Y with⟨l,_,_⟩|⟨_,z⟩
   .subst l;show⟨d,e⟩
   .exact ⟨_,z⟩
  have g2:∃x,ρ[k]?=ae (Sv.ow x):=by
   rcases get_set h2 with⟨l,_,_⟩|⟨_,z⟩
   .subst l;show⟨d,e⟩
   .exact ⟨_,z⟩
  obtain⟨_,g1⟩:=g1;obtain⟨_,g2⟩:=g2;show h.inj j k _ _ g1 g2 z
 .rw [v];rcases get_set m with⟨_,z,_⟩|⟨l,z⟩
  .cases z
  .obtain ⟨u,a,b⟩:=h.ro j f z;show⟨u,a,Dn.fits F f u b⟩
def ST.ghost(h:ST K H₀ S w σ H ρ G)(a:∀g∈G',Dn K (SO S w ρ) H g.1 g.2):ST K H₀ S w σ H ρ G':=⟨h.fc,h.sm,h.own,h.inj,h.ro,a,h.rw⟩
end
open PySem.Spec PyProof.Rows
abbrev WE:=cN->(D->Prop)->Prop
abbrev WT:=cN->(Bool->Prop)->Prop
abbrev WA:=cN->(List D->Prop)->Prop
inductive lift (K:aq) (t:WE) (σ:L2.St) (H:Hp) (Q:VK):Prop
 |mk (S:ai->Prop) (ρ:cN) (Q3:D->Prop) (h1:(∀a,H a=ag->S a)) (h2:Sl K S H ρ σ) (h3:t ρ Q3) (h4:∀v H' d,ξ H H'->Dn K S H' d v->Q3 d->Q v H'):lift K t σ H Q
inductive liftT (K:aq) (t:WT) (σ:L2.St) (H:Hp) (Q:(Bool->Hp->Prop)):Prop
 |mk (S:ai->Prop) (ρ:cN) (Q3:Bool->Prop) (h1:(∀a,H a=ag->S a)) (h2:Sl K S H ρ σ) (h3:t ρ Q3) (h4:∀b H',ξ H H'->Q3 b->Q b H'):liftT K t σ H Q
inductive KO (K:aq) (t:WA) (σ:L2.St) (H:Hp) (Q:(List V->Hp->Prop)):Prop
 |mk (S:ai->Prop) (ρ:cN) (Q3:List D->Prop) (h1:(∀a,H a=ag->S a)) (h2:Sl K S H ρ σ) (h3:t ρ Q3) (h4:∀vs H' ds,ξ H H'->aK K S H' ds vs->Q3 ds->Q vs H'):KO K t σ H Q
inductive KP (K:aq) (t:WE) (σ:L2.St) (H:Hp) (Q:VK):Prop
 |mk (S:ai->Prop) (ρ:cN) (Q3:D->Prop) (h1:(∀a,H a=ag->S a)) (h2:Sl K S H ρ σ) (h3:t ρ Q3) (h4:∀p xs H' ds,H p=ag->H' p=ae (.lst xs)->ξ H H'->aK K (λa=>S a/\a≠p) H' ds xs->Q3 (.lst ds)->Q (.ref p) H'):KP K t σ H Q
def bY(X:Cx)(e:av)(t:WE):Prop:=PE X e (lift X.K t)
def G5(X:Cx)(e:av)(t:WE):Prop:=PE X e (KP X.K t)
def xK(X:Cx)(e:av)(t:WT):Prop:=PT X e (liftT X.K t)
def xM(X:Cx)(a:List av)(t:WA):Prop:=PA X a (KO X.K t)
variable{X:Cx}
section
def imp(h:PE X e t)(f:∀σ H Q,t' σ H Q->t σ H Q):PE X e t':=λπ s σ H Q I q=>h π s σ H Q I (f σ H Q q)
def RM(h:PT X e t)(f:∀σ H Q,t' σ H Q->t σ H Q):PT X e t':=λπ s σ H Q I q=>h π s σ H Q I (f σ H Q q)
def RN(h:PA X e t)(f:∀σ H Q,t' σ H Q->t σ H Q):PA X e t':=λa π s σ H Q I q=>h a π s σ H Q I (f σ H Q q)
def bC{H H':Hp}{S:ai->Prop}(d:∀a,H a=ag->S a)(s:ξ H H'):∀a,H' a=ag->S a:=λa e=>d a (s.free e)
theorem G5.pe(h:G5 X e t):bY X e t:=imp h λσ H Q a=>by obtain⟨S,ρ,Q3,j,l,m,k⟩:=a;show⟨S,ρ,Q3,j,l,m,λp xs H' ds n d s dn q=>k _ H' _ s (by symm;show⟨p,xs,rfl,d,j p n,aK.fits (.mono λ_ z=>z.1) ds xs dn⟩) q⟩
noncomputable def X7(i:Nat):WE:=λρ Q=>match ρ[i]? with
 |some (ae d)=>Q d
 |_=>False
def wC(d:D):WE:=λ_ Q=>Q d
def RP{K:aq}{i:Nat}{σ:L2.St}{H:Hp}{Q:VK}(h:lift K (X7 i) σ H Q):sF i σ H Q:=by
 obtain⟨S,ρ,Q3,l,j,a,k⟩:=h;delta X7 at a;split at a
 .rename_i d e;obtain⟨v,e1,q⟩:=j i d e;show⟨v,e1,k v H d (ξ.refl H) q a⟩
 .exact a.elim
def x3(i:Nat)(hN:X.N[i]?=ae x<|>0)(d:xF X.env.scope x<|>3)(h:Zu x<|>1)
  (a:Zt x<|>1):bY X (.Name x ν) (X7 i):=imp (iO hN d h a) λ_ _ _=>RP
def BK{K:aq}{d:D}{v:V}{σ:L2.St}{H:Hp}{Q:VK}(j:∀S H,Dn K S H d v)(h:lift K (wC d) σ H Q):tC v σ H Q:=by obtain⟨S,ρ,Q3,m,l,a,k⟩:=h;show k v H d (ξ.refl H) (j S H) a
def i3{j ν}:bY X (.Constant (.int i) j ν) (wC (.int i)):=imp aBX λ_ _ _=>BK (λ_ _=>by symm)
def b3{j ν}:bY X (.Constant (.bool b) j ν) (wC (.bl b)):=imp Yd λ_ _ _=>BK (λ_ _=>by symm)
def n3{j ν}:bY X (.Constant .none j ν) (wC .non):=imp aBY λ_ _ _=>BK (λ_ _=>by symm)
def s3{j ν}:bY X (.Constant (.str x) j ν) (wC (.str x)):=imp aBZ λ_ _ _=>BK (λ_ _=>by symm)
abbrev F2:=D->D->(D->Prop)->Prop
def fX(f:F2)(d a:WE):WE:=λρ Q=>d ρ λx=>a ρ λy=>f x y Q
def O3(K:aq)(r:R2)(f:F2):Prop:=∀(S:ai->Prop) (H:Hp) (x y:V) (j h:D) (Q3:D->Prop) (Q:VK),(∀a,H a=ag->S a)->Dn K S H j x->Dn K S H h y->f j h Q3 ->
 (∀v H' d,ξ H H'->Dn K S H' d v->Q3 d->Q v H')->r x y H Q
def pD{K:aq}{r:R2}{f:F2}{p o:WE}{σ:L2.St}{H:Hp}{Q:VK}(A:O3 K r f)(h:lift K (fX f p o) σ H Q):sh r (lift K p) (lift K o) σ H Q:=by obtain⟨S,ρ,Q3,l,q,z,k⟩:=h;show⟨S,ρ,_,l,q,z,λv H1 d a I q1=>?_⟩;show⟨S,ρ,_,bC l a,Sl.fits (.same a) q,q1,λu J F j n q2=>?_⟩;show A S J v u d F Q3 Q (bC l (a.trans j)) (Dn.fits (.same j) _ _ I) n q2 λx H' d' s' m y=>k x H' d' ((a.trans j).trans s') m y
theorem X8(ho:iP X (binaryOp op) r)(j:O3 X.K r f)(h:bY X a ta)(d:bY X b tb):bY X (.BinOp a op b ν) (fX f ta tb) :=
 imp (J6 ho h d) λ_ _ _=>pD j
def M7(C:Int->Int->Prop)(g:Int->Int->D):F2
 |.int i,.int j,Q=>C i j/\Q (g i j)
 |_,_,_=>False
theorem nF{K:aq}{C:Int->Int->Prop}{g:Int->Int->Int}:O3 K (rI C λi j=>.int (g i j)) (M7 C λi j=>.int (g i j)):=by
 intro S H x y m l Q3 Q n h d a k;cases m<;>(try show a.elim)<;>cases l<;>try show a.elim
 symm at h d;show⟨_,_,h,d,a.1,k _ H _ (ξ.refl H) (by symm) a.2⟩
noncomputable def vR(g:Int->Int->D):F2
 |.int i,.int j,Q=>Q (g i j)
 |_,_,_=>False
def X9{K:aq}{g:Int->Int->Int}:O3 K (MQ λi j=>.int (g i j)) (vR λi j=>.int (g i j)):=by
 intro S H x y m l Q3 Q n h d a k;cases m<;>(try show a.elim)<;>cases l<;>try show a.elim
 symm at h d;show⟨_,_,h,d,k _ H _ (ξ.refl H) (by symm) a⟩
def Sz:F2:=vR λi j=>.int (i-j)
def Sy:F2:=M7 (λ_ j=>0<j) λi j=>.int (i%j)
def Sx:F2:=M7 Dq λi j=>.int (i/j)
def Sw:F2:=M7 yx λi j=>.int (i^j.toNat)
section
variable{a b:av}{ν:br}{ta tb:WE}
def Su(h:bY X a ta)(d:bY X b tb):bY X (.BinOp a .Sub b ν) (fX Sz ta tb):=X8 aBj X9 h d
def Ss(h:bY X a ta)(d:bY X b tb):bY X (.BinOp a .Mod b ν) (fX Sy ta tb):=X8 aBk nF h d
def Sr(h:bY X a ta)(d:bY X b tb):bY X (.BinOp a .FloorDiv b ν) (fX Sx ta tb):=X8 XQ nF h d
def Sq(h:bY X a ta)(d:bY X b tb):bY X (.BinOp a .Pow b ν) (fX Sw ta tb):=X8 aBl nF h d
end
def Em(K:aq):R2:=λx y H Q=>∃a b xs ys,x=.ref a/\y=.ref b/\eV K H a xs/\eV K H b ys/\⇑xs+⇑ys<=bq /\
 (xs=[]->Q (.ref b) H)/\(xs≠[]->ys=[]->Q (.ref a) H)/\(xs≠[]->ys≠[] ->∀p,H p=ag->Q (.ref p) (upd H p (.tup (xs++ys))))
theorem RQ{Ω:bj}{w:bg}{A:bx}{E:Q0c}{s:ao}{t b:ai}{ws:Q0f}{Q:Q0c}(v:g_ s.heap t #[])(x:g_ s.heap b ws.toArray)
  (y:Q (.ref b) s):az (au Ω w) A (binaryOp .Add (.ref t) (.ref b)) Q E s:=by
 obtain⟨⟨cls,z,data,p⟩,ho,m,n,l⟩:=id v;obtain⟨⟨o,j,data2,h⟩,a,d,q,hd2⟩:=id x;simp only at m l d hd2;subst m l d hd2;show Gf ⟨_,ho,rfl⟩ ⟨_,a,rfl⟩ Ge F_ Gv Gx (G_ _ _)
   (tuple_addW0 t b #[] ws.toArray n q z j p h (by simp)) ⟨ho,a,y⟩
theorem RR:iP X (binaryOp .Add) (Em X.K):=by
 intro π s σ H x y v u Q I l j h;obtain⟨a,b,xs,ys,rfl,rfl,o,n,q,p,q1,q2⟩:=h;by_cases d:xs=[]
 .cases l;cases j;subst d;obtain⟨z,r1,p1,_⟩:=I.tuple o;obtain⟨m,A,p2,_⟩:=I.tuple n;cases r1;show RQ p1 p2 ⟨.ref b,H,I,rfl,p rfl⟩
 .exact X1 π s σ H _ _ v u Q I l j ⟨a,b,xs,ys,rfl,rfl,o,n,d,q,q1 d,q2 d⟩
noncomputable def yr:F2
 |.int i,.int j,Q=>Q (.int (i+j))
 |.lst a,.lst b,Q=>⇑a+⇑b<=bq/\Q (.lst (a++b))
 |.tup a,.tup b,Q=>⇑a+⇑b<=bq/\Q (.tup (a++b))
 |.str a,.str b,Q=>⇑a+⇑b<=bq/\Q (.str (a++b))
 |_,_,_=>False
def Dm(K:aq):R2:=λx y H Q=>(MQ λi j=>.int (i+j)) x y H Q\/(Dw x y H Q\/(Em K x y H Q \/∃i j,x=.str i/\y=.str j/\⇑i+⇑j<=bq/\Q (.str (i++j)) H))
theorem aCK{K:aq}:O3 K (Dm K) yr:=by
 intro S H x y J A Q3 Q I l h d k
 cases J with
 |int i =>
  cases A with
  |int j=>symm at l h;show .inl ⟨_,_,l,h,k _ H _ (ξ.refl H) (by symm) d⟩
  |_=>show d.elim
 |str i =>
  cases A with
  |str j=>symm at l h;show .inr (.inr (.inr ⟨_,_,l,h,d.1,k _ H _ (ξ.refl H) (by symm) d.2⟩))
  |_=>show d.elim
 |lst ds =>
  cases A with
  |lst es =>
   symm at l h;obtain⟨a,xs,rfl,z,O,n⟩:=l;obtain⟨b,ys,rfl,v,L,m⟩:=h;show .inr (.inl ⟨a,b,xs,ys,rfl,rfl,z,v,by rw[<- n.len,<- m.len];show d.1,λp o=>k _ _ _ (aI o) ?_ d.2⟩);symm;show⟨p,_,rfl,aM,I p o,aK.fits (.same (aI o)) _ _ (n.append m)⟩
  |_=>show d.elim
 |tup ds =>
  cases A with
  |tup es =>
   symm at l h;obtain⟨a,xs,rfl,z,n⟩:=l;obtain⟨b,ys,rfl,v,m⟩:=h;show .inr (.inr (.inl ⟨a,b,xs,ys,rfl,rfl,eV.of z,eV.of v,by rw[<- n.len,<- m.len];show d.1,λe=>?_,λ_ e=>?_,λ_ _ p o=>?_⟩))
   .subst e;have F:ds=[]:=ng.mp n.len;subst F;show k _ H _ (ξ.refl H) (by symm;show⟨b,ys,rfl,v,m⟩) d.2
   .subst e;have F:es=[]:=ng.mp m.len;subst F;have q:=d.2;rw[ki] at q;show k _ H _ (ξ.refl H) (by symm;show⟨a,xs,rfl,z,n⟩) q
   .refine k _ _ _ (aI o) ?_ d.2;symm;show⟨p,_,rfl,aM,aK.fits (.same (aI o)) _ _ (n.append m)⟩
  |_=>show d.elim
 |_=>show d.elim
def YA:iP X (binaryOp .Add) (Dm X.K):=iP.or aBi (iP.or RC (iP.or RR GS))
theorem So(h:bY X a ta)(d:bY X b tb):bY X (.BinOp a .Add b ν) (fX yr ta tb):=X8 YA aCK h d
noncomputable def Dl:F2
 |.lst a,.lst b,Q=>⇑a+⇑b<=bq/\Q (.lst (a++b))
 |_,_,_=>False
def Xo{a b:av}{L:br}{z y:WE}(q:bY X a z)(o:bY X b y):G5 X (.BinOp a .Add b L) (fX Dl z y):=imp (J6 RC q o) λσ H Q h=>by
 obtain⟨S,ρ,Q3,F,A,O,k⟩:=h;show⟨S,ρ,_,F,A,O,λv H1 d m K q1=>?_⟩;show⟨S,ρ,_,bC F m,Sl.fits (.same m) A,q1,λu H2 U l j q2=>?_⟩;cases d<;>(try show q2.elim)<;>cases U<;>try show q2.elim
 symm at K j;obtain⟨a,xs,rfl,q,Z,J⟩:=K;obtain⟨b,ys,rfl,o,Y,I⟩:=j;have x:=aK.fits (.same l) _ _ J;show⟨a,b,xs,ys,rfl,rfl,l _ _ q,o,by rw[<- J.len,<- I.len];show q2.1,λp n=>k p _ _ _ ((m.trans l).free n) aM ((m.trans l).trans (aI n)) ?_ q2.2⟩;show aK.fits ((Fits.fresh n).trans (.same (aI n))) _ _ (x.append I)
def Sn:WA:=λ_ Q=>Q []
def Xn(a:WE)(t:WA):WA:=λρ Q=>a ρ λd=>t ρ λds=>Q (d::ds)
def Sm:xM X [] Sn:=RN kH λσ H Q a=>by obtain⟨S,ρ,Q3,j,h,d,k⟩:=a;show k [] H [] (ξ.refl H) aK.nil d
def Xm{e:av}{h:List av}{te:WE}{t:WA}(q:bY X e te)(p:xM X h t)(o:Zq X e h<|>0):xM X (e::h) (Xn te t) :=
 RN (eR q p o) λσ H Q z=>by obtain⟨S,ρ,Q3,m,j,n,k⟩:=z;show⟨S,ρ,_,m,j,n,λv H1 d a y q1=>?_⟩;show⟨S,ρ,_,bC m a,Sl.fits (.same a) j,q1,λus A ds l x q2=>?_⟩;show k _ A _ (a.trans l) (aK.cons (Dn.fits (.same l) _ _ y) x) q2
def Sj(t:WA):WE:=λρ Q=>t ρ λds=>⇑ds<=bq/\Q (.tup ds)
def Sg(t:WA):WE:=λρ Q=>t ρ λds=>⇑ds<=bq/\Q (.lst ds)
def Sf{x1}(h:xM X es t):bY X (.Tuple es x1 ν) (Sj t):=imp (aBs h) λσ H Q o=>by obtain⟨S,ρ,Q3,n,j,m,k⟩:=o;show⟨S,ρ,_,n,j,m,λvs H1 ds l d q1=>⟨by rw[<- d.len];show q1.1,λp a=>k _ _ _ (l.trans (aI a)) ?_ q1.2⟩⟩;symm;show⟨p,_,rfl,aM,aK.fits (.same (aI a)) _ _ d⟩
def Ro(h:xM X es t):G5 X (.List es ν) (Sg t):=imp (aBt h) λσ H Q o=>by obtain⟨S,ρ,Q3,n,l,m,k⟩:=o;show⟨S,ρ,_,n,l,m,λvs H1 ds d j q1=>⟨by rw[<- j.len];show q1.1,λp a=>k p vs _ ds (d.free a) aM (d.trans (aI a)) ?_ q1.2⟩⟩;show aK.fits ((Fits.fresh a).trans (.same (aI a))) _ _ j
end
section
noncomputable def lT(t:WE):WT:=λρ Q=>t ρ λd=>match d with
 |.bl b=>Q b
 |_=>False
theorem M8{K:aq}{t:WE}{σ:L2.St}{H:Hp}{Q:Bool->Hp->Prop}(h:liftT K (lT t) σ H Q):J8 (lift K t) σ H Q:=by
 obtain⟨S,ρ,Q3,n,j,m,k⟩:=h;show⟨S,ρ,_,n,j,m,λv H1 d l a q1=>?_⟩
 cases d with
 |bl b=>symm at a;show⟨b,a,k b H1 l q1⟩
 |_=>show q1.elim
def G6(f:∀σ H Q,t' σ H Q->t σ H Q)(h:J8 t' σ H Q):J8 t σ H Q:=f σ H _ h
def YB(ho:iP X (compareOp op) r)(l:O3 X.K r f)(j:bY X a ta)(h:bY X b tb)(d:behindInMarks op b=ah):bY X (.Compare a [op] [b] ν) (fX f ta tb) :=
 imp (XR ho j h d) λ_ _ _=>pD l
def rM(ho:iP X (compareOp op) r)(m:O3 X.K r f)(l:bY X a ta)(j:bY X b tb)(d:behindInMarks op b=ah):xK X (.Compare a [op] [b] ν) (lT (fX f ta tb)) :=
 RM (XS ho l j d) λ_ _ _ h=>G6 (λ_ _ _=>pD m) (M8 h)
theorem qQ{K:aq}{g:Int->Int->Bool}:O3 K (MQ λi j=>.bl (g i j)) (vR λi j=>.bl (g i j)):=by
 intro S H x y m l Q3 Q n h d a k;cases m<;>(try show a.elim)<;>cases l<;>try show a.elim
 symm at h d;show⟨_,_,h,d,k _ H _ (ξ.refl H) (by symm) a⟩
noncomputable def RS:D->D->Bool
 |.non,.non=>af | .non,.int _=>af | .int _,.non=>af | .non,.bl _=>af | .bl _,.non=>af | .non,.str _=>af | .str _,.non=>af
 |.int _,.int _=>af | .bl _,.bl _=>af | .str _,.str _=>af | .int _,.str _=>af | .str _,.int _=>af | .bl _,.str _=>af | .str _,.bl _=>af
 |_,_=>ah
noncomputable def eqS:D->D->Bool
 |.non,.non=>af
 |.int i,.int j=>Zv (i=j)
 |.bl i,.bl j=>Zv (i=j)
 |.str i,.str j=>Zv (i=j)
 |_,_=>ah
def YC:F2:=λx y Q=>RS x y=af/\Q (.bl (eqS x y))
def yq:F2:=λx y Q=>RS x y=af/\Q (.bl (!eqS x y))
def KQ{K:aq}{S:ai->Prop}{H:Hp}{x y:V}{d a:D}(l:Dn K S H d x)(j:Dn K S H a y)(h:RS d a=af):yw x y=af/\Zv (x=y)=eqS d a:=by
 cases d<;>first
  | (show Zw (show ah=af from h) cf)
  |skip
 all_goals (cases a<;>first
  | (show Zw (show ah=af from h) cf)
  | (symm at l j;subst l;subst j;show⟨rfl,by first|show A9|show GQ|show BA|show Zy (λh=>by cases h)|show Zx rfl⟩))
def RT{K:aq}:O3 K B_ YC:=by intro S H x y n m Q3 Q l h d a k;obtain⟨j,h2⟩:=KQ h d a.1;show⟨j,k _ H _ (ξ.refl H) (by symm;rw[h2]) a.2⟩
theorem aCM{K:aq}:O3 K Bz yq:=by intro S H x y n m Q3 Q l h d a k;obtain⟨j,h2⟩:=KQ h d a.1;show⟨j,k _ H _ (ξ.refl H) (by symm;rw[h2]) a.2⟩
noncomputable def allI:List D->Bool
 |[]=>af
 |.int _::r=>allI r
 |_::_=>ah
noncomputable def xN(i:Int):List D->Bool
 |[]=>ah
 |.int j::r=>j == i||xN i r
 |_::r=>xN i r
theorem yZ:∀ns:Q0e,allI (ns.map D.int)=af
 |[]=>rfl
 |n::ns=>by rw[bu];show yZ ns
theorem y4(i:Int):∀ns:Q0e,xN i (ns.map D.int)=ns.contains i
 |[]=>rfl
 |n::ns=>by rw[bu,xN,y4 i ns,List.contains_cons];congr 1;show Bool.beq_comm
theorem BL:∀{ds:List D},allI ds=af ->∃ns:Q0e,ds=ns.map D.int
 |[],_=>⟨[],rfl⟩
 |.int n::r,h=>by obtain⟨ns,e⟩:=BL (ds:=r) h;show⟨n::ns,by rw[e];rfl⟩
 |.non::r,h=>Zw (show ah=af from h) cf
 |.bl _::r,h=>Zw (show ah=af from h) cf
 |.str _::r,h=>Zw (show ah=af from h) cf
 |.tup _::r,h=>Zw (show ah=af from h) cf
 |.lst _::r,h=>Zw (show ah=af from h) cf
 |.lZ _::r,h=>Zw (show ah=af from h) cf
 |.iV _ _::r,h=>Zw (show ah=af from h) cf
 |.aY _ _ _::r,h=>Zw (show ah=af from h) cf
def inF(neg:Bool):F2
 |.int i,.tup ds,Q=>allI ds=af/\Q (.bl (if neg then !xN i ds else xN i ds))
 |.int i,.lst ds,Q=>allI ds=af/\Q (.bl (if neg then !xN i ds else xN i ds))
 |_,_,_=>False
theorem vS(i:Int):∀ns:Q0e,inV (.int i) (ns.map V.int)=xN i (ns.map D.int)
 |[]=>rfl
 |n::ns=>by have e:=vS i ns;delta inV at e ⊢;rw[bu,bu,kz,xN,e];rfl
theorem qR:∀ns:Q0e,(ns.map V.int).all pA=af
 |[]=>rfl
 |n::ns=>by rw[bu,vc,qR ns];rfl
theorem RU{K:aq}{neg:Bool}:O3 K (xi K neg) (inF neg):=by
 intro S H x y p o Q3 Q q n d h k
 cases p with
 |int i =>
  symm at n;subst n
  cases o with
  |tup ds =>
   symm at d;obtain⟨a,xs,rfl,j,m⟩:=d;obtain⟨l,h2⟩:=h;obtain⟨ns,rfl⟩:=BL l;have e:=aK.ints.mp m;subst e;show⟨a,_,rfl,.inr (eV.of j),rfl,qR ns,k _ H _ (ξ.refl H) ?_ h2⟩;symm;rw[vS]
  |lst ds =>
   symm at d;obtain⟨a,xs,rfl,j,_,m⟩:=d;obtain⟨l,h2⟩:=h;obtain⟨ns,rfl⟩:=BL l;have e:=aK.ints.mp m;subst e;show⟨a,_,rfl,.inl (dM.of j),rfl,qR ns,k _ H _ (ξ.refl H) ?_ h2⟩;symm;rw[vS]
  |_=>show h.elim
 |_=>show h.elim
section
variable{a b:av}{ν:br}{ta tb:WE}
def ltF:F2:=vR λi j=>.bl (Zv (i<j))
def gtF:F2:=vR λi j=>.bl (Zv (i>j))
def geF:F2:=vR λi j=>.bl (Zv (i >= j))
def gt3(h:bY X a ta)(d:bY X b tb):bY X (.Compare a [.Gt] [b] ν) (fX gtF ta tb):=YB Ep qQ h d (kF _)
def Rl(h:bY X a ta)(d:bY X b tb):bY X (.Compare a [.Eq] [b] ν) (fX YC ta tb):=YB Es RT h d (kF _)
def in3(j:bY X a ta)(h:bY X b tb)(d:behindInMarks .In b=ah<|>5):bY X (.Compare a [.In] [b] ν) (fX (inF ah) ta tb):=YB yU RU j h d
def Rk(h:bY X a ta)(d:bY X b tb):xK X (.Compare a [.Lt] [b] ν) (lT (fX ltF ta tb)):=rM Er qQ h d (kF _)
def Rj(h:bY X a ta)(d:bY X b tb):xK X (.Compare a [.Gt] [b] ν) (lT (fX gtF ta tb)):=rM Ep qQ h d (kF _)
def Ri(h:bY X a ta)(d:bY X b tb):xK X (.Compare a [.GtE] [b] ν) (lT (fX geF ta tb)):=rM Xt qQ h d (kF _)
def Xl(h:bY X a ta)(d:bY X b tb):xK X (.Compare a [.Eq] [b] ν) (lT (fX YC ta tb)):=rM Es RT h d (kF _)
def Xk(h:bY X a ta)(d:bY X b tb):xK X (.Compare a [.NotEq] [b] ν) (lT (fX yq ta tb)):=rM Xv aCM h d (kF _)
def Rh(j:bY X a ta)(h:bY X b tb)(d:behindInMarks .In b=ah<|>5):xK X (.Compare a [.In] [b] ν) (lT (fX (inF ah) ta tb)):=rM yU RU j h d
def Xj(j:bY X a ta)(h:bY X b tb)(d:behindInMarks .NotIn b=ah<|>5):xK X (.Compare a [.NotIn] [b] ν) (lT (fX (inF af) ta tb)):=rM BF RU j h d
end
noncomputable def isD:D->Bool
 |.non=>af
 |_=>ah
def YD:F2:=λx y Q=>isD y=af/\Q (.bl (isD x))
def RV{K:aq}:O3 K (λx y H Q=>y=.non/\Q (.bl (Zv (x=.non))) H) YD:=by
 intro S H x y n m Q3 Q o d h j k;obtain⟨l,h2⟩:=j;cases m<;>try show Zw (show ah=af from l) cf
 symm at h;show⟨h,k _ H _ (ξ.refl H) ?_ h2⟩;cases n<;>symm at d ⊢
 all_goals first
  | (subst d;simp[isD])
  | (obtain⟨a,xs,rfl,_⟩:=d;simp[isD])
  | (obtain⟨a,_,xs,rfl,_⟩:=d;simp[isD])
  | (obtain⟨a,rfl,_⟩:=d;simp[isD])
def Xi(h:bY X a ta)(d:bY X b tb):xK X (.Compare a [.Is] [b] ν) (lT (fX YD ta tb)):=rM Q1 RV h d (kF _)
def Rf(h:bY X a ta)(d:bY X b tb):bY X (.Compare a [.Is] [b] ν) (fX YD ta tb):=YB Q1 RV h d (kF _)
def Xh(t:WT):WT:=λρ Q=>t ρ λb=>Q (!b)
def Rc(t u:WT):WT:=λρ Q=>t ρ λb=>if b=af then Q af else u ρ Q
def YE(X:Cx)(e:av)(t:WT):Prop:=PW X e (liftT X.K t)
def Dk(h:PW X e t)(f:∀σ H Q,t' σ H Q->t σ H Q):PW X e t':=λa π s σ H Q I q=>h a π s σ H Q I (f σ H Q q)
section
variable{a b:av}{Θ:List av}{ν:br}{ta tb:WT}
def YE.pt(h:YE X e t):xK X e t:=PW.pt h
def Xg(l:xK X a ta):xK X (.UnaryOp .Not a ν) (Xh ta):=RM (aB4 l) λσ H Q n=>by obtain⟨S,ρ,Q3,m,d,j,k⟩:=n;show⟨S,ρ,_,m,d,j,λb H1 h q1=>k (!b) H1 h q1⟩
def or1(d:xK X a ta):YE X (.BoolOp .Or [a] ν) ta:=aB2 d
theorem Ra(o:xK X a ta)(n:YE X (.BoolOp .Or (b::Θ) ν) tb):YE X (.BoolOp .Or (a::b::Θ) ν) (Rc ta tb):=Dk (Yc o n) λσ H Q q=>by
 obtain⟨S,ρ,Q3,j,h,m,k⟩:=q;show⟨S,ρ,_,j,h,m,λc H1 d q1=>?_⟩
 cases c with
 |false=>rw[Zz cf] at q1 ⊢;show⟨S,ρ,Q3,bC j d,Sl.fits (.same d) h,q1,λp v l q2=>k p v (d.trans l) q2⟩
 |true=>rw[Z_ rfl] at q1 ⊢;show k af H1 d q1
end
noncomputable def Qz(d a:WE):WE:=λρ Q=>d ρ λx=>match x with
 |.bl af=>a ρ Q
 |.bl ah=>Q (.bl ah)
 |_=>False
noncomputable def Qy(a:WE):WE:=λρ Q=>a ρ λx=>match x with
 |.bl b=>Q (.bl (!b))
 |_=>False
def Jp(t:WT)(d a:WE):WE:=λρ Q=>t ρ λb=>if b=af then d ρ Q else a ρ Q
section
variable{a b c:av}{Θ:List av}{ν:br}{ta tb:WE}{tc:WT}
def Qx{op}(d:bY X a ta):bY X (.BoolOp op [a] ν) ta:=aB5 d
theorem Qw(x:bY X a ta)(q:bY X (.BoolOp .And (b::Θ) ν) tb):bY X (.BoolOp .And (a::b::Θ) ν) (Qz ta tb):=imp (aB6 x q) λσ H Q z=>by
 obtain⟨S,ρ,Q3,l,j,p,k⟩:=z;show⟨S,ρ,_,l,j,p,λv H1 d h m q1=>?_⟩
 cases d with
 |bl c =>
  symm at m;show⟨c,m,?_⟩
  cases c with
  |true=>rw[Z_ rfl];show⟨S,ρ,Q3,bC l h,Sl.fits (.same h) j,q1,λn A d' o y q2=>k n A d' (h.trans o) y q2⟩
  |false=>rw[Zz cf];show k _ H1 (.bl ah) h (by symm) q1
 |_=>show q1.elim
theorem Qt(n:bY X a ta):bY X (.UnaryOp .Not a ν) (Qy ta):=imp (aB7 n) λσ H Q p=>by
 obtain⟨S,ρ,Q3,o,j,m,k⟩:=p;show⟨S,ρ,_,o,j,m,λv H1 d l h q1=>?_⟩
 cases d with
 |bl c=>symm at h;show⟨c,h,k _ H1 (.bl (!c)) l (by symm) q1⟩
 |_=>show q1.elim
theorem if3(q:xK X c tc)(x:bY X a ta)(v:bY X b tb):bY X (.IfExp c a b ν) (Jp tc ta tb):=imp (DN q x v) λσ H Q y=>by
 obtain⟨S,ρ,Q3,m,j,p,k⟩:=y;show⟨S,ρ,_,m,j,p,λc H1 d q1=>?_⟩
 cases c with
 |true=>rw[Z_ rfl] at q1 ⊢;show⟨S,ρ,Q3,bC m d,Sl.fits (.same d) j,q1,λh o d' l n q2=>k h o d' (d.trans l) n q2⟩
 |false=>rw[Zz cf] at q1 ⊢;show⟨S,ρ,Q3,bC m d,Sl.fits (.same d) j,q1,λh o d' l n q2=>k h o d' (d.trans l) n q2⟩
noncomputable def Qq(ta:WE):WE:=λρ Q=>ta ρ λx=>match x with
 |.int i=>Q (.int (-i))
 |_=>False
theorem Qp(n:bY X a ta):bY X (.UnaryOp .USub a ν) (Qq ta):=imp (Xw aBo n) λσ H Q p=>by
 obtain⟨S,ρ,Q3,o,j,m,k⟩:=p;show⟨S,ρ,_,o,j,m,λv H1 d l h q1=>?_⟩
 cases d with
 |int i=>symm at h;show⟨i,h,k _ H1 (.int (-i)) l (by symm) q1⟩
 |_=>show q1.elim
end
noncomputable def G7(f g:F2)(h d a:WE):WE:=λρ Q=>h ρ λx=>d ρ λy=>f x y λz=>match z with
 |.bl af=>a ρ λu=>g y u Q
 |.bl ah=>Q (.bl ah)
 |_=>False
theorem G8{K:aq}{r F:R2}{f g:F2}{A y x:WE}{σ:L2.St}{H:Hp}{Q:VK}(Z:O3 K r f)(h2:O3 K F g)(h:lift K (G7 f g A y x) σ H Q):Q2 r F (lift K A) (lift K y) (lift K x) σ H Q:=by
 obtain⟨S,ρ,Q3,l,n,Y,k⟩:=h;show⟨S,ρ,_,l,n,Y,λv H1 d a d1 q1=>?_⟩;show⟨S,ρ,_,bC l a,Sl.fits (.same a) n,q1,λu H2 e j e1 q2=>?_⟩;show Z S H2 v u d e _ _ (bC l (a.trans j)) (Dn.fits (.same j) _ _ d1) e1 q2 λz H3 dz s3 m p=>?_
 cases dz with
 |bl c =>
  symm at m;show⟨c,m,?_⟩
  cases c with
  |false=>rw[Zz cf];show k _ H3 (.bl ah) ((a.trans j).trans s3) (by symm) p
  |true =>
   rw[Z_ rfl];show⟨S,ρ,_,bC l ((a.trans j).trans s3),Sl.fits (.same ((a.trans j).trans s3)) n,p,λI H4 dw o q U=>?_⟩;show h2 S H4 u I e dw Q3 Q (bC l (((a.trans j).trans s3).trans o)) (Dn.fits (.same (s3.trans o)) _ _ e1) q U λJ H5 d' L d5 O=>k J H5 d' ((((a.trans j).trans s3).trans o).trans L) d5 O
 |_=>show p.elim
theorem aCN(ho:iP X (compareOp op) r)(d:iP X (compareOp op') r')(n:O3 X.K r f)(h2:O3 X.K r' g)(m:bY X a ta)(l:bY X b tb)(j:bY X c tc)
  (h:lastMarks [op,op'] [b,c]=ah<|>5):bY X (.Compare a [op,op'] [b,c] ν) (G7 f g ta tb tc):=imp (Q4 ho d m l j h) λ_ _ _=>G8 n h2
noncomputable def ixF:F2
 |.lst ds,.int i,Q=>(match sG ds i with|some d=>Q d|none=>False)
 |.tup ds,.int i,Q=>(match sG ds i with|some d=>Q d|none=>False)
 |.lZ ns,.int i,Q=>(match sG ns i with|some n=>Q (.int n)|none=>False)
 |_,_,_=>False
theorem aK.at{K:aq}{S:ai->Prop}{H:Hp}{ds:List D}{xs:List V}{i:Int}{d:D}(h:aK K S H ds xs)(e:sG ds i=ae d):∃v,sG xs i=ae v/\Dn K S H d v:=by
 delta sG at e ⊢;rw[<- h.len]
 cases q:MU ⇑ds i with
 |none=>rw[q] at e;cases e
 |some j =>
  rw[q] at e;obtain⟨v,e1,dn⟩:=h.get (i:=j) (d:=d) e;show⟨v,e1,dn⟩
theorem YF{α a:Type}(f:α->a)(xs:List α)(i:Int):sG (xs.map f) i=(sG xs i).map f:=by
 delta sG;rw[bb]
 cases MU ⇑xs i with
 |none=>rfl
 |some j=>simp
theorem Xf{K:aq}:O3 K (λx y H Q=>Dz K x y H Q\/Dy K x y H Q) ixF:=by
 intro S H x y z o Q3 Q F l j h k
 cases z with
 |lst ds =>
  cases o with
  |int i =>
   symm at l j;obtain⟨a,xs,rfl,m,A,q⟩:=l;have h:(match sG ds i with|some d=>Q3 d|none=>False):=h
   cases e:sG ds i with
   |none=>rw[e] at h;show h.elim
   |some d =>
    rw[e] at h;obtain⟨v,e1,p⟩:=q.at e;show .inl ⟨a,xs,i,v,rfl,j,dM.of m,e1,k v H d (ξ.refl H) p h⟩
  |_=>show h.elim
 |tup ds =>
  cases o with
  |int i =>
   symm at l j;obtain⟨a,xs,rfl,m,q⟩:=l;have h:(match sG ds i with|some d=>Q3 d|none=>False):=h
   cases e:sG ds i with
   |none=>rw[e] at h;show h.elim
   |some d =>
    rw[e] at h;obtain⟨v,e1,p⟩:=q.at e;show .inr ⟨a,xs,i,v,rfl,j,(eV.of m),e1,k v H d (ξ.refl H) p h⟩
  |_=>show h.elim
 |lZ ns =>
  cases o with
  |int i =>
   symm at l j;obtain⟨a,rfl,m⟩:=l;have h:(match sG ns i with|some n=>Q3 (.int n)|none=>False):=h
   cases e:sG ns i with
   |none=>rw[e] at h;show h.elim
   |some n =>
    rw[e] at h;show .inl ⟨a,_,i,.int n,rfl,j,m.sq,by rw[YF,e];rfl,k _ H (.int n) (ξ.refl H) (by symm) h⟩
  |_=>show h.elim
 |_=>show h.elim
def ix3(j:bY X a ta)(h:bY X b tb)(d:BD b<|>8):bY X (.Subscript a b ν) (fX ixF ta tb) :=
 imp (Yi (X2.or aBz) j h d) λ_ _ _=>pD Xf
abbrev F1:=List D->(D->Prop)->Prop
def RW(f:F1)(t:WA):WE:=λρ Q=>t ρ λds=>f ds Q
def C3(K:aq)(r:List V->Hp->VK->Prop)(f:F1):Prop:=∀(S:ai->Prop) (H:Hp) (xs:List V) (ds:List D) (Q3:D->Prop) (Q:VK),(∀a,H a=ag->S a)->aK K S H ds xs->f ds Q3 ->
 (∀v H' d,ξ H H'->Dn K S H' d v->Q3 d->Q v H')->r xs H Q
def C3F(K:aq)(r:List V->Hp->VK->Prop)(f:F1):Prop:=∀(S:ai->Prop) (H:Hp) (xs:List V) (ds:List D) (Q3:D->Prop) (Q:VK),(∀a,H a=ag->S a)->aK K S H ds xs->f ds Q3 ->
 (∀p ys H' d,H p=ag->H' p=ae (.lst ys)->ξ H H'->aK K (λa=>S a/\a≠p) H' d ys->Q3 (.lst d)->Q (.ref p) H')->r xs H Q
def KR{K:aq}{r:List V->Hp->VK->Prop}{f:F1}{t:WA}{σ:L2.St}{H:Hp}{Q:VK}(o:C3 K r f)(h:lift K (RW f t) σ H Q):vf r (KO K t) σ H Q:=by obtain⟨S,ρ,Q3,j,l,n,k⟩:=h;show⟨S,ρ,_,j,l,n,λvs H1 ds a p q1=>?_⟩;show o S H1 vs ds Q3 Q (bC j a) p q1 λv H' d s' d' m=>k v H' d (a.trans s') d' m
def RX{K:aq}{r:List V->Hp->VK->Prop}{f:F1}{t:WA}{σ:L2.St}{H:Hp}{Q:VK}(q:C3F K r f)(h:KP K (RW f t) σ H Q):vf r (KO K t) σ H Q:=by obtain⟨S,ρ,Q3,j,l,n,k⟩:=h;show⟨S,ρ,_,j,l,n,λvs H1 ds a x q1=>?_⟩;show q S H1 vs ds Q3 Q (bC j a) x q1 λp ys H' v o d s' d' m=>k p ys H' v (a.free o) d (a.trans s') d' m
def vT{x:ak}{p j:br}{e:av}{a:List av}{t:WA}{id:String}{r:List V->Hp->VK->Prop}{f:F1}(v:eX X (.builtin id) r)(z:C3 X.K r f)(l:bootBuiltins x=ae (.builtin id))(o:Gl X x)(n:X.mg x=ag)(y:xM X (e::a) t)(m:x ≠ "__name__"<|>1)(h:Zu x<|>1)
  (q:Zq X e a<|>0) (d:Q0k X j a<|>0):bY X (.Call (.Name x p) (e::a) [] j) (RW f t) :=
 imp (lQ v o n l y m h q d) λ_ _ _=>KR z
def BM{x:ak}{p j:br}{e:av}{a:List av}{t:WA}{id:String}{r:List V->Hp->VK->Prop}{f:F1}(v:eX X (.builtin id) r)(z:C3F X.K r f)(l:bootBuiltins x=ae (.builtin id))(o:Gl X x)(n:X.mg x=ag)(y:xM X (e::a) t)(m:x ≠ "__name__"<|>1)(h:Zu x<|>1)
  (q:Zq X e a<|>0) (d:Q0k X j a<|>0):G5 X (.Call (.Name x p) (e::a) [] j) (RW f t) :=
 imp (lQ v o n l y m h q d) λ_ _ _=>RX z
theorem YG(o:eX X (.type T) r)(v:C3 X.K r f)(h:bootBuiltins x=ae (.type T))(m:Gl X x)(l:X.mg x=ag)(q:xM X (e::es) t)(j:x ≠ "__name__"<|>1)(d:Zu x<|>1)
  (n:Zq X e es<|>0) (a:Q0k X ν es<|>0):bY X (.Call (.Name x p) (e::es) [] ν) (RW f t) :=
 imp (qO o m l h q j d n a) λ_ _ _=>KR v
noncomputable def BN:F1
 |[.lst ds],Q=>Q (.int ⇑ds)
 |[.tup ds],Q=>Q (.int ⇑ds)
 |[.lZ ns],Q=>Q (.int ⇑ns)
 |_,_=>False
theorem aCO{K:aq}:C3 K (λxs H Q=>∃p ys,xs=[.ref p]/\(dM K H p ys\/eV K H p ys)/\Q (.int ⇑ys) H) BN:=by
 intro S H xs ds Q3 Q o l h k
 match ds,h with
 |[.lst es],h =>
  obtain⟨v,r,rfl,d,h2⟩:=l.bA;erw[aK] at h2;subst h2;symm at d;obtain⟨a,ys,rfl,j,n,m⟩:=d;show⟨a,ys,rfl,.inl (dM.of j),k _ H _ (ξ.refl H) (by symm;rw[m.len]) h⟩
 |[.tup es],h =>
  obtain⟨v,r,rfl,d,h2⟩:=l.bA;erw[aK] at h2;subst h2;symm at d;obtain⟨a,ys,rfl,j,m⟩:=d;show⟨a,ys,rfl,.inr (eV.of j),k _ H _ (ξ.refl H) (by symm;rw[m.len]) h⟩
 |[.lZ ns],h =>
  obtain⟨v,r,rfl,d,h2⟩:=l.bA;erw[aK] at h2;subst h2;symm at d;obtain⟨a,rfl,j⟩:=d;show⟨a,_,rfl,.inl j.sq,k _ H _ (ξ.refl H) (by symm;rw[bb]) h⟩
theorem Se(a:X.mg "len"=ag)(j:xM X [e] t)(d:Gl X "len"<|>0)
  (h:Zq X e []<|>0):bY X (.Call (.Name "len" p) [e] [] ν) (RW BN t):=vT BG aCO PySem.boot_len d a j ⋯ ⋯ h (by rfl)
noncomputable def G9:F1
 |[.lst ds],Q=>Q (.tup ds)
 |[.tup ds],Q=>Q (.tup ds)
 |_,_=>False
theorem RY{K:aq}:C3 K (λxs H Q=>∃p ys,xs=[.ref p]/\((dM K H p ys /\∀l,H l=ag->Q (.ref l) (upd H l (.tup ys)))\/(eV K H p ys/\Q (.ref p) H))) G9:=by
 intro S H xs ds Q3 Q y o h k
 match ds,h with
 |[.lst es],h =>
  obtain⟨v,r,rfl,d,h2⟩:=o.bA;erw[aK] at h2;subst h2;symm at d;obtain⟨a,ys,rfl,j,x,q⟩:=d;show⟨a,ys,rfl,.inl ⟨dM.of j,λl n=>k _ _ _ (aI n) ?_ h⟩⟩;symm;show⟨l,ys,rfl,aM,aK.fits (.same (aI n)) _ _ q⟩
 |[.tup es],h =>
  obtain⟨v,r,rfl,d,h2⟩:=o.bA;erw[aK] at h2;subst h2;have m:=d;symm at d;obtain⟨a,ys,rfl,j,q⟩:=d;show⟨a,ys,rfl,.inr ⟨(eV.of j),k _ H _ (ξ.refl H) m h⟩⟩
def aCP(d:X.mg "tuple"=ag)(a:bootBuiltins "tuple"=ae (.type "tuple"))(l:xM X [e] t)(h:Gl X "tuple"<|>0)
  (j:Zq X e []<|>0):bY X (.Call (.Name "tuple" p) [e] [] ν) (RW G9 t):=YG xI RY a h d l ⋯ ⋯ j (by rfl)
abbrev Spec:=List D->(D->Prop)->Prop
def sp3(K:aq)(R:Spec):Sp:=λvs H Q _=>∃(S:ai->Prop) (ds:List D) (Q3:D->Prop),(∀a,H a=ag->S a)/\aK K S H ds vs/\R ds Q3 /\∀v H' d,ξ H H'->Dn K S H' d v->Q3 d->Q v H'
theorem Xe(F:jE X.Ω X.w X.K X.mg X.ω g7 k f fd ps (sp3 X.K R))(q:dW k X.A)(y:X.mg x=ae (.ref f))(z:keepIn X.K (.ref f)=af)(L:Binds X.K fd ps [])
  (O:xM X (e::es) t) (I:Gl X x<|>0) (h:Zu x<|>1) (J:Zq X e es<|>0) (a:Q0k X ν es<|>0):
  bY X (.Call (.Name x p) (e::es) [] ν) (RW R t):=imp (mH F q I y z L .nil yX O h J a) λσ H Q Y=>by
 obtain⟨S,ρ,Q3,l,m,o,k⟩:=Y;show⟨S,ρ,_,l,m,o,λvs H1 ds j U q1=>?_⟩;show sp3 X.K R (vs++[]) H1 Q E0;rw[ki];show⟨S,ds,Q3,bC l j,U,q1,λv H' d s' d' n=>k v H' d (j.trans s') d' n⟩
end
structure DE where
 nx:bB->Prop
 rt:D->Prop
 bk:bB->Prop:=λ_=>False
 ct:bB->Prop:=λ_=>False
 ex:ak->Prop:=λ_=>False
abbrev WS:=DE->bB->Prop
structure aCQ (X:Cx) (π:Q0b) (H:Hp) (s:ao) (e:ai) (cls a0:aj) (P:List ai):Prop where
 mem:e∈P
 free:∀q∈P,H q=ag
 new:∀q∈P,X.s₀.heap.get? q=ag
 fld:∀q∈P,∃o vs,s.heap.get? q=ae o/\o.data=.fields vs
 pin:∀q∈P,∀p∈X.pn++π,p.1≠q
 tr:(∃oe vs,s.heap.get? e=ae oe/\oe.cls=cls/\oe.data=.fields vs/\vs[1]?=ae .none/\vs[0]?=ae a0) \/
  (∃oe vs T oT ts,s.heap.get? e=ae oe/\(oe.cls=cls/\vs[0]?=ae a0)/\oe.data=.fields vs/\vs[1]?=ae (.ref T)/\T∈P/\T≠e/\s.heap.get? T=ae oT/\oT.data=.fields ts/\ts[3]?=ae .none)
def XC(X:Cx)(c:ak)(H:Hp):Prop:=∃C:ai,X.mg c=ae (.ref C) /\∀(π:Q0b) (σ:L2.St) (s:ao) (e:ai) (a:aj) (P:List ai),Φ X π σ H s->aCQ X π H s e (.ref C) a P->X.xe (.ref e) s
structure aCR (K:aq) (xc:ak->Hp->Prop) (n:Nat) (H₀:Hp) (S:ai->Prop) (G:List (D×V)) (E:DE) (B:Ends):Prop where
 nx:∀w σ H ρ,⇑σ=n->ST K H₀ S w σ H ρ G->E.nx ρ->B.nx σ H
 rt:∀v H d,ξ H₀ H->Dn K S H d v->E.rt d->B.rt v H
 bk:∀w σ H ρ,⇑σ=n->ST K H₀ S w σ H ρ G->E.bk ρ->B.bk σ H
 ct:∀w σ H ρ,⇑σ=n->ST K H₀ S w σ H ρ G->E.ct ρ->B.ct σ H
 ex:∀c H,ξ H₀ H->E.ex c->xc c H
inductive iQ (K:aq) (xc:ak->Hp->Prop) (n:Nat) (t:WS) (B:Ends) (σ:L2.St) (H:Hp):Prop
 |mk (H₀:Hp) (S:ai->Prop) (w:Nat->ai) (ρ:bB) (G:List (D×V)) (E:DE) (h1:⇑σ=n) (h2:ST K H₀ S w σ H ρ G) (h3:t E ρ) (h4:aCR K xc n H₀ S G E B):iQ K xc n t B σ H
def DW(X:Cx)(a:dc)(t:WS):Prop:=PS X a (iQ X.K (XC X) ⇑X.N t)
def sJ(X:Cx)(a:List dc)(t:WS):Prop:=qN X a (iQ X.K (XC X) ⇑X.N t)
section
def jT{e:dc}{t t':TS}(h:PS X e t)(f:∀B σ H,t' B σ H->t B σ H):PS X e t':=λπ s σ H B I q=>h π s σ H B I (f B σ H q)
def DX(h:qN X e t)(f:∀B σ H,t' B σ H->t B σ H):qN X e t':=λπ s σ H B I q=>h π s σ H B I (f B σ H q)
def Xd:WS:=λE ρ=>E.nx ρ
def yp(t u:WS):WS:=λE ρ=>t {E with nx:=u E} ρ
def Sa:sJ X [] Xd:=DX XI λB σ H j=>by obtain⟨H₀,S,w,ρ,G,E,h,a,d,ok⟩:=j;show ok.nx w σ H ρ h a d
def Rz{l:dc}{j:List dc}{t u:WS}(x:DW X l t)(h2:sJ X j u):sJ X (l::j) (yp t u):=DX (oW x h2) λB σ H y=>by obtain⟨H₀,S,w,ρ,G,E,v,o,p,ok⟩:=y;show⟨H₀,S,w,ρ,G,{E with nx:=u E},v,o,p,⟨λn m H' a h d q=>⟨H₀,S,n,a,G,E,h,d,q,ok⟩,ok.rt,ok.bk,ok.ct,ok.ex⟩⟩
def Xc{a:dc}{t:WS}(d:DW X a t):sJ X [a] t:=DX (A8 d) λ_ _ _ h=>h
def Rx(t:WE):WS:=λE ρ=>t (bH ρ) E.rt
def Ru(h:bY X e t):DW X (.Return (ae e) ν) (Rx t):=jT (GL h) λB σ H m=>by obtain⟨H₀,S,w,ρ,G,E,n,a,l,ok⟩:=m;show⟨S,bH ρ,E.rt,a.RL,a.all,l,λv H' d s' d' j=>ok.rt v H' d (a.sm.trans s') d' j⟩
def Rq(c:WT)(t u:WS):WS:=λE ρ=>c (bH ρ) λb=>if b=af then t E ρ else u E ρ
theorem Qn(n:xK X c tc)(p:sJ X a t)(o:sJ X b u):DW X (.If c a b ν) (Rq tc t u):=jT (Et n p o) λB σ H q=>by
 obtain⟨H₀,S,w,ρ,G,E,l,h,m,ok⟩:=q;show⟨S,bH ρ,_,h.RL,h.all,m,λd H1 j q1=>?_⟩
 cases d with
 |true=>rw[Z_ rfl] at q1 ⊢;show⟨H₀,S,w,ρ,G,E,l,h.same j,q1,ok⟩
 |false=>rw[Zz cf] at q1 ⊢;show⟨H₀,S,w,ρ,G,E,l,h.same j,q1,ok⟩
def yo(i:Nat)(t:WE):WS:=λE ρ=>t (fZ ρ) λd=>E.nx (ρ.set i (.ro d))
def Ql(i:Nat)(t:WE):WS:=λE ρ=>t (fZ ρ) λd=>E.nx (ρ.set i (.ow d))
section
variable{i:Nat}{x:ak}{e:av}{t:WE}{ν pos':br}
def iR{N:Q0g}{i:Nat}{x:ak}(h:N[i]?=ae x):i<⇑N:=(df.mp h).1
def Qk(hN:X.N.Nodup)(q:bY X e t)(j:X.N[i]?=ae x<|>0)(m:Loc X.env.scope x<|>2)(o:Si X e x pos' ν<|>0)(p:Zp X x<|>2):
  DW X (.Assign [.Name x pos'] e ν) (yo i t):=jT (nE hN j m q o p) λB σ H y=>by
 obtain⟨H₀,S,w,ρ,G,E,h,a,n,ok⟩:=y;show⟨_,fZ ρ,_,a.FN,a.rd,n,λv H' d s' d' l=>ok.nx w _ H' _ (by rw[jo];show h) ((a.same s').kK (by rw[h];show iR j) d') l⟩
def Qi(hN:X.N.Nodup)(z:G5 X e t)(l:X.N[i]?=ae x<|>0)(n:Loc X.env.scope x<|>2)(q:Si X e x pos' ν<|>0)(y:Zp X x<|>2):
  DW X (.Assign [.Name x pos'] e ν) (Ql i t):=jT (nE hN l n z q y) λB σ H A=>by
 obtain⟨H₀,S,w,ρ,G,E,j,a,o,ok⟩:=A;show⟨_,fZ ρ,_,a.FN,a.rd,o,λp xs H' ds v h s' d' m=>ok.nx _ _ H' _ (by rw[jo];show j) (a.G4 (d:=.lst ds) (by rw[j];show iR l) s' v ⟨xs,h,d'⟩) m⟩
end
def jF(N:Q0g)(ds:List D):bB:=ds.map Sv.ro++cc (⇑N-⇑ds) Sv.no
def DY{K:aq}{H:Hp}{S:ai->Prop}{N:Q0g}{ds:List D}{vs:List V}(x:∀a,H a=ag->S a)(h:aK K S H ds vs):ST K H S (λ_=>0) (L2.start N vs) H (jF N ds) []:=by
 have no:∀(i:Nat) (d:D),(jF N ds)[i]?≠ae (Sv.ow d):=λi d e=>by
  delta jF at e;by_cases l:i<⇑ds
  .rw [jj ↑l,c_] at e
   cases q:ds[i]? with
   |none=>rw[q] at e;cases e
   |some a=>rw[q] at e;cases e
  .rw [i_ ↑l,kg] at e;split at e<;>cases e
 have m:∀a,S a->SO S (λ_=>0) (jF N ds) a:=λa s=>⟨s,λi d e=>Zw e (no i d)⟩;show⟨x,ξ.refl H,λi d e=>Zw e (no i d),λi j d e p=>Zw p (no i d),λi d e=>?_,λg o=>(nomatch o),λi _ e=>Zw e (no i _)⟩;delta jF at e;by_cases l:i<⇑ds
 .rw [jj ↑l,c_] at e
  cases q:ds[i]? with
  |none=>rw[q] at e;cases e
  |some a =>
   rw[q] at e;cases e;obtain⟨v,e1,y⟩:=h.get q;show⟨v,?_,Dn.fits (.mono m) _ _ y⟩;delta L2.start;have n:i<⇑vs:=(df.mp e1).1;rw[jj ↑n,c_,e1];rfl
 .rw [i_ ↑l,kg] at e;split at e<;>cases e
theorem Qg{P:bj}{w:bg}{K:aq}{mg:Q0d}{ω:bh}{x qual:ak}{l:dc}{f:ai}{fd:gn}{N m:Q0g}{k:Nat}{R:Spec}(F:U7 K x qual l f fd)(S:dN N m (aJ l))(len:∀ds Q,R ds Q->⇑ds=⇑m)
  (j:∀(a:aj) (A:bx) (Γ:List fu) (s:ao) (H:Hp) (E:XK),dW k (A.deeper (envOfC qual (aJ l) ↥s f a)) ->
   ∃t:WS,sJ (kQ g7 P w K mg ω N qual (aJ l) f a A Γ s H E).DO (cV l) t /\∀ds Q,R ds Q->t {nx:=λ_=>Q .non,rt:=Q} (jF N ds)):jE P w K mg ω g7 (k+1) f fd m (sp3 K R):=by
 show F.ok S (λvs H Q E h=>?_) λa A Γ s H vs Q E J h=>?_
 .obtain ⟨S',ds,Q3,p,dn,r,_⟩:=h;rw[<- dn.len];show len ds Q3 r
 .obtain ⟨t,I,L⟩:=j a A Γ s H E J;obtain⟨S',ds,Q3,p,dn,r,o⟩:=h;show⟨_,I,H,S',λ_=>0,jF N ds,[],{nx:=λ_=>Q3 .non,rt:=Q3},?_,DY p dn,L ds Q3 r,⟨λU y H' z _ n q=>?_,λv H' d s' d' q=>o v H' d s' d' q,λ_ _ _ _ _ _ q=>q,λ_ _ _ _ _ _ q=>q,λ_ _ _ q=>q.elim⟩⟩
  .have Z:=len ds Q3 r;have O:=dn.len;have Y:⇑m<=⇑N:=by have:=congrArg uz S.pre;rw[iz] at this;lia
   delta L2.start;show _=⇑N;rw[gi,bb,n_];lia
  .exact o .non H' .non n.sm (by symm) q
end
abbrev WX:=bB->(bB->D->Prop)->Prop
inductive KS (K:aq) (n:Nat) (t:WX) (σ:L2.St) (H:Hp) (Q:VK):Prop
 |mk (H₀:Hp) (S:ai->Prop) (w:Nat->ai) (ρ:bB) (G:List (D×V)) (Q3:bB->D->Prop) (h1:⇑σ=n) (h2:ST K H₀ S w σ H ρ G) (h3:t ρ Q3) (h4:∀w' v H' ρ' d,ST K H₀ S w' σ H' ρ' G->Dn K (SO S w' ρ') H' d v->Q3 ρ' d->Q v H'):KS K n t σ H Q
def FO(X:Cx)(e:av)(t:WX):Prop:=PE X e (KS X.K ⇑X.N t)
def Xb(t:WE):WX:=λρ Q=>t (bH ρ) λd=>d.B8=af/\Q ρ d
def aCU(t:WE):WX:=λρ Q=>t (fZ ρ) λd=>Q ρ d
section
def px3(h:bY X e t):FO X e (Xb t):=imp h λσ H Q m=>by obtain⟨H₀,S,w,ρ,G,Q3,n,a,l,k⟩:=m;show⟨S,bH ρ,_,a.RL,a.all,l,λv H' d s' d' j=>k w v H' ρ d (a.same s') (Dn.B8 j.1 d') j.2⟩
def Qd(h:bY X e t):FO X e (aCU t):=imp h λσ H Q m=>by obtain⟨H₀,S,w,ρ,G,Q3,n,a,l,k⟩:=m;show⟨_,fZ ρ,_,a.FN,a.rd,l,λv H' d s' d' j=>k w v H' ρ d (a.same s') d' j⟩
def Xa(t:WX):WS:=λE ρ=>t ρ λa _=>E.nx a
theorem W_(q:FO X e t)(p:gq e ag ν.line X.env=pure ah<|>0):DW X (.Expr e ν) (Xa t):=jT (J4 q p) λB σ H x=>by obtain⟨H₀,S,w,ρ,G,E,h,m,o,ok⟩:=x;show⟨H₀,S,w,ρ,G,_,h,m,o,λl v H' j d a d' n=>ok.nx l _ H' _ h a n⟩
noncomputable def qh(i:Nat)(f:List D->D->(List D->D->Prop)->Prop)(t:WX):WX:=λρ Q=>(match ρ[i]? with|some (.ow (.lst _))=>True|_=>False)/\t ρ λa d=>match a[i]? with
 |some (.ow (.lst ds))=>f ds d λh r=>Q (a.set i (.ow (.lst h))) r
 |_=>False
def M3(K:aq)(r:V->List V->Hp->VK->Prop)(f:List D->D->(List D->D->Prop)->Prop):Prop:=∀(S:ai->Prop) (H:Hp) (p:ai) (xs:List V) (ds:List D) (y:V) (d:D) (Q3:List D->D->Prop) (Q:VK),
 H p=ae (.lst xs)->aK K S H ds xs->Dn K S H d y->f ds d Q3->(∀ys a v d',aK K S H a ys->Dn K S H d' v->Q3 a d'->Q v (upd H p (.lst ys)))->r (.ref p) [y] H Q
theorem YH{K:aq}{n i:Nat}{r:V->List V->Hp->VK->Prop}{f:List D->D->(List D->D->Prop)->Prop}{t:WX}{σ:L2.St}{H:Hp}{Q:VK}(h3:M3 K r f)(h:KS K n (qh i f t) σ H Q):
  By K "list" r (sF i) (rH (KS K n t) XU) σ H Q:=by
 obtain⟨H₀,S,w,ρ,G,Q3,hl,J,⟨L,ht⟩,k⟩:=h;split at L
 .rename_i ds e;obtain⟨a,b,c⟩:=J.own i _ e;obtain⟨xs,hp,dn⟩:=c;show⟨_,a,.inl ⟨rfl,xs,dM.of hp⟩,H₀,S,w,ρ,G,_,hl,J,ht,λm v H' l d o d' y=>?_⟩;split at y
  .rename_i ds' e';obtain⟨a',b',c'⟩:=o.own i _ e';obtain⟨x,p,I⟩:=c';have ew:w i=m i:=by have z:=a.symm.trans a';have O:=dg (dg z);injection O
   rw[ew];show h3 _ H' (m i) x ds' v d _ Q p I d' y λys q U d2 DZ A q2=>?_;have Z:¬ SO S m l (m i):=λ⟨_,z⟩=>z i _ e' rfl;have F:Fits K (SO S m l) (SO S m l) H' (upd H' (m i) (.lst ys)):=.upd (.inl ⟨_,p⟩) Z;have Y:∀a,SO S m l a->SO S m (l.set i (.ow (.lst q))) a:=SO.mono λj f hf=>by
    rcases get_set hf with⟨hj,_,_⟩|⟨_,z⟩
    .subst hj;show⟨_,e'⟩
    .exact ⟨_,z⟩
   show k m U _ _ d2 (o.write (d':=.lst q) e' ⟨ys,aM,aK.fits F _ _ DZ⟩) (Dn.fits (F.trans (.mono Y)) _ _ A) q2
  .exact y.elim
 .exact L.elim
theorem m1{i:Nat}{x:ak}{id:String}{name:ak}{e:av}{p apos a:br}{r:V->List V->Hp->VK->Prop}{f:List D->D->(List D->D->Prop)->Prop}{t:WX}(slot:Slot "list" name id)(m:typeOf (.builtin id)=pure (.type "method_descriptor"))(v:MtR X id r)(A:M3 X.K r f)(y:FO X e t)
  (hN:X.N[i]?=ae x<|>0) (q:xF X.env.scope x<|>3) (z:Zu x<|>1) (n:Zt x<|>1)
  (j:attributeBase (.Name x p) name X.env (eval (.Name x p) X.env)=eval (.Name x p) X.env<|>0)
  (l:Zo X a e<|>0)
  (d:Q0j apos a<|>0) (o:Zq X e []<|>0):
  FO X (.Call (.Attribute (.Name x p) name apos) [e] [] a) (qh i f t) :=
 imp (Yg PySem.F.plainAttrs_list slot m v (iO hN q z n) (eR y kH o) j l d o (by rfl)) λ_ _ _ h=>YH A h
def ym:List D->D->(List D->D->Prop)->Prop:=λds d Q=>⇑ds<bq/\Q (ds++[d]) .non
theorem aCW{K:aq}:M3 K KI ym:=by intro S H p xs ds y d Q3 Q h dn j a k;show⟨p,xs,y,rfl,rfl,h,by rw[<- dn.len];show a.1,k _ _ _ _ (dn.append (aK.one j)) (by symm) a.2⟩
noncomputable def yl:List D->D->(List D->D->Prop)->Prop
 |ds,.int k,Q=>(-(2^63)<=k/\k<2^63)/\(match MU ⇑ds k with|some j=>(match ds[j]? with|some d=>Q (ds.eraseIdx j) d|none=>False)|none=>False)
 |_,_,_=>False
theorem aCY{K:aq}:M3 K RA yl:=by
 intro S H p xs ds y d Q3 Q l dn h a k
 cases d with
 |int i =>
  symm at h;subst h;obtain⟨⟨m,h2⟩,a⟩:=a;split at a
  .rename_i j ej;split at a
   .rename_i dd ed;obtain⟨v,ev,n⟩:=dn.get ed;obtain⟨g1,_⟩:=BC ej;show⟨p,xs,i,j,v,rfl,rfl,l,m,h2,by rw[<- dn.len];show g1,ev,k _ _ _ _ (dn.erase j) n a⟩
   .exact a.elim
  .exact a.elim
 |_=>show a.elim
section
variable{i:Nat}{x:ak}{e:av}{p apos cpos:br}{t:WX}
def P_(n:FO X e t)(hN:X.N[i]?=ae x<|>0)(l:xF X.env.scope x<|>3)(o:Zu x<|>1)(j:Zt x<|>1)
  (d:attributeBase (.Name x p) "append" X.env (eval (.Name x p) X.env)=eval (.Name x p) X.env<|>0)
  (h:Zo X cpos e<|>0)
  (a:Q0j apos cpos<|>0) (m:Zq X e []<|>0):
  FO X (.Call (.Attribute (.Name x p) "append" apos) [e] [] cpos) (qh i ym t):=m1 a1b PySem.F.type_list_append yW aCW n hN l o j d h a m
def Pz(n:FO X e t)(hN:X.N[i]?=ae x<|>0)(l:xF X.env.scope x<|>3)(o:Zu x<|>1)(j:Zt x<|>1)
  (d:attributeBase (.Name x p) "pop" X.env (eval (.Name x p) X.env)=eval (.Name x p) X.env<|>0)
  (h:Zo X cpos e<|>0)
  (a:Q0j apos cpos<|>0) (m:Zq X e []<|>0):
  FO X (.Call (.Attribute (.Name x p) "pop" apos) [e] [] cpos) (qh i yl t):=m1 a09 PySem.F.type_list_pop RB aCY n hN l o j d h a m
end
def yj(ρ:bB)(i:Nat):Prop:=match ρ[i]? with
 |some (.ow (.lst _))=>True
 |_=>False
def Py(i:Nat)(t:WX)(h:WE):WS:=λE ρ=>t ρ λa d=>yj a i/\h (bH a) λk=>match a[i]?,k with
 |some (.ow (.lst ds)),.int k=>(match MU ⇑ds k with|some j=>E.nx (a.set i (.ow (.lst (ds.set j d))))|none=>False)
 |_,_=>False
theorem put3(he:FO X e t)(hk:bY X k tk)
  (hN:X.N[i]?=ae x<|>0) (Z:xF X.env.scope x<|>3) (hd:Zu x<|>1) (y:Zt x<|>1)
  (ha:∀v,assign (.Subscript (.Name x p) k pos') X.env v=(do
   let ov <- holding [v] (eval (.Name x p) X.env)
   let iv <- holding [v,ov] (eval k X.env)
   standAt pos'
   holding [v,ov,iv] (setItem ov iv v)
   release [v,ov,iv] []):=by intro _;rfl)
  (hs:swapsWithSole [.Subscript (.Name x p) k pos'] e ν.line X.env=pure ah<|>0) (hw:swappedStores [.Subscript (.Name x p) k pos'] e X.env=pure ag<|>0)
  (h1:(fz [.Subscript (.Name x p) k pos'] X.env).map (·.2)=[assign (.Subscript (.Name x p) k pos') X.env]<|>0):
  DW X (.Assign [.Subscript (.Name x p) k pos'] e ν) (Py i t tk):=jT (aBb he (aB9 (iO hN Z hd y) hk set_list ha) hs hw h1) λB σ H Px=>by
 obtain⟨H₀,S,w,ρ,G,E,J,U,ht,ok⟩:=Px;show⟨H₀,S,w,ρ,G,_,J,U,ht,λm v H' h d l d' q=>?_⟩;obtain⟨o,q⟩:=q;delta yj at o;split at o
 .rename_i ds0 e0;obtain⟨a0,_,_⟩:=l.own i _ e0;show⟨_,a0,S,bH h,_,l.RL,l.all,q,λkv O dk A L q2=>?_⟩;split at q2
  .rename_i ds k' e1;symm at L;split at q2
   .rename_i j ej;have n:=l.same A;obtain⟨a,b,c⟩:=n.own i _ e1;obtain⟨xs,I,dn⟩:=c;have Y:¬ SO S m h (m i):=λ⟨_,z⟩=>z i _ e1 rfl;have F:Fits X.K (SO S m h) (SO S m h) O (upd O (m i) (.lst (xs.set j v))):=.upd (.inl ⟨_,I⟩) Y;show⟨m i,xs,k',j,rfl,L,I,by rw[<- dn.len];show ej,ok.nx m σ _ _ J (n.write (d':=.lst (ds.set j d)) e1 ⟨_,aM,aK.fits F _ _ (dn.set j (Dn.fits (.same A) _ _ d'))⟩) q2⟩
   .exact q2.elim
  .exact q2.elim
 .exact o.elim
end
structure Wlk (K:aq) (J:It) (ds:List D) (G:List (D×V)):Prop where
 go:∀(S:ai->Prop) (H:Hp),(∀a,H a=ag->S a)->(∀g∈G,Dn K S H g.1 g.2) ->∀(i:Nat) (d:D),ds[i]?=ae d->J.go i H /\∀x H',J.yld i H x H'->ξ H H'/\Dn K S H' d x
 stop:∀(S:ai->Prop) (H:Hp),(∀g∈G,Dn K S H g.1 g.2) ->∀i:Nat,⇑ds=i->J.stop i H
abbrev WI:=cN->(List D->Prop)->Prop
inductive RZ (K:aq) (t:WI) (σ:L2.St) (H:Hp) (R:(It->Hp->Prop)):Prop
 |mk (S:ai->Prop) (ρ:cN) (Q3:List D->Prop) (h1:(∀a,H a=ag->S a)) (h2:Sl K S H ρ σ) (h3:t ρ Q3) (h4:∀J H' ds G,ξ H H'->(∀g∈G,Dn K S H' g.1 g.2)->Wlk K J ds G->Q3 ds->R J H'):RZ K t σ H R
def U8(X:Cx)(a iter:av)(t:WI):Prop:=PI X a iter (RZ X.K t)
section
variable{tg:av}
theorem R1(h:PI X tg e t)(f:∀σ H R,t' σ H R->t σ H R):PI X tg e t':=λπ s σ H R I q=>h π s σ H R I (f σ H R q)
noncomputable def Wz(t:WE):WI:=λρ Q=>t ρ λd=>match d with
 |.lst ds=>Q ds
 |.tup ds=>Q ds
 |_=>False
theorem R3{K:aq}{a:ai}{ds:List D}:Wlk K (Itl K a) ds [(.lst ds,.ref a)] where
 go:=λS H q m i d e=>by have h:=m _ (dh.mpr rfl);symm at h;obtain⟨b,xs,j,l,n,dn⟩:=h;injection j with j;subst j;obtain⟨v,ev,p⟩:=dn.get e;show⟨⟨xs,v,dM.of l,ev⟩,λx H' y=>?_⟩;obtain⟨e1,y⟩:=y;subst e1;have ex:=y xs (dM.of l);rw[ev] at ex;cases ex;show⟨ξ.refl _,p⟩
 stop:=λS H m i o=>by have h:=m _ (dh.mpr rfl);symm at h;obtain⟨b,xs,j,l,n,dn⟩:=h;injection j with j;subst j;show⟨xs,dM.of l,by rw[<- dn.len];show nz o⟩
theorem YJ{K:aq}{a:ai}{ds:List D}:Wlk K (Itt K a) ds [(.tup ds,.ref a)] where
 go:=λS H p m i d e=>by have h:=m _ (dh.mpr rfl);symm at h;obtain⟨b,xs,j,l,dn⟩:=h;injection j with j;subst j;obtain⟨v,ev,o⟩:=dn.get e;show⟨⟨xs,v,(eV.of l),ev⟩,λx H' y=>?_⟩;obtain⟨e1,y⟩:=y;subst e1;have ex:=y xs (eV.of l);rw[ev] at ex;cases ex;show⟨ξ.refl _,o⟩
 stop:=λS H m i n=>by have h:=m _ (dh.mpr rfl);symm at h;obtain⟨b,xs,j,l,dn⟩:=h;injection j with j;subst j;show⟨xs,(eV.of l),by rw[<- dn.len];show nz n⟩
def aC1(F:PE X l tl):PI X tg l (λσ H R=>tl σ H λx H1=>∃a,x=.ref a/\(((∃xs,dM X.K H1 a xs)/\R (Itl X.K a) H1)\/((∃xs,eV X.K H1 a xs)/\R (Itt X.K a) H1))):=by
 intro π s σ H R I h;show dB (F π s σ H _ I h) λv d J=>?_;obtain⟨x,H1,j,r1,q1⟩:=J;obtain⟨a,e,q⟩:=q1;subst e;cases r1;rcases q with⟨⟨xs,m⟩,q⟩|⟨⟨xs,m⟩,q⟩
 .obtain ⟨y,z,p,A⟩:=j.list m;show zt p.isList ?_;show⟨↥d,[↥d],_,_,H1,rfl,j.kept (t':=d.toks) λb o e=>cy _ e,yP a _,⟨_,fv _ rfl,rfl,rfl⟩,λb n=>?_,q⟩;have e:b=↥d:=by simpa using n
  subst e;show j.xG (bt _) (j.hok.fresh (bt _))
 .obtain ⟨y,z,p,A⟩:=j.tuple m;show vk (show d.heap.IsTuple a y.toArray from p) ?_;show⟨↥d,[↥d],_,_,H1,rfl,j.kept (t':=d.toks) λb o e=>cy _ e,GN a _,⟨_,fv _ rfl,rfl,rfl⟩,λb n=>?_,q⟩;have e:b=↥d:=by simpa using n
  subst e;show j.xG (bt _) (j.hok.fresh (bt _))
theorem Wy(h:bY X l t):U8 X tg l (Wz t):=R1 (aC1 h) λσ H R A=>by
 obtain⟨S,ρ,Q3,y,q,x,k⟩:=A;show⟨S,ρ,_,y,q,x,λv H1 d p m q1=>?_⟩
 cases d with
 |lst ds =>
  have j:=m;symm at m;obtain⟨a,xs,rfl,o,F,z⟩:=m;show⟨a,rfl,.inl ⟨⟨xs,dM.of o⟩,k _ H1 ds [(.lst ds,.ref a)] p (λg n=>by cases dh.mp n;show j) R3 q1⟩⟩
 |tup ds =>
  have j:=m;symm at m;obtain⟨a,xs,rfl,o,z⟩:=m;show⟨a,rfl,.inr ⟨⟨xs,(eV.of o)⟩,k _ H1 ds [(.tup ds,.ref a)] p (λg n=>by cases dh.mp n;show j) YJ q1⟩⟩
 |_=>show q1.elim
def mN(lo:Int)(n:Nat):List Int:=(cx n).map λk:Nat=>lo+(k:Int)
def lU(lo:Int)(n:Nat):⇑(mN lo n)=n:=by simp[mN]
def R4{lo:Int}{n i:Nat}:(mN lo n)[i]?=if i<n then ae (lo+(i:Int)) else ag:=by
 delta mN;rw[c_];by_cases h:i<n
 .rw [Z_ h,p0 h];rfl
 .rw [Zz h,ji ↑h];rfl
theorem M9{K:aq}{lo:Int}{n:Nat}:Wlk K (Itr lo n) ((mN lo n).map D.int) [] where
 go:=λS H m j i d e=>by
  rw[c_,R4] at e;by_cases h:i<n
  .rw [Z_ h] at e;cases e;show⟨h,λx H' y=>?_⟩;obtain⟨e1,l⟩:=y;subst e1;show⟨ξ.refl _,by symm;show l⟩
  .rw [Zz h] at e;cases e
 stop:=λS H j i a=>by rw[bb,lU] at a;show nz a
noncomputable def aC2(t:WA):WI:=λρ Q=>t ρ λds=>match ds with
 |[.int j]=>(-(2^62)<=j/\j<2^62)/\Q ((mN 0 j.toNat).map D.int)
 |_=>False
theorem aC3(q:X.mg "range"=ag)(x:xM X [a] t)(d:Gl X "range"<|>0)(o:ax [a] X.env=[(ah,eval a X.env)]<|>0):U8 X tg (.Call (.Name "range" p) [a] [] ν) (aC2 t) :=
 R1 (MO d q x o) λσ H R A=>by
  obtain⟨S,ρ,Q3,y,l,n,k⟩:=A;show⟨S,ρ,_,y,l,n,λvs H1 ds m z q1=>?_⟩;split at q1
  .rename_i j;obtain⟨v,r,rfl,h,h2⟩:=z.bA;erw[aK] at h2;subst h2;symm at h;subst h;show⟨j,rfl,q1.1.1,q1.1.2,k _ H1 _ [] m (λg d=>nomatch d) M9 q1.2⟩
  .exact q1.elim
abbrev WG:=D->bB->(bB->Prop)->Prop
inductive El (K:aq) (n:Nat) (g:WG) (v:V) (σ:L2.St) (H:Hp) (Q:(L2.St->Hp->Prop)):Prop
 |mk (H₀:Hp) (S:ai->Prop) (w:Nat->ai) (ρ:bB) (G:List (D×V)) (d:D) (Q3:bB->Prop) (h1:⇑σ=n) (h2:ST K H₀ S w σ H ρ G) (h3:Dn K (SO S w ρ) H d v) (h4:g d ρ Q3) (h5:∀σ' H' ρ',⇑σ'=n->ST K H₀ S w σ' H' ρ' G->Q3 ρ'->Q σ' H'):El K n g v σ H Q
def PG3(X:Cx)(tg:av)(g:WG):Prop:=PG X tg (El X.K ⇑X.N g)
def NA(h:PG X e t)(f:∀v σ H Q,t' v σ H Q->t v σ H Q):PG X e t':=λπ s σ H v u Q I r q=>h π s σ H v u Q I r (f v σ H Q q)
def gN(i:Nat):WG:=λd ρ Q=>Q (ρ.set i (.ro d))
theorem Wx(hN:X.N.Nodup)(h:X.N[i]?=ae x<|>0)(l:Loc X.env.scope x<|>2)(n:Zp X x<|>2):PG3 X (.Name x ν) (gN i) :=
 NA (kD hN h l n) λv σ H Q o=>by obtain⟨H₀,S,w,ρ,G,d,Q3,a,j,dn,m,k⟩:=o;show k _ H _ (by rw[jo];show a) (j.kK (by rw[a];show iR h) dn) m
noncomputable def g2(i j:Nat):WG:=λd ρ Q=>match d with
 |.tup [d1,d2]=>Q ((ρ.set i (.ro d1)).set j (.ro d2))
 |_=>False
def Ww(hc:X.calm=af)(hN:X.N.Nodup)(O:X.N[i]?=ae x<|>0)(L:X.N[j]?=ae y<|>0)(hx:Loc X.env.scope x<|>2)(hy:Loc X.env.scope y<|>2)
  (K:Zp X x<|>2) (J:Zp X y<|>2)
  (hn:Q0i X x y px py<|>0) (q:Q0h X x y px py<|>0)
  (F:H0 X x y px py<|>0) (A:gV X y py<|>0):
  PG3 X (.Tuple [.Name x px,.Name y py] k ν) (g2 i j) :=
 NA (QW (n:=2) hc (oX (kD hN O hx K) (oX (kD hN L hy J) J5 A) F) hn q) λv σ H Q Pp=>by
  obtain⟨H₀,S,w,ρ,G,d,Q3,I,Z,dn,h,k⟩:=Pp;delta g2 at h;split at h
  .rename_i d1 d2;symm at dn;obtain⟨a,xs,rfl,ha,da⟩:=dn;obtain⟨Y,r1,rfl,h1,h2⟩:=da.bA;obtain⟨l,r2,rfl,h3,U⟩:=h2.bA;erw[aK] at U;subst U;show⟨a,_,rfl,(eV.of ha),rfl,Y,[l],rfl,l,[],rfl,rfl,?_⟩;have p:=Z.kK (i:=i) (by rw[I];show iR O) h1;have m:∀a,SO S w ρ a->SO S w (ρ.set i (.ro d1)) a:=SO.mono λn f K=>by
    rcases get_set K with⟨_,z,_⟩|⟨_,z⟩
    .cases z
    .exact ⟨_,z⟩
   have o:=p.kK (i:=j) (d:=d2) (v:=l) (by rw[jo,I];show iR L) (Dn.fits (.mono m) _ _ h3);show k _ H _ (by rw[jo,jo];show I) o h
  .exact h.elim
def Po(j:WI)(g:WG)(l:WS):WS:=λE ρ=>j (fZ ρ) λds=>∃Φ:Nat->bB->Prop,Φ 0 ρ /\
 (∀(i:Nat) (d:D) (a:bB),ds[i]?=ae d->Φ i a->g d a λh=>l {E with nx:=Φ (i+1),ct:=Φ (i+1),bk:=E.nx} h) /\∀a,Φ ⇑ds a->E.nx a
theorem Pm(hc:X.calm=af)(hp:tj (au X.Ω X.w) X.A X.env X.xe)(hi:U8 X tg iter ti)(p:PG3 X tg g)(hb:sJ X body tb)
  (hs:Zn X iter<|>4):DW X (.For tg iter body [] ν) (Po ti g tb):=jT (aBe hp hc hi p hb hs) λB σ H Pl=>by
 obtain⟨H₀,S,w,ρ,G,E,hl,I,ht,ok⟩:=Pl;show⟨_,fZ ρ,_,I.FN,I.rd,ht,λJ H1 ds Y s1 hg1 wk q1=>?_⟩;obtain⟨Iv,h0,turn,fin⟩:=q1;have O:∀{w σ H ρ},ST X.K H₀ S w σ H ρ (Y++G)->ST X.K H₀ S w σ H ρ G:=λI=>I.ghost λg p=>I.gh g (ir _ p);show⟨λi m σ H=>m=⇑ds-i/\i<=⇑ds/\⇑σ=⇑X.N /\∃w ρ,ST X.K H₀ S w σ H ρ (Y++G)/\Iv i ρ,
  ⟨_,rfl,gw _,hl,w,ρ,(I.same s1).ghost λg p=>(ij.mp p).elim (λz=>hg1 g z) λz=>(I.same s1).gh g z,h0⟩,?_⟩
 rintro i m Z H2 ⟨rfl,hi2,U,w2,o,n,iv⟩;by_cases L:i<⇑ds
 .refine .inr ?_;obtain⟨g1,g2⟩:=wk.go _ H2 n.FN (λg p=>n.gh g (kq _ p)) i ds[i] (by simp[L]);show⟨g1,λa H'=>⇑a=⇑X.N /\∃w ρ,ST X.K H₀ S w a H' ρ (Y++G)/\Iv (i+1) ρ,λa H' ⟨l,F,h,j,iv'⟩=>⟨⇑ds-(i+1),∅,rfl,L,l,F,h,j,iv'⟩,λx H' y=>?_⟩;obtain⟨s3,dx⟩:=g2 x H' y;show⟨H₀,S,w2,o,Y++G,ds[i],_,U,n.same s3,dx,turn i ds[i] o (by simp[L]) iv,λσ4 H4 ρ4 hl4 st4 q4=>?_⟩;show⟨H₀,S,w2,ρ4,Y++G,_,hl4,st4,q4,⟨λF a H' h l j q=>⟨l,F,h,j,q⟩,λv H' d s' d' q=>ok.rt v H' d s' d' q,λF a H' h l j q=>ok.nx F a H' h l (O j) q,λF a H' h l j q=>⟨l,F,h,j,q⟩,ok.ex⟩⟩
 .have e:i=⇑ds:=∅
  subst e;show .inl ⟨wk.stop _ H2 (λg p=>n.gh g (kq _ p)) _ rfl,ok.nx w2 Z H2 o U (O n) (fin o iv)⟩
end
theorem vU(h:∀x∈scope.names,x.2=.free ->∃c,env.cells.lookup x.1=ae c):
  ∃d,closureFor scope env=pure d/\(∀x∈scope.names,x.2=.free->d.lookup x.1=env.cells.lookup x.1) /\∀x c,d.lookup x=ae c->env.cells.lookup x=ae c:=by
 have go:∀(l:List (ak×jn)) (j:List (ak×ai)),(∀x∈l,x.2=.free ->∃c,env.cells.lookup x.1=ae c)->(∀x c,j.lookup x=ae c->env.cells.lookup x=ae c) ->
   ∃d,(forIn l j λ(x:ak×jn) (O:List (ak×ai))=>(match x with|(name,kind)=>if(kind == jv)=af then(do let c <- cellOf env name;pure (oh ((name,c)::O))) else pure (oh O):gk (ForInStep (List (ak×ai)))))=pure d /\
    (∀x c,j.lookup x=ae c->d.lookup x=ae c)/\(∀x∈l,x.2=.free->d.lookup x.1=env.cells.lookup x.1) /\∀x c,d.lookup x=ae c->env.cells.lookup x=ae c:=by
  intro l
  induction l with
  |nil=>intro j _ p;show⟨j,by rw[Bl],λ_ _ z=>z,λx a=>(nomatch a),p⟩
  |cons y l ih =>
   intro j I p;by_cases A:y.2=.free
   .obtain ⟨c,F⟩:=I y de A;have J:∀x n,((y.1,c)::j).lookup x=ae n->env.cells.lookup x=ae n:=λx n a=>by
     rw[uw] at a;split at a
     .rename_i e;cases a;rw[eq_of_beq e];show F
     .exact p x n a
    obtain⟨d,e,v,h2,q⟩:=ih ((y.1,c)::j) (λx a=>I x (fg _ a)) J;show⟨d,?_,λx n a=>?_,λx a m=>?_,q⟩
    .rw [u_,<- e];have e1:(y.2 == jv)=af:=by rw[A];rfl
     have L:cellOf env y.1=pure c:=by delta cellOf;rw[F]
     obtain⟨U,X⟩:=y;dsimp only at e1 L ⊢;rw[Z_ e1,L];rfl
    .by_cases o:x=y.1
     .subst o;have Y:((y.1,c)::j).lookup y.1=ae c:=by simp
      have K:=p _ _ a;rw[F] at K;cases K;show v _ _ Y
     .refine v x n ?_;rw[uw];have:(x == y.1)=ah:=by simpa using o
      rw[this];show a
    .rcases cg.mp a with rfl|a
     .rw [F];show v _ _ (by simp)
     .exact h2 x a m
   .obtain ⟨d,e,v,h2,q⟩:=ih j (λx a=>I x (fg _ a)) p;show⟨d,?_,v,λx a m=>?_,q⟩
    .rw [u_,<- e];have e1:¬ (y.2 == jv)=af:=by simpa using A
     obtain⟨U,X⟩:=y;dsimp only at e1 ⊢;rw[Zz e1];rfl
    .rcases cg.mp a with rfl|a
     .exact Zw m A
     .exact h2 x a m
 obtain⟨d,e,_,h2,q⟩:=go scope.names [] h (λx c z=>by simp at z);show⟨d,?_,h2,q⟩;have Z:=congrArg (λt=>t >>= λr=>(pure r:gk (List (ak×ai)))) e;show Z
theorem gC:∀(l:List (ak×jn)) (n:Nat) (own a:List (ak×ai)),cellsFrom n l (own++a)=cellsFrom n l own++a
 |[],_,_,_=>rfl
 | (x,k)::r,n,own,a=>by
  delta cellsFrom;split
  .exact gC r (n+1) ((x,n)::own) a
  .exact gC r n own a
theorem iS:∀(l:List (ak×jn)) (n:Nat) (own:List (ak×ai)) (p:ak×ai),p∈cellsFrom n l own->p∈own\/(p.1,lr)∈l
 |[],_,_,_,h=>.inl h
 | (x,k)::r,n,own,p,h=>by
  delta cellsFrom at h;split at h
  .rename_i hk;rcases iS r _ _ p h with h|h
   .rcases cg.1 h with rfl|h
    .exact .inr (by rw[<- eq_of_beq hk];show de)
    .exact .inl h
   .exact .inr (fg _ h)
  .rcases iS r _ _ p h with h|h
   .exact .inl h
   .exact .inr (fg _ h)
theorem jG:∀(l:List (ak×jn)) (n:Nat) (own:List (ak×ai)) (x:ak),((∃c,own.lookup x=ae c)\/(x,lr)∈l) ->∃c,(cellsFrom n l own).lookup x=ae c
 |[],_,_,_,h=>h.elim id λz=>(nomatch z)
 | (y,k)::r,n,own,x,h=>by
  delta cellsFrom;split
  .refine jG r _ _ x ?_;by_cases e:x=y
   .exact .inl ⟨n,by rw[e,uw,beq_self_eq_true]⟩
   .rcases h with⟨c,h⟩|h
    .exact .inl ⟨c,by rw[uw,beq_eq_false_iff_ne.mpr e];show h⟩
    .rcases cg.mp h with z|z
     .exact Zw (Hk z).1 e
     .exact .inr z
  .rename_i hk;show jG r _ _ x (h.imp_right λz=>?_);rcases cg.mp z with z|z
   .rw [<- (Hk z).2] at hk;show Zw rfl hk
   .exact z
theorem NB{M:qu}{A:bx}{E:Q0c}{s:ao}{sc:gd}{g:ai}{j:List (ak×ai)}{q:ak}{f:Option ai}{code:aj}{env:fu}{bl:ai}{Q:fu->ao->Prop}
  (h:∀a:bh,a.Ns ↥s (λ_=>ag)->(∀b o,s.heap.get? b=ae o->a.get? b=ae o)->CellsOk a (↥s+1) (cellsFrom (↥s+1) sc.names []) ->
   Q (newEnv sc ↥s g (cellsFrom (↥s+1) sc.names j) q f code (ae env) bl) {s with heap:=a}):
  az M A (newFunctionEnv sc g j [] q f code (ae env) bl) Q E s:=by
 delta newFunctionEnv;show ar (wpAny_alloc (ar (wpAny_layCells _ (λx k c=>by cases e:k == lr<;>simp[e]) _ _ _ _ ?_)));have d:∀o:ay,(s.heap.push o).objs.size=↥s+1:=λo=>tu ..;have ok:=λo=>cellsFrom_ok sc.names (s.heap.push o) (↥s+1) [] ⟨λ_ _ z=>(nomatch z),.nil⟩ (by rw[d];show bt _);erw[d] at ok ⊢;rw[Bl];show ar (a_ (a_ (h _ ((Heap.Ns.new s.heap _).keeps (a0y _ _)) (λb o e=>a0y _ _ b o (cy _ e)) (ok _))))
def blk(X:Cx)(N:Q0g)(sc:gd)(a:List (ak×ai))(C:ai)(pn:Q0b)(ex:List ai)(s₀:ao)(H₀:Hp):Cx :=
 {X with N:=N,s₀:=s₀,H₀:=H₀,env:=compEnvC sc a C X.env,Γ:=X.stack,stack:=X.stack,ex:=ex,fn:=λx=>sc.names.lookup x == ae lr,pn:=pn,xe:=λ_ _=>False}
def D0(nl:Nat)(fr:List Nat)(σ:L2.St):L2.St:=cc nl ag++fr.map λj=>(σ[j]?).join
structure EA (X:Cx) (ls fs:Q0g) (fr:List Nat) (sc:gd):Prop where
 kind:sc.kind=.function
 nd:(ls++fs).Nodup
 uniq:∀x∈sc.names,sc.names.lookup x.1=ae x.2
 free:∀x∈sc.names,x.2=.free->X.env.kindOf x.1=ae .cell\/X.env.kindOf x.1=ae .free
 slot:∀(k:Nat) (x:ak),fs[k]?=ae x ->∃j,fr[k]?=ae j/\X.N[j]?=ae x/\(x,jv)∈sc.names/\sc.names.lookup x=ae .free
 BN:⇑fr=⇑fs
theorem rN(t:ak->jn->jn)(x:ak):∀l:List (ak×jn),(l.map λp=>(p.1,t p.1 p.2)).lookup x=(l.lookup x).map (t x)
 |[]=>rfl
 | (n,k)::r=>by
  rw[bu,uw,uw];by_cases a:(x == n)=af
  .rw [a,eq_of_beq a];rfl
  .rw [Jg] at a;rw[a];show rN t x r
theorem vV{sc:gd}{env:fu}{x:ak}{l:List (ak×jn)}:(l.map λ(n,k)=>if(k == jv&&env.scope.kind == .function&&env.kindOf n == ae .cell) then(n,lr) else(n,k)).lookup x =
  (l.lookup x).map λk=>if(k == jv&&env.scope.kind == .function&&env.kindOf x == ae .cell) then lr else k:=by
 rw[<- rN (λy k=>if(k == jv&&env.scope.kind == .function&&env.kindOf y == ae .cell) then lr else k) x l];show congrArg (List.lookup x) (kr λp _=>?_);dsimp only;split<;>rfl
def ne_size{b c:ai}{h:bh}{o:ay}(e:h.get? b=ae o)(a:c=h.objs.size):b≠c:=λz=>jg _ (by have q:=cj e;rw[z,a] at q;show q)
def EB{b c:ai}{n:Nat}(h:b<n)(a:n<=c):b≠c:=λz=>jg c (gm (z▸h) a)
theorem YK{ls fs:Q0g}{fr:List Nat}{sc:gd}{h:List (ak×ai)}{C:ai}{π:Q0b}{ex:List ai}{σ:L2.St}{H:Hp}{s U:ao}(B:EA X ls fs fr sc)(I:Φ X π σ H s)
  (hcl:∀x∈sc.names,x.2=.free->h.lookup x.1=X.env.cells.lookup x.1) (jU:∀x c,h.lookup x=ae c->X.env.cells.lookup x=ae c\/(C<c/\U.heap.IsCell c ag)) (Dh:∀x∈sc.names,x.2=.cell ->∃c,h.lookup x.1=ae c/\C<c)
  (hinj:∀x y c,h.lookup x=ae c->h.lookup y=ae c->x=y) (hex:∀b∈ex,mM X π H b/\b<↥s)
  (O:C=↥s) {m:Q0d} (hn:U.heap.Ns C m) (hk:∀b o,s.heap.get? b=ae o->U.heap.get? b=ae o) (ho:U.os=s.os) (hg:U.gens=s.gens):
  Φ (blk X (ls++fs) sc h C (X.pn++π) ex s H) [] (D0 ⇑ls fr σ) H U:=by
 have ltC:∀{b:ai} {o:ay},s.heap.get? b=ae o->b≠C:=λe=>ne_size e O;have aLR:∀x c,h.lookup x=ae c->c≠C:=λx c e=>by
  rcases jU x c e with e|⟨e,_⟩
  .obtain ⟨v,o,ho,_⟩:=I.cell x c e;show ltC ho
  .exact ny e
 have Cf:∀x,(compEnvC sc h C X.env).kindOf x=(sc.names.lookup x).map λk=>if(k == jv&&X.env.scope.kind == .function&&X.env.kindOf x == ae .cell) then lr else k:=λx=>vV (sc:=sc)
 have okX:(blk X (ls++fs) sc h C (X.pn++π) ex s H).Ok:=by
  show⟨I.ok.mod,B.kind,I.ok.glob,I.ok.blt,(by show ↥s<=C;rw[O];show bt _),hinj,λx A=>?_,λx c hf hl=>?_,I.ok.hd,I.ok.frames,.inl rfl,λb L=>?_,λb o e=>I.bs b o e,iq I.ok.U6 I.sz,λb o e L=>?_,λb L=>?_,I.stack,I.A6,I.tab⟩
  ·-- a cell or free name of the block
   have hx':∃k,sc.names.lookup x=ae k/\((if(k == jv&&X.env.scope.kind == .function&&X.env.kindOf x == ae .cell) then lr else k)=.cell\/(if(k == jv&&X.env.scope.kind == .function&&X.env.kindOf x == ae .cell) then lr else k)=.free):=by
    have A:(compEnvC sc h C X.env).kindOf x=ae .cell\/(compEnvC sc h C X.env).kindOf x=ae .free:=A;rw[Cf] at A
    cases e:sc.names.lookup x with
    |none=>rw[e] at A;rcases A with A|A<;>cases A
    |some k=>rw[e] at A;show⟨k,rfl,A.imp (λz=>dg z) λz=>dg z⟩
   obtain⟨k,e,K⟩:=hx';have Y:=kn e;by_cases kf:k=.free
   .subst kf;have q:=hcl _ Y rfl;obtain⟨c,hc⟩:=I.ok.has x (B.free _ Y rfl);show⟨c,q.trans hc⟩
   .have Z:(k == jv)=ah:=by simpa using kf
    rw[Z] at K;erw[r9,nj,if_false] at K;rcases K with z|z
    .obtain ⟨c,hc,_⟩:=Dh _ Y z;show⟨c,hc⟩
    .exact Zw z kf
  ·-- an own cell is new
   obtain⟨c',F,hlt⟩:=Dh _ (kn (eq_of_beq hf)) rfl;have F:h.lookup x=ae c':=F;have hl:h.lookup x=ae c:=hl;rw[hl] at F;cases F;rw[O] at hlt;show mh hlt
  .refine ⟨EB (hex b L).2 (nz O.symm),λx c e=>?_⟩;rcases jU x c e with e|⟨e,_⟩
   .exact (hex b L).1.2.2.2.2.1 x c e
   .exact gb (EB (hex b L).2 (by rw[<- O];show mh e))
  .obtain ⟨⟨_,_,_,f3,_,_⟩,_⟩:=hex b L;rcases f3 with f3|f3
   .exact I.ok.QU b o e f3
   .exact Zw (gm (cj e) (iq I.ok.U6 f3)) (jg _)
  .intro z;obtain⟨⟨_,f1,f2,_,_,_⟩,_⟩:=hex b L;rcases cg.mp (I.vH b z) with z|z
   .exact f1 z
   .exact f2 z
 show⟨okX,ho,by rw[hg];show I.bare,Un.kept hk,⟨m,hn,λi x v h1 h2 h3=>?_⟩,λx c e=>?_,?_,λx c e=>?_,λp hp=>?_,I.hok.kept hk,?_⟩
 ·-- a name with a value is one from around
  have hi:¬ i<⇑ls:=λhi=>by delta D0 at h2;rw[jj ↑hi,kg,Z_ hi] at h2;cases h2
  have e1:fs[i-⇑ls]?=ae x:=by have h1:(ls++fs)[i]?=ae x:=h1;rw[i_ ∅] at h1;show h1
  obtain⟨j,ej,eN,Y,hlk⟩:=B.slot _ _ e1;have Z:(σ[j]?).join=ae v:=by delta D0 at h2;rw[i_ ↑hi,c_,n_,ej] at h2;show dg h2
  have e3:σ[j]?=ae (ae v):=by
   cases q:σ[j]? with
   |none=>rw[q] at Z;cases Z
   |some o=>rw[q] at Z;rw[show o=ae v from Z]
  have hfr:=B.free _ Y rfl;have vis:xF X.env.scope x:=.inr hfr;obtain⟨mm,hnm,hl⟩:=I.loc;obtain⟨u,r,l⟩:=hl j x v eN e3 vis;show⟨u,r,?_⟩;rcases l with⟨k1,_⟩|⟨k1,c,ec,zc⟩
  .have k1:X.env.kindOf x=ae .local:=k1;rcases hfr with z|z<;>rw[k1] at z<;>cases z
  .refine .inr ⟨?_,c,(hcl _ Y rfl).trans ec,?_⟩
   .show (compEnvC sc h C X.env).kindOf x=ae .cell\/(compEnvC sc h C X.env).kindOf x=ae .free;rw[Cf,hlk];dsimp only[a1Q];split
    .exact .inl rfl
    .exact .inr rfl
   .obtain ⟨oc,J,hd⟩:=zc;show⟨oc,hk _ _ J,hd⟩
 .rcases jU x c e with e|⟨_,e⟩
  .obtain ⟨v,oc,J,hd⟩:=I.cell x c e;show⟨v,oc,hk _ _ J,hd⟩
  .exact ⟨ag,e⟩
 .show H C=ag;rw[O];show I.hok.fresh (bt _)
 .rcases jU x c e with e|⟨e,_⟩
  .exact I.kP x c e
  .exact I.hok.fresh (by rw[<- O];show mh e)
 .have hp:p∈(X.pn++π)++[]:=hp;rw[ki] at hp;obtain⟨e,n,ne,nf,d⟩:=I.pin p hp;show⟨hk _ _ e,n,ltC e,λz=>?_,d⟩;rcases cg.mp (I.vH _ z) with z|z
  .exact ne z
  .exact nf z
 .show ⇑(D0 ⇑ls fr σ)=⇑(ls++fs);delta D0;rw[gi,gi,n_,bb,B.BN]
theorem R5{ls fs:Q0g}{sc:gd}{O:List (ak×ai)}{C:ai}{π U:Q0b}{ex:List ai}{σ m:L2.St}{H H':Hp}{s s':ao}{h':bh}(I:Φ X π σ H s)
  (J:Φ (blk X (ls++fs) sc O C (X.pn++π) ex s H) U m H' s') (hex:∀b∈ex,mM X π H b) (y:C=↥s) (l:qv C s'.heap h'):Φ X π σ H' {s' with heap:=h' }:=by
 have a:∀{b:ai} {o:ay},s.heap.get? b=ae o->b≠C:=λe=>ne_size e y;have fr:H' C=ag:=J.free;have un:Un (frs X.stack) ex H H' s.heap s'.heap:=J.ω;show I.call' (s':={s' with heap:=h' }) (ch:=ex) J.os ⟨λb o e n j h=>(l.2 b (a e)).trans (un.keep b o e n j h),λb o e n j h=>?_,un.free,λb o e h=>?_,un.tups,un.xD,un.vF⟩ ?_ J.bare λb j=>?_
 .obtain ⟨p,q⟩:=un.slot b o e n j h;show⟨p,(l.2 b (a e)).trans q⟩
 .obtain ⟨x,q⟩:=un.there b o e h;show⟨x,(l.2 b (a e)).trans q⟩
 .intro b v e;show(J.hok b v e).stay (λc u d q=>(l.2 c ?_).trans q) (λ_ q=>q) λ_ _ q=>q;intro z;rcases d with d|d
  .rw [z] at d;rw[<- d,fr] at e;cases e
  .rw [z,fr] at d;cases d
 .obtain ⟨_,L,_,K,F,A⟩:=hex b j;show⟨K,L,F,A⟩
abbrev aC4(ifs:List av)(env:fu):gk Bool:=forIn ifs af λc r=>if r=af then(do let b <- isTrue c env (eval c env);pure (oh b)) else pure (oh r)
abbrev Calm(Ω:bj)(w:bg)(A:bx){α:Type}(t:gk α)(Q:α->ao->Prop)(s:ao):Prop:=az (au Ω w) A t Q (λ_ _=>False) s
theorem lV(l:Nat->ao->Prop)
  (turn:∀n s,l n s->Calm Ω w A (pyNext it) (λgot p=>match got with
   |none=>R (.ok .next) p
   |some v=>Calm Ω w A (letOwnedTupleGo tg it v) (λ_ F=>Calm Ω w A (assign tg env v) (λ_ s3=>Calm Ω w A (aC4 ifs env) (λok o =>
     if ok=af then Calm Ω w A (eval el env) (λx y=>Calm Ω w A (call (.builtin "list.append") [ψ,x]) (λ_ q=>∃m,m<n/\l m q) y) o else ∃m,m<n/\l m o) s3) F) p) s)
  (n:Nat) (h:l n s):mr (au Ω w) A (.compLoop (.ListComp el [⟨tg,src,ifs,0⟩] bs at_) 0 it ψ env) R s:=by
 have no:∀{α:Type} {E:Q0c} {t:gk α} {Q Q':α->ao->Prop} {s:ao},Calm Ω w A t Q s->(∀a s,Q a s->Q' a s)->az (au Ω w) A t Q' E s:=λh f=>jb h f λ_ _ z=>z.elim;show codeAny_loop rfl l (λn s I=>?_) n h;show wpAny_noted (m:=compTurn (.ListComp el [⟨tg,src,ifs,0⟩] bs at_) 0 it ψ env) ?_;rw[compTurn_list];show ar (Ft (ar (no (turn n s I) λgot p j=>?_)))
 match got,j with
 |none,j=>show a_ j
 |some v,j =>
  show ar (no j λ_ _ h2=>ar (no h2 λ_ _ L=>ar (no L λok o d=>?_)))
  match ok,d with
  |false,d=>show a_ (Bx rfl d)
  |true,d=>show ar (ar (no d λ_ _ K=>ar (no K λ_ _ J=>a_ (a_ (Bx rfl J)))))
abbrev TFk:=L2.St->Hp->(Bool->Hp->Prop)->Prop
def PIf(X:Cx)(ifs:List av)(t:TFk):Prop :=
 ∀(π:Q0b) (s:ao) (σ:L2.St) (H:Hp) (Q:Bool->Hp->Prop),Φ X π σ H s->t σ H Q ->
  az (au X.Ω X.w) X.A (forIn ifs af λc r=>if r=af then do let ok <- isTrue c X.env (eval c X.env);pure (oh ok) else pure (oh r)) (TP X π σ Q) X.xe s
def KU:PIf X [] (λ_ H Q=>Q af H):=λπ s σ H Q I h=>by rw[Bl];show a_ ⟨H,I,h⟩
def aC5(h:PT X c t):PIf X [c] t:=λπ s σ H Q I hw=>by rw[u_];show ar ?_;rw[Z_ rfl];show ar (dB (h π s σ H Q I hw) λb a q=>a_ ?_);dsimp only;rw[Bl];show a_ q
def EC(nl:Nat)(fr:List Nat)(wi:TI)(g:TG)(tf:TFk)(te:TE):TE:=λσ H Q=>wi σ H λJ H1=>∀d,H1 d=ag ->∃W:Nat->Nat->Hp->List V->Prop,(∃m,W 0 m (upd H1 d (.lst [])) []) /\
 ∀i m H ys,W i m H ys->H d=ae (.lst ys)/\((J.stop i H/\Q (.ref d) H)\/(J.go i H /\∀x H',J.yld i H x H'->g x (D0 nl fr σ) H' λa o=>(a.drop nl=fr.map λj=>(σ[j]?).join)/\tf a o λb n =>
  if b=af then te a n λy l=>l d=ae (.lst ys)/\⇑ys<bq /\∃h,h<m/\W (i+1) h (upd l d (.lst (ys++[y]))) (ys++[y]) else ∃h,h<m/\W (i+1) h n ys))
theorem ED{ls fs:Q0g}{fr:List Nat}{sc:gd}{tg iter elt:av}{ifs:List av}{ν p2:br}{wi:TI}{g:TG}{tf:TFk}{te:TE}{π:Q0b}{σ:L2.St}{H:Hp}{s:ao}{Qe:VK}{use:Option (aj->gk Unit)}{Qv:Q0c}
  (hc:X.calm=af) (B:EA X ls fs fr sc) (hi:PI X tg iter wi) (hg:∀F C pn ex s H,PG (blk X (ls++fs) sc F C pn ex s H) tg g) (hf:∀F C pn ex s H,PIf (blk X (ls++fs) sc F C pn ex s H) ifs tf) (he:∀F C pn ex s H,PE (blk X (ls++fs) sc F C pn ex s H) elt te)
  (hs:Zn X iter) (I:Φ X π σ H s) (h:EC ⇑ls fr wi g tf te σ H Qe)
  (fin:∀j C s' H',Φ X π σ H' s'->(∃m,s'.heap.Ns C m)->mM X π H' C->Qe (.ref j) H'->compPost (au X.Ω X.w) X.A X.xe use Qv (.ref j) C (.ok .next) s'):
  az (au X.Ω X.w) X.A (comprehension (.ListComp elt [⟨tg,iter,ifs,0⟩] sc ν) sc X.env p2 (newList []) ah (eval iter X.env) use) Qv X.xe s:=by
 obtain⟨F,ecl,hcl,jU⟩:=vU (scope:=sc) (env:=X.env) λx hx hf=>I.ok.has x.1 (B.free x hx hf);show wpAny_comprehension_free (g:=⟨tg,iter,ifs,0⟩) (gs:=[]) rfl hs ecl B.kind (λx hx e=>(B.uniq x hx).trans (congrArg ae e)) ?_;show dB (hi π s σ H _ I h) λv s1 h1=>dB h1 λitv U h2=>?_;obtain⟨it,l,tn,J,H2,e,I2,T,st2,f2,h2⟩:=h2;subst e;show ql ?_ (by show([]:Q0f).toArray.size<=bq;simp);have hacc:H2 ↥U=ag:=I2.hok.fresh (bt _);have I3:Φ X π σ (upd H2 ↥U (.lst [])) {U with heap:=U.heap.push {cls:=.type "list",data:=.seq ([]:Q0f).toArray} } :=
  I2.laid (t':=U.toks) (λb o e=>cy _ e) (bt _) ⟨by simp,[],0,.nil,fv _ rfl⟩
 have hfp:∀b∈l,b<↥U:=λb a=>by obtain⟨o,e,_⟩:=T.obj _ _ st2 b a;show cj e
 obtain⟨W,⟨m0,w0⟩,turn⟩:=h2 _ hacc;generalize EE:↥U=j at hacc I3 w0 turn ⊢;have O_:∀b∈l,b≠j:=λb a=>EB (hfp b a) (nz EE);have f3:∀b∈l,mM X π (upd H2 j (.lst [])) b:=λb a=>⟨by rw[aP (O_ b a)];show(f2 b a).1,(f2 b a).2⟩;generalize hs3:({U with heap:=U.heap.push {cls:=.type "list",data:=.seq ([]:Q0f).toArray} }:ao)=s3 at I3;have O:↥s3=j+1:=by rw[<- hs3];show(U.heap.push _).objs.size=_;rw[tu,EE]
 have st3:tn 0 s3.heap:=T.keep _ _ _ st2 λb a o e=>by rw[<- hs3];show cy _ e
 show NB λh4 hn4 hk4 co=>?_;generalize hC:↥s3=C at hn4 co ⊢;have eC:cellsFrom (C+1) sc.names F=cellsFrom (C+1) sc.names []++F:=gC sc.names (C+1) [] F;generalize hcs:cellsFrom (C+1) sc.names []=cs at co eC;have own:∀x c,cs.lookup x=ae c->(x,lr)∈sc.names/\C<c/\h4.IsCell c ag:=λx c e=>by
  have m:=kn e;show⟨?_,(co.empty x c m).2,(co.empty x c m).1⟩;rw[<- hcs] at m;rcases iS _ _ _ _ m with z|z
  .cases z
  .exact z
 generalize hdl:cellsFrom (C+1) sc.names F=dl at eC ⊢;have two:∀x c,dl.lookup x=ae c->cs.lookup x=ae c\/(cs.lookup x=ag/\F.lookup x=ae c):=λx c e=>by
  rw[eC,Il] at e
  cases q:cs.lookup x with
  |none=>rw[q] at e;show .inr ⟨rfl,e⟩
  |some d=>rw[q] at e;show .inl e
 have Oz:∀x∈sc.names,x.2=.free->dl.lookup x.1=X.env.cells.lookup x.1:=λx hx e=>by
  rw[<- hcl x hx e,eC,Il]
  cases q:cs.lookup x.1 with
  |none=>rfl
  |some d =>
   have z:=B.uniq _ (own _ _ q).1;rw[B.uniq x hx,e] at z;cases z
 have Dg:∀x c,dl.lookup x=ae c->X.env.cells.lookup x=ae c\/(C<c/\h4.IsCell c ag):=λx c e=>by
  rcases two x c e with e|⟨_,e⟩
  .exact .inr (own x c e).2
  .exact .inl (jU x c e)
 have Oy:∀x∈sc.names,x.2=.cell ->∃c,dl.lookup x.1=ae c/\C<c:=λx hx e=>by obtain⟨c,hc⟩:=jG sc.names (C+1) [] x.1 (.inr (by rw[<- e];show hx));rw[hcs] at hc;show⟨c,by rw[eC,Il,hc];rfl,(own _ _ hc).2.1⟩
 have low:∀x c,F.lookup x=ae c->c<C:=λx c e=>by obtain⟨v,o,ho,_⟩:=I3.cell x c (jU x c e);rw[<- hC];show cj ho
 have Ox:∀x y c,dl.lookup x=ae c->dl.lookup y=ae c->x=y:=λx y c e e'=>by
  rcases two x c e with e|⟨_,e⟩<;>rcases two y c e' with e' | ⟨_,e'⟩
  .exact a0A co.apart (kn e) (kn e')
  .exact Zw (own _ _ e).2.1 (a16 (low _ _ e'))
  .exact Zw (own _ _ e').2.1 (a16 (low _ _ e))
  .exact I3.ok.inj x y c (jU x c e) (jU y c e')
 have I4:Φ (blk X (ls++fs) sc dl C (X.pn++π) l s3 (upd H2 j (.lst []))) [] (D0 ⇑ls fr σ) (upd H2 j (.lst [])) {s3 with heap:=h4} :=
  YK B I3 Oz Dg Oy Ox (λb a=>⟨f3 b a,by rw[O,<- EE];show uj (hfp b a)⟩) hC.symm hn4 hk4 rfl rfl
 generalize Z:blk X (ls++fs) sc dl C (X.pn++π) l s3 (upd H2 j (.lst []))=Y at I4;have pY:Y.Ω=X.Ω:=by rw[<- Z];rfl
 have wY:Y.w=X.w:=by rw[<- Z];rfl
 have kY:Y.K=X.K:=by rw[<- Z];rfl
 have AY:Y.A=X.A:=by rw[<- Z];rfl
 have cY:Y.calm=af:=by rw[<- Z];show hc
 have eY:Y.env=compEnvC sc dl C X.env:=by rw[<- Z];rfl
 have xY:Y.xe=λ_ _=>False:=by rw[<- Z];rfl
 have R6:∀{H':Hp},(∀b∈l,H' b=ag) ->∀b∈l,mM Y [] H' b:=λhn b a=>by
  rw[<- Z];obtain⟨_,f1,f2',_,f4,f5⟩:=f3 b a;show⟨hn b a,λz=>?_,λz=>?_,.inl a,λx c e=>?_,λp hp=>f5 p ?_⟩
  .exact Zw z (EB (hfp b a) (by rw[<- hC,O,EE];show pf _))
  .rcases cg.mp (I3.vH b z) with z|z
   .exact f1 z
   .exact f2' z
  .rcases Dg x c e with e|⟨e,_⟩
   .exact f4 x c e
   .exact gb (EB (hfp b a) (by rw[EE];show mh (wj (by rw[<- hC,O];show Bi _) e)))
  .have hp:p∈(X.pn++π)++[]:=hp;rw[ki] at hp;show hp
 have st4:tn 0 h4:=T.keep _ _ _ st3 λb a o e=>hk4 b o e;have loop:∀s5:ao,(∃i H',Φ Y [] (D0 ⇑ls fr σ) H' s5/\tn i s5.heap/\(∀b∈l,H' b=ag) /\∃m ys,W i m H' ys)->mr (au X.Ω X.w) X.A (.compLoop (.ListComp elt [⟨tg,iter,ifs,0⟩] sc ν) 0 (.ref it) (.ref j) (compEnvC sc dl C X.env)) (compPost (au X.Ω X.w) X.A X.xe use Qv (.ref j) C) s5:=by
  rintro s5 ⟨i,H',I5,st5,fr5,m,ys,w5⟩;show lV (λn s'=>∃i H' ys,Φ Y [] (D0 ⇑ls fr σ) H' s'/\tn i s'.heap/\(∀b∈l,H' b=ag)/\W i n H' ys) ?_ m ⟨i,H',ys,I5,st5,fr5,w5⟩;rintro n s6 ⟨i,H6,ys,I6,st6,fr6,w6⟩;obtain⟨ha6,alt⟩:=turn i n H6 ys w6;rcases alt with⟨stop,qn⟩|⟨go,step⟩
  .have q:=T.done Y pY wY kY cY i [] s6 _ H6 (λ_ _=>False) I6 (R6 fr6) st6 stop;rw[AY] at q;show dB q λr s7 Ow=>?_;obtain⟨hr,I7⟩:=Ow;subst hr;have fr7:H6 C=ag:=by have:=I7.free;rw[eY] at this;show this
   show fin j C s7 H6 ?_ ?_ (I3.xG (nz hC) fr7) qn
   .rw [<- Z] at I7;show R5 I3 I7 (λb a=>f3 b a) hC.symm (.refl ..)
   .obtain ⟨m,hm,_⟩:=I7.loc;rw[eY] at hm;show⟨m,hm⟩
  .have q:=T.item Y pY wY kY cY i [] s6 _ H6 (λ_ _=>False) I6 (R6 fr6) st6 go;rw[AY] at q;show dB q λr s7 Ov=>?_;obtain⟨u,hr,h7⟩:=Ov;subst hr;show dB h7 λ_ s8 Ou=>?_;obtain⟨x,H8,I8,r8,y8,st8,fr8⟩:=Ou;have I8':=I8.pinned (R6 fr8) (T.obj _ _ st8);have hgY:=hg dl C (X.pn++π) l s3 (upd H2 j (.lst []));have hfY:=hf dl C (X.pn++π) l s3 (upd H2 j (.lst []));have heY:=he dl C (X.pn++π) l s3 (upd H2 j (.lst []));rw[Z] at hgY hfY heY;have q8:=hgY _ s8 _ H8 x u _ I8' r8 (step x H8 y8);rw[pY,wY,AY,eY,xY] at q8;show dB q8 λ_ s9 Ot=>?_;obtain⟨L,H9,I9,hσ9,q9⟩:=Ot;have oo:=hfY _ s9 L H9 _ I9 q9;rw[pY,wY,AY,eY,xY] at oo;show dB oo λok Jv Oq=>?_;obtain⟨H10,I10,oo⟩:=Oq;have bl:∀{H7:Hp} {s7:ao},Φ Y ([]++vK l s8.heap) L H7 s7->(∃m',m'<n /\∃ys',W (i+1) m' H7 ys') ->∃m,m<n /\∃i H' ys,Φ Y [] (D0 ⇑ls fr σ) H' s7/\tn i s7.heap/\(∀b∈l,H' b=ag)/\W i m H' ys:=λ{H7 s7} I7 ⟨m',hm,ys',w7⟩=>by
    show⟨m',hm,i+1,H7,ys',?_,T.keep _ _ _ st8 λb a o e=>(I7.pin (b,o) (ir _ (ir _ (kE a e)))).1,λb a=>?_,w7⟩
    .refine I7.gL.weak ?_ λk v e=>?_
     .rw [I7.len,<- I6.len]
     .by_cases hk:k<⇑ls
      .delta D0 at e;rw[jj ↑hk,kg,Z_ hk] at e;cases e
      .have e2:(L.drop ⇑ls)[k-⇑ls]?=ae (ae v):=by rw[hσ9];delta D0 at e;rw[i_ ↑hk,n_] at e;show e
       rw[List.getElem?_drop] at e2;rw[show ⇑ls+(k-⇑ls)=k by lia] at e2;show e2
    .obtain ⟨o,e,d⟩:=T.obj _ _ st8 b a;show(I7.pin (b,o) (ir _ (ir _ (kE a e)))).2.1
   cases ok with
   |false =>
    rw[Zz cf] at oo ⊢;obtain⟨m',hm,w'⟩:=oo;show bl I10 ⟨m',hm,ys,w'⟩
   |true =>
    rw[Z_ rfl] at oo ⊢;have Cc:=heY _ Jv L H10 _ I10 oo;rw[pY,wY,AY,eY,xY] at Cc;show dB Cc λyv Ju Oo=>?_;obtain⟨y,H11,I11,Jw,aC7,Om,m',hm,w'⟩:=Oo;have Ca:=(yW (X:=Y)) _ Ju L H11 (.ref j) [y] (.ref j) [yv] (λ_ H'=>H'=upd H11 j (.lst (ys++[y]))) I11 rfl (.cons Jw .nil) ⟨j,ys,y,rfl,rfl,aC7,Om,rfl⟩;rw[pY,wY,AY,xY] at Ca;show dB Ca λ_ s12 Ol=>?_;obtain⟨_,H12,I12,_,K_⟩:=Ol;subst K_;show bl I12 ⟨m',hm,_,w'⟩
 have L0:=loop _ ⟨0,_,I4,st4,λb a=>(f3 b a).1,m0,[],w0⟩;show codeAny_compStart_list L0 (T.self _ 0 _ _ _ st4 L0)
theorem KW
  (z:X.calm=af) (B:EA X ls fs fr sc) (p:PI X tg iter wi) (v:∀a C pn ex s H,PG (blk X (ls++fs) sc a C pn ex s H) tg g) (x:∀a C pn ex s H,PIf (blk X (ls++fs) sc a C pn ex s H) ifs tf) (y:∀a C pn ex s H,PE (blk X (ls++fs) sc a C pn ex s H) elt te)
  (n:Zn X iter<|>4):PE X (.ListComp elt [⟨tg,iter,ifs,0⟩] sc ν) (EC ⇑ls fr wi g tf te):=by
 intro π s σ H Q I h;rw[eval_ListComp];show ED (use:=ag) z B p v x y n I h λl C s' H' Y j F q=>?_;obtain⟨m,j⟩:=j;obtain⟨U,O,_,L,K,J⟩:=F;show⟨m,j,λh' d=>⟨.ref l,H',Y.turned (t':=s'.toks) (λb o A e=>(d.2 b A).trans e) U O L K J,rfl,q⟩⟩
theorem HA(hN:X.N.Nodup)(n:X.N[i]?=ae x)(L:X.env.scope.names.lookup x=ae .local)
  (hc:X.calm=af) (B:EA X ls fs fr sc) (hi:PI X tg iter wi) (hg:∀j C pn ex s H,PG (blk X (ls++fs) sc j C pn ex s H) tg g) (hf:∀j C pn ex s H,PIf (blk X (ls++fs) sc j C pn ex s H) ifs tf) (he:∀j C pn ex s H,PE (blk X (ls++fs) sc j C pn ex s H) elt te)
  (p:gq (.ListComp elt [⟨tg,iter,ifs,0⟩] sc ν) (ae (.Name x pos')) spos.line X.env=pure af)
  (Z:Zn X iter<|>4):PS X (.Assign [.Name x pos'] (.ListComp elt [⟨tg,iter,ifs,0⟩] sc ν) spos) (yz (EC ⇑ls fr wi g tf te) (yO i)):=by
 intro π s σ H D I h;rw[exec_Assign_Name_used _ _ _ _ p];show ar (Ft (ar ?_));show az _ X.A (do let _ <- comprehension (.ListComp elt [⟨tg,iter,ifs,0⟩] sc ν) sc X.env _ (newList []) ah (eval iter X.env) (ae (assign (.Name x pos') X.env))) _ _ s;show ar (jb (ED (use:=ae (assign (.Name x pos') X.env)) (Qv:=λ_ s'=>SP X π D .next s') hc B hi hg hf he Z I h λY C s' H' I' z fp q=>?_) (λ_ s' hq=>a_ (a_ hq)) λ_ _ e=>e);obtain⟨m,z⟩:=z;obtain⟨f0,U,_,f3,O,f5⟩:=fp;show a0s (yN I' hN n (.inl L) (v:=.ref Y) rfl (λl K d=>?_) (.inr L));obtain⟨a,d,J⟩:=d;have F:a≠C:=by
  rcases J with rfl|J
  .exact gb U
  .exact O x a J
 show⟨m,z.sameBut d (gb F),λh' y=>⟨_,H',K.turned (t':=l.toks) (λb o hb e=>(y.2 b hb).trans e) f0 U f3 O f5,q⟩⟩
def U9(Γ:List (ak×jn))(sc:gd)(N ls fs:Q0g)(fr:List Nat):Bool :=
 (sc.kind == .function)&&Zv (ls++fs).Nodup&&sc.names.all (λx=>Zv (sc.names.lookup x.1=ae x.2)) &&
 sc.names.all (λx=>Zv (x.2=.free->(Γ.lookup x.1=ae .cell\/Γ.lookup x.1=ae .free)))&&Zv (⇑fr=⇑fs) &&
 (fs.zip fr).all (λx=>Zv (N[x.2]?=ae x.1)&&sc.names.contains (x.1,jv)&&Zv (sc.names.lookup x.1=ae .free))
theorem nG(h:U9 X.env.scope.names sc X.N ls fs fr=af):EA X ls fs fr sc:=by
 delta U9 at h;erw[gr,jk,decide_eq_true_eq] at h;obtain⟨⟨⟨⟨⟨o,h2⟩,n⟩,m⟩,l⟩,j⟩:=h;show⟨eq_of_beq o,h2,n,m,λk x e=>?_,l⟩;have p:k<⇑fs:=(df.mp e).1;have d:(x,fr[k]'∅)∈fs.zip fr:=by
  have:(fs.zip fr)[k]?=ae (x,fr[k]'∅):=by rw[wy];show⟨e,by simp⟩
  show ko this
 obtain⟨⟨a,b⟩,c⟩:=j _ d;show⟨fr[k]'∅,by simp,a,↑b,c⟩
abbrev GE:=D->cN->(cN->Prop)->Prop
inductive vW (K:aq) (nl n:Nat) (g:GE) (v:V) (σ:L2.St) (H:Hp) (Q:(L2.St->Hp->Prop)):Prop
 |mk (S:ai->Prop) (ρ:cN) (d:D) (Q3:cN->Prop) (h1:⇑σ=n) (h2:(∀a,H a=ag->S a)) (h3:Sl K S H ρ σ) (h4:Dn K S H d v) (h5:g d ρ Q3) (h6:∀σ' ρ',Sl K S H ρ' σ'->σ'.drop nl=σ.drop nl->Q3 ρ'->Q σ' H):vW K nl n g v σ H Q
def PG4(X:Cx)(nl:Nat)(a:av)(g:GE):Prop:=PG X a (vW X.K nl ⇑X.N g)
theorem Sl.set{K:aq}{S:ai->Prop}{H:Hp}{ρ:cN}{σ:L2.St}{i:Nat}{d:D}{v:V}(h:Sl K S H ρ σ)(m:i<⇑σ)(q:Dn K S H d v):Sl K S H (ρ.set i (ae d)) (σ.set i (ae v)):=λj e n=>by
 rcases get_set n with⟨l,z,_⟩|⟨l,z⟩
 .cases z;subst l;show⟨v,nh m,q⟩
 .obtain ⟨u,a,b⟩:=h j e z;show⟨u,by rw[jq (gb l)];show a,b⟩
def hN(i:Nat):GE:=λd ρ Q=>Q (ρ.set i (ae d))
noncomputable def h2(i j:Nat):GE:=λd ρ Q=>match d with
 |.tup [d1,d2]=>Q ((ρ.set i (ae d1)).set j (ae d2))
 |_=>False
def drop_set{α:Type}{l:List α}{i n:Nat}{x:α}(h:i<n):(l.set i x).drop n=l.drop n:=by rw[List.drop_set,Z_ h]
def Wm{nl i:Nat}{x:ak}{l:br}(nd:X.N.Nodup)(a:i<nl)(j:X.N[i]?=ae x<|>0)(n:Loc X.env.scope x<|>2)(h:Zp X x<|>6):PG4 X nl (.Name x l) (hN i) :=
 NA (kD nd j n h) λv σ H Q q=>by obtain⟨S,ρ,d,Q3,o,y,m,dn,p,k⟩:=q;show k _ _ (m.set (by rw[o];show iR j) dn) (drop_set a) p
def Wl{nl i j:Nat}{x y:ak}{kk:Nat}{Y l h:br}(hc:X.calm=af)(nd:X.N.Nodup)(A:i<nl)(z:j<nl)(O:X.N[i]?=ae x<|>0)(L:X.N[j]?=ae y<|>0)(hx:Loc X.env.scope x<|>2)(I:Zp X x<|>6)(hy:Loc X.env.scope y<|>2)(F:Zp X y<|>6)
  (hn:Q0i X x y l h<|>0) (o:Q0h X x y l h<|>0)
  (q:H0 X x y l h<|>0) (p:gV X y h<|>0):
  PG4 X nl (.Tuple [.Name x l,.Name y h] kk Y) (h2 i j) :=
 NA (QW (n:=2) hc (oX (kD nd O hx I) (oX (kD nd L hy F) J5 p) q) hn o) λv σ H Q Oi=>by
  obtain⟨S,ρ,d,Q3,K,fc,sl,dn,m,k⟩:=Oi;delta h2 at m;split at m
  .rename_i d1 d2;symm at dn;obtain⟨a,xs,rfl,ha,da⟩:=dn;obtain⟨Z,r1,rfl,h1,h2⟩:=da.bA;obtain⟨J,r2,rfl,h3,U⟩:=h2.bA;erw[aK] at U;subst U;show⟨a,_,rfl,(eV.of ha),rfl,Z,[J],rfl,J,[],rfl,rfl,?_⟩;show k _ _ ((sl.set (by rw[K];show iR O) h1).set (by rw[jo,K];show iR L) h3) (by rw[drop_set z,drop_set A]) m
  .exact m.elim
def R7(X:Cx)(ifs:List av)(t:WT):Prop:=PIf X ifs (liftT X.K t)
def Wk:WT:=λ_ Q=>Q af
def Oh:R7 X [] Wk:=λπ s σ H Q I d=>by obtain⟨S,ρ,Q3,j,h,a,k⟩:=d;show KU π s σ H Q I (k af H (ξ.refl H) a)
theorem Wj(h:xK X c t):R7 X [c] t:=aC5 h
noncomputable def pE(g:GE)(tf:WT)(te:WE)(ρ:cN):List D->List D->(D->Prop)->Prop
 |[],ψ,Q=>Q (.lst ψ)
 |d::r,ψ,Q=>g d ρ λa=>tf a λb=>if b=af then te a λy=>⇑ψ<bq/\pE g tf te ρ r (ψ++[y]) Q else pE g tf te ρ r ψ Q
def benv(nl:Nat)(fr:List Nat)(ρ:cN):cN:=cc nl ag++fr.map λj=>(ρ[j]?).join
def KY(nl:Nat)(fr:List Nat)(a:WI)(g:GE)(tf:WT)(te:WE):WE:=λρ Q=>a ρ λds=>pE g tf te (benv nl fr ρ) ds [] Q
def YL{K:aq}{S:ai->Prop}{H:Hp}{ρ:cN}{σ:L2.St}{nl:Nat}{fr:List Nat}(h:Sl K S H ρ σ):Sl K S H (benv nl fr ρ) (D0 nl fr σ):=λi d e=>by
 delta benv at e;delta D0;by_cases a:i<nl
 .rw [jj ↑a,kg,Z_ a] at e;cases e
 .rw [i_ ↑a,c_,n_] at e ⊢
  cases q:fr[i-nl]? with
  |none=>rw[q] at e;cases e
  |some j =>
   rw[q] at e;have e1:(ρ[j]?).join=ae d:=dg e;have l:ρ[j]?=ae (ae d):=by
    cases z:ρ[j]? with
    |none=>rw[z] at e1;cases e1
    |some o=>rw[z] at e1;rw[show o=ae d from e1]
   obtain⟨v,ev,m⟩:=h j d l;show⟨v,by show ae ((σ[j]?).join)=_;rw[ev];rfl,m⟩
def y6{K:aq}{nl n:Nat}{fr:List Nat}{ti:WI}{g:GE}{tf:WT}{te:WE}{σ:L2.St}{H:Hp}{Q:VK}(hn:nl+⇑fr=n)(h:KP K (KY nl fr ti g tf te) σ H Q):EC nl fr (RZ K ti) (vW K nl n g) (liftT K tf) (lift K te) σ H Q:=by
 obtain⟨S,ρ,Q3,fc,sl,ht,k⟩:=h;show⟨S,ρ,_,fc,sl,ht,λJ H1 ds G s1 hG wk q1=>?_⟩;intro j l;have h0:H j=ag:=s1.free l;have fc1:=bC fc s1;have ok:∀{o:Hp},ξ H1 o->(∃ys,o j=ae (.lst ys))->(∀a,o a=ag->S a/\a≠j)/\Sl K (λa=>S a/\a≠j) o (benv nl fr ρ) (D0 nl fr σ) /\∀g∈G,Dn K (λa=>S a/\a≠j) o g.1 g.2:=λ{o} L p=>by
  show⟨λa e=>⟨bC fc1 L a e,λz=>?_⟩,?_,λg hg=>Dn.fits ((Fits.fresh l).trans (.same L)) _ _ (hG g hg)⟩
  .subst z;obtain⟨ys,p⟩:=p;rw[e] at p;cases p
  .exact YL (Sl.fits ((Fits.fresh h0).trans (.same (s1.trans L))) sl)
 show⟨λi m o ys=>m=⇑ds-i/\i<=⇑ds/\ξ H1 o/\o j=ae (.lst ys) /\∃O,aK K (λa=>S a/\a≠j) o O ys/\pE g tf te (benv nl fr ρ) (ds.drop i) O Q3,
  ⟨_,rfl,gw _,aI l,aM,[],aK.nil,q1⟩,?_⟩
 rintro i m o ys ⟨rfl,hi,L,p,O,dn,cw⟩;obtain⟨A,sl2,gh2⟩:=ok L ⟨ys,p⟩;show⟨p,?_⟩;by_cases q:i<⇑ds
 .refine .inr ?_;obtain⟨g1,g2⟩:=wk.go _ o A gh2 i ds[i] (by simp[q]);show⟨g1,λx H' y=>?_⟩;obtain⟨s3,dx⟩:=g2 x H' y;rw[mn q,pE] at cw;show⟨λa=>S a/\a≠j,benv nl fr ρ,ds[i],_,?_,bC A s3,Sl.fits (.same s3) sl2,dx,cw,λσ' U Y hd q'=>?_⟩
  .delta D0;rw[gi,n_,bb];show hn
  .refine ⟨by rw[hd];delta D0;rw[List.drop_append_of_le_length (by simp),List.drop_replicate];simp,λa=>S a/\a≠j,U,_,bC A s3,Y,q',λb H3 I q4=>?_⟩
   cases b with
   |false =>
    rw[Zz cf] at q4 ⊢;show⟨_,∅,rfl,q,(L.trans s3).trans I,(s3.trans I) _ _ p,O,aK.fits (.same (s3.trans I)) _ _ dn,q4⟩
   |true =>
    rw[Z_ rfl] at q4 ⊢;show⟨λa=>S a/\a≠j,U,_,bC A (s3.trans I),Sl.fits (.same I) Y,q4,λv H4 d s5 d5 q5=>?_⟩;have Z:H4 j=ae (.lst ys):=((s3.trans I).trans s5) _ _ p;have F:Fits K (λa=>S a/\a≠j) (λa=>S a/\a≠j) H4 (upd H4 j (.lst (ys++[v]))):=.upd (.inl ⟨_,Z⟩) λz=>z.2 rfl;show⟨Z,by rw[<- dn.len];show q5.1,_,∅,rfl,q,λb u hb=>?_,aM,O++[d],aK.fits F _ _ ((aK.fits (.same ((s3.trans I).trans s5)) _ _ dn).append (aK.one d5)),q5.2⟩;rw[aP (aT hb l)];show(((L.trans s3).trans I).trans s5) _ _ hb
 .have e:i=⇑ds:=∅
  subst e;rw[a2z,pE] at cw;show .inl ⟨wk.stop _ o gh2 _ rfl,k j ys o O h0 p (s1.trans L) dn cw⟩
theorem Wi{ls fs:Q0g}{fr:List Nat}{sc:gd}{d iter elt:av}{ifs:List av}{l:br}{j:WI}{g:GE}{tf:WT}{te:WE}(x:X.calm=af)(o:U8 X d iter j)
  (p:∀a C pn ex s H,(blk X (ls++fs) sc a C pn ex s H).N.Nodup->PG4 (blk X (ls++fs) sc a C pn ex s H) ⇑ls d g) (q:∀a C pn ex s H,R7 (blk X (ls++fs) sc a C pn ex s H) ifs tf) (v:∀a C pn ex s H,bY (blk X (ls++fs) sc a C pn ex s H) elt te)
  (B:U9 X.env.scope.names sc X.N ls fs fr=af<|>0) (m:Zn X iter<|>4):G5 X (.ListComp elt [⟨d,iter,ifs,0⟩] sc l) (KY ⇑ls fr j g tf te) :=
 imp (KW (g:=vW X.K ⇑ls ⇑(ls++fs) g) (tf:=liftT X.K tf) (te:=lift X.K te) x (nG B) o (λa C pn ex s H=>p a C pn ex s H (nG B).nd) q v m) λσ H Q h=>y6 (n:=⇑(ls++fs)) (by rw[gi,(nG B).BN]) h
theorem NC{i:Nat}{x:ak}{ls fs:Q0g}{fr:List Nat}{sc:gd}{l iter elt:av}{ifs:List av}{v a pos':br}{y:WI}{g:GE}{tf:WT}{te:WE}(nd:X.N.Nodup)(hc:X.calm=af)(U:U8 X l iter y)
  (Y:∀h C pn ex s H,(blk X (ls++fs) sc h C pn ex s H).N.Nodup->PG4 (blk X (ls++fs) sc h C pn ex s H) ⇑ls l g) (Z:∀h C pn ex s H,R7 (blk X (ls++fs) sc h C pn ex s H) ifs tf) (he:∀h C pn ex s H,bY (blk X (ls++fs) sc h C pn ex s H) elt te)
  (j:X.N[i]?=ae x<|>0) (I:X.env.scope.names.lookup x=ae .local<|>0) (o:gq (.ListComp elt [⟨l,iter,ifs,0⟩] sc v) (ae (.Name x pos')) a.line X.env=pure af<|>0)
  (B:U9 X.env.scope.names sc X.N ls fs fr=af<|>0) (L:Zn X iter<|>4):DW X (.Assign [.Name x pos'] (.ListComp elt [⟨l,iter,ifs,0⟩] sc v) a) (yo i (KY ⇑ls fr y g tf te)) :=
 jT (HA (g:=vW X.K ⇑ls ⇑(ls++fs) g) (tf:=liftT X.K tf) (te:=lift X.K te) nd j I hc (nG B) U (λh C pn ex s H=>Y h C pn ex s H (nG B).nd) Z he o L) λBd σ H Of=>by
 obtain⟨H₀,S,w,ρ,G,E,A,m,J,ok⟩:=Of;show y6 (n:=⇑(ls++fs)) (by rw[gi,(nG B).BN]) ⟨_,fZ ρ,_,m.FN,m.rd,J,λp xs H' ds O q s' d' F=>ok.nx w _ H' _ (by rw[jo];show A) ((m.same s').kK (d:=.lst ds) (by rw[A];show iR j) (by symm;show⟨p,xs,rfl,q,m.FN p O,aK.fits (.mono λ_ z=>z.1) _ _ d'⟩)) F⟩
noncomputable def tyD:D->String
 |.non => "NoneType"
 |.bl _ => "bool"
 |.int _ => "int"
 |.str _ => "str"
 |.tup _ => "tuple"
 |.lst _ => "list"
 |.lZ _ => "list"
 |.iV _ _ => "dict"
 |.aY _ _ _ => "dict"
 |.exc _ _ => "NoneType"
 |.rws _ => "NoneType"
inductive BO:String->Prop
 |t:BO "tuple"
 |b:BO "bool"
 |i:BO "int"
 |s:BO "str"
def isT(T:String)(d:D):Bool:=tyD d == T||(T == "int"&&tyD d == "bool")
def Oe(K:aq)(T:String):List V->Hp->VK->Prop:=λxs H Q=>∃x t b,xs=[x,.ty T]/\(oY K H x t\/(t=.type "tuple" /\∃a ys,x=.ref a/\eV K H a ys)\/(t=.type "list" /\∃a ys,x=.ref a/\dM K H a ys))/\kitOne K t (.type T)=ae b/\Q (.bl b) H
theorem R8:eX X (.builtin "isinstance") (Oe X.K T):=by
 intro π s σ H xs us Q I r h;obtain⟨x,t,b,rfl,ty,e,q⟩:=h;obtain⟨u,v,rfl,r1,y⟩:=vals2 r;obtain rfl:v=jc T:=y;rcases ty with ty|⟨rfl,a,ys,rfl,j⟩|⟨rfl,a,ys,rfl,j⟩
 .exact MS I r1 ty e λd=>⟨.bl b,H,I.tok d,rfl,q⟩
 .cases r1;obtain⟨m,_,p,_⟩:=I.tuple j;obtain⟨o,l,h2,_⟩:=p;show j_ a0N I.A5 ⟨o,l,h2⟩ e (λz=>nomatch z) λd=>⟨.bl b,H,I.tok d,rfl,q⟩
 .cases r1;obtain⟨m,_,p,_⟩:=I.list j;obtain⟨o,n,l,h2,_⟩:=p;show j_ Gi I.A5 ⟨o,l,h2⟩ e (λz=>nomatch z) λd=>⟨.bl b,H,I.tok d,rfl,q⟩
noncomputable def Ej:D->Prop
 |.exc _ _=>False
 |.aY _ _ _=>False
 |.rws _=>False
 |_=>True
def Od(T:String)(t:WE):WE:=λρ Q=>t ρ λd=>Ej d/\Q (.bl (isT T d))
def Oc{K:aq}{T:String}(h:BO T)(d:D):kitOne K (.type (tyD d)) (.type T)=ae (isT T d):=by cases h<;>cases d<;>with_unfolding_all rfl
def Wh{K:aq}{S:ai->Prop}{H:Hp}{d:D}{v:V}(l:Ej d)(h:Dn K S H d v):∃t,t=jc (tyD d)/\(oY K H v t\/(t=.type "tuple" /\∃a ys,v=.ref a/\eV K H a ys)\/(t=.type "list" /\∃a ys,v=.ref a/\dM K H a ys)):=by
 show⟨_,rfl,?_⟩;cases d<;>symm at h
 .subst h;show .inl .non
 .subst h;show .inl (.bl _)
 .subst h;show .inl (.int _)
 .subst h;show .inl (.str _)
 .obtain ⟨a,xs,rfl,j,_⟩:=h;show .inr (.inl ⟨rfl,a,xs,rfl,(eV.of j)⟩)
 .obtain ⟨a,xs,rfl,j,_⟩:=h;show .inl (.lst j)
 .obtain ⟨a,rfl,j⟩:=h;show .inr (.inr ⟨rfl,a,_,rfl,j.sq⟩)
 .obtain ⟨a,xs,rfl,j,_⟩:=h;show .inl (.dK j)
 .exact l.elim
 .exact l.elim
 .exact l.elim
theorem Ob{T:String}{x:ak}{e:av}{t:WE}{p p2 n:br}(O:BO T)(J:X.mg "isinstance"=ag)(j:X.mg x=ag)(A:bootBuiltins x=ae (.type T))(L:bY X e t)(K:Gl X "isinstance"<|>0)(l:Gl X x<|>0)(I:x ≠ "__name__"<|>1)(m:Zu x<|>1)
  (o:(ax [e,.Name x p2] X.env=(ah,eval e X.env)::ax [.Name x p2] X.env)<|>0) (a:(ax [.Name x p2] X.env=(ah,eval (.Name x p2) X.env)::ax [] X.env)<|>0) (h:(d_ n (ax [.Name x p2] X.env)).any (·.1)=ah<|>0):
  bY X (.Call (.Name "isinstance" p) [e,.Name x p2] [] n) (Od T t) :=
 imp (lQ (R8 (T:=T)) K J a3W (eR L (eR (XG (v:=.ty T) l j A rfl I m) kH a) o) ⋯ ⋯ o h) λσ H Q Pk=>by obtain⟨S,ρ,Q3,U,y,F,k⟩:=Pk;show⟨S,ρ,_,U,y,F,λv H1 d z Z q1=>?_⟩;obtain⟨q,e1,Y⟩:=Wh q1.1 Z;show⟨v,q,isT T d,rfl,Y,?_,k _ H1 (.bl _) z (by symm) q1.2⟩;rw[e1];show Oc O d
noncomputable def Ei:List D->Option (List Bool)
 |[]=>ae []
 |.bl b::r=>(Ei r).map (b :: ·)
 |_::_=>ag
theorem range_all(bs:List Bool):(cx ⇑bs).all (λi=>bs.getD i af)=bs.all id:=by
 induction bs with
 |nil=>rfl
 |cons b bs ih=>rw[fj,wt,vc,Bp,vc,<- ih];rfl
theorem range_any(bs:List Bool):(cx ⇑bs).any (λi=>bs.getD i af)=bs.any id:=by
 induction bs with
 |nil=>rfl
 |cons b bs ih=>rw[fj,wt,kz,Iz,kz,<- ih];rfl
def blF(f:List Bool->Bool):F1
 |[.lst ds],Q=>(match Ei ds with|some bs=>Q (.bl (f bs))|none=>False)
 |_,_=>False
def EG:List V->Hp->VK->Prop:=λxs H Q=>∃a ns,xs=[.ref a]/\H a=ae (.lst (ns.map V.int))/\⇑ns<64 /\∀d:Q0e,d.Perm ns->d.Pairwise (· <= ·) ->∀p,H p=ag->Q (.ref p) (upd H p (.lst (d.map V.int)))
theorem kL:eX X (.builtin "sorted") EG:=by
 intro π s σ H xs us Q I r h;obtain⟨a,ns,rfl,A,O,q⟩:=h;obtain⟨u,rfl,y⟩:=vals1 r;cases y;obtain⟨j,v,p,L⟩:=I.list (dM.of A);have z:=intsAre_of v;have hlen:⇑j=⇑ns:=by have:=⇑v;rw[bb] at this;show this.symm
 show sorted_ints p.isList z ∅ λout d J x F=>?_;have m:H (↥s+1)=ag:=I.hok.fresh (pf _);obtain⟨e1,n⟩:=a1E s.heap j out;have l:⇑d<=bq:=by rw[x.length_eq,fw];lia
 have K:Φ X π σ (upd H (↥s+1) (.lst (d.map V.int))) {s with heap:=sortedAll s.heap j out} :=
  I.laid (t':=s.toks) (λb o e=>a1D e) (pf _) ⟨by rw[bb];show l,out.toList,e1,fL J,by simpa[seqObj] using n⟩
 show⟨.ref _,_,K,rfl,q d x F _ m⟩
def intsOf:List D->Option (List Int)
 |[]=>ae []
 |.int b::r=>(intsOf r).map (b :: ·)
 |_::_=>ag
theorem b7:∀bs:Q0e,intsOf (bs.map D.int)=ae bs
 |[]=>rfl
 |b::bs=>by rw[bu,intsOf,b7 bs];rfl
theorem qS:∀{ds:List D} {bs:Q0e},intsOf ds=ae bs->ds=bs.map D.int
 |[],bs,h=>by cases h;rfl
 |.int b::r,bs,h=>by
  rw[intsOf] at h
  cases q:intsOf r with
  |none=>rw[q] at h;cases h
  |some cs=>rw[q] at h;cases h;rw[bu,qS q]
 |.non::r,bs,h=>by cases h
 |.bl _::r,bs,h=>by cases h
 |.str _::r,bs,h=>by cases h
 |.tup _::r,bs,h=>by cases h
 |.lst _::r,bs,h=>by cases h
 |.lZ _::r,bs,h=>by cases h
 |.iV _ _::r,bs,h=>by cases h
 |.aY _ _ _::r,bs,h=>by cases h
def R9:F1
 |[.lst ds],Q=>(match intsOf ds with|some ns=>⇑ns<64 /\∀a:Q0e,a.Perm ns->a.Pairwise (· <= ·)->Q (.lst (a.map D.int))|none=>False)
 |_,_=>False
theorem YM{K:aq}:C3F K EG R9:=by
 intro S H xs ds Q3 Q A n j k
 match ds,j with
 |[.lst es],j =>
  obtain⟨v,r,rfl,l,h2⟩:=n.bA;erw[aK] at h2;subst h2;symm at l;obtain⟨a,ys,rfl,o,z,y⟩:=l;have h:(match intsOf es with|some ns=>⇑ns<64 /\∀d:Q0e,d.Perm ns->d.Pairwise (· <= ·)->Q3 (.lst (d.map D.int))|none=>False):=j
  clear j
  cases q:intsOf es with
  |none=>rw[q] at h;show h.elim
  |some ns =>
   rw[q] at h;have e:=qS q;subst e;have x:=aK.ints.mp y;subst x;show⟨a,ns,rfl,o,h.1,λd l h2 p m=>k p _ _ _ m aM (aI m) (aK.ints.mpr rfl) (h.2 d l h2)⟩
def YN(a:X.mg "sorted"=ag)(j:xM X [e] t)(d:Gl X "sorted"<|>0)
  (h:Zq X e []<|>0):G5 X (.Call (.Name "sorted" p) [e] [] ν) (RW R9 t):=BM kL YM wd d a j ⋯ ⋯ h (by rfl)
section
def y9(x:Gl X "range")(v:X.mg "range"=ag)(y:PA X [a] ta)(n:ax [a] X.env=[(ah,eval a X.env)]<|>0):
  PE X (.Call (.Name "range" p) [a] [] ν) (λσ H Q=>ta σ H λvs H1=>∃j:Int,vs=[.int j] /\∀p,H1 p=ag->Q (.ref p) (upd H1 p (.rng 0 j))):=by
 intro π s σ H Q I h;show Call_ (kC I x v a1M (wc (dB (y ν π s σ H _ I h) λus l ⟨vs,H1,d,r1,q1⟩=>?_) n rfl));obtain⟨j,e,q⟩:=q1;subst e;obtain⟨u,rfl,m⟩:=vals1 r1;obtain⟨t,rfl⟩:=m;show a0G ?_;show⟨.ref ↥l,_,d.laid (o:=.rng 0 j) (λb o e=>cy _ e) (bt _) ⟨_,_,_,fv _ rfl⟩,rfl,q _ (d.hok.fresh (bt _))⟩
def lK{lo:Int}{n:Nat}{a:Array aj}(h:Am (λi v=>∃t,v=.int (lo+(i:Nat)*1) t) a n):θ ((mN lo n).map V.int) a.toList:=by
 obtain⟨q,x⟩:=h;have key:∀(l:Q0f) (k:Nat) (m:Nat),⇑l=m->(∀(j:Nat) (v:aj),l[j]?=ae v ->∃t,v=mw (lo+((k+j:Nat):Int)) t)->θ (((List.range' k m).map λi:Nat=>lo+(i:Int)).map V.int) l:=by
  intro l
  induction l with
  |nil=>intro k m d _;subst d;show .nil
  |cons v l ih =>
   intro k m d p;subst d;rw[fj,List.range'_succ,bu,bu];show .cons ?_ (ih (k+1) ⇑l rfl λj w e=>?_)
   .obtain ⟨t,e⟩:=p 0 v (by simp);show⟨t,↑e⟩
   .obtain ⟨t,o⟩:=p (j+1) w ↑e;show⟨t,by rw[o];congr 1;congr 1;congr 1;lia⟩
 have:=key a.toList 0 n ↑q λj v e=>by obtain⟨t,o⟩:=x j v ↑e;show⟨t,by rw[o];simp⟩
 delta mN;rw[List.range_eq_range'];show this
theorem xO(J:X.calm=af):eX X (.type "list") (λxs H Q=>∃p j,xs=[.ref p]/\H p=ae (.rng 0 j) /\ -(2^62)<=j/\j<=16777216 /\∀l,H l=ag->Q (.ref l) (upd H l (.lst ((mN 0 j.toNat).map V.int)))):=by
 intro π s σ H xs us Q I r h;obtain⟨p,j,rfl,A,U,O,q⟩:=h;obtain⟨u,rfl,x⟩:=vals1 r;cases x;obtain⟨t,u,v,e⟩:=I.hok p _ A;have hsz:uc 0 j 1=(j.toNat:Int):=by rw[Gd];split<;>lia
 show call_list_range (a:=0) (b:=j) (c:=1) (n:=j.toNat) (I.ok.hd J) e (Fz ∅ ∅ ∅ ∅) hsz ∅ λh' L d K y F hit=>?_;have m:H ↥s=ag:=I.hok.fresh (bt _);have z:θ ((mN 0 j.toNat).map V.int) d.toList:=lK hit;show⟨.ref ↥s,_,I.laid (o:=.lst ((mN 0 j.toNat).map V.int)) y (bt _) ⟨?_,d.toList,K,z,↑F⟩,rfl,q _ m⟩;rw[bb,lU,fw];lia
noncomputable def aC9(t:WA):WE:=λρ Q=>t ρ λds=>match ds with
 |[.int j]=>(-(2^62)<=j/\j<=16777216)/\Q (.lst ((mN 0 j.toNat).map D.int))
 |_=>False
def HB(K:X.calm=af)(I:X.mg "list"=ag)(d:X.mg "range"=ag)(L:xM X [a] t)(J:Gl X "list"<|>0)(m:Gl X "range"<|>0)(F:ax [a] X.env=[(ah,eval a X.env)]<|>0)
  (x:(ax [.Call (.Name "range" p2) [a] [] pos2] X.env=(ah,eval (.Call (.Name "range" p2) [a] [] pos2) X.env)::ax [] X.env)<|>0):
  G5 X (.Call (.Name "list" p) [.Call (.Name "range" p2) [a] [] pos2] [] ν) (aC9 t) :=
 imp (qO (xO K) J I a3V (eR (y9 m d L F) kH x) ⋯ ⋯ x (by rfl)) λσ H Q Y=>by
  obtain⟨S,ρ,Q3,O,z,A,k⟩:=Y;show⟨S,ρ,_,O,z,A,λvs H1 ds n U q1=>?_⟩;split at q1
  .rename_i j;obtain⟨v,r,rfl,y,h2⟩:=U.bA;erw[aK] at h2;subst h2;symm at y;subst y;show⟨j,rfl,λp o=>⟨p,j,rfl,aM,q1.1.1,q1.1.2,λl q=>?_⟩⟩;have h:H1 l=ag:=(aI o).free q;show k l _ _ _ (n.free h) aM ((n.trans (aI o)).trans (aI q)) (aK.ints.mpr rfl) q1.2
  .exact q1.elim
def i9(ks:List Key)(ds:List D)(k:Key):Option D:=((ks.zip ds).find? λa=>Zv (a.1=k)).map (·.2)
theorem vX{K:aq}{S:ai->Prop}{H:Hp}{k:Key}:∀{ks:List Key} {ds:List D} {xs:List V},⇑ks=⇑xs->aK K S H ds xs ->
  (∀d,i9 ks ds k=ae d ->∃v,kR (ks.zip xs) k=ae v/\Dn K S H d v)/\(i9 ks ds k=ag->kR (ks.zip xs) k=ag)
 |[],ds,xs,_,_=>by
  show⟨λd e=>?_,λ_=>?_⟩
  .simp [i9] at e
  .simp [kR]
 |q::ks,ds,xs,hl,dn=>by
  cases ds with
  |nil=>erw[aK] at dn;subst dn;simp at hl
  |cons d0 ds =>
   obtain⟨v,r,rfl,l,h2⟩:=dn.bA;have j:=vX (k:=k) (ks:=ks) (ds:=ds) (xs:=r) ↑hl h2;by_cases e:q=k
   .refine ⟨λd a=>?_,λa=>?_⟩
    .erw[i9,Hx,ja,e,decide_true,ug] at a;cases a;show⟨v,by simp[kR,e],l⟩
    .simp [i9,e] at a
   .refine ⟨λd a=>?_,λa=>?_⟩
    .have h:i9 ks ds k=ae d:=by simpa[i9,e] using a
     obtain⟨u,m,n⟩:=j.1 d h;show⟨u,by simpa[kR,e] using m,n⟩
    .have h:i9 ks ds k=ag:=by simpa[i9,e] using a
     simpa[kR,e] using j.2 h
theorem SA(hN:X.N.Nodup)(j:X.N[i]?=ae x<|>0)(m:Loc X.env.scope x<|>2)(o:gq (.Dict [] [] p) (ae (.Name x pos')) ν.line X.env=pure ah<|>0)(q:Zp X x<|>2):
  DW X (.Assign [.Name x pos'] (.Dict [] [] p) ν) (λE ρ=>E.nx (ρ.set i (.ow (.iV [] [])))):=jT (nE hN j m RK o q) λB σ H ⟨H₀,S,w,ρ,G,E,h,l,n,ok⟩=>λp a =>
 ok.nx _ _ _ _ (by rw[jo];show h) (l.G4 (d:=.iV [] []) (by rw[h];show iR j) (aI a) a ⟨[],aM,rfl,aK.nil⟩) n
noncomputable def EH:D->Option Key
 |.int i=>ae (.inl i)
 |.str x=>ae (.inr x)
 |_=>ag
theorem SD{K:aq}{S:ai->Prop}{H:Hp}{d:D}{v:V}{k:Key}(h:Dn K S H d v)(e:EH d=ae k):v=kV k:=by cases d<;>erw[EH] at e<;>cases e<;>symm at h<;>show h
def yi:F2:=λx y Q=>match x,EH y with
 |.iV ks ds,ae k=>(match i9 ks ds k with|some d=>Q d|none=>False)
 |_,_=>False
theorem Pg{o i:av}{y:br}{m n:WE}(z:X.A.units+1<dq)(ho:bY X o m)(K:bY X i n)(I:G3 i<|>8):bY X (.Subscript o i y) (fX yi m n):=imp (X5 z ho K I) λσ H Q Pe=>by
 obtain⟨S,ρ,Q3,x,p,F,k⟩:=Pe;show⟨S,ρ,_,x,p,F,λv H1 d j Z q1=>?_⟩;show⟨S,ρ,_,bC x j,Sl.fits (.same j) p,q1,λu H2 d2 q DZ q2=>?_⟩;delta yi at q2;split at q2
 .rename_i ks ds kk ek;have h:=Dn.fits (.same q) _ _ Z;symm at h;obtain⟨a,xs,rfl,L,sa,J,Y⟩:=h;split at q2
  .rename_i d3 e3;obtain⟨l,ev,U⟩:=(vX J Y).1 d3 e3;have O:=SD DZ ek;subst O;show⟨a,l,rfl,?_,k l H2 d3 (j.trans q) U q2⟩;have g:=MZ.k (k:=kk) L;rw[ev] at g;show g
  .exact q2.elim
 .exact q2.elim
def Wg(i:Nat)(t:WX)(h:WE):WS:=λE ρ=>t ρ λa d=>(match a[i]? with|some (.ow (.iV _ _))=>True|_=>False)/\h (bH a) λkd=>match a[i]?,EH kd with
 |some (.ow (.iV ks ds)),ae k=>(i9 ks ds k=ag/\⇑ds<bq)/\E.nx (a.set i (.ow (.iV (ks++[k]) (ds++[d]))))
 |_,_=>False
theorem Wf{i:Nat}{x:ak}{e k:av}{t:WX}{I:WE}{y pos' p:br}(hu:X.A.units+1<dq)(he:FO X e t)(hk:bY X k I)
  (hN:X.N[i]?=ae x<|>0) (hv:xF X.env.scope x<|>3) (hd:Zu x<|>1) (q:Zt x<|>1)
  (hs:gq e (ae (.Subscript (.Name x p) k pos')) y.line X.env=pure ah<|>0):
  DW X (.Assign [.Subscript (.Name x p) k pos'] e y) (Wg i t I):=jT (X6 hu (iO hN hv hd q) hk he hs) λB σ H Pd=>by
 obtain⟨H₀,S,w,ρ,G,E,U,Z,ht,ok⟩:=Pd;show⟨H₀,S,w,ρ,G,_,U,Z,ht,λl v H' h d j d' n=>?_⟩;obtain⟨L,n⟩:=n;split at L
 .rename_i ks0 ds0 e0;obtain⟨a0,_,_⟩:=j.own i _ e0;show⟨_,a0,S,bH h,_,j.RL,j.all,n,λkv Y dk J YI q2=>?_⟩;split at q2
  .rename_i ks ds kk e1 ek;have m:=j.same J;obtain⟨a,b,c⟩:=m.own i _ e1;obtain⟨xs,O,hlen,dn⟩:=c;have eu:=SD YI ek;subst eu;have o:=(vX (k:=kk) hlen dn).2 q2.1.1;have nS:¬ SO S l h (l i):=λ⟨_,z⟩=>z i _ e1 rfl;have hz:⇑(ks.zip xs)<bq:=by rw[a2m,hlen,a12,<- dn.len];show q2.1.2
   have Pc:putK (ks.zip xs) kk v=(ks++[kk]).zip (xs++[v]):=by rw[RF v o,a2b hlen];rfl
   have F:Fits X.K (SO S l h) (SO S l h) Y (upd Y (l i) (.dK (putK (ks.zip xs) kk v))):=.upd (.inr (.inl ⟨_,O⟩)) nS;show⟨l i,_,rfl,RI.k O hz,ok.nx l σ _ _ U (m.write (d':=.iV (ks++[kk]) (ds++[d])) e1 ⟨xs++[v],?_,by simp[hlen],aK.fits F _ _ (dn.append (aK.one (Dn.fits (.same J) _ _ d')))⟩) q2.2⟩;rw[aM,Pc]
  .exact q2.elim
 .exact L.elim
def We(i:Nat)(t:WE):WS:=λE ρ=>t (bH ρ) λd=>(match d with | .lst ds=>kX ds=af|_=>False)/\E.nx (ρ.set i (.ro d))
def Wd(hN:X.N.Nodup)(z:G5 X e t)(m:X.N[i]?=ae x<|>0)(n:Loc X.env.scope x<|>2)(q:Si X e x pos' ν<|>0)(y:Zp X x<|>2):
  DW X (.Assign [.Name x pos'] e ν) (We i t):=jT (nE hN m n z q y) λB σ H A=>by
 obtain⟨H₀,S,w,ρ,G,E,l,a,o,ok⟩:=A;show⟨_,bH ρ,_,a.RL,a.all,o,λp xs H' ds v h s' d' j=>ok.nx w _ H' _ (by rw[jo];show l) ((a.same s').kK (d:=.lst ds) (by rw[l];show iR m) (by symm;show⟨p,xs,rfl,h,a.FN p v,aK.B8 j.1 d'⟩)) j.2⟩
def aCb(c:WT)(j:WS):WS:=λE ρ=>∃(Φ:bB->Prop) (h:bB->Nat),Φ ρ /\∀a,Φ a->c (bH a) λb=>if b=af then j {E with nx:=λd=>Φ d/\h d<h a,ct:=λd=>Φ d/\h d<h a,bk:=E.nx} a else E.nx a
theorem aCc(Y:tj (au X.Ω X.w) X.A X.env X.xe)(hc:xK X c tc)(hb:sJ X body tb):DW X (.While c body [] ν) (aCb tc tb):=jT (QX Y hc hb) λB σ H Pa=>by
 obtain⟨H₀,S,w,ρ,G,E,hl,O,⟨L,F,h0,turn⟩,ok⟩:=Pa;show⟨λm σ H=>∃w ρ,⇑σ=⇑X.N/\ST X.K H₀ S w σ H ρ G/\L ρ/\m=F ρ,⟨_,w,ρ,hl,O,h0,rfl⟩,?_⟩;rintro m z H2 ⟨J,n,x,o,U,rfl⟩;show⟨S,bH n,_,o.RL,o.all,turn n U,λb H3 s3 y=>?_⟩
 cases b with
 |false=>rw[Zz cf] at y ⊢;show ok.nx J z H3 n x (o.same s3) y
 |true =>
  rw[Z_ rfl] at y ⊢;show⟨λa H'=>∃w ρ,⇑a=⇑X.N/\ST X.K H₀ S w a H' ρ G/\L ρ/\F ρ<F n,λa H' ⟨p,h,l,j,I,Z⟩=>⟨_,Z,p,h,l,j,I,rfl⟩,?_⟩;show⟨H₀,S,J,n,G,_,x,o.same s3,y,⟨λp a H' h l j q=>⟨p,h,l,j,q.1,q.2⟩,λv H' d s' d' q=>ok.rt v H' d s' d' q,λp a H' h l j q=>ok.nx p a H' h l j q,λp a H' h l j q=>⟨p,h,l,j,q.1,q.2⟩,ok.ex⟩⟩
noncomputable def yh:List D->D->(List D->D->Prop)->Prop
 |ds,.lst es,Q=>⇑ds+⇑es<=bq/\Q (ds++es) .non
 |_,_,_=>False
theorem aCe{K:aq}:M3 K KJ yh:=by
 intro S H p xs ds y d Q3 Q l dn h a k
 cases d with
 |lst es =>
  symm at h;obtain⟨b,zs,rfl,m,n,j⟩:=h;show⟨p,b,xs,zs,rfl,rfl,l,m,by rw[<- dn.len,<- j.len];show a.1,k _ _ _ _ (dn.append j) (by symm) a.2⟩
 |_=>show a.elim
section
variable{i:Nat}{x:ak}{e:av}{p apos cpos:br}{t:WX}
def YO(n:FO X e t)(hN:X.N[i]?=ae x<|>0)(l:xF X.env.scope x<|>3)(o:Zu x<|>1)(j:Zt x<|>1)
  (d:attributeBase (.Name x p) "extend" X.env (eval (.Name x p) X.env)=eval (.Name x p) X.env<|>0)
  (h:Zo X cpos e<|>0)
  (a:Q0j apos cpos<|>0) (m:Zq X e []<|>0):
  FO X (.Call (.Attribute (.Name x p) "extend" apos) [e] [] cpos) (qh i yh t):=m1 a1a PySem.F.type_list_extend MV aCe n hN l o j d h a m
end
end
section
variable{π:Q0b}{σ:L2.St}{H:Hp}{s:ao}{h':bh}
theorem turnT{t':Nat}{ch:List ai}{T:ai}{xs:List V}{h:Q0f}(I:Φ X π σ H s)(k:∀b o,b∉ch->s.heap.get? b=ae o->h'.get? b=ae o)(l:∀b∈ch,mM X π H b)
  (m:↥s<=T) (y:θ xs h) (x:⇑xs<=bq) (A:g_ h' T h.toArray) (nd:A3 h' T):Φ X π σ (upd H T (.tup xs)) {s with heap:=h',toks:=t' }:=by
 have fr:H T=ag:=I.hok.fresh m;have p:∀{b:ai} {o:ay},s.heap.get? b=ae o->b≠T:=λ{b} {o} e z=>jg _ (gm (cj e) (z▸m));have live:∀{b:ai} {u:HO},H b=ae u->b∉ch:=λ{b} {u} e z=>by rw[(l _ z).1] at e;cases e
 show I.call' (s':={s with heap:=h',toks:=t' }) (ch:=ch) rfl ⟨λb o e _ _ a=>k b o a e,λb o e _ _ a=>⟨o.slots,k b o a e⟩,λb o e n _=>by rw[aP (p e)];show n,λb o e a=>⟨o,k b o a e⟩,
  λb ys e=>by rw[aP (aT e fr)];show e,λb o u e=>by rw[aP (aT e fr)];show e,λb O e=>by rw[aP (aT e fr),e]⟩ ?_ I.bare λb d=>?_
 .intro b u e;by_cases d:b=T
  .subst d;rw[aM] at e;cases e;show⟨x,h,y,A,nd⟩
  .rw [aP d] at e;show(I.hok b u e).stay (λc v j q=>k c v ?_ q) (λc q=>by rw[aP (aT q fr)];show q) (λc ys q=>by rw[aP (aT q fr)];show q) λc o u q=>by rw[aP (aT q fr)];show q
   rcases j with rfl|j
   .exact live e
   .exact live j
 .obtain ⟨_,L,_,K,J,F⟩:=l b d;show⟨K,L,J,F⟩
def EI{t':Nat}{ch:List ai}(I:Φ X π σ H s)(k:∀b o,b∉ch->s.heap.get? b=ae o->h'.get? b=ae o)(h:∀b∈ch,mM X π H b):Φ X π σ H {s with heap:=h',toks:=t' }:=by
 have live:∀{b:ai} {u:HO},H b=ae u->b∉ch:=λ{b} {u} e z=>by rw[(h _ z).1] at e;cases e
 show I.call' (s':={s with heap:=h',toks:=t' }) (ch:=ch) rfl ⟨λb o e _ _ a=>k b o a e,λb o e _ _ a=>⟨o.slots,k b o a e⟩,λb o e n _=>n,λb o e a=>⟨o,k b o a e⟩,
  λb ys e=>e,λb o u e=>e,λb y e=>e⟩ ?_ I.bare λb j=>?_
 .intro b u e;show(I.hok b u e).stay (λc v d q=>k c v ?_ q) (λc q=>q) λc ys q=>q;rcases d with rfl|d
  .exact live e
  .exact live d
 .obtain ⟨_,x,_,p,m,l⟩:=h b j;show⟨p,x,m,l⟩
end
def Itp(go:Nat->Hp->Prop)(Y:Nat->Hp->List V->Prop)(stop:Nat->Hp->Prop):It:=⟨go,λi H x H'=>∃T vs,x=.ref T/\H T=ag/\H'=upd H T (.tup vs)/\Y i H vs,stop⟩
def KZ(P:bj)(w:bg)(A:bx)(it:ai)(wr:List ai)(n:Nat)(d:Nat->Array aj->Prop)(St:Nat->bh->Prop)(Mid:Nat->ai->bh->Prop):Prop :=
 ∀i (s:ao) (Q:Option aj->ao->Prop) (E:Q0c),i<n->St i s.heap ->
  (∀T vals h' a,d i vals->↥s<=T->h'.IsTuple T vals->A3 h' T->Mid i T h'->(∀b o,b∉wr->s.heap.get? b=ae o->h'.get? b=ae o)->Q (ae (.ref T)) {s with heap:=h',toks:=a}) ->
  az (au P w) A (pyNext (.ref it)) Q E s
theorem nH{P:bj}{w:bg}{K:aq}{es:List av}{kk:Nat}{tp:br}{go:Nat->Hp->Prop}{Y:Nat->Hp->List V->Prop}{stop:Nat->Hp->Prop}{p:List ai}{it:ai}{tn:Nat->bh->Prop}(mem:it∈p)
  (obj:∀i h,tn i h ->∀b∈p,∃o,h.get? b=ae o /\∀v,o.data≠.cell v) (keep:∀i h h',tn i h->(∀b∈p,∀o,h.get? b=ae o->h'.get? b=ae o)->tn i h')
  (wk:∀(X:Cx),X.Ω=P->X.w=w->X.K=K->X.calm=af ->∀(i:Nat) (π:Q0b) (s:ao) (σ:L2.St) (H:Hp),Φ X π σ H s->tn i s.heap->go i H\/stop i H ->
   ∃j wr n q St Mid,(WalksT P w X.A it j wr n q St Mid/\KZ P w X.A it wr n q St Mid)/\St i s.heap/\(∀b∈wr,b∈p)/\(∀h,St (i+1) h->tn (i+1) h) /\
    (go i H->i<n /\∀vals,q i vals ->∃vs,⇑vs<=bq/\θ vs vals.toList/\Y i H vs)/\(stop i H->i=n))
  (self:∀(A:bx) (i:Nat) (s:ao) (Q:Q0c) (E:Q0c),tn i s.heap->Q (.ref it) s->az (au P w) A (pyIter (.ref it)) Q E s):
  Turn P w K (.Tuple es kk tp) (Itp go Y stop) p it tn where
 mem:=mem
 obj:=obj
 keep:=keep
 self:=self
 item:=by intro X hP hw hK U i π s σ H E I F y m;obtain⟨j,wr,n,q,St,Mid,⟨W,J2⟩,L,sub,nx,ok,_⟩:=wk X hP hw hK U i π s σ H I y (.inl m);obtain⟨hi,ok⟩:=ok m;show J2 i s _ _ hi L λT vals h1 x hp Z ht nd O k1=>⟨.ref T,rfl,W.go es kk tp i T _ _ _ O λh2 s2 l=>?_⟩;obtain⟨vs,hz,hv,hy⟩:=ok vals hp;obtain⟨o,eo,c,d⟩:=ht;have J:g_ h2 T vals.toList.toArray:=⟨o,l T o (W.apart i T _ O) eo,c,↑d⟩;have I2:Φ X π σ (upd H T (.tup vs)) {s with heap:=h2,toks:=x}:=turnT (t':=x) (ch:=wr) I (λb o a e=>l b o a (k1 b o a e)) (λb a=>F b (sub b a)) Z hv hz J (nd.at eo (l T o (W.apart i T _ O) eo));show⟨.ref T,upd H T (.tup vs),I2,rfl,⟨T,vs,rfl,I.hok.fresh Z,rfl,hy⟩,nx h2 s2,λb a=>?_⟩;obtain⟨ob,eb,_⟩:=obj _ _ y b a;have nb:b≠T:=λz=>jg _ (gm (cj eb) (z▸Z));rw[aP nb];show(F b a).1
 done:=by intro X hP hw hK U i π s σ H E I F y m;obtain⟨j,wr,n,q,St,Mid,⟨W,_⟩,L,sub,nx,_,ok⟩:=wk X hP hw hK U i π s σ H I y (.inr m);obtain rfl:=ok m;show W.done s _ _ L λh2 x l=>⟨rfl,EI (t':=x) (ch:=wr) I l λb a=>F b (sub b a)⟩
def Iel(K:aq)(l:ai):It:=Itp (λi H=>∃xs v,dM K H l xs/\xs[i]?=ae v) (λi H vs=>∃v,vs=[.int i,v] /\∀xs,dM K H l xs->xs[i]?=ae v) (λi H=>∃xs,dM K H l xs/\⇑xs=i)
def Iet(K:aq)(l:ai):It:=Itp (λi H=>∃xs v,eV K H l xs/\xs[i]?=ae v) (λi H vs=>∃v,vs=[.int i,v] /\∀xs,eV K H l xs->xs[i]?=ae v) (λi H=>∃xs,eV K H l xs/\⇑xs=i)
def vY:[V.int 0,V.int 0].length<=bq:=by rw[fw];decide
theorem EJ(e it l:ai)(d:e≠it)(hle:l≠e)(a:l≠it)(items:Array aj):KZ Ω w A e [e,it] items.size (λi vals=>∃t x,items[i]?=ae x/\vals=#[.int i t,x])
  (λi h=>(∃old,vw h e it i old)/\h.IsListIter it l i/\h.IsList l items) (λi T h=>(∃x,IsEnumOut h e it ((i:Int)+1) x T)/\h.IsListIter it l (i+1)/\h.IsList l items/\T≠e/\T≠it):=by
 intro i s Q E J ⟨⟨old,z⟩,v,p⟩ q;have n:items[i]?=ae items[i]:=mq J;show wpAny_pyNext_enum_item z v p n d λg L K b3 _ m=>?_;have I:e<↥s:=cj z;have F:it<↥s:=by obtain⟨_,y,_⟩:=v;show cj y
 show q ↥s #[.int i s.toks,items[i]] g (s.toks+1) ⟨_,_,n,rfl⟩ (bt _) ⟨_,b3,rfl,_,rfl⟩ (A3.is b3 rfl) ⟨⟨_,L⟩,K,p.at λo y=>m l o hle a y,ny I,ny F⟩ λb o j y=>?_;erw[cg,pq,or_false,not_or] at j;show m b o j.1 j.2 y
theorem EK{Ω:bj}{w:bg}{A:bx}{it:ai}{m:List ai}{n:Nat}{P:Nat->aj->Prop}{St:Nat->bh->Prop}(D:Draws Ω w A.in1 it m n P St)(e:ai)(a:e≠it)(d:e∉m):
  KZ Ω w A e [e,it] n (λi vals=>∃t x,P i x/\vals=#[.int i t,x]) (λi h=>(∃old,vw h e it i old)/\St i h) (λi T h=>(∃x,IsEnumOut h e it ((i:Int)+1) x T)/\St (i+1) h/\T≠e/\T≠it):=by
 intro i s Q E K ⟨⟨old,v⟩,p⟩ q;show wpAny_pyNext_enum_itemD D v p K a d λx g l z O L b3 _ J=>?_;have I:e<↥s:=cj v;have F:it<↥s:=by obtain⟨_,y⟩:=D.live _ _ p;show cj y
 show q ↥s #[.int i l,x] g (l+1) ⟨_,_,z,rfl⟩ (bt _) ⟨_,b3,rfl,_,rfl⟩ (A3.is b3 rfl) ⟨⟨_,O⟩,L,ny I,ny F⟩ λb o j y=>?_;erw[cg,pq,or_false,not_or] at j;show J b o j.1 j.2 y
theorem HC(z TI TO j d m l:ai)(D:ZipApart z TI TO j d m l)(xs ys:Array aj):
  KZ Ω w A z [z,TO,j,d] (min xs.size ys.size) (λi vals=>∃x y,xs[i]?=ae x/\ys[i]?=ae y/\vals=#[x,y])
   (λi h=>IsZip h z TI TO .none/\tq h TI (.ref j) (.ref d)/\(∃a b,tq h TO a b)/\h.IsListIter j m i/\h.IsListIter d l i/\h.IsList m xs/\h.IsList l ys)
   (λi T h=>IsZip h z TI TO (rawInt T)/\tq h TI (.ref j) (.ref d)/\(∃a b,tq h TO a b)/\h.IsListIter j m (i+1)/\h.IsListIter d l (i+1)/\h.IsList m xs/\h.IsList l ys/\T≠z/\T≠TO/\T≠j/\T≠d):=by
 intro i s Q E hi ⟨Y,X,⟨x,y,U⟩,O,L,K,J⟩ q;have F:i<xs.size:=∅
 have v:i<ys.size:=∅
 show wpAny_pyNext_zip_item D Y X U O L K J (mq F) (mq v) λg b1 Z b3 b4 I _ p=>?_;have fresh:∀{c:ai} {o:ay},s.heap.get? c=ae o->↥s≠c:=λe=>ny (cj e);show q ↥s #[xs[i],ys[i]] g s.toks ⟨_,_,mq F,mq v,rfl⟩ (bt _) ⟨_,I,rfl,_,rfl⟩ (A3.is I rfl)
  ⟨b1,p _ _ D.TIz D.TITO D.TIi1 D.TIi2 X,⟨_,_,Z⟩,b3,b4,K.at λo e=>p _ o D.l1z D.l1TO D.l1i1 D.l1i2 e,J.at λo e=>p _ o D.l2z D.l2TO D.l2i1 D.l2i2 e,fresh Y,fresh U,(by obtain⟨_,e,_⟩:=O;show fresh e),(by obtain⟨_,e,_⟩:=L;show fresh e)⟩ λb o n e=>?_
 erw[cg,pq,or_false,not_or] at n;show p b o n.1 n.2.1 n.2.2.1 n.2.2.2 e
theorem HD{P:bj}{w:bg}{K:aq}{es:List av}{kk:Nat}{tp:br}{e it l:ai}(n:e≠it)(hle:l≠e)(m:l≠it):
  Turn P w K (.Tuple es kk tp) (Iel K l) [e,it] e (λi h=>(∃old,vw h e it i old)/\h.IsListIter it l i):=by
 show nH (by simp) (λi h d b U=>?_) (λi h h2 d k=>?_) (λX hP hw hK hc i π s σ H I d hg=>?_) (λA i s Q E d q=>?_)
 .obtain ⟨⟨old,a⟩,o,c,d1,d2⟩:=d;rcases cg.mp U with rfl|j
  .exact ⟨_,a,λv z=>by cases z⟩
  .rw [dh.mp j];show⟨o,c,λv z=>by rw[d2] at z;cases z⟩
 .obtain ⟨⟨old,a⟩,b⟩:=d;show⟨⟨old,k e (by simp) _ a⟩,b.at λo q=>k it (by simp) o q⟩
 .subst hP hw hK;have j:∃xs,dM X.K H l xs:=by rcases hg with⟨xs,_,a,_⟩|⟨xs,a,_⟩<;>show⟨xs,a⟩
  obtain⟨xs,j⟩:=j;obtain⟨y,Y,p,hz⟩:=I.list j;have Z:=⇑Y;show⟨_,_,_,_,_,_,⟨WalksT.enumerate (I.ok.hd hc) e it l n hle m y.toArray,EJ e it l n hle m y.toArray⟩,⟨d.1,d.2,p.isList⟩,λb U=>U,λh q=>⟨q.1,q.2.1⟩,λg=>?_,λg=>?_⟩
  .obtain ⟨ys,v,J,L⟩:=g;obtain rfl:=I.eW J j;obtain⟨u,hu,ru⟩:=Y.get L;have O:i<⇑ys:=(df.mp L).1;show⟨by rw[cz,<- Z];show O,λvals q=>?_⟩;obtain⟨t,x,hx,rfl⟩:=q;have ex:x=u:=by
    have:y[i]?=ae x:=by simpa using hx
    rw[hu] at this;show(dg this).symm
   subst ex;show⟨[.int i,v],vY,.cons ⟨t,rfl⟩ (.cons ru .nil),v,rfl,λzs F=>by rw[I.eW F j];show L⟩
  .obtain ⟨ys,J,e2⟩:=g;obtain rfl:=I.eW J j;rw[cz,<- Z,e2]
 .obtain ⟨⟨old,a⟩,b⟩:=d;show zu a q
def Izl(K:aq)(l m:ai):It:=Itp (λi H=>∃xs ys v u,dM K H l xs/\dM K H m ys/\xs[i]?=ae v/\ys[i]?=ae u) (λi H vs=>∃v u,vs=[v,u]/\(∀xs,dM K H l xs->xs[i]?=ae v) /\∀ys,dM K H m ys->ys[i]?=ae u)
 (λi H=>∃xs ys,dM K H l xs/\dM K H m ys/\min ⇑xs ⇑ys=i)
theorem SE{P:bj}{w:bg}{K:aq}{es:List av}{kk:Nat}{tp:br}{z TI TO J F l m:ai}(D:ZipApart z TI TO J F l m):
  Turn P w K (.Tuple es kk tp) (Izl K l m) [z,TI,TO,J,F] z (λi h=>IsZip h z TI TO .none/\tq h TI (.ref J) (.ref F)/\(∃a b,tq h TO a b)/\h.IsListIter J l i/\h.IsListIter F m i):=by
 show nH (by simp) (λi h d b hb=>?_) (λi h h2 d k=>?_) (λX hP hw hK hc i π s σ H I d hg=>?_) (λA i s Q E d q=>?_)
 .obtain ⟨a1,a2,⟨x,y,a3⟩,⟨o4,c4,_,d4⟩,o5,c5,_,d5⟩:=d;erw[cg,or_false,pq] at hb;rcases hb with rfl|rfl|rfl|rfl|rfl
  .exact ⟨_,a1,λv z=>by cases z⟩
  .exact ⟨_,a2,λv z=>by cases z⟩
  .exact ⟨_,a3,λv z=>by cases z⟩
  .exact ⟨o4,c4,λv z=>by rw[d4] at z;cases z⟩
  .exact ⟨o5,c5,λv z=>by rw[d5] at z;cases z⟩
 .obtain ⟨a1,a2,⟨x,y,a3⟩,a4,a5⟩:=d;show⟨k z (by simp) _ a1,k TI (by simp) _ a2,⟨x,y,k TO (by simp) _ a3⟩,a4.at λo q=>k J (by simp) o q,a5.at λo q=>k F (by simp) o q⟩
 .subst hP hw hK;have U:∃xs ys,dM X.K H l xs/\dM X.K H m ys:=by rcases hg with⟨xs,ys,_,_,a,b,_⟩|⟨xs,ys,a,b,_⟩<;>show⟨xs,ys,a,b⟩
  obtain⟨xs,ys,U,n⟩:=U;obtain⟨ι,rv,p,hz⟩:=I.list U;obtain⟨j,Y,p2,hz2⟩:=I.list n;have hl:=⇑rv;have Z:=⇑Y;show⟨_,_,_,_,_,_,⟨WalksT.zip2 (I.ok.hd hc) z TI TO J F l m D ι.toArray j.toArray,HC z TI TO J F l m D ι.toArray j.toArray⟩,⟨d.1,d.2.1,d.2.2.1,d.2.2.2.1,d.2.2.2.2,p.isList,p2.isList⟩,λb hb=>?_,λh q=>⟨q.1,q.2.1,q.2.2.1,q.2.2.2.1,q.2.2.2.2.1⟩,λg=>?_,λg=>?_⟩
  .erw[cg,pq,or_false] at hb ⊢;rcases hb with rfl|rfl|rfl|rfl<;>simp
  .obtain ⟨x',y',v,u,hy,O,hv,hu⟩:=g;obtain rfl:=I.eW hy U;obtain rfl:=I.eW O n;obtain⟨r,er,rr⟩:=rv.get hv;obtain⟨r2,er2,rr2⟩:=Y.get hu;have hlt:i<⇑x':=(df.mp hv).1;have hlt2:i<⇑y':=(df.mp hu).1;show⟨by rw[cz,cz,<- hl,<- Z];lia,λvals q=>?_⟩;obtain⟨x,y,hx,hy',rfl⟩:=q;have ex:x=r:=by
    have:ι[i]?=ae x:=by simpa using hx
    rw[er] at this;show(dg this).symm
   have ey:y=r2:=by
    have:j[i]?=ae y:=by simpa using hy'
    rw[er2] at this;show(dg this).symm
   subst ex ey;show⟨[v,u],vY,.cons rr (.cons rr2 .nil),v,u,rfl,λzs L=>by rw[I.eW L U];show hv,λzs L=>by rw[I.eW L n];show hu⟩
  .obtain ⟨x',y',hy,O,e2⟩:=g;obtain rfl:=I.eW hy U;obtain rfl:=I.eW O n;rw[cz,cz,<- hl,<- Z,e2]
 .exact a0i d.1 q
section
variable{Ω:bj}{w:bg}{A:bx}{E:Q0c}{s:ao}
theorem SG(hit:s.heap.IsTupleIter it t i)(l:s.heap.IsTuple t items)(j:items[i]?=ae x)
  (p:∀h',h'.IsTupleIter it t (i+1)->qv it s.heap h'->Q x {s with heap:=h' }):az (au Ω w) A (a1t (.ref it)) Q E s:=by
 obtain⟨⟨q,d,_,nl,h⟩,o,ho,n,a⟩:=Bx l hit;show ar (m:=callSpecial? _ _) (sy hit.typeIs Ao (km Ao hit.typeIs a1g ?_ (a1l _)));show ar (m:=field _ 0) (qo ho a (x:=.ref t) rfl ?_);show az _ _ (if ah=af then _ else _) _ _ s;rw[Zz cf];show ar (m:=field _ 1) (qo ho a (x:=.int i 0) rfl (ar (m:=seqItems? _) (zr d h ?_)));erw[j,gj];show ar (a0g ho a (by simp) (a_ ⟨x,rfl,a_ (p _ ⟨_,tw _ ho (a02 (Ak a _)),(a03 ..).trans n,?_⟩ (lz ..))⟩));rw[Ak a];simp[rawInt]
theorem ND(n:A.handled=ag)(hit:s.heap.IsTupleIter it t i)(l:s.heap.IsTuple t items)(j:items[i]?=ag)
  (p:∀h' e,a05 it s.heap h'->(∃o,h'.get? e=ae o/\o.cls=.type "StopIteration")->E (.ref e) {s with heap:=h' }):az (au Ω w) A (a1t (.ref it)) Q E s:=by
 obtain⟨⟨v,a,_,nl,d⟩,o,ho,y,h⟩:=Bx l hit;show ar (m:=callSpecial? _ _) (sy hit.typeIs Ao (km Ao hit.typeIs a1g ?_ (a1l _)));show ar (m:=field _ 0) (qo ho h (x:=.ref t) rfl ?_);show az _ _ (if ah=af then _ else _) _ _ s;rw[Zz cf];show ar (m:=field _ 1) (qo ho h (x:=.int i 0) rfl (ar (m:=seqItems? _) (zr a d ?_)));erw[j,gj];show ar (iw (ar (m:=setField _ _ _) (a0g ho h (by simp) ?_)));have q:A.in1.handled=ag:=n
 wp_walk
 delta raiseNew;apply ar;apply a0l;rw[q];show ar (a_ (a0d (p _ _ (((lz ..).extBut.push _).push _) ⟨_,fv _ rfl,rfl⟩)))
theorem aCf(p:A.handled=ag)(it t:ai)(l:t≠it)(items:Array aj):Draws Ω w A it [it,t] items.size (λi v=>items[i]?=ae v) (λi h=>h.IsTupleIter it t i/\h.IsTuple t items) where
 live:=λi h d=>by obtain⟨⟨o,ho,_⟩,_⟩:=d;show⟨o,ho⟩
 frame:=λi h h' d k=>by obtain⟨⟨o,ho,r⟩,o2,j,n⟩:=d;show⟨⟨o,k it (by simp) o ho,r⟩,o2,k t (by simp) o2 j,n⟩
 item:=λi s Q E m d q=>SG d.1 d.2 (x:=items[i]) (mq m) λh' a b=>q _ h' s.toks (mq m) ⟨a,d.2.extBut b.extBut l⟩ b
 done:=λs Q E d q=>ND p d.1 d.2 (a2Y (bt _)) q
theorem NG(l:ai)(items:Array aj):vv (Builtin.«enumerate.__new__» ⟨[.type "enumerate",.ref l],[]⟩) (λ_ R s=>s.heap.IsTuple l items /\
  R (.ok (.ret (.ref (s.heap.push {cls:=.type "tuple_iterator",data:=.fields #[.ref l,.int 0 0]}).objs.size))) {s with heap:=(s.heap.push {cls:=.type "tuple_iterator",data:=.fields #[.ref l,.int 0 0]}).push {cls:=.type "enumerate",data:=.fields #[.none,.bool ah,.ref ↥s,rawInt 0,.none,.none]} }):=by
 show .of_wp λp0 n x v s h=>?_;obtain⟨a,h⟩:=h;obtain⟨m,q,d,o,p⟩:=s;have j:=sub_enumerate
 wp_walk using vk a
 show wpAny_stack_any λ_=>a_ ?_;split<;>first
  | (rename_i c _ _ _ _ _;cases (c == jc "enumerate")<;>(wp_walk using vk a;show⟨_,rfl,h⟩))
  | (wp_walk using vk a;show⟨_,rfl,h⟩)
theorem HE(n:s.heap.IsTuple l items)
  (h:∀h',vw h' (↥s+1) ↥s 0 .none->h'.IsTupleIter ↥s l 0->(∀b o,s.heap.get? b=ae o->h'.get? b=ae o)->Q (.ref (↥s+1)) {s with heap:=h' }):az (au Ω w) A (call (.type "enumerate") [.ref l]) Q E s:=by
 show a0I F.called_enumerate ⋯ (F.typeCall_enumerate_1 _) (F.newCall_enumerate_1 _) (λobj=>a1m obj _) F.entry_enumerate_new (NG l items) ⟨n,?_⟩;generalize a:s.heap.push {cls:=.type "tuple_iterator",data:=.fields #[.ref l,.int 0 0]}=h1;have e1:h1.objs.size=↥s+1:=by rw[<- a,tu]
 have g1:h1.get? ↥s=ae {cls:=.type "tuple_iterator",data:=.fields #[.ref l,.int 0 0]}:=by rw[<- a];show fv _ rfl
 have m:∀b o,s.heap.get? b=ae o->h1.get? b=ae o:=λb o e=>by rw[<- a];show cy _ e
 generalize j:h1.push {cls:=.type "enumerate",data:=.fields #[.none,.bool ah,.ref ↥s,rawInt 0,.none,.none]}=h2;have g2:h2.get? h1.objs.size=ae {cls:=.type "enumerate",data:=.fields #[.none,.bool ah,.ref ↥s,rawInt 0,.none,.none]}:=by rw[<- j];show fv _ rfl
 have d:∀b o,h1.get? b=ae o->h2.get? b=ae o:=λb o e=>by rw[<- j];show cy _ e
 show⟨⟨_,g2,rfl⟩,?_⟩;rw[e1] at g2 ⊢;show h h2 g2 ⟨_,d _ _ g1,rfl,rfl⟩ λb o e=>d b o (m b o e)
end
theorem HF{P:bj}{w:bg}{K:aq}{es:List av}{kk:Nat}{tp:br}{e it l:ai}(m:e≠it)(hle:l≠e)(Y:l≠it):
  Turn P w K (.Tuple es kk tp) (Iet K l) [e,it] e (λi h=>(∃old,vw h e it i old)/\h.IsTupleIter it l i):=by
 show nH (by simp) (λi h d b Z=>?_) (λi h h2 d k=>?_) (λX hP hw hK hc i π s σ H I d hg=>?_) (λA i s Q E d q=>?_)
 .obtain ⟨⟨old,a⟩,o,c,d1,d2⟩:=d;rcases cg.mp Z with rfl|j
  .exact ⟨_,a,λv z=>by cases z⟩
  .rw [dh.mp j];show⟨o,c,λv z=>by rw[d2] at z;cases z⟩
 .obtain ⟨⟨old,a⟩,o,b,r⟩:=d;show⟨⟨old,k e (by simp) _ a⟩,o,k it (by simp) o b,r⟩
 .subst hP hw hK;have j:∃xs,eV X.K H l xs:=by rcases hg with⟨xs,_,a,_⟩|⟨xs,a,_⟩<;>show⟨xs,a⟩
  obtain⟨xs,j⟩:=j;obtain⟨n,rv,p,hz⟩:=I.tuple j;have hl:=⇑rv;have D:Draws X.Ω X.w X.A.in1 it [it,l] n.toArray.size (λi v=>n.toArray[i]?=ae v) (λi h=>h.IsTupleIter it l i/\h.IsTuple l n.toArray):=aCf (show X.A.in1.handled=ag from I.ok.hd hc) it l Y n.toArray;have y:e∉[it,l]:=λz=>by
   rcases cg.mp z with F|F
   .exact m F
   .exact hle (dh.mp F).symm
  show⟨_,_,_,_,_,_,⟨WalksT.enumerateD D e m y (by simp),EK D e m y⟩,⟨d.1,d.2,p⟩,λb Z=>Z,λh q=>⟨q.1,q.2.1⟩,λg=>?_,λg=>?_⟩
  .obtain ⟨ys,v,L,O⟩:=g;obtain rfl:=I.mG L j;obtain⟨u,hu,ru⟩:=rv.get O;have U:i<⇑ys:=(df.mp O).1;show⟨by rw[cz,<- hl];show U,λvals q=>?_⟩;obtain⟨t,x,hx,rfl⟩:=q;have ex:x=u:=by
    have:n[i]?=ae x:=by simpa using hx
    rw[hu] at this;show(dg this).symm
   subst ex;show⟨[.int i,v],vY,.cons ⟨t,rfl⟩ (.cons ru .nil),v,rfl,λzs J=>by rw[I.mG J j];show O⟩
  .obtain ⟨ys,L,e2⟩:=g;obtain rfl:=I.mG L j;rw[cz,<- hl,e2]
 .obtain ⟨⟨old,a⟩,b⟩:=d;show zu a q
section
variable{es:List av}{kk:Nat}{tp:br}
def YQ{a:av}{L:TA}{p F:br}(hg:Gl X "enumerate")(hm:X.mg "enumerate"=ag)(ha:PA X [a] L)(hs:ax [a] X.env=[(ah,eval a X.env)]<|>0):
  PI X (.Tuple es kk tp) (.Call (.Name "enumerate" p) [a] [] F) (λσ H R=>L σ H λvs H1=>∃l,vs=[.ref l]/\(((∃xs,dM X.K H1 l xs)/\R (Iel X.K l) H1)\/((∃xs,eV X.K H1 l xs)/\R (Iet X.K l) H1))):=by
 intro π s σ H R I h;show Call_ (kC I hg hm boot_enumerate (wc (dB (ha F π s σ H _ I h) λus j ⟨vs,H1,m,r1,q1⟩=>?_) hs rfl));obtain⟨l,e,q⟩:=q1;subst e;obtain⟨u,rfl,Z⟩:=vals1 r1;cases Z;have U:∀b∈[↥j+1,↥j],mM X π H1 b:=λb O=>by
  have hle:↥j<=b:=by
   erw[cg,or_false,pq] at O;rcases O with rfl|rfl
   .exact pf _
   .exact bt _
  show m.xG hle (m.hok.fresh hle)
 rcases q with⟨⟨xs,y⟩,q⟩|⟨⟨xs,y⟩,q⟩
 .obtain ⟨J,Y,v,hz⟩:=m.list y;have d:l<↥j:=by obtain⟨o,n,e,_⟩:=v;show cj e
  show call_enumerate_list v.isList λh' x A hsz z=>zu x ?_;show⟨↥j+1,_,_,_,H1,rfl,m.kept (t':=j.toks) z,HD (Hs _) (gg (uj d)) (gg d),⟨⟨_,x⟩,A⟩,U,q⟩
 .obtain ⟨J,Y,v,hz⟩:=m.tuple y;have d:l<↥j:=v.lt;show HE (items:=J.toArray) v λh' x A z=>zu x ?_;show⟨↥j+1,_,_,_,H1,rfl,m.kept (t':=j.toks) z,HF (Hs _) (gg (uj d)) (gg d),⟨⟨_,x⟩,A⟩,U,q⟩
def aCg{a b:av}{U:TA}{p O:br}(hg:Gl X "zip")(hm:X.mg "zip"=ag)(ha:PA X [a,b] U)(hs:ax [a,b] X.env=[(ah,eval a X.env),(ah,eval b X.env)]<|>0)(v:ax [b] X.env=[(ah,eval b X.env)]<|>0):
  PI X (.Tuple es kk tp) (.Call (.Name "zip" p) [a,b] [] O) (λσ H R=>U σ H λvs H1=>∃l m xs ys,vs=[.ref l,.ref m]/\dM X.K H1 l xs/\dM X.K H1 m ys/\R (Izl X.K l m) H1):=by
 intro π s σ H R I h;show Call_ (kC I hg hm boot_zip (wc (dB (ha O π s σ H _ I h) λus d ⟨vs,H1,y,r1,q1⟩=>?_) (by rw[hs,v]) (by rw[v];rfl)));obtain⟨l,m,xs,ys,e,hq,A,q⟩:=q1;subst e;obtain⟨u,u2,rfl,ru,z⟩:=vals2 r1;cases ru;cases z;obtain⟨ι,rv,Y,hz⟩:=y.list hq;obtain⟨Z,rv2,j,hz2⟩:=y.list A;have F:l<↥d:=by obtain⟨o,n,e,_⟩:=Y;show cj e
 have x:m<↥d:=by obtain⟨o,n,e,_⟩:=j;show cj e
 show call_zip_2 Y.isList j.isList λh' hZ Kv Ku L J hsz hk=>a0i hZ ?_;show⟨↥d+4,_,_,_,H1,rfl,y.kept (t':=d.toks) hk,SE (zipApart_new F x),⟨hZ,Kv,⟨_,_,Ku⟩,L,J⟩,λb hb=>?_,q⟩;have hle:↥d<=b:=by
  erw[cg,or_false,pq] at hb;rcases hb with rfl|rfl|rfl|rfl|rfl
  .exact uo _ 4
  .exact uo _ 2
  .exact uo _ 3
  .exact bt _
  .exact uo _ 1
 show y.xG hle (y.hok.fresh hle)
def rO(ds:List D):List D:=ds.zipIdx.map λp=>.tup [.int (p.2:Int),p.1]
def SH(a b:List D):List D:=(a.zip b).map λp=>.tup [p.1,p.2]
theorem zA{ds:List D}{i:Nat}{d:D}(h:(rO ds)[i]?=ae d):∃d0,ds[i]?=ae d0/\d=.tup [.int (i:Int),d0]:=by
 delta rO at h;rw[c_,a2r] at h
 cases q:ds[i]? with
 |none=>rw[q] at h;cases h
 |some d0 =>
  rw[q] at h;simp at h;show⟨d0,rfl,h.symm⟩
theorem SI{a b:List D}{i:Nat}{d:D}(h:(SH a b)[i]?=ae d):∃x y,a[i]?=ae x/\b[i]?=ae y/\d=.tup [x,y]:=by
 delta SH at h;rw[c_] at h
 cases q:(a.zip b)[i]? with
 |none=>rw[q] at h;cases h
 |some xy =>
  rw[q] at h;obtain⟨j,h2⟩:=wy.mp q;show⟨xy.1,xy.2,j,h2,(dg h).symm⟩
def BP{K:aq}{S:ai->Prop}{H:Hp}{T:ai}{x y:V}{d a:D}(fr:H T=ag)(j:Dn K S H d x)(h:Dn K S H a y):Dn K S (upd H T (.tup [x,y])) (.tup [d,a]) (.ref T):=by symm;show⟨T,[x,y],rfl,aM,aK.fits (.same (aI fr)) _ _ (aK.cons j (aK.one h))⟩
theorem NH{K:aq}{a:ai}{ds:List D}:Wlk K (Iel K a) (rO ds) [(.lst ds,.ref a)] where
 go:=λS H A m i d e=>by have h:=m _ (dh.mpr rfl);symm at h;obtain⟨b,xs,j,l,n,dn⟩:=h;injection j with j;subst j;obtain⟨d0,e0,rfl⟩:=zA e;obtain⟨v,ev,q⟩:=dn.get e0;show⟨⟨xs,v,dM.of l,ev⟩,λx H' y=>?_⟩;obtain⟨T,vs,rfl,fr,rfl,z,rfl,o⟩:=y;have ex:=o xs (dM.of l);rw[ev] at ex;cases ex;show⟨aI fr,BP fr (by symm) q⟩
 stop:=λS H m i p=>by have h:=m _ (dh.mpr rfl);symm at h;obtain⟨b,xs,j,l,n,dn⟩:=h;injection j with j;subst j;show⟨xs,dM.of l,by rw[<- dn.len,<- p];simp[rO]⟩
theorem NI{K:aq}{a:ai}{ds:List D}:Wlk K (Iet K a) (rO ds) [(.tup ds,.ref a)] where
 go:=λS H z m i d e=>by have h:=m _ (dh.mpr rfl);symm at h;obtain⟨b,xs,j,l,dn⟩:=h;injection j with j;subst j;obtain⟨d0,e0,rfl⟩:=zA e;obtain⟨v,ev,p⟩:=dn.get e0;show⟨⟨xs,v,(eV.of l),ev⟩,λx H' y=>?_⟩;obtain⟨T,vs,rfl,fr,rfl,q,rfl,n⟩:=y;have ex:=n xs (eV.of l);rw[ev] at ex;cases ex;show⟨aI fr,BP fr (by symm) p⟩
 stop:=λS H m i o=>by have h:=m _ (dh.mpr rfl);symm at h;obtain⟨b,xs,j,l,dn⟩:=h;injection j with j;subst j;show⟨xs,(eV.of l),by rw[<- dn.len,<- o];simp[rO]⟩
theorem YR{K:aq}{a c:ai}{ds es:List D}:Wlk K (Izl K a c) (SH ds es) [(.lst ds,.ref a),(.lst es,.ref c)] where
 go:=λS H fc n i d e=>by have h:=n (.lst ds,.ref a) (by simp);have h2:=n (.lst es,.ref c) (by simp);symm at h h2;obtain⟨b,xs,l,p,I,dn⟩:=h;obtain⟨Y,ys,m,j,q,A⟩:=h2;injection l with l;injection m with m;subst l m;obtain⟨x0,Z,e0,e1,rfl⟩:=SI e;obtain⟨v,ev,O⟩:=dn.get e0;obtain⟨u,F,U⟩:=A.get e1;show⟨⟨xs,ys,v,u,dM.of p,dM.of j,ev,F⟩,λx H' y=>?_⟩;obtain⟨T,vs,rfl,fr,rfl,v',u',rfl,J,z⟩:=y;have ex:=J xs (dM.of p);have o:=z ys (dM.of j);rw[ev] at ex;rw[F] at o;cases ex;cases o;show⟨aI fr,BP fr O U⟩
 stop:=λS H n i L=>by have h:=n (.lst ds,.ref a) (by simp);have h2:=n (.lst es,.ref c) (by simp);symm at h h2;obtain⟨b,xs,l,p,I,dn⟩:=h;obtain⟨Y,ys,m,j,q,A⟩:=h2;injection l with l;injection m with m;subst l m;show⟨xs,ys,dM.of p,dM.of j,by rw[<- dn.len,<- A.len,<- L];simp[SH]⟩
noncomputable def Wc(t:WA):WI:=λρ Q=>t ρ λds=>match ds with
 |[.lst es]=>Q (rO es)
 |[.tup es]=>Q (rO es)
 |_=>False
noncomputable def Oa(t:WA):WI:=λρ Q=>t ρ λds=>match ds with
 |[.lst a,.lst b]=>Q (SH a b)
 |_=>False
def HG(A:X.mg "enumerate"=ag)(F:xM X [a] t)(j:Gl X "enumerate"<|>0)(z:ax [a] X.env=[(ah,eval a X.env)]<|>0):U8 X (.Tuple es kk tp) (.Call (.Name "enumerate" p) [a] [] ν) (Wc t) :=
 R1 (YQ j A F z) λσ H R K=>by
  obtain⟨S,ρ,Q3,I,x,y,k⟩:=K;show⟨S,ρ,_,I,x,y,λvs H1 ds n o q1=>?_⟩;split at q1
  .obtain ⟨v,r,rfl,h,h2⟩:=o.bA;erw[aK] at h2;subst h2;have d:=h;symm at h;obtain⟨l,xs,rfl,m,q,J⟩:=h;show⟨l,rfl,.inl ⟨⟨xs,dM.of m⟩,k _ H1 _ [(_,.ref l)] n (λg j=>by cases dh.mp j;show d) NH q1⟩⟩
  .obtain ⟨v,r,rfl,h,h2⟩:=o.bA;erw[aK] at h2;subst h2;have d:=h;symm at h;obtain⟨l,xs,rfl,m,J⟩:=h;show⟨l,rfl,.inr ⟨⟨xs,(eV.of m)⟩,k _ H1 _ [(_,.ref l)] n (λg j=>by cases dh.mp j;show d) NI q1⟩⟩
  .exact q1.elim
def Nz{a b:av}{t:WA}{p z:br}(O:X.mg "zip"=ag)(Y:xM X [a,b] t)(d:Gl X "zip"<|>0)(L:ax [a,b] X.env=[(ah,eval a X.env),(ah,eval b X.env)]<|>0)(h:ax [b] X.env=[(ah,eval b X.env)]<|>0):
  U8 X (.Tuple es kk tp) (.Call (.Name "zip" p) [a,b] [] z) (Oa t) :=
 R1 (aCg d O Y L h) λσ H R Ny=>by
  obtain⟨S,ρ,Q3,Z,I,K,k⟩:=Ny;show⟨S,ρ,_,Z,I,K,λvs H1 ds J d1 q1=>?_⟩;split at q1
  .obtain ⟨v,r,rfl,x,h2⟩:=d1.bA;obtain⟨v2,r2,rfl,o,y⟩:=h2.bA;erw[aK] at y;subst y;have q:=x;have n:=o;symm at x o;obtain⟨l,xs,rfl,U,F,da⟩:=x;obtain⟨m,ys,rfl,j,A,da2⟩:=o;show⟨l,m,xs,ys,rfl,dM.of U,dM.of j,k _ H1 _ [(_,.ref l),(_,.ref m)] J (λg d=>?_) YR q1⟩;rcases cg.mp d with rfl|d
   .exact q
   .cases dh.mp d;show n
  .exact q1.elim
variable{a b:av}{ν:br}{ta tb:WE}
def YS:iP X (binaryOp .Mult) (rI vz λi j=>.int (i*j)):=opI λ_ _ _ _ _ _ _ d q=>mul_int q d
def Wb:F2:=M7 vz λi j=>.int (i*j)
def Wa(h:bY X a ta)(d:bY X b tb):bY X (.BinOp a .Mult b ν) (fX Wb ta tb):=X8 YS nF h d
end
theorem YT(d:i.natAbs<2^m)(a:j.natAbs<2^n)(h:m+n<=134217728):vz i j:=by show mulOk_of_bits (intBits_le d) (intBits_le a) h
noncomputable def aL8(t:WE):WT:=λρ Q=>t ρ λd=>match d with
 |.lst ds=>Q (!ds.isEmpty)
 |.tup ds=>Q (!ds.isEmpty)
 |_=>False
def aK.empty{K:aq}{S:ai->Prop}{H:Hp}{ds:List D}{xs:List V}(h:aK K S H ds xs):ds.isEmpty=xs.isEmpty:=by have:=h.len;cases ds<;>cases xs<;>simp at this ⊢
def yf:List V->Hp->VK->Prop:=λxs H Q=>∃(a:ai) (ns:Q0e),xs=[.ref a]/\H a=ae (.lst (ns.map V.int))/\Q (.int ns.sum) H
theorem zB(o:X.calm=af):eX X (.builtin "sum") yf:=by
 intro π s σ H xs us Q I r h;obtain⟨a,ns,rfl,v,q⟩:=h;obtain⟨u,rfl,m⟩:=vals1 r;cases m;obtain⟨y,l,p,A⟩:=I.list (dM.of v);have d:=intsAre_of l;obtain⟨zs,j⟩:=d.allInts.items;have x:zs.toList.map (·.1)=ns:=by rw[<- a0z,<- j];show d.numsOf
 have ev:preSum (numAt zs) zs.size=ns.sum:=by rw[preSum_eq,pj (by simp),x]
 show sum_intListG (I.ok.hd o) (j▸p.isList) λh' z t' n=>⟨.int ns.sum,H,I.kept n,⟨t',by rw[ev]⟩,q⟩
def sumF:F1
 |[.lst ds],Q=>(match intsOf ds with|some ns=>Q (.int ns.sum)|none=>False)
 |_,_=>False
def NJ{ns:Q0e}{Q:D->Prop}:sumF [.lst (ns.map D.int)] Q=Q (.int ns.sum):=by show(match intsOf (ns.map D.int) with|some ns=>Q (.int ns.sum)|none=>False)=_;rw[b7]
theorem aCi{K:aq}:C3 K yf sumF:=by
 intro S H xs ds Q3 Q x l h k
 match ds,h with
 |[.lst es],h =>
  obtain⟨v,r,rfl,j,h2⟩:=l.bA;erw[aK] at h2;subst h2;symm at j;obtain⟨a,ys,rfl,m,p,o⟩:=j;have d:(match intsOf es with|some ns=>Q3 (.int ns.sum)|none=>False):=h
  clear h
  cases q:intsOf es with
  |none=>rw[q] at d;show d.elim
  |some ns =>
   rw[q] at d;have e:=qS q;subst e;have n:=aK.ints.mp o;subst n;show⟨a,ns,rfl,m,k _ H _ (ξ.refl H) (by symm) d⟩
theorem Nw(j:X.calm=af)(a:X.mg "sum"=ag)(l:xM X [e] t)(d:Gl X "sum"<|>0)
  (h:Zq X e []<|>0):bY X (.Call (.Name "sum" p) [e] [] ν) (RW sumF t):=vT (zB j) aCi a1L d a l ⋯ ⋯ h (by rfl)
abbrev WO:=cN->(Option Int->Prop)->Prop
inductive Eh (K:aq) (t:WO) (σ:L2.St) (H:Hp) (Q:(Option Int->Hp->Prop)):Prop
 |mk (S:ai->Prop) (ρ:cN) (Q3:Option Int->Prop) (h1:(∀a,H a=ag->S a)) (h2:Sl K S H ρ σ) (h3:t ρ Q3) (h4:∀o H',ξ H H'->Q3 o->Q o H'):Eh K t σ H Q
def PO3(X:Cx)(e:Option av)(t:WO):Prop:=PO X e (Eh X.K t)
def YU:WO:=λ_ Q=>Q ag
noncomputable def V_(t:WE):WO:=λρ Q=>t ρ λd=>match d with
 |.int i=>Q (ae i)
 |_=>False
def Nv:PO3 X ag YU:=λπ s σ H Q I d=>by obtain⟨S,ρ,Q3,j,h,a,k⟩:=d;show XZ π s σ H Q I (k ag H (ξ.refl H) a)
theorem po3(h:bY X e t):PO3 X (ae e) (V_ t):=λπ s σ H Q I o=>by
 obtain⟨S,ρ,Q3,n,j,m,k⟩:=o;show X0 h π s σ H Q I ⟨S,ρ,_,n,j,m,λv H1 d l a q1=>?_⟩
 cases d with
 |int i=>symm at a;show⟨i,a,k _ H1 l q1⟩
 |_=>show q1.elim
def cutD(xs:List D)(lo a:Option Int):List D:=(xs.drop (HT.fN ⇑xs 0 lo)).take (HT.fN ⇑xs ⇑xs a-HT.fN ⇑xs 0 lo)
def aK.cut{K:aq}{S:ai->Prop}{H:Hp}{ds:List D}{xs:List V}{lo a:Option Int}(h:aK K S H ds xs):aK K S H (cutD ds lo a) (DQ xs lo a):=by delta cutD DQ;rw[h.len];show(h.drop _).take _
theorem SK{Ω:bj}{w:bg}{A:bx}{E:Q0c}{s:ao}{t j:ai}{items:Array aj}{p l:aj}{lo v:Option Int}{Q:Q0c}(d:g_ s.heap t items)(q:s.heap.IsSliceOf j p l .none)(y:mx p lo)(x:mx l v)
  (I:HT.fN items.size 0 lo=0) (F:HT.fN items.size items.size v=items.size) (h:Q (.ref t) s):az (au Ω w) A (getItem (.ref t) (.ref j)) Q E s:=by
 have z:s.TypeIs (.ref j) "slice":=by obtain⟨o,a,b,_⟩:=q;show⟨o,a,b⟩
 delta getItem
 try with_reducible show ik ?_
 first|show ar (a_ ?_)|skip
 apply ar;show a0h d.typeIs ⋯ (ar (sy d.typeIs qx (km qx d.typeIs a1J ?_ (a1O _ _))));show ar (m:=a1r _) (a1y d (ar (vj z ?_)));rw[Z_ ⋯];show ar (HT.jS (n:=items.size) q y x ?_);rw[I,F];show az _ _ (if((((0:Nat):Int) == 0)&&((1:Int) == 1)&&((items.size-0) == items.size))=af then _ else _) _ _ s;rw[Z_ (by simp)];show ar (m:=a3M _) (ar (vj d.typeIs (a_ ?_)));show az _ _ (if af=af then _ else _) _ _ s;rw[Z_ rfl];show ar (iw (a_ ⟨_,rfl,a_ h⟩))
def Nr(K:aq):V->Option Int->Option Int->Hp->VK->Prop:=λx lo d H Q=>∃a xs,x=.ref a/\eV K H a xs/\(HT.fN ⇑xs 0 lo=0/\HT.fN ⇑xs ⇑xs d=⇑xs)/\Q (.ref a) H
theorem YV:SlR X (Nr X.K):=by
 intro π s σ H x v z y lo J A Q I l p n m h;obtain⟨a,xs,rfl,o,hw,q⟩:=h;cases l;obtain⟨j,r,d,F⟩:=I.tuple o;have hlen:j.toArray.size=⇑xs:=by rw[cz];show r.length.symm
 show⟨"tuple",_,qx.lookup,d.typeIs,SK d p n m (by rw[hlen];show hw.1) (by rw[hlen];show hw.2) ⟨.ref a,H,I,rfl,q⟩⟩
def Jo(te:WE)(h j:WO):WE:=λρ Q=>te ρ λd=>h ρ λlo=>j ρ λa=>match d with
 |.lst ds=>Q (.lst (cutD ds lo a))
 |.tup ds=>Q (.tup (cutD ds lo a))
 |_=>False
def sl3{e:av}{lo K:Option av}{p2 L:br}{te:WE}{I J:WO}(Z:bY X e te)(y:PO3 X lo I)(Y:PO3 X K J):bY X (.Subscript e (.Slice lo K ag p2) L) (Jo te I J) :=
 imp (Q7 (X3.or (aBx.or YV)) Z y Y) λσ H Q Nq=>by
  obtain⟨S,ρ,Q3,z,F,U,k⟩:=Nq;show⟨S,ρ,_,z,F,U,λv H1 d j d1 q1=>?_⟩;show⟨S,ρ,_,bC z j,Sl.fits (.same j) F,q1,λo H2 q q2=>?_⟩;show⟨S,ρ,_,bC z (j.trans q),Sl.fits (.same (j.trans q)) F,q2,λo2 H3 s3 x=>?_⟩;have A:=Dn.fits (.same (q.trans s3)) _ _ d1;have n:=(j.trans q).trans s3
  cases d with
  |lst ds =>
   symm at A;obtain⟨a,xs,rfl,l,O,m⟩:=A;show .inl ⟨a,xs,rfl,dM.of l,λp h=>k _ _ _ (n.trans (aI h)) ?_ x⟩;symm;show⟨p,_,rfl,aM,bC z n p h,aK.fits (.same (aI h)) _ _ m.cut⟩
  |tup ds =>
   symm at A;obtain⟨a,xs,rfl,l,m⟩:=A;have y:=m.len;by_cases hw:HT.fN ⇑xs 0 o=0/\HT.fN ⇑xs ⇑xs o2=⇑xs
   .refine .inr (.inr ⟨a,xs,rfl,(eV.of l),hw,k _ _ _ n ?_ x⟩);have e:cutD ds o o2=ds:=by delta cutD;rw[y,hw.1,hw.2,p_,wg,pj (nz y)]
    rw[e];symm;show⟨a,xs,rfl,l,m⟩
   .refine .inr (.inl ⟨a,xs,rfl,(eV.of l),hw,λp h=>k _ _ _ (n.trans (aI h)) ?_ x⟩);symm;show⟨p,_,rfl,aM,aK.fits (.same (aI h)) _ _ m.cut⟩
  |_=>show x.elim
end L3
namespace L4
open PySem.Spec PyProof.Rows L2 L3
def wE(f:EF):WE:=λρ Q=>∃d,f ρ=ae d/\Q d
def wT(f:TF):WT:=λρ Q=>∃d,f ρ=ae d/\Q d
def wA(f:AF):WA:=λρ Q=>∃d,f ρ=ae d/\Q d
def wI(f:AF):WI:=λρ Q=>∃d,f ρ=ae d/\Q d
def wO(f:OF):WO:=λρ Q=>∃d,f ρ=ae d/\Q d
def wX(f:XF):WX:=λρ Q=>∃p,f ρ=ae p/\Q p.1 p.2
noncomputable def wS(f:SF):WS:=λE ρ=>match f ρ with
 |.nx ρ'=>E.nx ρ'
 |.rt d=>E.rt d
 |.ex c=>E.ex c
 |.no=>False
def wG(g:GSF):WG:=λd ρ Q=>∃a,g d ρ=ae a/\Q a
def xh(g:VF):GE:=λd ρ Q=>∃a,g d ρ=ae a/\Q a
abbrev bD(X:Cx)(e:av)(f:EF):Prop:=bY X e (wE f)
abbrev mJ(X:Cx)(e:av)(f:EF):Prop:=G5 X e (wE f)
abbrev wW(X:Cx)(e:av)(f:TF):Prop:=xK X e (wT f)
abbrev PW4(X:Cx)(e:av)(f:TF):Prop:=YE X e (wT f)
abbrev xP(X:Cx)(a:List av)(f:AF):Prop:=xM X a (wA f)
abbrev VA(X:Cx)(a e:av)(f:AF):Prop:=U8 X a e (wI f)
abbrev PO4(X:Cx)(e:Option av)(f:OF):Prop:=PO3 X e (wO f)
abbrev NK(X:Cx)(e:av)(f:XF):Prop:=FO X e (wX f)
abbrev rP(X:Cx)(a:dc)(f:SF):Prop:=DW X a (wS f)
abbrev nI(X:Cx)(a:List dc)(f:SF):Prop:=sJ X a (wS f)
variable{X:Cx}
section
def cE{e:av}{t t':WE}(h:bY X e t)(c:∀ρ Q,t' ρ Q->t ρ Q):bY X e t':=imp h λ_ _ _ l=>by obtain⟨S,ρ,Q3,j,a,d,k⟩:=l;show⟨S,ρ,Q3,j,a,c ρ Q3 d,k⟩
def cF(h:G5 X e t)(c:∀ρ Q,t' ρ Q->t ρ Q):G5 X e t':=imp h λ_ _ _ l=>by obtain⟨S,ρ,Q3,j,a,d,k⟩:=l;show⟨S,ρ,Q3,j,a,c ρ Q3 d,k⟩
def cT{e:av}{t t':WT}(h:xK X e t)(c:∀ρ Q,t' ρ Q->t ρ Q):xK X e t':=RM h λ_ _ _ l=>by obtain⟨S,ρ,Q3,j,a,d,k⟩:=l;show⟨S,ρ,Q3,j,a,c ρ Q3 d,k⟩
def cW{e:av}{t t':WT}(h:YE X e t)(c:∀ρ Q,t' ρ Q->t ρ Q):YE X e t':=Dk h λ_ _ _ l=>by obtain⟨S,ρ,Q3,j,a,d,k⟩:=l;show⟨S,ρ,Q3,j,a,c ρ Q3 d,k⟩
def cA(h:xM X e t)(c:∀ρ Q,t' ρ Q->t ρ Q):xM X e t':=RN h λ_ _ _ l=>by obtain⟨S,ρ,Q3,j,a,d,k⟩:=l;show⟨S,ρ,Q3,j,a,c ρ Q3 d,k⟩
def cI(h:U8 X tg e t)(c:∀ρ Q,t' ρ Q->t ρ Q):U8 X tg e t':=R1 h λ_ _ _ l=>by obtain⟨S,ρ,Q3,j,a,d,k⟩:=l;show⟨S,ρ,Q3,j,a,c ρ Q3 d,k⟩
def cX(h:FO X e t)(c:∀ρ Q,t' ρ Q->t ρ Q):FO X e t':=imp h λ_ _ _ l=>by obtain⟨H₀,S,w,ρ,G,Q3,j,a,d,k⟩:=l;show⟨H₀,S,w,ρ,G,Q3,j,a,c ρ Q3 d,k⟩
def cS(h:DW X e t)(c:∀E ρ,t' E ρ->t E ρ):DW X e t':=jT h λ_ _ _ l=>by obtain⟨H₀,S,w,ρ,G,E,j,a,d,ok⟩:=l;show⟨H₀,S,w,ρ,G,E,j,a,c E ρ d,ok⟩
def Co(h:sJ X e t)(c:∀E ρ,t' E ρ->t E ρ):sJ X e t':=DX h λ_ _ _ l=>by obtain⟨H₀,S,w,ρ,G,E,j,a,d,ok⟩:=l;show⟨H₀,S,w,ρ,G,E,j,a,c E ρ d,ok⟩
def PW4.pt(h:PW4 X e f):wW X e f:=YE.pt h
def mJ.pe(h:mJ X e f):bD X e f:=G5.pe h
theorem bnd{α d:Type}{o:Option α}{f:α->Option d}{b:d}(h:o.bind f=ae b):∃a,o=ae a/\f a=ae b:=by
 cases o with
 |none=>cases h
 |some a=>show⟨a,rfl,h⟩
theorem rQ{α d:Type}{o:Option α}{f:α->d}{b:d}(h:o.map f=ae b):∃a,o=ae a/\f a=b:=by
 cases o with
 |none=>cases h
 |some a=>show⟨a,rfl,dg h⟩
theorem x4(i:Nat)(hN:X.N[i]?=ae x<|>0)(j:xF X.env.scope x<|>3)(l:Zu x<|>1)
  (a:Zt x<|>1):bD X (.Name x ν) (bE i):=cE (x3 i hN j l a) λρ Q m=>by
 obtain⟨d,e,q⟩:=m;delta bE at e;delta X7
 cases h:ρ[i]? with
 |none=>rw[h] at e;cases e
 |some o =>
  rw[h] at e
  cases o with
  |none=>cases e
  |some d'=>cases e;show q
def i4{j ν}:bD X (.Constant (.int i) j ν) (eI i):=cE i3 λ_ _ a=>by obtain⟨_,e,q⟩:=a;cases e;show q
def b4{j ν}:bD X (.Constant (.bool b) j ν) (eC (.bl b)):=cE b3 λ_ _ a=>by obtain⟨_,e,q⟩:=a;cases e;show q
def n4{j ν}:bD X (.Constant .none j ν) (eC .non):=cE n3 λ_ _ a=>by obtain⟨_,e,q⟩:=a;cases e;show q
def Tells(f:F2)(g:D->D->Option D):Prop:=∀(x y d:D) (Q:D->Prop),g x y=ae d->Q d->f x y Q
def gM{f:F2}{g:D->D->Option D}(h:Tells f g){j a:EF}(ρ:cN)(Q:D->Prop)(w:wE (aC g j a) ρ Q):fX f (wE j) (wE a) ρ Q:=by obtain⟨d,e,q⟩:=w;obtain⟨x,ex,e⟩:=bnd e;obtain⟨y,l,e⟩:=bnd e;show⟨x,ex,y,l,h x y d Q e q⟩
def gD:Tells (vR g) (FQ g):=λx y d Q e q=>by
 cases x<;>first|(cases e;done)|skip
 all_goals (cases y<;>first|(cases e;done)|skip)
 cases e;show q
def fI(h:∀i j,c i j=af->C i j):Tells (M7 C g) (iY c g):=λx y d Q e q=>by
 cases x<;>first|(cases e;done)|skip
 all_goals (cases y<;>first|(cases e;done)|skip)
 rename_i i j;have e:(if c i j=af then ae (g i j) else ag)=ae d:=e;by_cases a:c i j=af
 .rw [Z_ a] at e;cases e;show⟨h i j a,q⟩
 .rw [Zz a] at e;cases e
def szl{n:Nat}{α:Type}{x d:α}{Q:α->Prop}(e:(if n<=jJ then ae x else ag)=ae d)(q:Q d):n<=bq/\Q x:=by
 by_cases h:n<=jJ
 .rw [Z_ h] at e;cases e;show⟨by rw[fw];show h,q⟩
 .rw [Zz h] at e;cases e
def NL:Tells yr dF:=λx y d Q e q=>by
 cases x<;>first|(cases e;done)|skip
 all_goals (cases y<;>first|(cases e;done)|skip)
 .cases e;show q
 .exact szl (x:=D.str _) e q
 .exact szl (x:=D.tup _) e q
 .exact szl (x:=D.lst _) e q
def NM:Tells Dl LN:=λx y d Q e q=>by
 cases x<;>first|(cases e;done)|skip
 all_goals (cases y<;>first|(cases e;done)|skip)
 show szl (x:=D.lst _) e q
def aCk(h:tS i j=af):vz i j:=by
 delta tS at h;erw[Bu,decide_eq_true_eq] at h;rcases h with(h|h)|h
 .exact XN.ok (.inl ⟨∅,∅⟩)
 .exact XN.ok (.inr ⟨∅,∅⟩)
 .refine YT (m:=i.natAbs.log2+1) (n:=j.natAbs.log2+1) ?_ ?_ ∅
  .exact a15
  .exact a15
section
variable{a b:av}{ν:br}{fa fb:EF}
def gO(h:bD X a fa)(d:bD X b fb):bD X (.BinOp a .Add b ν) (aC dF fa fb):=cE (So h d) (gM NL)
def HH(h:bD X a fa)(d:bD X b fb):bD X (.BinOp a .Sub b ν) (aC nO fa fb):=cE (Su h d) (gM gD)
def vZ(j:bD X a fa)(d:bD X b fb):bD X (.BinOp a .Mult b ν) (aC mulM fa fb):=cE (Wa j d) (gM (fI λ_ _ h=>aCk h))
def sL(j:bD X a fa)(d:bD X b fb):bD X (.BinOp a .Mod b ν) (aC j3 fa fb):=cE (Ss j d) (gM (fI λ_ _ h=>by simpa using h))
def SM(l:bD X a fa)(d:bD X b fb):bD X (.BinOp a .FloorDiv b ν) (aC sA fa fb):=cE (Sr l d) (gM (fI λi j h=>by erw[gr,decide_eq_true_eq] at h;show⟨h.1,∅⟩))
def Ms(l:bD X a fa)(d:bD X b fb):bD X (.BinOp a .Pow b ν) (aC zq fa fb):=cE (Sq l d) (gM (fI λi j h=>by erw[gr,decide_eq_true_eq] at h;show⟨h.1.1,∅,h.2⟩))
def Vz(h:bD X a fa)(d:bD X b fb):mJ X (.BinOp a .Add b ν) (aC LN fa fb):=cF (Xo h d) (gM NM)
def tells_eq:Tells YC rD:=λx y d Q e q=>by
 cases x<;>first|(cases e;done)|skip
 all_goals (cases y<;>first|(cases e;done)|skip)
 all_goals (cases e;show⟨rfl,q⟩)
def SN:Tells yq neM:=λx y d Q e q=>by
 cases x<;>first|(cases e;done)|skip
 all_goals (cases y<;>first|(cases e;done)|skip)
 all_goals (cases e;show⟨rfl,q⟩)
theorem ints_of:∀{ds:List D} {ns:Q0e},intsOf ds=ae ns->ds=ns.map D.int
 |[],ns,h=>by cases h;rfl
 |d::ds,ns,h=>by
  cases d<;>first|cases h;done|skip
  obtain⟨m,e,rfl⟩:=rQ h;rw[ints_of e];rfl
def wB{neg:Bool}:Tells (inF neg) (tX neg):=λx y d Q e q=>by
 cases x<;>first|(cases e;done)|skip
 all_goals (cases y<;>first|(cases e;done)|skip)
 all_goals
  obtain⟨ns,e1,rfl⟩:=rQ e;have:=ints_of e1;subst this;show⟨yZ ns,by rw[y4];show q⟩
def EL:Tells YD VE:=λx y d Q e q=>by
 delta VE at e;split at e
 .rename_i h;cases e;show⟨(by cases y<;>first|rfl|cases h),?_⟩;have:isD x=tW x:=by cases x<;>rfl
  rw[this];show q
 .cases e
def gt4(h:bD X a fa)(d:bD X b fb):bD X (.Compare a [.Gt] [b] ν) (aC FJ fa fb):=cE (gt3 h d) (gM gD)
def eq4(h:bD X a fa)(d:bD X b fb):bD X (.Compare a [.Eq] [b] ν) (aC rD fa fb):=cE (Rl h d) (gM tells_eq)
def in4(j:bD X a fa)(h:bD X b fb)(d:behindInMarks .In b=ah<|>5):bD X (.Compare a [.In] [b] ν) (aC (tX ah) fa fb):=cE (in3 j h d) (gM wB)
def is4(h:bD X a fa)(d:bD X b fb):bD X (.Compare a [.Is] [b] ν) (aC VE fa fb):=cE (Rf h d) (gM EL)
def rR{f:F2}{g:D->D->Option D}(h:Tells f g)(j:∀x y d,g x y=ae d ->∃b,d=.bl b){fa fb:EF}(ρ:cN)(Q:Bool->Prop)(w:wT (tV (aC g fa fb)) ρ Q):lT (fX f (wE fa) (wE fb)) ρ Q:=by obtain⟨b,e,q⟩:=w;obtain⟨d,e1,m⟩:=bnd e;obtain⟨x,ex,e1⟩:=bnd e1;obtain⟨y,l,e1⟩:=bnd e1;obtain⟨c,rfl⟩:=j x y d e1;cases m;show⟨x,ex,y,l,h x y _ _ e1 q⟩
def wD{g:Int->Int->Bool}(x y d:D)(e:FQ (λi j=>.bl (g i j)) x y=ae d):∃b,d=.bl b:=by
 cases x<;>first|(cases e;done)|skip
 all_goals (cases y<;>first|(cases e;done)|skip)
 cases e;show⟨_,rfl⟩
def Vy(x y d:D)(e:rD x y=ae d):∃b,d=.bl b:=by obtain⟨b,_,rfl⟩:=rQ e;show⟨_,rfl⟩
def Vx(x y d:D)(e:neM x y=ae d):∃b,d=.bl b:=by obtain⟨b,_,rfl⟩:=rQ e;show⟨_,rfl⟩
def Fl{neg:Bool}(x y d:D)(e:tX neg x y=ae d):∃b,d=.bl b:=by
 cases x<;>first|(cases e;done)|skip
 all_goals (cases y<;>first|(cases e;done)|skip)
 all_goals (obtain⟨b,_,rfl⟩:=rQ e;show⟨_,rfl⟩)
def Vw(x y d:D)(e:VE x y=ae d):∃b,d=.bl b:=by
 delta VE at e;split at e
 .cases e;show⟨_,rfl⟩
 .cases e
def Mr(h:bD X a fa)(d:bD X b fb):wW X (.Compare a [.Lt] [b] ν) (tV (aC ltM fa fb)):=cT (Rk h d) (rR gD wD)
def YW(h:bD X a fa)(d:bD X b fb):wW X (.Compare a [.Gt] [b] ν) (tV (aC FJ fa fb)):=cT (Rj h d) (rR gD wD)
def Mq(h:bD X a fa)(d:bD X b fb):wW X (.Compare a [.GtE] [b] ν) (tV (aC geM fa fb)):=cT (Ri h d) (rR gD wD)
def HI(h:bD X a fa)(d:bD X b fb):wW X (.Compare a [.Eq] [b] ν) (tV (aC rD fa fb)):=cT (Xl h d) (rR tells_eq Vy)
def ye(h:bD X a fa)(d:bD X b fb):wW X (.Compare a [.NotEq] [b] ν) (tV (aC neM fa fb)):=cT (Xk h d) (rR SN Vx)
def De(j:bD X a fa)(h:bD X b fb)(d:behindInMarks .In b=ah<|>5):wW X (.Compare a [.In] [b] ν) (tV (aC (tX ah) fa fb)):=cT (Rh j h d) (rR wB Fl)
def Fj(j:bD X a fa)(h:bD X b fb)(d:behindInMarks .NotIn b=ah<|>5):wW X (.Compare a [.NotIn] [b] ν) (tV (aC (tX af) fa fb)):=cT (Xj j h d) (rR wB Fl)
def Mp(h:bD X a fa)(d:bD X b fb):wW X (.Compare a [.Is] [b] ν) (tV (aC VE fa fb)):=cT (Xi h d) (rR EL Vw)
end
def O4(K:aq)(r:R2)(g:D->D->Option D):Prop:=∃f,O3 K r f/\Tells f g /\∀x y d,g x y=ae d ->∃b,d=.bl b
def Vv{K:aq}:O4 K (MQ λi j=>.bl (Zv (i<j))) ltM:=⟨_,qQ,gD,wD⟩
def Vu{K:aq}:O4 K (MQ λi j=>.bl (Zv (i<=j))) leM:=⟨_,qQ,gD,wD⟩
theorem YX{f g:F2}{p q:D->D->Option D}(o:Tells f p)(n:Tells g q){l j h:EF}(ρ:cN)(Q:D->Prop)(w:wE (k6 p q l j h) ρ Q):G7 f g (wE l) (wE j) (wE h) ρ Q:=by
 obtain⟨d,e,k⟩:=w;obtain⟨x,ex,e⟩:=bnd e;obtain⟨y,A,e⟩:=bnd e;obtain⟨z,v,e⟩:=bnd e;obtain⟨b,m,a⟩:=bnd e;show⟨x,ex,y,A,o x y z _ v ?_⟩
 clear e
 cases z<;>first|cases m;done|skip
 cases m
 cases b with
 |true =>
  rw[Z_ rfl] at a;obtain⟨u,F,e⟩:=bnd a;show⟨u,F,n y u d Q e k⟩
 |false =>
  rw[Zz cf] at a;cases a;show k
theorem aCm(ho:iP X (compareOp op) r)(d:iP X (compareOp op') r')(n:O4 X.K r p)(h2:O4 X.K r' q)(m:bD X a fa)(l:bD X b fb)(j:bD X c fc)
  (h:lastMarks [op,op'] [b,c]=ah<|>5):bD X (.Compare a [op,op'] [b,c] ν) (k6 p q fa fb fc):=by
 obtain⟨f,o1,t1,_⟩:=n;obtain⟨g,o2,t2,_⟩:=h2;show cE (aCN ho d o1 o2 m l j h) (YX t1 t2)
section
variable{a b c:av}{Θ:List av}{ν:br}{fa fb:EF}{ta tb tc:TF}
def zC(d:wW X a ta):wW X (.UnaryOp .Not a ν) (nN ta):=cT (Xg d) λρ Q j=>by obtain⟨b,e,q⟩:=j;obtain⟨c,h,rfl⟩:=rQ e;show⟨c,h,q⟩
def yd(d:wW X a ta):PW4 X (.BoolOp .Or [a] ν) ta:=or1 d
theorem yc(j:wW X a ta)(h:PW4 X (.BoolOp .Or (b::Θ) ν) tb):PW4 X (.BoolOp .Or (a::b::Θ) ν) (OL ta tb):=cW (Ra j h) λρ Q m=>by
 obtain⟨d,e,q⟩:=m;obtain⟨c,l,e⟩:=bnd e;show⟨c,l,?_⟩
 cases c with
 |true=>rw[Z_ rfl] at e ⊢;cases e;show q
 |false=>rw[Zz cf] at e ⊢;show⟨d,e,q⟩
def SQ{op}(d:bD X a fa):bD X (.BoolOp op [a] ν) fa:=Qx d
theorem HJ(l:bD X a fa)(j:bD X (.BoolOp .And (b::Θ) ν) fb):bD X (.BoolOp .And (a::b::Θ) ν) (k5 fa fb):=cE (Qw l j) λρ Q m=>by
 obtain⟨d,e,q⟩:=m;obtain⟨x,ex,e1⟩:=bnd e;obtain⟨c,h,e⟩:=bnd e1
 clear e1
 show⟨x,ex,?_⟩;cases x<;>first|cases h;done|skip
 cases h
 cases c with
 |true=>rw[Z_ rfl] at e;show⟨d,e,q⟩
 |false=>rw[Zz cf] at e;cases e;show q
def yb(j:bD X a fa):bD X (.UnaryOp .Not a ν) (tQ fa):=cE (Qt j) λρ Q l=>by
 obtain⟨d,e,q⟩:=l;obtain⟨x,ex,e⟩:=bnd e;obtain⟨c,h,rfl⟩:=rQ e;show⟨x,ex,?_⟩;cases x<;>first|cases h;done|skip
 cases h;show q
theorem if4(h:wW X c tc)(l:bD X a fa)(j:bD X b fb):bD X (.IfExp c a b ν) (VC tc fa fb):=cE (if3 h l j) λρ Q n=>by
 obtain⟨d,e,q⟩:=n;obtain⟨c,m,e⟩:=bnd e;show⟨c,m,?_⟩
 cases c with
 |true=>rw[Z_ rfl] at e ⊢;show⟨d,e,q⟩
 |false=>rw[Zz cf] at e ⊢;show⟨d,e,q⟩
def ya(h:bD X a fa):bD X (.UnaryOp .USub a ν) (tR fa):=cE (Qp h) λρ Q j=>by
 obtain⟨d,e,q⟩:=j;obtain⟨x,ex,e⟩:=bnd e;show⟨x,ex,?_⟩;cases x<;>first|cases e;done|skip
 cases e;show q
def qT{e:av}{f:EF}(h:bD X e f)(x:(∀whole,isTrue e X.env whole=(do let v <- whole;standAt e.pos;holding [v] (truthy v)))<|>4):wW X e (tV f) :=
 RM (Q5 h x) λσ H Q F=>by
  obtain⟨S,ρ,Q3,z,q,⟨b,y,n⟩,k⟩:=F;obtain⟨d0,A,l⟩:=bnd y;show⟨S,ρ,λd=>d=d0,z,q,⟨d0,A,rfl⟩,λv H1 d m j q1=>?_⟩;subst q1
  cases d with
  |bl c=>cases l;symm at j;subst j;show⟨_,rfl,k _ H1 m n⟩
  |lst ds =>
   cases l;symm at j;obtain⟨a,xs,rfl,o,I,p⟩:=j;show⟨_,.inl ⟨xs,dM.of o,by rw[<- p.empty]⟩,k _ H1 m n⟩
  |tup ds =>
   cases l;symm at j;obtain⟨a,xs,rfl,o,p⟩:=j;show⟨_,.inr (.inl ⟨xs,(eV.of o),by rw[<- p.empty]⟩),k _ H1 m n⟩
  |_=>cases l
end
end
section
def bG:xP X [] aH:=cA Sm λ_ _ a=>by obtain⟨_,e,q⟩:=a;cases e;show q
def aE(j:bD X e fe)(h:xP X es t)(a:Zq X e es<|>0):xP X (e::es) (aA fe t):=cA (Xm j h a) λρ Q n=>by obtain⟨ds,e,q⟩:=n;obtain⟨d,m,e⟩:=bnd e;obtain⟨r,l,e⟩:=bnd e;cases e;show⟨d,m,r,l,q⟩
def qU{x1}(h:xP X es t):bD X (.Tuple es x1 ν) (gQ t):=cE (Sf h) λρ Q j=>by obtain⟨d,e,q⟩:=j;obtain⟨ds,a,e⟩:=bnd e;show⟨ds,a,szl (x:=D.tup ds) e q⟩
def kT(h:xP X es t):mJ X (.List es ν) (fB t):=cF (Ro h) λρ Q j=>by obtain⟨d,e,q⟩:=j;obtain⟨ds,a,e⟩:=bnd e;show⟨ds,a,szl (x:=D.lst ds) e q⟩
def SR:Tells ixF gT:=λx y d Q e q=>by
 cases x<;>first|(cases e;done)|skip
 all_goals (cases y<;>first|(cases e;done)|skip)
 .have e:sG _ _=ae d:=e;show(match sG _ _ with|some d=>Q d|none=>False);rw[e];show q
 .have e:sG _ _=ae d:=e;show(match sG _ _ with|some d=>Q d|none=>False);rw[e];show q
 .obtain ⟨n,e1,rfl⟩:=rQ e;have e1:sG _ _=ae n:=e1;show(match sG _ _ with|some n=>Q (.int n)|none=>False);rw[e1];show q
def wF(j:bD X a fa)(h:bD X b fb)(d:BD b<|>8):bD X (.Subscript a b ν) (aC gT fa fb):=cE (ix3 j h d) (gM SR)
def NN:Tells yi tZ:=λx y d Q e q=>by
 cases x<;>first|cases e;done|skip
 rename_i ks ds;obtain⟨k,a,e⟩:=bnd e;have a:EH y=ae k:=by cases y<;>first|show a|cases a
 have e:i9 ks ds k=ae d:=e
 show(match D.iV ks ds,EH y with
  |.iV ks ds,ae k=>(match i9 ks ds k with|some d=>Q d|none=>False)
  |_,_=>False)
 rw[a];dsimp only;rw[e];show q
def Dc(a:X.A.units+1<dq)(ho:bD X o fo)(h:bD X i fi)(d:G3 i<|>8):bD X (.Subscript o i ν) (aC tZ fo fi):=cE (Pg a ho h d) (gM NN)
def nJ(f:F1)(g:List D->Option D):Prop:=∀(ds:List D) (d:D) (Q:D->Prop),g ds=ae d->Q d->f ds Q
def BQ(h:nJ f g)(ρ:cN)(Q:D->Prop)(w:wE (cM g t) ρ Q):RW f (wA t) ρ Q:=by obtain⟨d,e,q⟩:=w;obtain⟨ds,a,e⟩:=bnd e;show⟨ds,a,h ds d Q e q⟩
theorem NO:nJ BN cB:=λds d Q e q=>by
 cases ds with
 |nil=>cases e
 |cons a ds =>
  cases a<;>first|(cases e;done)|skip
  all_goals (cases ds<;>first|(cases e;show q)|(cases e;done))
theorem EM:nJ G9 dO:=λds d Q e q=>by
 cases ds with
 |nil=>cases e
 |cons a ds =>
  cases a<;>first|(cases e;done)|skip
  all_goals (cases ds<;>first|(cases e;show q)|(cases e;done))
def fY(a:X.mg "len"=ag)(j:xP X [e] t)(d:Gl X "len"<|>0)(h:Zq X e []<|>0):bD X (.Call (.Name "len" p) [e] [] ν) (cM cB t):=cE (Se a j d h) (BQ NO)
def gE(a:X.mg "tuple"=ag)(j:xP X [e] t)(d:Gl X "tuple"<|>0)(h:Zq X e []<|>0):bD X (.Call (.Name "tuple" p) [e] [] ν) (cM dO t):=cE (aCP a uf j d h) (BQ EM)
theorem zD:∀ds:List D,L3.intsOf ds=L4.intsOf ds
 |[]=>rfl
 |d::ds=>by
  cases d<;>first|rfl|skip
  show(L3.intsOf ds).map _=(L4.intsOf ds).map _;rw[zD ds]
theorem nK(a:Int):∀l:Q0e,(insI a l).Perm (a::l)
 |[]=>.refl _
 |b::l=>by
  delta insI;split
  .exact .refl _
  .exact ((nK a l).cons b).trans (.swap a b l)
theorem lW:∀l:Q0e,(sortI l).Perm l
 |[]=>.refl _
 |a::l=>(nK a (sortI l)).trans ((lW l).cons a)
theorem pF(a:Int):∀l:Q0e,l.Pairwise (· <= ·)->(insI a l).Pairwise (· <= ·)
 |[],_=>by simp[insI]
 |b::l,h=>by
  delta insI;split
  .rename_i hab;show gc.mpr ⟨λc d=>?_,h⟩;rcases cg.mp d with e|e
   .subst e;show hab
   .exact Bt hab ((gc.mp h).1 c e)
  .rename_i hab;show gc.mpr ⟨λc d=>?_,pF a l (gc.mp h).2⟩;rcases cg.mp ((nK a l).mem_iff.mp d) with e|e
   .subst e;lia
   .exact (gc.mp h).1 c e
theorem jH:∀l:Q0e,(sortI l).Pairwise (· <= ·)
 |[]=>Bq
 |a::l=>pF a _ (jH l)
theorem nL:∀{l m:Q0e},l.Perm m->l.Pairwise (· <= ·)->m.Pairwise (· <= ·)->l=m
 |[],m,p,_,_=>by rw[p.nil_eq]
 |a::l,[],p,_,_=>by have:=p.length_eq;simp at this
 |a::l,b::m,p,h1,h2=>by
  have e:a=b:=by
   have m1:=p.mem_iff.mp (de (a:=a) (l:=l));have h:=p.mem_iff.mpr (de (a:=b) (l:=m));rcases cg.mp m1 with e|e
   .exact e
   .rcases cg.mp h with d|d
    .exact d.symm
    .have:=(gc.mp h2).1 a e;have:=(gc.mp h1).1 b d;lia
  subst e;rw[nL p.cons_inv (gc.mp h1).2 (gc.mp h2).2]
def BR:nJ R9 i5:=λds d Q e q=>by
 delta i5 at e;split at e
 .rename_i a;obtain⟨ns,e1,e⟩:=bnd e;by_cases j:⇑ns<64
  .rw [Z_ j] at e;cases e;show(match L3.intsOf a with|some ns=>⇑ns<64 /\∀h:Q0e,h.Perm ns->h.Pairwise (· <= ·)->Q (.lst (h.map D.int))|none=>False);rw[zD,e1];show⟨j,λh p s=>?_⟩;rw[nL (p.trans (lW ns).symm) s (jH ns)];show q
  .rw [Zz j] at e;cases e
 .cases e
def YY(a:X.mg "sorted"=ag)(j:xP X [e] t)(d:Gl X "sorted"<|>0)(h:Zq X e []<|>0):mJ X (.Call (.Name "sorted" p) [e] [] ν) (cM i5 t):=cF (YN a j d h) (BQ BR)
def NP:nJ sumF FR:=λds d Q e q=>by
 delta FR at e;split at e
 .rename_i a;obtain⟨ns,e1,rfl⟩:=rQ e;have:=ints_of e1;subst this;rw[NJ];show q
 .cases e
def Dj(j:X.calm=af)(a:X.mg "sum"=ag)(l:xP X [e] t)(d:Gl X "sum"<|>0)(h:Zq X e []<|>0):bD X (.Call (.Name "sum" p) [e] [] ν) (cM FR t):=cE (Nw j a l d h) (BQ NP)
def aCr(T:String)(d:D):FT T d=isT T d:=by cases d<;>rfl
theorem sM(I:BO T)(z:X.mg "isinstance"=ag)(l:X.mg x=ag)(o:bootBuiltins x=ae (.type T))(F:bD X e f)(A:Gl X "isinstance"<|>0)(m:Gl X x<|>0)(y:x ≠ "__name__"<|>1)(n:Zu x<|>1)
  (v:(ax [e,.Name x p2] X.env=(ah,eval e X.env)::ax [.Name x p2] X.env)<|>0) (h:(ax [.Name x p2] X.env=(ah,eval (.Name x p2) X.env)::ax [] X.env)<|>0) (j:(d_ ν (ax [.Name x p2] X.env)).any (·.1)=ah<|>0):
  bD X (.Call (.Name "isinstance" p) [e,.Name x p2] [] ν) (iW T f):=cE (Ob I z l o F A m y n v h j) λρ Q J=>by
 obtain⟨d,e,q⟩:=J;obtain⟨x,ex,e⟩:=bnd e;by_cases a:FU x=af
 .rw [Z_ a] at e;cases e;show⟨x,ex,(by cases x<;>first|trivial|cases a),by show Q (.bl (isT T x));rw[<- aCr];show q⟩
 .rw [Zz a] at e;cases e
def FP(K:aq)(R:kN):Sp:=sp3 K λds Q=>∃d,R ds=.ok d/\Q d
inductive Cl (P:bj) (w:bg) (K:aq) (mg:Q0d) (ω:bh) (CX:J9) (k:Nat) (x:ak) (ps:Q0g) (sp:Sp):Prop
 |mk {f:ai} {fd:gn} (F:jE P w K mg ω CX k f fd ps sp) (m:mg x=ae (.ref f)) (kp:keepIn K (.ref f)=af) (b:Binds K fd ps []):Cl P w K mg ω CX k x ps sp
theorem Cl.up{P:bj}{w:bg}{K:aq}{mg:Q0d}{ω:bh}{CX:J9}{j k:Nat}{x:ak}{a:Q0g}{sp:Sp}(c:Cl P w K mg ω CX j x a sp)(h:j<=k<|>1):Cl P w K mg ω CX k x a sp:=by obtain⟨F,m,q,b⟩:=c;show⟨F.mono h,m,q,b⟩
inductive Df (K:aq) (mg:Q0d) (x:ak) (st:dc) (ps:Q0g):Prop
 |mk {f:ai} {fd:gn} (a:a0M K ie x=ae (ae (.ref f))) (F:U7 K x x st f fd) (m:mg x=ae (.ref f)) (b:Binds K fd ps []):Df K mg x st ps
theorem aF1{K:aq}{mg:Q0d}{h:bh}{x:ak}{d:dc}{m:Q0g}{f:ai}{q:aj}{p o:Option ai}{n:Array (Option aj)}{kV doc pm j ct:aj}(X:K.In h)(G:h.Ns ie mg)
  (b:∀us:Q0f,⇑us=⇑m->bindArgs (fnOf x x (pC d) (cV d) (aJ d) .none kV doc pm o j ct) ⟨us,[]⟩=pure (m.zip us)) (a:a0M K ie x=ae (ae (.ref f)))
  (l:K.lookup f=ae ⟨q,p,.func (fnOf x x (pC d) (cV d) (aJ d) .none kV doc pm o j ct),n⟩) (c:codeIn K j x=af) (k:keepIn K (.ref f)=af):Df K mg x d m:=⟨a,aCG l c k,PySem.W.mg_of X G a,.all b⟩
def u1(r:dW k A):A.units+1<dq:=by have:=r.units;lia
def u2(r:dW k A):A.units+2<dq:=by have:=r.units;lia
def u9(r:dW k A):A.units+9<dq:=by have:=r.units;lia
theorem bJ(C:Cl X.Ω X.w X.K X.mg X.ω g7 k x ps (FP X.K R))(l:dW k X.A)
  (z:xP X (e::es) t) (o:Gl X x<|>0) (j:Zu x<|>1) (v:Zq X e es<|>0) (a:Q0k X ν es<|>0):
  bD X (.Call (.Name x p) (e::es) [] ν) (aO R t):=by
 obtain⟨F,m,n,y⟩:=C;show cE (Xe F l m n y z o j v a) λρ Q J=>?_;obtain⟨d,e,q⟩:=J;obtain⟨ds,I,e⟩:=bnd e;show⟨ds,I,d,?_,q⟩
 cases h:R ds with
 |ok d'=>rw[h] at e;cases e;rfl
 |no=>rw[h] at e;cases e
 |ex c=>rw[h] at e;cases e
def HK(y:X.calm=af)(o:X.mg "list"=ag)(l:X.mg "range"=ag)(z:xP X [a] t)(v:Gl X "list"<|>0)(m:Gl X "range"<|>0)(n:ax [a] X.env=[(ah,eval a X.env)]<|>0)
  (x:(ax [.Call (.Name "range" p2) [a] [] pos2] X.env=(ah,eval (.Call (.Name "range" p2) [a] [] pos2) X.env)::ax [] X.env)<|>0):
  mJ X (.Call (.Name "list" p) [.Call (.Name "range" p2) [a] [] pos2] [] ν) (FV t):=cF (HB y o l z v m n x) λρ Q F=>by
 obtain⟨d,e,q⟩:=F;obtain⟨ds,A,e⟩:=bnd e;show⟨ds,A,?_⟩;split at e
 .rename_i j;by_cases h:j.natAbs<=16777216
  .rw [Z_ h] at e;cases e;show⟨⟨∅,∅⟩,q⟩
  .rw [Zz h] at e;cases e
 .cases e
section
variable{tg:av}
def gP(h:bD X l f):VA X tg l (bP f):=cI (Wy h) λρ Q j=>by
 obtain⟨ds,e,q⟩:=j;obtain⟨d,a,e⟩:=bnd e;show⟨d,a,?_⟩;cases d<;>first|cases e;done|skip
 all_goals (cases e;show q)
def SS(h:aA fa aH ρ=ae as):∃a,fa ρ=ae a/\as=[a]:=by obtain⟨a,d,e⟩:=bnd h;cases e;show⟨a,d,rfl⟩
def eS(n:X.mg "range"=ag)(v:bD X a fa)(o:Gl X "range"<|>0)(m:ax [a] X.env=[(ah,eval a X.env)]<|>0):VA X tg (.Call (.Name "range" p) [a] [] ν) (bZ (aA fa aH)):=cI (aC3 n (aE v bG m) o m) λρ Q x=>by
 obtain⟨ds,e,q⟩:=x;obtain⟨as,l,e⟩:=bnd e;show⟨as,l,?_⟩;obtain⟨a,d,rfl⟩:=SS l
 clear l d
 cases a<;>first|cases e;done|skip
 rename_i j;by_cases h:j.natAbs<4611686018427387904
 .have e:(if j.natAbs<4611686018427387904 then ae ((aS 0 j.toNat).map D.int) else ag)=ae ds:=e;rw[Z_ h] at e;cases e;show⟨⟨∅,∅⟩,q⟩
 .have e:(if j.natAbs<4611686018427387904 then ae ((aS 0 j.toNat).map D.int) else ag)=ae ds:=e;rw[Zz h] at e;cases e
end
def wH(h:X.mg "enumerate"=ag)(l:xP X [a] t)(j:Gl X "enumerate"<|>0)(d:ax [a] X.env=[(ah,eval a X.env)]<|>0):VA X (.Tuple es kk tp) (.Call (.Name "enumerate" p) [a] [] ν) (nQ t):=cI (HG h l j d) λρ Q n=>by obtain⟨ds,e,q⟩:=n;obtain⟨as,m,e⟩:=bnd e;show⟨as,m,?_⟩;delta ID at e;split at e<;>first|(cases e;show q)|cases e
theorem wJ:∀(ds a ys:List D) (Q:D->Prop),iD g t e ρ ds=ae ys->⇑a+⇑ds<=bq->Q (.lst (a++ys))->pE (xh g) (wT t) (wE e) ρ ds a Q
 |[],a,ys,Q,h,_,q=>by cases h;rw[pE];simpa using q
 |d::ds,a,ys,Q,h,hl,q=>by
  rw[pE];obtain⟨ρ1,e1,h⟩:=bnd h;obtain⟨b,m,h⟩:=bnd h;erw[fj] at hl;show⟨ρ1,e1,b,m,?_⟩
  cases b with
  |true =>
   rw[Z_ rfl] at h ⊢;obtain⟨y,l,h⟩:=bnd h;obtain⟨zs,j,rfl⟩:=rQ h;show⟨y,l,∅,wJ ds (a++[y]) zs Q j (by simp;lia) ↑q⟩
  |false =>
   rw[Zz cf] at h ⊢;show wJ ds a ys Q h ∅ q
def SU(ρ:cN)(Q:D->Prop)(w:wE (bO nl fr it g t e) ρ Q):KY nl fr (wI it) (xh g) (wT t) (wE e) ρ Q:=by
 obtain⟨d,h,q⟩:=w;obtain⟨ds,e1,h⟩:=bnd h;show⟨ds,e1,?_⟩;by_cases a:⇑ds<=jJ
 .rw [Z_ a] at h;obtain⟨ys,j,rfl⟩:=rQ h;show wJ ds [] ys Q j (by rw[fw,nc,pd];show a) ↑q
 .rw [Zz a] at h;cases h
abbrev SV(X:Cx)(nl:Nat)(a:av)(g:VF):Prop:=PG4 X nl a (xh g)
abbrev YZ(X:Cx)(ifs:List av)(t:TF):Prop:=R7 X ifs (wT t)
def cG(h:PG4 X nl tg g)(c:∀d ρ Q,g' d ρ Q->g d ρ Q):PG4 X nl tg g':=NA h λ_ _ _ _ n=>by obtain⟨S,ρ,d,Q3,j,m,a,dn,l,k⟩:=n;show⟨S,ρ,d,Q3,j,m,a,dn,c d ρ Q3 l,k⟩
def BS(nd:X.N.Nodup)(a:i<nl)(m:X.N[i]?=ae x<|>0)(l:Loc X.env.scope x<|>2)(h:Zp X x<|>6):SV X nl (.Name x ν) (g1 i):=cG (Wm nd a m l h) λd ρ Q n=>by obtain⟨j,e,q⟩:=n;cases e;show q
theorem K0(h:xW d=ae p):d=.tup [p.1,p.2]:=by
 cases d<;>first|(cases h;done)|skip
 rename_i l
 cases l with
 |nil=>cases h
 |cons a l =>
  cases l with
  |nil=>cases h
  |cons b l =>
   cases l with
   |nil=>cases h;rfl
   |cons c l=>cases h
def SW(L:X.calm=af)(nd:X.N.Nodup)(n:i<nl)(m:j<nl)(K:X.N[i]?=ae x<|>0)(J:X.N[j]?=ae y<|>0)(F:Loc X.env.scope x<|>2)(v:Zp X x<|>6)(A:Loc X.env.scope y<|>2)(o:Zp X y<|>6)
  (I:Q0i X x y px py<|>0) (a:Q0h X x y px py<|>0)
  (l:H0 X x y px py<|>0) (h:gV X y py<|>0):
  SV X nl (.Tuple [.Name x px,.Name y py] kk ν) (g2 i j):=cG (Wl L nd n m K J F v A o I a l h) λd ρ Q U=>by
 obtain⟨z,e,q⟩:=U;obtain⟨p,O,rfl⟩:=rQ e;rw[K0 O];show q
def K1:YZ X [] bV:=λπ s σ H Q I h=>by obtain⟨S,ρ,Q3,d,a,⟨_,e,q⟩,k⟩:=h;cases e;show Oh π s σ H Q I ⟨S,ρ,Q3,d,a,q,k⟩
def SX(h:wW X c t):YZ X [c] t:=Wj h
section
variable{ls fs:Q0g}{fr:List Nat}{sc:gd}{tg iter elt:av}{ifs:List av}{ν:br}{it:AF}{g:VF}{t:TF}{e:EF}
theorem SY(n:X.calm=af)(h:VA X tg iter it)
  (j:∀a C pn ex s H,(blk X (ls++fs) sc a C pn ex s H).N.Nodup->SV (blk X (ls++fs) sc a C pn ex s H) ⇑ls tg g) (l:∀a C pn ex s H,YZ (blk X (ls++fs) sc a C pn ex s H) ifs t) (m:∀a C pn ex s H,bD (blk X (ls++fs) sc a C pn ex s H) elt e)
  (B:U9 X.env.scope.names sc X.N ls fs fr=af<|>0) (d:Zn X iter<|>4):mJ X (.ListComp elt [⟨tg,iter,ifs,0⟩] sc ν) (bO ⇑ls fr it g t e):=cF (Wi n h j l m B d) SU
variable{i:Nat}{x:ak}{spos pos':br}
theorem qV(nd:X.N.Nodup)(y:X.calm=af)(o:VA X tg iter it)
  (p:∀a C pn ex s H,(blk X (ls++fs) sc a C pn ex s H).N.Nodup->SV (blk X (ls++fs) sc a C pn ex s H) ⇑ls tg g) (q:∀a C pn ex s H,YZ (blk X (ls++fs) sc a C pn ex s H) ifs t) (v:∀a C pn ex s H,bD (blk X (ls++fs) sc a C pn ex s H) elt e)
  (j:X.N[i]?=ae x<|>0) (m:X.env.scope.names.lookup x=ae .local<|>0) (l:gq (.ListComp elt [⟨tg,iter,ifs,0⟩] sc ν) (ae (.Name x pos')) spos.line X.env=pure af<|>0)
  (B:U9 X.env.scope.names sc X.N ls fs fr=af<|>0) (n:Zn X iter<|>4):rP X (.Assign [.Name x pos'] (.ListComp elt [⟨tg,iter,ifs,0⟩] sc ν) spos) (bF i (bO ⇑ls fr it g t e)) :=
 cS (NC nd y o p q v j m l B n) λE ρ w=>by
  delta wS bF at w;delta yo
  cases h:bO ⇑ls fr it g t e (fZ ρ) with
  |none=>rw[h] at w;show w.elim
  |some d=>rw[h] at w;show SU _ _ ⟨d,h,w⟩
end
end
section
def cO(h:PO3 X e t)(c:∀ρ Q,t' ρ Q->t ρ Q):PO3 X e t':=λπ s σ H Q I l=>by obtain⟨S,ρ,Q3,j,a,d,k⟩:=l;show h π s σ H Q I ⟨S,ρ,Q3,j,a,c ρ Q3 d,k⟩
def no4:PO4 X ag LO:=cO Nv λ_ _ a=>by obtain⟨_,e,q⟩:=a;cases e;show q
def po4(h:bD X e f):PO4 X (ae e) (oE f):=cO (po3 h) λρ Q l=>by
 obtain⟨o,e,q⟩:=l;obtain⟨d,j,e⟩:=bnd e;obtain⟨i,a,rfl⟩:=rQ e;show⟨d,j,?_⟩;cases d<;>first|cases a;done|skip
 cases a;show q
def sl4{e:av}{lo a:Option av}{p2 n:br}{f:EF}{j m:OF}(v:bD X e f)(o:PO4 X lo j)(p:PO4 X a m):bD X (.Subscript e (.Slice lo a ag p2) n) (IE f j m):=cE (sl3 v o p) λρ Q A=>by
 obtain⟨r,e,q⟩:=A;obtain⟨d,z,e⟩:=bnd e;obtain⟨l,x,e⟩:=bnd e;obtain⟨h,y,e⟩:=bnd e;show⟨d,z,l,x,h,y,?_⟩;cases d<;>first|cases e;done|skip
 all_goals (cases e;show q)
def px4(h:bD X e f):NK X e (OO f):=cX (px3 h) λρ Q l=>by
 obtain⟨p,e,q⟩:=l;obtain⟨d,j,e⟩:=bnd e;show⟨d,j,?_⟩;by_cases a:d.B8=af
 .rw [Z_ a] at e;cases e;show⟨a,q⟩
 .rw [Zz a] at e;cases e
def pG(h:bD X e f):NK X e (aZ f):=cX (Qd h) λρ Q j=>by obtain⟨p,e,q⟩:=j;obtain⟨d,a,e⟩:=bnd e;cases e;show⟨d,a,q⟩
def HL(h:k7 o=ae ds):o=ae (.ow (.lst ds)):=by
 delta k7 at h;split at h
 .cases h;rfl
 .cases h
def BU(f:List D->D->(List D->D->Prop)->Prop)(m:List D->D->Option (List D×D)):Prop:=∀ds d q (Q:List D->D->Prop),m ds d=ae q->Q q.1 q.2->f ds d Q
def x_(h:BU f m)(ρ:bB)(Q:bB->D->Prop)(w:wX (mP i m x) ρ Q):qh i f (wX x) ρ Q:=by obtain⟨r,e,q⟩:=w;obtain⟨ds0,e0,e⟩:=bnd e;obtain⟨p,l,e⟩:=bnd e;obtain⟨ds,e1,e⟩:=bnd e;obtain⟨z,j,rfl⟩:=rQ e;have d:=HL e0;have o1:=HL e1;show⟨by rw[d];trivial,p,l,?_⟩;show(match p.1[i]? with|some (.ow (.lst ds))=>f ds p.2 λa r=>Q (p.1.set i (.ow (.lst a))) r|_=>False);rw[o1];show h ds p.2 z _ j q
def NQ:BU ym gW:=λds d q Q e k=>by
 delta gW at e;by_cases h:⇑ds<jJ
 .rw [Z_ h] at e;cases e;show⟨by rw[fw];show h,k⟩
 .rw [Zz h] at e;cases e
def NR:BU yl VG:=λds d q Q e k=>by
 cases d<;>first|cases e;done|skip
 rename_i i;have e:(if i.natAbs<9223372036854775808 then(OM ⇑ds i).bind λj=>(ds[j]?).map λd=>(ds.eraseIdx j,d) else ag)=ae q:=e;by_cases h:i.natAbs<9223372036854775808
 .rw [Z_ h] at e;obtain⟨j,a,e⟩:=bnd e;obtain⟨d,l,rfl⟩:=rQ e;have a:MU ⇑ds i=ae j:=a;show⟨⟨∅,∅⟩,?_⟩;show(match MU ⇑ds i with|some j=>(match ds[j]? with|some d=>Q (ds.eraseIdx j) d|none=>False)|none=>False);rw[a];dsimp only;rw[l];show k
 .rw [Zz h] at e;cases e
def NS:BU yh LQ:=λds d q Q e k=>by
 cases d<;>first|cases e;done|skip
 rename_i es;have e:(if ⇑ds+⇑es<=jJ then ae (ds++es,D.non) else ag)=ae q:=e;by_cases h:⇑ds+⇑es<=jJ
 .rw [Z_ h] at e;cases e;show⟨by rw[fw];show h,k⟩
 .rw [Zz h] at e;cases e
section
variable{i:Nat}{x:ak}{e:av}{p apos cpos:br}{f:XF}
def BV(n:NK X e f)(hN:X.N[i]?=ae x<|>0)(l:xF X.env.scope x<|>3)(o:Zu x<|>1)(j:Zt x<|>1)
  (d:attributeBase (.Name x p) "append" X.env (eval (.Name x p) X.env)=eval (.Name x p) X.env<|>0)
  (h:Zo X cpos e<|>0)
  (a:Q0j apos cpos<|>0) (m:Zq X e []<|>0):
  NK X (.Call (.Attribute (.Name x p) "append" apos) [e] [] cpos) (mP i gW f):=cX (P_ n hN l o j d h a m) (x_ NQ)
def Mu(n:NK X e f)(hN:X.N[i]?=ae x<|>0)(l:xF X.env.scope x<|>3)(o:Zu x<|>1)(j:Zt x<|>1)
  (d:attributeBase (.Name x p) "pop" X.env (eval (.Name x p) X.env)=eval (.Name x p) X.env<|>0)
  (h:Zo X cpos e<|>0)
  (a:Q0j apos cpos<|>0) (m:Zq X e []<|>0):
  NK X (.Call (.Attribute (.Name x p) "pop" apos) [e] [] cpos) (mP i VG f):=cX (Pz n hN l o j d h a m) (x_ NR)
def Y0(n:NK X e f)(hN:X.N[i]?=ae x<|>0)(l:xF X.env.scope x<|>3)(o:Zu x<|>1)(j:Zt x<|>1)
  (d:attributeBase (.Name x p) "extend" X.env (eval (.Name x p) X.env)=eval (.Name x p) X.env<|>0)
  (h:Zo X cpos e<|>0)
  (a:Q0j apos cpos<|>0) (m:Zq X e []<|>0):
  NK X (.Call (.Attribute (.Name x p) "extend" apos) [e] [] cpos) (mP i LQ f):=cX (YO n hN l o j d h a m) (x_ NS)
end
def g8:nI X [] eG:=Co Sa λ_ _ w=>w
theorem Wv(E:DE)(ρ:bB)(w:wS (aL f g) E ρ):yp (wS f) (wS g) E ρ:=by
 delta wS aL at w;delta yp wS
 cases h:f ρ with
 |nx ρ'=>rw[h] at w;show w
 |rt d=>rw[h] at w;show w
 |no=>rw[h] at w;show w
 |ex c=>rw[h] at w;show w
def a8{d:dc}{a:List dc}{f g:SF}(h:rP X d f)(h2:nI X a g):nI X (d::a) (aL f g):=Co (Rz h h2) Wv
def aR{a:dc}{f:SF}(d:rP X a f):nI X [a] f:=Xc d
def aCt{a:dc}:rP X a (λ_=>.no):=λπ s σ H D I h=>by obtain⟨_,_,_,_,_,_,_,_,d,_⟩:=h;show d.elim
theorem dG(h:bD X e f):rP X (.Return (ae e) ν) (b8 f):=cS (Ru h) λE ρ w=>by
 delta wS b8 at w
 cases h:f (bH ρ) with
 |none=>rw[h] at w;show w.elim
 |some d=>rw[h] at w;show⟨d,h,w⟩
theorem g9(d:wW X c t)(l:nI X a f)(j:nI X b g):rP X (.If c a b ν) (iX t f g):=cS (Qn d l j) λE ρ w=>by
 delta wS iX at w
 cases h:t (bH ρ) with
 |none=>rw[h] at w;show w.elim
 |some c =>
  rw[h] at w;show⟨c,h,?_⟩
  cases c with
  |true=>rw[Z_ rfl];show w
  |false=>rw[Zz cf];show w
section
variable{i:Nat}{x:ak}{e:av}{f:EF}{ν pos':br}
theorem dZ(hN:X.N.Nodup)(n:bD X e f)(l:X.N[i]?=ae x<|>0)(a:Loc X.env.scope x<|>2)(j:Si X e x pos' ν<|>0)(m:Zp X x<|>2):
  rP X (.Assign [.Name x pos'] e ν) (bF i f):=cS (Qk hN n l a j m) λE ρ w=>by
 delta wS bF at w
 cases h:f (fZ ρ) with
 |none=>rw[h] at w;show w.elim
 |some d=>rw[h] at w;show⟨d,h,w⟩
theorem wK(hN:X.N.Nodup)(n:mJ X e f)(l:X.N[i]?=ae x<|>0)(a:Loc X.env.scope x<|>2)(j:Si X e x pos' ν<|>0)(m:Zp X x<|>2):
  rP X (.Assign [.Name x pos'] e ν) (jK i f):=cS (Qi hN n l a j m) λE ρ w=>by
 delta wS jK at w
 cases h:f (fZ ρ) with
 |none=>rw[h] at w;show w.elim
 |some d=>rw[h] at w;show⟨d,h,w⟩
theorem Wu(hN:X.N.Nodup)(o:mJ X e f)(m:X.N[i]?=ae x<|>0)(j:Loc X.env.scope x<|>2)(l:Si X e x pos' ν<|>0)(n:Zp X x<|>2):
  rP X (.Assign [.Name x pos'] e ν) (t7 i f):=cS (Wd hN o m j l n) λE ρ w=>by
 delta wS t7 at w
 cases h:f (bH ρ) with
 |none=>rw[h] at w;show w.elim
 |some d =>
  rw[h] at w;dsimp only at w;by_cases a:t6 d=af
  .rw [Z_ a] at w;show⟨d,h,?_,w⟩;cases d<;>first|show a|cases a
  .rw [Zz a] at w;show w.elim
def S3(hN:X.N.Nodup)(h:X.N[i]?=ae x<|>0)(a:Loc X.env.scope x<|>2)(d:gq (.Dict [] [] p) (ae (.Name x pos')) ν.line X.env=pure ah<|>0)(j:Zp X x<|>2):
  rP X (.Assign [.Name x pos'] (.Dict [] [] p) ν) (CH i):=cS (SA hN h a d j) λE ρ w=>w
end
theorem mS(j:NK X e f)(a:gq e ag ν.line X.env=pure ah<|>0):rP X (.Expr e ν) (sX f):=cS (W_ j a) λE ρ w=>by
 delta wS sX at w
 cases h:f ρ with
 |none=>rw[h] at w;show w.elim
 |some d=>rw[h] at w;show⟨d,h,w⟩
theorem Ln(A:NK X e f)(z:bD X k fk)
  (hN:X.N[i]?=ae x<|>0) (n:xF X.env.scope x<|>3) (F:Zu x<|>1) (d:Zt x<|>1)
  (I:∀v,assign (.Subscript (.Name x p) k pos') X.env v=(do
   let ov <- holding [v] (eval (.Name x p) X.env)
   let iv <- holding [v,ov] (eval k X.env)
   standAt pos'
   holding [v,ov,iv] (setItem ov iv v)
   release [v,ov,iv] []):=by intro _;rfl)
  (y:swapsWithSole [.Subscript (.Name x p) k pos'] e ν.line X.env=pure ah<|>0) (hw:swappedStores [.Subscript (.Name x p) k pos'] e X.env=pure ag<|>0)
  (J:(fz [.Subscript (.Name x p) k pos'] X.env).map (·.2)=[assign (.Subscript (.Name x p) k pos') X.env]<|>0):
  rP X (.Assign [.Subscript (.Name x p) k pos'] e ν) (LR i f fk):=cS (put3 A z hN n F d I y hw J) λE ρ w=>by
 delta wS LR at w
 cases h:((f ρ).bind λp=>(k7 p.1[i]?).bind λds=>(fk (bH p.1)).bind λkd=>(asInt kd).bind λa=>(OM ⇑ds a).map λj=>p.1.set i (.ow (.lst (ds.set j p.2)))) with
 |none=>rw[h] at w;show w.elim
 |some ρ' =>
  rw[h] at w;obtain⟨q,K,h⟩:=bnd h;obtain⟨ds,O,h⟩:=bnd h;obtain⟨kd,L,h⟩:=bnd h;obtain⟨a,m,h⟩:=bnd h;obtain⟨j,l,rfl⟩:=rQ h;have o:=HL O;show⟨q,K,by delta yj;rw[o];trivial,kd,L,?_⟩;cases kd<;>first|cases m;done|skip
  cases m;have l:MU ⇑ds a=ae j:=l
  show(match q.1[i]?,D.int a with
   |some (.ow (.lst ds)),.int k=>(match MU ⇑ds k with|some j=>E.nx (q.1.set i (.ow (.lst (ds.set j q.2))))|none=>False)
   |_,_=>False)
  rw[o];dsimp only;rw[l];show w
def NT(h:t8 o=ae p):o=ae (.ow (.iV p.1 p.2)):=by
 delta t8 at h;split at h
 .cases h;rfl
 .cases h
theorem Wt(y:X.A.units+1<dq)(I:NK X e f)(F:bD X k fk)
  (hN:X.N[i]?=ae x<|>0) (v:xF X.env.scope x<|>3) (J:Zu x<|>1) (m:Zt x<|>1)
  (z:gq e (ae (.Subscript (.Name x p) k pos')) ν.line X.env=pure ah<|>0):
  rP X (.Assign [.Subscript (.Name x p) k pos'] e ν) (IF i f fk):=cS (Wf y I F hN v J m z) λE ρ w=>by
 delta wS IF at w;cases h:((f ρ).bind λp=>(t8 p.1[i]?).bind λkd=>(fk (bH p.1)).bind λa=>(tY a).bind λj =>
  if(iZ kd.1 kd.2 j).isNone=af/\⇑kd.2<jJ then ae (p.1.set i (.ow (.iV (kd.1++[j]) (kd.2++[p.2])))) else ag) with
 |none=>rw[h] at w;show w.elim
 |some ρ' =>
  rw[h] at w;obtain⟨q,K,h⟩:=bnd h;obtain⟨kd,O,h⟩:=bnd h;obtain⟨a,L,h⟩:=bnd h;obtain⟨j,n,h⟩:=bnd h;have o:=NT O;by_cases l:(iZ kd.1 kd.2 j).isNone=af/\⇑kd.2<jJ
  .rw [Z_ l] at h;cases h;show⟨q,K,by rw[o];trivial,a,L,?_⟩;have U:EH a=ae j:=by cases a<;>first|show n|cases n
   show(match q.1[i]?,EH a with
    |some (.ow (.iV ks ds)),ae k=>(i9 ks ds k=ag/\⇑ds<bq)/\E.nx (q.1.set i (.ow (.iV (ks++[k]) (ds++[q.2]))))
    |_,_=>False)
   rw[o,U];show⟨⟨?_,by rw[fw];show l.2⟩,w⟩;have:=l.1
   cases hl:iZ kd.1 kd.2 j with
   |none=>show hl
   |some d=>rw[hl] at this;cases this
  .rw [Zz l] at h;cases h
def Cp(h:PG3 X tg g)(c:∀d ρ Q,g' d ρ Q->g d ρ Q):PG3 X tg g':=NA h λ_ _ _ _ m=>by obtain⟨H₀,S,w,ρ,G,d,Q3,j,a,dn,l,k⟩:=m;show⟨H₀,S,w,ρ,G,d,Q3,j,a,dn,c d ρ Q3 l,k⟩
def lX(hN:X.N.Nodup)(j:X.N[i]?=ae x<|>0)(h:Loc X.env.scope x<|>2)(l:Zp X x<|>2):PG3 X (.Name x ν) (wG (t9 i)) :=
 Cp (Wx hN j h l) λd ρ Q m=>by obtain⟨a,e,q⟩:=m;cases e;show q
def Fi(J:X.calm=af)(hN:X.N.Nodup)(F:X.N[i]?=ae x<|>0)(A:X.N[j]?=ae y<|>0)(v:Loc X.env.scope x<|>2)(o:Loc X.env.scope y<|>2)
  (I:Zp X x<|>2) (m:Zp X y<|>2)
  (z:Q0i X x y px py<|>0) (a:Q0h X x y px py<|>0)
  (l:H0 X x y px py<|>0) (h:gV X y py<|>0):
  PG3 X (.Tuple [.Name x px,.Name y py] k ν) (wG (VH i j)):=Cp (Ww J hN F A v o I m z a l h) λd ρ Q L=>by
 obtain⟨n,e,q⟩:=L;obtain⟨p,K,rfl⟩:=rQ e;rw[K0 K];show q
theorem qW(v:X.calm=af)(q:tj (au X.Ω X.w) X.A X.env X.xe)(n:VA X tg iter it)(m:PG3 X tg (wG g))(l:nI X body b)
  (p:Zn X iter<|>4):rP X (.For tg iter body [] ν) (fC it g b):=cS (Pm v q n m l p) λE ρ w=>by
 delta wS fC at w
 cases h:it (fZ ρ) with
 |none=>rw[h] at w;show w.elim
 |some ds =>
  rw[h] at w;show⟨ds,h,λi j=>wS (gU g b (ds.drop i)) E j,(by show wS (gU g b (ds.drop 0)) E ρ;rw[p_];show w),λi d j o a=>?_,λj a=>?_⟩
  .have n:i<⇑ds:=(df.mp o).1;have e1:ds[i]=d:=(df.mp o).2;have a:wS (gU g b (ds.drop i)) E j:=a;rw[mn n,e1] at a;delta wS gU at a
   cases m:g d j with
   |none=>rw[m] at a;show a.elim
   |some ρ1 =>
    rw[m] at a;dsimp only at a;show⟨ρ1,m,?_⟩;delta wS
    cases l:b ρ1 with
    |nx ρ2=>rw[l] at a;dsimp only;rw[l];show a
    |rt d=>rw[l] at a;dsimp only;rw[l];show a
    |no=>rw[l] at a;dsimp only;rw[l];show a
    |ex c=>rw[l] at a;dsimp only;rw[l];show a
  .have a:wS (gU g b (ds.drop ⇑ds)) E j:=a;rw[a2z] at a;show a
theorem S4(I:tj (au X.Ω X.w) X.A X.env X.xe)(L:wW X c t)(l:nI X body b):rP X (.While c body [] ν) (uA n t b):=cS (aCc I L l) λE ρ w=>by
 have least:∀{p:Nat->Prop},(∃n,p n) ->∃n,p n /\∀m,p m->n<=m:=λ{p} ⟨n,J⟩=>by
  induction n using a1V with
  |ind n ih =>
   by_cases h:∃m,m<n/\p m
   .obtain ⟨m,o,pm⟩:=h;show ih m o pm
   .exact ⟨n,J,λm pm=>by apply oj;intro z;show h ⟨m,∅,pm⟩⟩
 show⟨λa=>∃m,wS (dP t b m) E a,λa=>(a2O λm=>wS (dP t b m) E a /\∀k,wS (dP t b k) E a->m<=k),⟨n,w⟩,λa F=>?_⟩;obtain⟨x,q⟩:=least F;have o:=a2N (p:=λm=>wS (dP t b m) E a /\∀k,wS (dP t b k) E a->m<=k) ⟨x,q⟩;dsimp only;generalize (a2O λm=>wS (dP t b m) E a /\∀k,wS (dP t b k) E a->m<=k)=m at o ⊢
 cases m with
 |zero=>show o.1.elim
 |succ m =>
  have j:=o.1;delta wS dP at j
  cases ht:t (bH a) with
  |none=>rw[ht] at j;show j.elim
  |some c =>
   rw[ht] at j;show⟨c,ht,?_⟩
   cases c with
   |false=>rw[Zz cf];show j
   |true =>
    rw[Z_ rfl];dsimp only at j;delta wS
    cases l:b a with
    |nx ρ2 =>
     rw[l] at j;have h2:wS (dP t b m) E ρ2:=j;show⟨⟨m,h2⟩,?_⟩;obtain⟨y,v⟩:=least (p:=λm=>wS (dP t b m) E ρ2) ⟨m,h2⟩;have K:=a2N (p:=λm=>wS (dP t b m) E ρ2 /\∀k,wS (dP t b k) E ρ2->m<=k) ⟨y,v⟩;show Nat.lt_succ_of_le (K.2 m h2)
    |rt d=>rw[l] at j;show j
    |no=>rw[l] at j;show j
    |ex c=>rw[l] at j;show j
end
theorem Di{P:bj}{w:bg}{K:aq}{mg:Q0d}{ω:bh}{x qual:ak}{l:dc}{f:ai}{fd:gn}{N m:Q0g}{k n o:Nat}{b:SF}(F:U7 K x qual l f fd)(S:dN N m (aJ l))(y:⇑N=n)(v:⇑m=o)
  (j:∀(a:aj) (A:bx) (Γ:List fu) (s:ao) (H:Hp) (E:XK),dW k (A.deeper (envOfC qual (aJ l) ↥s f a)) ->
   nI (kQ g7 P w K mg ω N qual (aJ l) f a A Γ s H E).DO (cV l) b):jE P w K mg ω g7 (k+1) f fd m (FP K (c7 n o b)):=by
 subst y v;show Qg F S (λds Q ⟨d,e,q⟩=>?_) λa A Γ s H E p=>⟨_,j a A Γ s H E p,λds Q ⟨d,e,q⟩=>?_⟩
 .delta c7 at e;by_cases h:⇑ds=⇑m
  .exact h
  .rw [Zz h] at e;cases e
 .delta c7 at e;by_cases h:⇑ds=⇑m
  .rw [Z_ h] at e;have z:jF N ds=eD ⇑N ds:=rfl;delta wS;rw[z]
   cases hb:b (eD ⇑N ds) with
   |rt d'=>rw[hb] at e;cases e;show q
   |nx ρ=>rw[hb] at e;cases e;show q
   |no=>rw[hb] at e;cases e
   |ex c=>rw[hb] at e;cases e
  .rw [Zz h] at e;cases e
theorem fd4{P:bj}{w:bg}{K:aq}{mg:Q0d}{ω:bh}{x:ak}{a:dc}{N j:Q0g}{k n l:Nat}{b:SF}(D:Df K mg x a j)
  (h:∀{f:ai} {d:aj} {A:bx} {Γ:List fu} {s:ao} {H:Hp} {E:XK},dW k (A.deeper (envOfC x (aJ a) ↥s f d))->N.Nodup->nI (kQ g7 P w K mg ω N x (aJ a) f d A Γ s H E).DO (cV a) b)
  (S:dN N j (aJ a)<|>7) (v:⇑N=n<|>0) (p:⇑j=l<|>0):Cl P w K mg ω g7 (k+1) x j (FP K (c7 n l b)):=by
 obtain⟨_,F,m,q⟩:=D;show⟨Di F S v p λ_ _ _ _ _ _ o=>h o S.nd,m,F.kp,q⟩
def Wo{P:bj}{w:bg}{K:aq}{mg:Q0d}{ω:bh}{k:Nat}{f:ai}{fd:gn}{a:Q0g}:jE P w K mg ω g7 k f fd a (FP K λ_=>.no) :=
 ⟨λ_ _ _ _ h=>(by obtain⟨_,_,_,_,_,⟨_,e,_⟩,_⟩:=h;cases e),λ_ _ _ _ _ _ _ _ _ _ _ _ _ h=>(by obtain⟨_,_,_,_,_,⟨_,e,_⟩,_⟩:=h;cases e)⟩
def nn4{P:bj}{w:bg}{K:aq}{mg:Q0d}{ω:bh}{k:Nat}{x:ak}{d:dc}{a:Q0g}(D:Df K mg x d a):Cl P w K mg ω g7 k x a (FP K λ_=>.no):=by obtain⟨_,F,m,q⟩:=D;show⟨Wo,m,F.kp,q⟩
section
variable{π:Q0b}{σ:L2.St}{H:Hp}
theorem rS(I:Φ X π σ H s)(h:Ψ x v)(e:x=.bl k\/(∃p xs,x=.ref p/\(dM X.K H p xs\/eV X.K H p xs)/\k=!xs.isEmpty))
  (q:∀l,Q k {s with toks:=l}):az (au X.Ω X.w) A (truthy v) Q E s:=by
 have n:bq=16777216:=fw;rcases e with rfl|⟨p,xs,rfl,a,rfl⟩
 .cases h;show lj (q s.toks)
 .cases h;rcases a with a|a
  .obtain ⟨j,r,d,m⟩:=I.list a;have hlen:=⇑r;show a0c d.isList (by erw[cz];lia) (by rw[kG r];show q _)
  .obtain ⟨j,r,d,m⟩:=I.tuple a;have hlen:=⇑r;show a1z d (by erw[cz];lia) (by rw[kG r];show q _)
def TrV(K:aq)(H:Hp)(x:V)(k:Bool):Prop:=x=.bl k\/(∃p xs,x=.ref p/\(dM K H p xs\/eV K H p xs)/\k=!xs.isEmpty)
def zE(h:j<n):(cx n).drop j=j::(cx n).drop (j+1):=by
 have a:j<⇑(cx n):=by rw[jh];show h
 rw[mn a,List.getElem_range]
section
variable{it:ai}{fp wr:List ai}{n:Nat}{P:Nat->aj->Prop}{St:Nat->bh->Prop}{R:Ai->ao->Prop}{tr:Nat->Bool}
theorem zF(W:Walks X.Ω X.w X.A.in1 it fp wr n P St)(o:∀b∈wr,mM X π H b)(p:∀j v,P j v ->∃x,Ψ x v/\TrV X.K H x (tr j)):
  ∀(m j:Nat) (a:ao),m+j=n->Φ X π σ H a->St j a.heap->(∀d,Φ X π σ H d->R (.ok (.ret (.bool (((cx n).drop j).any tr)))) d)->mr (au X.Ω X.w) X.A (.builtin "any.loop" ⟨[.ref it],[]⟩) R a
 |0,j,a,hj,I,hS,k=>by
  obtain rfl:j=n:=∅
  show lp (a1j) ?_;rw[l_ Aq];show ar (W.done a _ _ hS λh2 t2 l=>ar (iw (a_ ?_)));have:=k _ (EI (t':=t2) I l o)
  rwa [vb (by simp)] at this
 |m+1,j,a,hj,I,hS,k=>by
  have h:j<n:=∅
  show lp (a1j) ?_;rw[l_ Aq];show ar (W.item j a _ _ h hS λv h2 t2 J z l=>?_);have y:Φ X π σ H {a with heap:=h2,toks:=t2}:=EI (t':=t2) I l o;obtain⟨x,F,L⟩:=p j v J;rw[zE h,kz] at k;show ar (ik (rS y F L λt3=>ar (qm ?_)));have q:Φ X π σ H {a with heap:=h2,toks:=t3}:=y.tok t3
  cases hb:tr j with
  |false =>
   rw[hb,a2Q] at k;rw[Zz cf];show a_ ⟨ll Aq _,zF W o p m (j+1) _ ∅ q z k⟩
  |true =>
   rw[hb,a2P] at k;rw[Z_ rfl];show ar (iw (a_ (k _ q)))
theorem zG(W:Walks X.Ω X.w X.A.in1 it fp wr n P St)(o:∀b∈wr,mM X π H b)(p:∀j v,P j v ->∃x,Ψ x v/\TrV X.K H x (tr j)):
  ∀(m j:Nat) (a:ao),m+j=n->Φ X π σ H a->St j a.heap->(∀d,Φ X π σ H d->R (.ok (.ret (.bool (((cx n).drop j).all tr)))) d)->mr (au X.Ω X.w) X.A (.builtin "all.loop" ⟨[.ref it],[]⟩) R a
 |0,j,a,hj,I,hS,k=>by
  obtain rfl:j=n:=∅
  show lp (a1k) ?_;rw[l_ Ar];show ar (W.done a _ _ hS λh2 t2 l=>ar (iw (a_ ?_)));have:=k _ (EI (t':=t2) I l o)
  rwa [vb (by simp)] at this
 |m+1,j,a,hj,I,hS,k=>by
  have h:j<n:=∅
  show lp (a1k) ?_;rw[l_ Ar];show ar (W.item j a _ _ h hS λv h2 t2 J z l=>?_);have y:Φ X π σ H {a with heap:=h2,toks:=t2}:=EI (t':=t2) I l o;obtain⟨x,F,L⟩:=p j v J;rw[zE h,vc] at k;show ar (ik (rS y F L λt3=>ar (qm ?_)));have q:Φ X π σ H {a with heap:=h2,toks:=t3}:=y.tok t3
  cases hb:tr j with
  |true =>
   rw[hb,qf] at k;rw[Z_ rfl];show a_ ⟨ll Ar _,zG W o p m (j+1) _ ∅ q z k⟩
  |false =>
   rw[hb,r9] at k;rw[Zz cf];show ar (iw (a_ (k _ q)))
end
def xx(f:List Bool->Bool)(K:aq):List V->Hp->VK->Prop:=λxs H Q=>∃a ys bs,xs=[.ref a]/\H a=ae (.lst ys)/\⇑bs=⇑ys/\(∀(j:Nat) (y:V) (b:Bool),ys[j]?=ae y->bs[j]?=ae b->TrV K H y b)/\Q (.bl (f bs)) H
def NU(hc:X.calm=af):eX X (.builtin "any") (xx (λbs=>bs.any id) X.K):=by
 intro π s σ H xs us Q I r h;obtain⟨a,ys,bs,rfl,ha,hl,Z,q⟩:=h;obtain⟨u,rfl,l⟩:=vals1 r;cases l;obtain⟨d,L,p,hz⟩:=I.list (dM.of ha);have z:a<↥s:=by obtain⟨o,n,e,_⟩:=p;show cj e
 have hn:⇑d=⇑ys:=L.length.symm;have y:∀j v,d.toArray[j]?=ae v ->∃x,Ψ x v/\TrV X.K H x (bs.getD j af):=λj v e=>by
  have e1:d[j]?=ae v:=by simpa using e
  have O:j<⇑ys:=by have:=(df.mp e1).1;lia
  obtain⟨u,U,l⟩:=L.get (cn O);rw[e1] at U;cases U;show⟨_,l,Z j _ _ (cn O) ?_⟩;rw[kh,cn ∅];rfl
 show a0H (F.kind_any) F.plain_any F.entry_any (F.args_any1 _) ?_;delta Builtin.«any»;show ar (m:=oneArg "any" _) (a_ (ar (zt p.isList (a_ ⟨ll Aq _,?_⟩))));have J:H ↥s=ag:=I.hok.fresh (bt _);have I1:Φ X π σ H {s with heap:=s.heap.push {cls:=.type "list_iterator",data:=.fields #[.ref a,rawInt 0]} }:=I.kept (t':=s.toks) λb o e=>cy _ e;show zF (X:=X) (π:=π) (σ:=σ) (H:=H) (tr:=λj=>bs.getD j af) (a0K (A:=X.A.in1) (show X.A.in1.handled=ag from I.ok.hd hc) ↥s a (gg z) d.toArray) (λb hb=>?_) y d.toArray.size 0 _ rfl I1
  ⟨⟨_,fv _ rfl,rfl,rfl⟩,p.isList.at λo e=>cy _ e⟩ λY I'=>?_
 .cases dh.mp hb;show I.xG (bt _) J
 .refine ⟨.bl _,H,I',rfl,?_⟩;rw[p_,show d.toArray.size=⇑bs by simp[hn,hl],range_any];show q
def NV(hc:X.calm=af):eX X (.builtin "all") (xx (λbs=>bs.all id) X.K):=by
 intro π s σ H xs us Q I r h;obtain⟨a,ys,bs,rfl,ha,hl,Z,q⟩:=h;obtain⟨u,rfl,l⟩:=vals1 r;cases l;obtain⟨d,L,p,hz⟩:=I.list (dM.of ha);have z:a<↥s:=by obtain⟨o,n,e,_⟩:=p;show cj e
 have hn:⇑d=⇑ys:=L.length.symm;have y:∀j v,d.toArray[j]?=ae v ->∃x,Ψ x v/\TrV X.K H x (bs.getD j af):=λj v e=>by
  have e1:d[j]?=ae v:=by simpa using e
  have O:j<⇑ys:=by have:=(df.mp e1).1;lia
  obtain⟨u,U,l⟩:=L.get (cn O);rw[e1] at U;cases U;show⟨_,l,Z j _ _ (cn O) ?_⟩;rw[kh,cn ∅];rfl
 show a0H (F.kind_all) F.plain_all F.entry_all (F.args_all1 _) ?_;delta Builtin.«all»;show ar (m:=oneArg "all" _) (a_ (ar (zt p.isList (a_ ⟨ll Ar _,?_⟩))));have J:H ↥s=ag:=I.hok.fresh (bt _);have I1:Φ X π σ H {s with heap:=s.heap.push {cls:=.type "list_iterator",data:=.fields #[.ref a,rawInt 0]} }:=I.kept (t':=s.toks) λb o e=>cy _ e;show zG (X:=X) (π:=π) (σ:=σ) (H:=H) (tr:=λj=>bs.getD j af) (a0K (A:=X.A.in1) (show X.A.in1.handled=ag from I.ok.hd hc) ↥s a (gg z) d.toArray) (λb hb=>?_) y d.toArray.size 0 _ rfl I1
  ⟨⟨_,fv _ rfl,rfl,rfl⟩,p.isList.at λo e=>cy _ e⟩ λY I'=>?_
 .cases dh.mp hb;show I.xG (bt _) J
 .refine ⟨.bl _,H,I',rfl,?_⟩;rw[p_,show d.toArray.size=⇑bs by simp[hn,hl],range_all];show q
theorem Fh{K:aq}{S:ai->Prop}{H:Hp}:∀{p:List D} {ys:List V} {bs:List Bool},aK K S H p ys->mT p=ae bs->⇑bs=⇑ys /\∀(j:Nat) (y:V) (b:Bool),ys[j]?=ae y->bs[j]?=ae b->TrV K H y b
 |[],ys,bs,dn,h=>by erw[aK] at dn;subst dn;cases h;show⟨rfl,λj y b e=>by simp at e⟩
 |d::p,ys,bs,dn,h=>by
  obtain⟨v,r,rfl,l,h2⟩:=dn.bA;obtain⟨b,m,h⟩:=bnd h;obtain⟨I,F,rfl⟩:=rQ h;obtain⟨A,z⟩:=Fh h2 F;show⟨by simp[A],λj y c o q=>?_⟩
  cases j with
  |zero =>
   simp at o q;subst o q;cases d<;>first|cases m;done|skip
   .cases m;symm at l;show .inl l
   .cases m;symm at l;obtain⟨a,xs,rfl,n,x⟩:=l;show .inr ⟨a,xs,rfl,.inr (eV.of n),by rw[<- x.empty]⟩
   .cases m;symm at l;obtain⟨a,xs,rfl,n,_,x⟩:=l;show .inr ⟨a,xs,rfl,.inl (dM.of n),by rw[<- x.empty]⟩
  |succ j=>show z j y c ↑o ↑q
def trF(f:List Bool->Bool):F1
 |[.lst es],Q=>∃bs,mT es=ae bs/\Q (.bl (f bs))
 |_,_=>False
theorem S5{K:aq}{f:List Bool->Bool}:C3 K (xx f K) (trF f):=by
 intro S H xs ds Q3 Q x m l k
 match ds,l with
 |[.lst es],⟨bs,eb,q⟩ =>
  obtain⟨v,r,rfl,d,h2⟩:=m.bA;erw[aK] at h2;subst h2;symm at d;obtain⟨a,ys,rfl,n,p,o⟩:=d;obtain⟨j,h⟩:=Fh o eb;show⟨a,ys,bs,rfl,n,j,h,k _ H _ (ξ.refl H) (by symm) q⟩
def Lk{p a:br}{e:av}{t:AF}(m:X.calm=af)(h:X.mg "any"=ag)(n:xP X [e] t)(j:Gl X "any"<|>0)(l:Zq X e []<|>0):bD X (.Call (.Name "any" p) [e] [] a) (cM anyM t) :=
 cE (vT (NU m) S5 a3X j h n ⋯ ⋯ l (by rfl)) (BQ λds d Q e q=>by
  delta anyM at e;split at e
  .obtain ⟨bs,o,rfl⟩:=rQ e;show⟨bs,o,q⟩
  .cases e)
def S6{p a:br}{e:av}{t:AF}(m:X.calm=af)(h:X.mg "all"=ag)(n:xP X [e] t)(j:Gl X "all"<|>0)(l:Zq X e []<|>0):bD X (.Call (.Name "all" p) [e] [] a) (cM allM t) :=
 cE (vT (NV m) S5 a3Y j h n ⋯ ⋯ l (by rfl)) (BQ λds d Q e q=>by
  delta allM at e;split at e
  .obtain ⟨bs,o,rfl⟩:=rQ e;show⟨bs,o,q⟩
  .cases e)
end
end L4
namespace L3
open PySem.Spec PyProof.Rows L2
noncomputable def aMy(t:WA):WI:=λρ Q=>t ρ λds=>match ds with
 |[.lst ds]=>Q ds.reverse
 |[.tup ds]=>Q ds.reverse
 |_=>False
section
variable{Ω:bj}{w:bg}{A:bx}{E:Q0c}{s:ao}
theorem EN{Q:List aj->ao->Prop}{r:ai}{a b c:Int}{t u v:gu}{n:Nat}(z:A.handled=ag)(q:Gs s.heap r a b c t u v)(d:Hc a b c=af)(x:uc a b c=n)
  (hlen:n<=2^24) (F:∀h' m p,↥s<=h'.objs.size->(∀b o,s.heap.get? b=ae o->h'.get? b=ae o)->Am (λi v=>∃t,v=.int (a+i*c) t) p n->Q p.toList {s with heap:=h',toks:=m}):az (au Ω w) A (collect (.ref r)) Q E s:=by
 delta collect;apply ar;apply Fv;show lp Gy ?_;rw[l_ Gw]
 wp_walk
 show⟨ll t_ _,lp Gz ?_⟩;rw[l_ t_];show wpAny_extend_range (R:=wants _ _) (s:={s with heap:=s.heap.push {cls:=.type "list",data:=.seq #[]} }) z (cy _ q) d x hlen ↥s (.ref ↥s) _ (fv _ rfl) λh' m l I y j h=>?_;apply ar;apply zv j;show a_ (F h' m l (mh (cj j)) (λb o e=>y b o (gg (cj e)) (cy _ e)) h)
theorem EO{r:ai}{a b c:Int}{t u v:gu}{n:Nat}(d:Hc a b c=af)(q:uc a b c=n)(hlen:n<=2^24):vv (Builtin.«tuple.__new__» ⟨[.type "tuple",.ref r],[]⟩)
   (λA R s=>A.handled=ag/\Gs s.heap r a b c t u v /\∀(h':bh) (m:Nat) (l:Array aj),↥s<=h'.objs.size->(∀b o,s.heap.get? b=ae o->h'.get? b=ae o)->Am (λi v=>∃t,v=.int (a+i*c) t) l n ->
    R (.ok (.ret (.ref h'.objs.size))) {s with heap:=h'.push {cls:=.type "tuple",data:=.seq l},toks:=m}) :=
 .of_wp λΩ w A R s h=>by
  obtain⟨y,p,h⟩:=h;have F:=sub_tuple_self;have h2:=init_tuple_lookup;have z:=madeHere_tuple
  wp_walk using vj (T:="range") (v:=.ref r) ⟨_,p,rfl⟩,EN (A:=A.in1) y p d q hlen
  intro h' m l hsz x j;have fits:l.size<=bq:=by rw[j.1,fw];lia
  wp_walk
  simpa using h h' m l hsz x j
theorem BW{Q:Q0c}{r:ai}{a b c:Int}{t u v:gu}{n:Nat}(y:A.handled=ag)(p:Gs s.heap r a b c t u v)(d:Hc a b c=af)(q:uc a b c=n)(hlen:n<=2^24)
  (h:∀(h':bh) (m:Nat) (l:Array aj),↥s<=h'.objs.size->(∀b o,s.heap.get? b=ae o->h'.get? b=ae o)->Am (λi v=>∃t,v=.int (a+i*c) t) l n->Q (.ref h'.objs.size) {s with heap:=h'.push {cls:=.type "tuple",data:=.seq l},toks:=m}):
  az (au Ω w) A (call (.type "tuple") [.ref r]) Q E s :=
 a0I F.called_tuple ⋯ (F.typeCall_tuple_1 _) (F.newCall_tuple_1 _) (λobj=>a1m obj _) F.entry_tuple_new
  (EO d q hlen) ⟨y,p,λh' m l hsz x j=>⟨⟨_,fv _ rfl,rfl⟩,h h' m l hsz x j⟩⟩
variable{X:Cx}
def xQ(K:X.calm=af):eX X (.type "tuple") (λxs H Q=>∃p i j,xs=[.ref p]/\H p=ae (.rng i j) /\ -16777216<=i/\i<=16777216 /\ -16777216<=j/\j<=16777216/\j-i<=16777216 /\∀l,H l=ag->Q (.ref l) (upd H l (.tup ((mN i (j-i).toNat).map V.int)))):=by
 intro π s σ H xs us Q I r h;obtain⟨p,i,j,rfl,J,Y,U,h2,O,L,q⟩:=h;obtain⟨u,rfl,y⟩:=vals1 r;cases y;obtain⟨t,u,v,e⟩:=I.hok p _ J;have hsz:uc i j 1=((j-i).toNat:Int):=by rw[Gd];split<;>lia
 show BW (a:=i) (b:=j) (c:=1) (n:=(j-i).toNat) (I.ok.hd K) e (Fz ∅ ∅ ∅ ∅) hsz ∅ λh' x d hle z hit=>?_;have F:θ ((mN i (j-i).toNat).map V.int) d.toList:=lK hit;have m:H h'.objs.size=ag:=I.hok.fresh hle;show⟨.ref h'.objs.size,_,I.laid (t':=x) (o:=.tup ((mN i (j-i).toNat).map V.int)) (λb o e=>cy _ (z b o e)) hle ⟨?_,d.toList,F,⟨_,fv _ rfl,rfl,_,rfl⟩,A3.new _ _⟩,rfl,q _ m⟩;rw[bb,lU,fw];lia
def NW(L:X.calm=af)(I:X.mg "tuple"=ag)(d:X.mg "range"=ag)(O:xM X [a] t)(K:Gl X "tuple"<|>0)(h:Gl X "range"<|>0)(F:ax [a] X.env=[(ah,eval a X.env)]<|>0)
  (o:(ax [.Call (.Name "range" p2) [a] [] pos2] X.env=(ah,eval (.Call (.Name "range" p2) [a] [] pos2) X.env)::ax [] X.env)<|>0):
  bY X (.Call (.Name "tuple" p) [.Call (.Name "range" p2) [a] [] pos2] [] ν) (λρ Q=>(t ρ λds=>match ds with|[.int j]=>(-16777216<=j/\j<=16777216)/\Q (.tup ((mN 0 j.toNat).map D.int))|_=>False)) :=
 imp (qO (xQ L) K I uf (eR (y9 h d O F) kH o) ⋯ ⋯ o (by rfl)) λσ H Q Z=>by
  obtain⟨S,ρ,Q3,U,x,z,k⟩:=Z;show⟨S,ρ,_,U,x,z,λvs H1 ds y Y q1=>?_⟩;split at q1
  .rename_i j;obtain⟨v,r,rfl,q,h2⟩:=Y.bA;erw[aK] at h2;subst h2;symm at q;subst q;show⟨j,rfl,λp m=>⟨p,0,j,rfl,aM,∅,∅,q1.1.1,q1.1.2,by have:=q1.1.2;lia,λl n=>?_⟩⟩;have J:H1 l=ag:=(aI m).free n;rw[Int.sub_zero];show k _ _ _ ((y.trans (aI m)).trans (aI n)) ?_ q1.2;symm;show⟨l,_,rfl,aM,aK.ints.mpr rfl⟩
  .exact q1.elim
end
end L3
namespace L4
open PySem.Spec PyProof.Rows L2 L3
variable{X:Cx}
section
variable{tg:av}
def ER(z:X.calm=af)(v:X.mg "tuple"=ag)(l:X.mg "range"=ag)(F:bD X a fa)(x:Gl X "tuple"<|>0)(m:Gl X "range"<|>0)(n:ax [a] X.env=[(ah,eval a X.env)]<|>0)
  (y:(ax [.Call (.Name "range" p2) [a] [] pos2] X.env=(ah,eval (.Call (.Name "range" p2) [a] [] pos2) X.env)::ax [] X.env)<|>0):
  bD X (.Call (.Name "tuple" p) [.Call (.Name "range" p2) [a] [] pos2] [] ν) (ON (aA fa aH)):=cE (NW z v l (aE F bG n) x m n y) λρ Q I=>by
 obtain⟨d,e,q⟩:=I;obtain⟨ds,o,e⟩:=bnd e;show⟨ds,o,?_⟩;obtain⟨a,A,rfl⟩:=SS o;split at e
 .rename_i j hj;cases hj;by_cases h:j.natAbs<=16777216
  .rw [Z_ h] at e;cases e;show⟨⟨∅,∅⟩,q⟩
  .rw [Zz h] at e;cases e
 .rename_i hj;cases hj
 .cases e
end
open PySem.W
noncomputable def told(lt:Nat->Nat->Bool){α:Type}:qt α->α
 |.ret a=>a
 |.ask i j k=>told lt (k (lt i j))
theorem iC{α a:Type}(f:α->qt a):∀t:qt α,told lt (t.bind f)=told lt (f (told lt t))
 |.ret _=>rfl
 |.ask i j k=>iC f (k (lt i j))
section
variable{lt:Nat->Nat->Bool}
def Up(lt:Nat->Nat->Bool)(p:Array Nat)(k:Nat):Prop:=∀i j,i<j->j<k->lt (p.getD j 0) (p.getD i 0)=ah
def OH(lt:Nat->Nat->Bool)(p:Array Nat)(k:Nat):Prop:=∀i j,i<j->j<k->lt (p.getD i 0) (p.getD j 0)=ah
structure fM (lt:Nat->Nat->Bool):Prop where
 as:∀a b,lt a b=af->lt b a=ah
 tr:∀a b c,lt b a=ah->lt c b=ah->lt c a=ah
theorem fM.B9(O:fM lt)(x:Nat):lt x x=ah:=by
 cases hb:lt x x with
 |false=>rfl
 |true=>have:=O.as _ _ hb;rw[hb] at this;show this
def cH{p:Array Nat}{i:Nat}:p.getD i 0=(p[i]?).getD 0:=by rw[Array.getD_eq_getD_getElem?]
def bU{p:Array Nat}{i j:Nat}(a:j<=p.size)(k:Nat):(ig p i j).getD k 0=if i<=k/\k<j then p.getD (i+j-1-k) 0 else p.getD k 0:=by delta ig;rw[cH,getElem?_mirror_all a];split<;>rw[cH]
def wL(p:Array Nat)(i j:Nat):(ig p i j).size=p.size:=mirror_size _ _ _ _
def dY(p:Array Nat)(i j:Nat):(ig p i j).Perm p:=mirror_perm _ _ _ _
theorem HM(O:fM lt)(p:Array Nat):∀f n,1<=n->Up lt p n->n<=told lt (ju p f n)/\told lt (ju p f n)<=n+f/\Up lt p (told lt (ju p f n))/\(told lt (ju p f n)<n+f->lt (p.getD (told lt (ju p f n)) 0) (p.getD (told lt (ju p f n)-1) 0)=af)
 |0,n,h1,hu=>⟨bt _,bt _,hu,λh=>Zw h (jg _)⟩
 |f+1,n,h1,hu=>by
  show n<=told lt (if lt (p.getD n 0) (p.getD (n-1) 0)=af then oy n else ju p f (n+1))/\told lt (if lt (p.getD n 0) (p.getD (n-1) 0)=af then oy n else ju p f (n+1))<=n+(f+1)/\Up lt p (told lt (if lt (p.getD n 0) (p.getD (n-1) 0)=af then oy n else ju p f (n+1)))/\(told lt (if lt (p.getD n 0) (p.getD (n-1) 0)=af then oy n else ju p f (n+1))<n+(f+1)->lt (p.getD (told lt (if lt (p.getD n 0) (p.getD (n-1) 0)=af then oy n else ju p f (n+1))) 0) (p.getD (told lt (if lt (p.getD n 0) (p.getD (n-1) 0)=af then oy n else ju p f (n+1))-1) 0)=af)
  cases hc:lt (p.getD n 0) (p.getD (n-1) 0) with
  |true=>show⟨bt _,by show n<=n+(f+1);lia,hu,λ_=>hc⟩
  |false =>
   rw[Zz cf];have l:Up lt p (n+1):=λi j o v=>by
    by_cases m:j<n
    .exact hu i j o m
    .have:j=n:=∅
     subst this;by_cases q:i=j-1
     .subst q;show hc
     .exact O.tr _ _ _ (hu i (j-1) ∅ ∅) hc
   obtain⟨a,b,c,d⟩:=HM O p f (n+1) ∅ l;show⟨∅,∅,c,λh=>d ∅⟩
def aCv(a:n<=p.size)(h:OH lt p n):Up lt (ig p 0 n) n:=λi j l d=>by rw[bU a,bU a,Z_ ⟨∅,d⟩,Z_ ⟨∅,∅⟩];show h _ _ ∅ ∅
def Last(lt:Nat->Nat->Bool)(p:Array Nat)(n q:Nat):Prop:=q+1<=n /\∀i j,n-(q+1)<=i->i<n->n-(q+1)<=j->j<n->lt (p.getD i 0) (p.getD j 0)=ah
def rev_last(m:n<=p.size)(h:OH lt p n)(l:Last lt p n q):OH lt (ig p (n-(q+1)) n) n:=λi j d a=>by
 have:=l.1;rw[bU m,bU m];by_cases o:n-(q+1)<=i
 .rw [Z_ ⟨o,∅⟩,Z_ ⟨∅,a⟩];show l.2 _ _ ∅ ∅ ∅ ∅
 .rw [Zz ∅];by_cases h2:n-(q+1)<=j
  .rw [Z_ ⟨h2,a⟩];show h _ _ ∅ ∅
  .rw [Zz ∅];show h i j d a
def jV(O:fM lt)(q:1<=n)(h:OH lt p n)(l:lt (p.getD (n-1) 0) (p.getD n 0)=ah):OH lt p (n+1):=λi j d o=>by
 by_cases a:j<n
 .exact h i j d a
 .have:j=n:=∅
  subst this;by_cases m:i=j-1
  .subst m;show l
  .exact O.tr _ _ _ l (h i (j-1) ∅ ∅)
def S7(a:n<p.size):(ig p (n-(q+1)) n).getD n 0=p.getD n 0:=by rw[bU (mh a),Zz ∅]
theorem tJ(O:fM lt):∀f (p:Array Nat) n q,1<=n->n+f<=p.size->OH lt p n->Last lt p n q ->∀r,r=told lt (qq f p n q)->r.1.Perm p/\r.2.1<=n+f/\n<=r.2.1/\OH lt r.1 r.2.1/\Last lt r.1 r.2.1 r.2.2
 |0,p,n,q,_,_,h,l,r,m=>by subst m;show⟨om _,bt _,bt _,h,l⟩
 |f+1,p,n,q,h1,hs,h,l,r,m=>by
  have m:r=told lt (if lt (p.getD n 0) (p.getD (n-1) 0)=af then(if q>0 then qq f (ig p (n-(q+1)) n) (n+1) 0 else qq f p (n+1) 0) else .ask (p.getD (n-1) 0) (p.getD n 0) λd=>if d=af then .ret (p,n,q) else qq f p (n+1) (q+1)):=m;have one:∀p:Array Nat,Last lt p (n+1) 0:=λp=>⟨∅,λi j a b c d=>by
   have e1:i=n:=∅
   have F:j=n:=∅
   rw[e1,F];show O.B9 _⟩
  cases hc:lt (p.getD n 0) (p.getD (n-1) 0) with
  |true =>
   rw[hc,Z_ rfl] at m;have o:=O.as _ _ hc;by_cases x:q>0
   .rw [Z_ x] at m;have J:=rev_last ∅ h l;have z:=l.1;have I:OH lt (ig p (n-(q+1)) n) (n+1):=by show jV O h1 J ?_;rw[S7 ∅,bU ∅,Z_ ⟨∅,∅⟩];show O.tr _ (p.getD (n-1) 0) _ o (l.2 _ _ ∅ ∅ ∅ ∅)
    obtain⟨a,b,c,d,e⟩:=tJ O f (ig p (n-(q+1)) n) (n+1) 0 ∅ (by rw[wL];lia) I (one _) r m;show⟨a.trans (dY _ _ _),∅,∅,d,e⟩
   .rw [Zz x] at m;obtain⟨a,b,c,d,e⟩:=tJ O f p (n+1) 0 ∅ ∅ (jV O h1 h o) (one _) r m;show⟨a,∅,∅,d,e⟩
  |false =>
   rw[hc,Zz cf] at m;have m:r=told lt (if lt (p.getD (n-1) 0) (p.getD n 0)=af then oy (p,n,q) else qq f p (n+1) (q+1)):=m
   cases hd:lt (p.getD (n-1) 0) (p.getD n 0) with
   |true =>
    rw[hd,Z_ rfl] at m;subst m;show⟨om _,by show n<=n+(f+1);lia,bt _,h,l⟩
   |false =>
    rw[hd,Zz cf] at m;have z:=l.1;have A:Last lt p (n+1) (q+1):=⟨∅,λi j a b c d=>by
     by_cases y:i<n
     .by_cases v:j<n
      .exact l.2 i j ∅ y ∅ v
      .have:j=n:=∅
       subst this;show O.tr _ (p.getD (j-1) 0) _ hd (l.2 i (j-1) ∅ y ∅ ∅)
     .have:i=n:=∅
      subst this;by_cases v:j<i
      .exact O.tr _ (p.getD (i-1) 0) _ (l.2 (i-1) j ∅ ∅ ∅ v) hc
      .have:j=i:=∅
       subst this;show(one p).2 j j ∅ ∅ ∅ ∅⟩
    obtain⟨a,b,c,d,e⟩:=tJ O f p (n+1) (q+1) ∅ ∅ (jV O h1 h hd) A r m;show⟨a,∅,∅,d,e⟩
def zH{p q:Array Nat}(h:p.Perm q):p.size=q.size:=h.size_eq
def K2(O:fM lt)(j:1<=n)(m:n<=nrem)(l:nrem<=p.size)(h:OH lt p n)(r:Nat×Array Nat)(d:r=told lt (Gn n nrem p)):r.2.Perm p/\1<=r.1/\r.1<=nrem/\Up lt r.2 r.1:=by delta Gn at d;rw[iC] at d;obtain⟨a,b,c,_⟩:=HM O (ig p 0 n) (nrem-n) n j (aCv ∅ h);subst d;show⟨dY _ _ _,iq j a,(by show told lt _<=nrem;lia),c⟩
def rV(O:fM lt){n nrem:Nat}{p:Array Nat}(J:1<=n)(I:n+1<=nrem)(F:nrem<=p.size)(h:OH lt p (n+1))(r:Nat×Array Nat)(l:r=told lt (Ad n nrem p)):r.2.Perm p/\1<=r.1/\r.1<=nrem/\Up lt r.2 r.1:=by
 delta Ad at l;rw[iC] at l;have one:Last lt p (n+1) 0:=⟨∅,λi j a b c d=>by
  have e1:i=n:=∅
  have y:j=n:=∅
  rw[e1,y];show O.B9 _⟩
 obtain⟨a,b,c,d,e⟩:=tJ O (nrem-(n+1)) p (n+1) 0 ∅ ∅ h one _ rfl;generalize told lt (qq (nrem-(n+1)) p (n+1) 0)=z at a b c d e l;have A:=zH a;by_cases x:z.2.2>0
 .rw [Z_ x] at l;obtain⟨v,q,o,m⟩:=K2 O (n:=z.2.1) (nrem:=nrem) (p:=ig z.1 (z.2.1-(z.2.2+1)) z.2.1) ∅ ∅ (by rw[wL];lia) (rev_last ∅ d e) r l;show⟨v.trans ((dY _ _ _).trans a),q,o,m⟩
 .rw [Zz x] at l;obtain⟨v,q,o,m⟩:=K2 O (n:=z.2.1) (nrem:=nrem) (p:=z.1) ∅ ∅ ∅ d r l;show⟨v.trans a,q,o,m⟩
def S8(O:fM lt)(Y:1<=n)(z:n<=p.size)(r:Nat×Array Nat)(h:r=told lt (Ae n p)):r.2.Perm p/\1<=r.1/\r.1<=n/\Up lt r.2 r.1:=by
 delta Ae at h;rw[iC] at h;obtain⟨a,b,c,d⟩:=HM O p (n-1) 1 (bt _) (λi j o v=>∅);generalize told lt (ju p (n-1) 1)=m at a b c d h;by_cases q:(m == n)=af
 .rw [Z_ q] at h;subst h;show⟨om _,a,by show m<=n;lia,c⟩
 .rw [Zz q] at h;have q:m≠n:=λe=>q (by rw[e];simp);have l:=d ∅;by_cases h2:m>1
  .rw [Z_ h2] at h;have h:r=told lt (if lt (p.getD 0 0) (p.getD (m-1) 0)=af then oy (m,p) else Ad m n (ig p 0 m)):=h
   cases hc:lt (p.getD 0 0) (p.getD (m-1) 0) with
   |true =>
    rw[hc,Z_ rfl] at h;subst h;show⟨om _,a,by show m<=n;lia,c⟩
   |false =>
    rw[hc,Zz cf] at h;have all:∀i j,i<m->j<m->lt (p.getD i 0) (p.getD j 0)=ah:=λi j A v=>by
     have I:∀i,i<m->lt (p.getD 0 0) (p.getD i 0)=ah:=λi A=>by
      by_cases J:i=m-1
      .subst J;show hc
      .exact O.tr _ _ _ (c i (m-1) ∅ ∅) hc
     have B9:∀x,lt x x=ah:=λx=>by
      cases hb:lt x x with
      |false=>rfl
      |true=>have:=O.as _ _ hb;rw[hb] at this;show this
     have F:lt (p.getD i 0) (p.getD 0 0)=ah:=by
      by_cases y:i=0
      .subst y;show B9 _
      ·-- a later one is not less than the first one
       show c 0 i ∅ A
     show O.tr _ _ _ (I j v) F
    have dn:OH lt (ig p 0 m) (m+1):=by
     show jV O a (λi j o v=>?_) ?_
     .rw [bU ∅,bU ∅,Z_ ⟨∅,∅⟩,Z_ ⟨∅,∅⟩];show all _ _ ∅ ∅
     .rw [bU ∅,bU ∅,Z_ ⟨∅,∅⟩,Zz ∅];show O.tr _ (p.getD (m-1) 0) _ (O.as _ _ l) (all _ _ ∅ ∅)
    obtain⟨X,U,L,K⟩:=rV O a ∅ (by rw[wL];show z) dn r h;show⟨X.trans (dY _ _ _),U,L,K⟩
  .rw [Zz h2] at h;have:m=1:=∅
   subst this;have dn:OH lt p (1+1):=jV O (bt _) (λi j o v=>∅) (O.as _ _ l);show rV O (bt _) ∅ z dn r h
theorem wM(O:fM lt)(p:Array Nat)(k:Nat):∀f l r,l<=r->r<=k->r-l<=f->Up lt p k->(∀i,i<l->lt (p.getD k 0) (p.getD i 0)=ah)->(∀i,r<=i->i<k->lt (p.getD i 0) (p.getD k 0)=ah) ->
  told lt (kb p k f l r)<=k/\(∀i,i<told lt (kb p k f l r)->lt (p.getD k 0) (p.getD i 0)=ah) /\∀i,told lt (kb p k f l r)<=i->i<k->lt (p.getD i 0) (p.getD k 0)=ah
 |0,l,r,hlr,hr,hf,_,h1,h2=>by
  have:l=r:=∅
  subst this;show⟨hr,h1,h2⟩
 |f+1,l,r,hlr,hr,hf,hu,h1,h2=>by
  delta kb;by_cases a:l >= r
  .rw [Z_ a];have:l=r:=∅
   subst this;show⟨hr,h1,h2⟩
  .rw [Zz a];show told lt (if lt (p.getD k 0) (p.getD ((l+r)/2) 0)=af then kb p k f l ((l+r)/2) else kb p k f ((l+r)/2+1) r)<=k/\(∀i,i<told lt (if lt (p.getD k 0) (p.getD ((l+r)/2) 0)=af then kb p k f l ((l+r)/2) else kb p k f ((l+r)/2+1) r)->lt (p.getD k 0) (p.getD i 0)=ah) /\∀i,told lt (if lt (p.getD k 0) (p.getD ((l+r)/2) 0)=af then kb p k f l ((l+r)/2) else kb p k f ((l+r)/2+1) r)<=i->i<k->lt (p.getD i 0) (p.getD k 0)=ah
   cases hc:lt (p.getD k 0) (p.getD ((l+r)/2) 0) with
   |true =>
    rw[Z_ rfl];show wM O p k f l ((l+r)/2) ∅ ∅ ∅ hu h1 λi j d=>?_;by_cases h:i=(l+r)/2
    .subst h;show O.as _ _ hc
    .exact O.tr _ _ _ (O.as _ _ hc) (hu _ i ∅ d)
   |false =>
    rw[Zz cf];show wM O p k f ((l+r)/2+1) r ∅ hr ∅ hu (λi j=>?_) h2;by_cases h:i=(l+r)/2
    .subst h;show hc
    .exact O.tr _ _ _ (hu i ((l+r)/2) ∅ ∅) hc
def K3{p:Array Nat}{k l:Nat}(d:k<p.size)(h:l<=k)(i:Nat):(bubble p k (k-l)).getD i 0=if i=l then p.getD k 0 else if l<i/\i<=k then p.getD (i-1) 0 else p.getD i 0:=by
 rw[cH,a1I d _ ∅,show k-(k-l)=l by lia];by_cases a:i=l
 .rw [Z_ a,Z_ a,cH]
 .rw [Zz a,Zz a];by_cases h2:l<i/\i<=k
  .rw [Z_ h2,Z_ h2,cH]
  .rw [Zz h2,Zz h2,cH]
theorem TB(O:fM lt):∀f (p:Array Nat) k,k+f<=p.size->Up lt p k->(told lt (Af f p k)).Perm p/\Up lt (told lt (Af f p k)) (k+f)
 |0,p,k,_,h=>⟨om _,h⟩
 |f+1,p,k,hs,h=>by
  delta Af;rw[iC];obtain⟨a,b,c⟩:=wM O p k k 0 k ∅ (bt _) ∅ h (λi y=>∅) (λi y x=>∅);generalize told lt (kb p k k 0 k)=l at a b c;have v:k<p.size:=∅
  have h2:Up lt (bubble p k (k-l)) (k+1):=λi j q z=>by
   rw[K3 v a,K3 v a];by_cases d:j=l
   .rw [Z_ d,Zz ∅,Zz ∅];show b i ∅
   .rw [Zz d];by_cases m:l<j/\j<=k
    .rw [Z_ m];by_cases n:i=l
     .rw [Z_ n];show c (j-1) ∅ ∅
     .rw [Zz n];by_cases o:l<i/\i<=k
      .rw [Z_ o];show h _ _ ∅ ∅
      .rw [Zz o];show h _ _ ∅ ∅
    .rw [Zz m,Zz ∅,Zz ∅];show h _ _ q ∅
  obtain⟨e,g⟩:=TB O f (bubble p k (k-l)) (k+1) (by rw[bubble_size];lia) h2;show⟨e.trans (He _ _ _),by rw[show k+(f+1)=k+1+f by lia];show g⟩
def Y1(O:fM lt){n:Nat}(j:1<=n):(told lt (vp n)).Perm (wo (cx n))/\Up lt (told lt (vp n)) n:=by
 delta vp;rw[iC];obtain⟨a,b,c,d⟩:=S8 O (n:=n) (p:=wo (cx n)) j (by simp) _ rfl;generalize told lt (Ae n (wo (cx n)))=r at a b c d;have l:r.2.size=n:=by rw[zH a];simp
 by_cases h:r.1<n
 .rw [Z_ h,show max r.1 1=r.1 by lia];obtain⟨e,g⟩:=TB O (n-r.1) r.2 r.1 ∅ d;show⟨e.trans a,by rw[show r.1+(n-r.1)=n by lia] at g;show g⟩
 .rw [Zz h];have:r.1=n:=∅
  show⟨a,by rw[<- this];show d⟩
end
open KL
section
variable{Ω:bj}{w:bg}{A:bx}{s:ao}{Q:Bool->ao->Prop}
theorem aCw:∀(us:Q0f) (vs:Q0f) (as bs:Q0e) (i:Nat) (fin:Bool),(fin=Zv (⇑us<⇑vs))->mf us as->mf vs bs->Q (fE as bs) s->KatLex Ω w A af fin Q (us.zip vs) i s:=by
 intro us
 induction us with
 |nil =>
  intro vs as bs i fin h j d q;cases j
  cases d with
  |nil=>subst h;show q
  |cons b t' d=>subst h;simpa[KatLex,fE] using q
 |cons u us ih =>
  intro vs as bs i fin h j d q
  cases j with
  |cons a t j =>
   cases d with
   |nil=>subst h;simpa[KatLex,fE] using q
   |cons b t' d =>
    rename_i as vs bs;show Gm (a0q (kat_go (λe=>?_) (λe=>?_)))
    .have e:a=b:=by simpa using e
     show Gj (ih _ _ _ (i+1) fin (by rw[h];simp) j d ?_);simpa[fE,e] using q
    .have e:a≠b:=by simpa using e
     have q:Q (Zv (a<b)) s:=by simpa[fE,e] using q
     show kat_no ?_
     cases hc:(af&&i == 0) with
     |true=>show oneLt_int q
     |false=>show kat_one _ _ (A_ q)
end
noncomputable def K4(n:Nat){α:Type}:qt α->(α->Prop)->Prop
 |.ret a,Q=>Q a
 |.ask i j k,Q=>i<n/\j<n /\∀b,K4 n (k b) Q
theorem jW{n:Nat}{α d:Type}{f:α->qt d}{Q:d->Prop}:∀(t:qt α),K4 n t (λa=>K4 n (f a) Q)->K4 n (t.bind f) Q
 |.ret a,h=>h
 |.ask i j k,h=>⟨h.1,h.2.1,λb=>jW (k b) (h.2.2 b)⟩
def Rg(n:Nat)(p:Array Nat):Prop:=p.Perm (wo (cx n))
theorem Rg.lt(h:Rg n p)(a:1<=n)(k:Nat):p.getD k 0<n:=by
 rw[cH]
 cases q:p[k]? with
 |none=>show a
 |some x =>
  have:x∈p:=Array.mem_of_getElem? q;have:=h.mem_iff.mp this;simpa using this
section
variable{n:Nat}
theorem BX(a:1<=n)(h:Rg n p)(q:∀m,Q m):∀f m,K4 n (ju p f m) Q
 |0,m=>q m
 |f+1,m=>⟨h.lt a _,h.lt a _,λb=>by
  cases b with
  |true=>show q m
  |false=>show BX a h q f (m+1)⟩
theorem pH(a:1<=n)(q:∀r,Rg n r.1->Q r):∀f p m k,Rg n p->K4 n (qq f p m k) Q
 |0,p,m,k,h=>q _ h
 |f+1,p,m,k,h=>⟨h.lt a _,h.lt a _,λb=>by
  cases b with
  |true =>
   show K4 n (if k>0 then _ else _) Q;by_cases j:k>0
   .rw [Z_ j];show pH a q f _ _ _ ((dY _ _ _).trans h)
   .rw [Zz j];show pH a q f _ _ _ h
  |false=>show⟨h.lt a _,h.lt a _,λd=>by
    cases d with
    |true=>show q _ h
    |false=>show pH a q f _ _ _ h⟩⟩
def ES(d:1<=n){Q:Nat×Array Nat->Prop}(q:∀r,Rg n r.2->Q r){m k:Nat}{p:Array Nat}(h:Rg n p):K4 n (Gn m k p) Q :=
 jW _ (BX d ((dY _ _ _).trans h) (λa=>q (a,ig p 0 m) ((dY _ _ _).trans h)) _ _)
def pI(a:1<=n){Q:Nat×Array Nat->Prop}(q:∀r,Rg n r.2->Q r){m k:Nat}{p:Array Nat}(h:Rg n p):K4 n (Ad m k p) Q :=
 jW _ (pH a (λr d=>by
  by_cases j:r.2.2>0
  .rw [Z_ j];show ES a q ((dY _ _ _).trans d)
  .rw [Zz j];show ES a q d) _ _ _ _ h)
def NX(a:1<=n){Q:Nat×Array Nat->Prop}(q:∀r,Rg n r.2->Q r){k:Nat}{p:Array Nat}(h:Rg n p):K4 n (Ae k p) Q :=
 jW _ (BX a h (λm=>by
  by_cases e:(m == k)=af
  .rw [Z_ e];show q _ h
  .rw [Zz e];by_cases d:m>1
   .rw [Z_ d];show⟨h.lt a _,h.lt a _,λc=>by
     cases c with
     |true=>show q _ h
     |false=>show pI a q ((dY _ _ _).trans h)⟩
   .rw [Zz d];show pI a q h) _ _)
theorem qX(a:1<=n)(h:Rg n p)(q:∀m,Q m)(k:Nat):∀f l r,K4 n (kb p k f l r) Q
 |0,l,r=>q l
 |f+1,l,r=>by
  delta kb;by_cases e:l >= r
  .rw [Z_ e];show q l
  .rw [Zz e];show⟨h.lt a _,h.lt a _,λc=>by
    cases c with
    |true=>show qX a h q k f _ _
    |false=>show qX a h q k f _ _⟩
theorem K5(a:1<=n){Q:Array Nat->Prop}(q:∀p,Q p):∀f p k,Rg n p->K4 n (Af f p k) Q
 |0,p,k,h=>q p
 |f+1,p,k,h=>jW _ (qX a h (λl=>K5 a q f _ _ ((He _ _ _).trans h)) k _ _ _)
def TC(a:1<=n){Q:Array Nat->Prop}(q:∀p,Q p):K4 n (vp n) Q :=
 jW _ (NX a (λr d=>by
  by_cases e:r.1<n
  .rw [Z_ e];show K5 a q _ _ _ d
  .rw [Zz e];show q _) (om _))
variable{X:Cx}
def jX(a:Q0a)(i:Nat):List Int:=(a[i]?).getD []
theorem K6(h:∀i j (C:Bool->ao->Prop),i<n->j<n->C (lt i j) s->qr Ω w A κ vs i j C s){α:Type}:∀(t:qt α) (Q:α->ao->Prop),K4 n t (λ_=>True)->Q (told lt t) s->t.kasWp (qr Ω w A κ vs) Q s
 |.ret a,Q,_,q=>q
 |.ask i j k,Q,sf,q=>h i j _ sf.1 sf.2.1 (K6 h (k (lt i j)) Q (sf.2.2 _) q)
def HN(K:aq):List V->Hp->VK->Prop:=λxs H Q=>∃(a:ai) (h:List ai) (d:Q0a),xs=[.ref a]/\H a=ae (.lst (h.map V.ref))/\⇑h=⇑d/\2<=⇑d/\⇑d<64 /\
 (∀(j:Nat) (p:ai) (t:Q0e),h[j]?=ae p->d[j]?=ae t->eV K H p (t.map V.int)/\t≠[]) /\
 ∀l:List Nat,l.Perm (cx ⇑d)->(∀i j:Nat,i<j->j<⇑d->fE (jX d (l.getD j 0)) (jX d (l.getD i 0))=ah) ->∀q,H q=ag->Q (.ref q) (upd H q (.lst (l.map λi=>V.ref (h.getD i 0))))
theorem zJ:∀{a:List ai} {us:Q0f},θ (a.map V.ref) us->us=a.map f_
 |[],_,.nil=>rfl
 |p::a,_,.cons r t=>by rw[zJ t];rw[show _=f_ p from r];rfl
theorem cK.live(x:L2.cK P w H h a o):∃u,h.get? a=ae u:=by
 cases o with
 |lst xs=>obtain⟨_,_,_,_,e⟩:=x;show⟨_,e⟩
 |tup xs=>obtain⟨_,_,_,⟨_,e,_⟩,_⟩:=x;show⟨_,e⟩
 |dK χ=>obtain⟨_,_,_,_,o,_,_,e,_⟩:=x;show⟨_,e⟩
 |dT χ=>obtain⟨_,_,_,_,o,_,_,e,_⟩:=x;show⟨_,e⟩
 |dX ob χ=>obtain⟨_,_,e,_⟩:=x;show⟨_,e⟩
 |set S n=>obtain⟨o,_,_,_,e,_⟩:=x;show⟨_,e⟩
 |ins C dx fs=>obtain⟨_,_,_,e,_⟩:=x;show⟨_,e⟩
 |own y=>obtain⟨_,e⟩:=x;show⟨_,e⟩
 |xd fs=>obtain⟨_,⟨_,_,_,e,_⟩,_⟩:=x;show⟨_,e⟩
 |rng lo hi=>obtain⟨_,_,_,e⟩:=x;show⟨_,e⟩
 |tF ob u=>obtain⟨e,_⟩:=x;show⟨_,e⟩
 |MM q=>obtain⟨_,e,_⟩:=x;show⟨_,e⟩
 |met f y=>show⟨_,(show h.get? a=ae _ from x)⟩
 |ext φ=>obtain⟨_,⟨_,e⟩,_⟩:=x;show⟨_,e⟩
def BY:eX X (.builtin "sorted") (HN X.K):=by
 intro π s σ H xs us Q I r h;obtain⟨a,A,F,rfl,ha,hl,h2,gp,ht,q⟩:=h;obtain⟨u,rfl,ru⟩:=vals1 r;cases ru;obtain⟨ι,rv,pl,hz⟩:=I.list (dM.of ha);have Lj:=zJ rv;subst Lj;obtain⟨m,hns,_⟩:=id I.loc;have hL:=I.lt;have hn:⇑(A.map f_)=⇑F:=by rw[bb];show hl
 have tup:∀(j:Nat),j<⇑F ->∃(p:ai) (us:Q0f),A[j]?=ae p/\g_ s.heap p us.toArray/\mf us (jX F j)/\jX F j≠[]/\(A.map f_).getD j gz=.ref p:=λj hj=>by
  obtain⟨q1,q2⟩:=ht j A[j] F[j] (by simp[hl,hj]) (by simp[hj]);obtain⟨us,ru,pt,_⟩:=I.tuple q1;show⟨A[j],us,by simp[hl,hj],pt,?_,?_,by simp[hl,hj]⟩
  .delta jX;rw[cn hj];show intsAre_of ru
  .delta jX;rw[cn hj];show q2
 show kat_sorted (h₀:=BH s.heap) (L:=X.env.locals) (m:=m) (news:=ledger s.heap X.env.locals ↥s) (vs:=A.map f_) (aCF hns) (λp hp=>?_) pl.isList ∅ ∅ λD e1 h' F' N' hD=>?_
 .obtain ⟨x,o⟩:=p;obtain⟨n1,_,e⟩:=kJ.mp hp;show⟨e,n1,vN _ _⟩
 have J:∀b o,b≠X.env.locals->s.heap.get? b=ae o->h'.get? b=ae o:=λb o U e =>
  (N' (b,o) (fg _ (kJ.mpr ⟨U,gg (cj e),e⟩))).1
 have xw:∀{p:ai} {us:Array aj},g_ s.heap p us->p≠X.env.locals:=λ{p us} ⟨o,e,c,n,d⟩ z=>by subst z;obtain⟨o2,es,ep,e2,d2,_⟩:=hns;rw[e] at e2;cases e2;rw[d] at d2;cases d2
 -- the kind: tuples that begin with ints
 have kt:∀(Y:List ai) (fs:Q0f),⇑Y=⇑fs->(∀(j:Nat) (p:ai) (f:aj),Y[j]?=ae p->fs[j]?=ae f ->∃us:Array aj,g_ h' p us/\us[0]?=ae f)->KatTups h' (Y.map f_) fs:=by
  intro Y
  induction Y with
  |nil=>intro fs hf _;cases fs;show trivial;simp at hf
  |cons p Y ih =>
   intro fs hf h
   cases fs with
   |nil=>simp at hf
   |cons f fs =>
    obtain⟨us,⟨o,e,c,n,d⟩,u0⟩:=h 0 p f rfl rfl;show a0V e c d u0 (ih fs ↑hf λj p' f' h1 h2=>h (j+1) p' f' ↑h1 ↑h2)
 have heads:∃fs:Q0f,⇑fs=⇑A/\(∀v∈fs,∃i t,v=mw i t) /\∀(j:Nat) (p:ai) (f:aj),A[j]?=ae p->fs[j]?=ae f ->∃us:Array aj,g_ h' p us/\us[0]?=ae f:=by
  have:∀k,k<=⇑A ->∃fs:Q0f,⇑fs=k/\(∀v∈fs,∃i t,v=mw i t) /\∀(j:Nat) (p:ai) (f:aj),A[j]?=ae p->fs[j]?=ae f ->∃us:Array aj,g_ h' p us/\us[0]?=ae f:=by
   intro k
   induction k with
   |zero=>intro _;show⟨[],rfl,λv hv=>(nomatch hv),λj p f _ e=>by simp at e⟩
   |succ k ih =>
    intro hk;obtain⟨fs,f1,f2,f3⟩:=ih ∅;obtain⟨p,us,hp,pt,hi,ne,_⟩:=tup k ∅;obtain⟨i,t,us',rfl⟩:∃i t us',us=mw i t::us':=by
     generalize jX F k=w at hi ne
     cases hi with
     |nil=>show Zw rfl ne
     |cons n t r=>show⟨n,t,_,rfl⟩
    show⟨fs++[mw i t],by simp[f1],λv hv=>?_,λj p' f' h1 h2=>?_⟩
    .rcases ij.mp hv with h|h
     .exact f2 v h
     .exact ⟨i,t,dh.mp h⟩
    .by_cases hj:j<k
     .rw [jj ∅] at h2;show f3 j p' f' h1 h2
     .have:j=k:=by have:=(df.mp h2).1;simp[f1] at this;lia
      subst this;rw[i_ ∅,f1,Ht] at h2;rw[hp] at h1;cases h1;have h2:mw i t=f':=by simpa using h2
      subst h2;obtain⟨o,e,c⟩:=id pt;show⟨_,⟨o,J p o (xw pt) e,c⟩,by simp⟩
  show this ⇑A (bt _)
 obtain⟨fs,f1,f2,f3⟩:=heads;show kat_kind (T:=.type "int") (kt A fs f1.symm f3) ∅ (λv hv=>?_) ⋯ ?_
 .obtain ⟨i,t,rfl⟩:=f2 v hv;show a0U rfl
 have O:fM λi j=>fE (jX F i) (jX F j):=⟨λx y a=>FX _ _ a,λx y z a b=>FY _ _ _ a b⟩;rw[hn];show K6 (n:=⇑F) (lt:=λi j=>fE (jX F i) (jX F j)) (λi j C hi hj hC=>?_) _ _ (TC ∅ λ_=>trivial) ?_
 .obtain ⟨p,us,hp,pt,hi',_,ep⟩:=tup i hi;obtain⟨p2,us2,hp2,pt2,hi2,_,ep2⟩:=tup j hj;delta qr;rw[ep,ep2,show(jc "int" !=jc "tuple")=af from by decide];obtain⟨o,e,c,n,d⟩:=id pt;obtain⟨o2,e2,c2,n2,d2⟩:=id pt2;show kat_lt (s:={s with heap:=h' }) (J p o (xw pt) e) d (J p2 o2 (xw pt2) e2) d2 (aCw us us2 _ _ 0 _ rfl hi' hi2 hC)
 obtain⟨sp,su⟩:=Y1 O (n:=⇑F) ∅;generalize told (λi j=>fE (jX F i) (jX F j)) (vp ⇑F)=pp at sp su;show KasFin.intro F' N' (UpdF.head λp hp z=>jg _ (z▸hD p hp)) λh'' c F'' N''=>?_;have nD:D≠X.env.locals:=(N' _ (de ..)).2.1;have dead:s.heap.get? D=ag:=by
  cases e:s.heap.get? D with
  |none=>rfl
  |some o=>show Zw (hD (D,o) (kJ.mpr ⟨nD,gg (cj e),e⟩)) (jg _)
 have K7:∀b o,b≠X.env.locals->s.heap.get? b=ae o->h''.get? b=ae o:=λb o U e =>
  (N'' (b,o) (fg _ (kJ.mpr ⟨U,gg (cj e),e⟩))).1
 have Kw:=(N'' (D,_) (de ..)).1;have hfr:H D=ag:=by
  cases e:H D with
  |none=>rfl
  |some u =>
   obtain⟨o,eo⟩:=cK.live (I.hok D u e);rw[dead] at eo;cases eo
 have neD:∀{b:ai} {o:ay},s.heap.get? b=ae o->b≠D:=λ{b o} e z=>by rw[z,dead] at e;cases e
 have Z:∀{b:ai} {u:HO},H b=ae u->b≠D:=λ{b u} e z=>by rw[z,hfr] at e;cases e
 have hlp:pp.toList.Perm (cx ⇑F):=by simpa using sp.toList
 show⟨.ref D,upd H D (.lst (pp.toList.map λi=>V.ref (A.getD i 0))),?_,rfl,q pp.toList hlp (λi j hij hj=>?_) D hfr⟩
 .show L2.Φ X π σ _ {s with heap:=h'' };show I.step (s:=s) (h':=h'') (g':=s.gens) (t':=s.toks) (d':=s.drawn) (ch:=[]) (λb U=>nomatch U) (λb o U _ _ e _=>K7 b o U e) (λb o U _ _ e _=>⟨o.slots,K7 b o U e⟩) (λb o _ e n=>by rw[aP (neD e)];show n) (λb o _ e=>?_)
   (λb xs e=>by rw[aP (Z e)];show e) (λb o u e=>by rw[aP (Z e)];show e) (λb A e=>by rw[aP (Z e),e]) (λm2 hm2=>?_) ?_ I.bare
  .by_cases U:b=X.env.locals
   .subst U;obtain⟨o2,_,_,e2,_⟩:=F''.ns;show⟨o2,e2⟩
   .exact ⟨o,K7 b o U e⟩
  .have:m2=m:=by
    obtain⟨oa,ea,pa,h1,h2,_,h3⟩:=hm2;obtain⟨ob,eb,pb,k1,k2,_,k3⟩:=hns;rw[h1] at k1;cases k1;rw[h2] at k2;cases k2
    funext x
    rw[<- h3,<- k3]
   subst this;show F''.ns
  .intro b u e;by_cases U:b=D
   .subst U;rw[aM] at e;cases e;show⟨?_,pp.toList.map λi=>f_ (A.getD i 0),c,?_,Kw.trans ?_⟩
    .rw [bb,hlp.length_eq,jh,fw];lia
    .have:∀l:List Nat,θ (l.map λi=>V.ref (A.getD i 0)) (l.map λi=>f_ (A.getD i 0)):=λl=>by
      induction l with
      |nil=>show .nil
      |cons a l ih=>show .cons rfl ih
     show this _
    .have:(pp.toList.map λi=>(A.map f_).getD i gz)=pp.toList.map λi=>f_ (A.getD i 0):=kr λi hi=>by
      have:i<⇑F:=by simpa using hlp.mem_iff.mp hi
      simp[hl,this]
     rw[this]
   .rw [aP U] at e;show(I.hok b u e).stay (λc v hc ev=>K7 c v (λz=>?_) ev) (λc ec=>by rw[aP (Z ec)];show ec) (λc ys ec=>by rw[aP (Z ec)];show ec) λc o u ec=>by rw[aP (Z ec)];show ec
    subst z;rcases hc with hc|hc
    .rw [<- hc,I.free] at e;cases e
    .rw [I.free] at hc;cases hc
 .have:=su i j hij hj;rw[cH,cH] at this;simpa using this
theorem TH(ho:s.heap.get? a=ae (seqObj "list" #[v] n))
  (h:P (.done (.ret .none)) {s with heap:=sortedHeap s.heap a [v] #[v]}):az (au Ω w) A (Builtin.«list.sort» ⟨[.ref a],[]⟩) P E s:=by
 rw[a1G];have l:=cj ho;show ar (Ba ho rfl (ar (oz ho rfl ?_)));have j:=o_ ho (λ_=>(#[]:Array aj));show ar (ue j rfl (ar (Fw (ar (ou (ik ?_))))));have d:(((s.heap.update a (ft λ_=>(#[]:Array aj))).push (seqObj "tuple" #[v] 0)).push (seqObj "list" #[] 0)).get? a=_:=cy _ (cy _ j);show az (au Ω w) A _ P E {s with heap:=((s.heap.update a (ft λ_=>(#[]:Array aj))).push (seqObj "tuple" #[v] 0)).push (seqObj "list" #[] 0)};dsimp only;rw[Z_ (show(#[v]:Array aj).size<2 from Bi 1),Z_ (show(#[v]:Array aj).size<2 from Bi 1)];show ar (a_ ?_);rw[StateT.run_pure];show ar (a_ (ar (ue d rfl (ar (oz d rfl ?_ (hsz2:=?_))))))
 .erw[bne_self_eq_false,nj,if_false];have e:(arrOf (nr general' ((#[v]:Array aj).zip #[v]) #[] 7 ag)).map (·.2)=#[v]:=by show((#[v]:Array aj).zip #[v]).map (·.2)=#[v];simp
  rw[e];show a_ h
 .show (((#[v]:Array aj).zip #[v]).map (·.2)).size<=bq+1;simp
def BZ:List V->Hp->VK->Prop:=λxs H Q=>∃(a:ai) (x:V),xs=[.ref a]/\H a=ae (.lst [x]) /\∀q,H q=ag->Q (.ref q) (upd H q (.lst [x]))
def pJ:eX X (.builtin "sorted") BZ:=by
 intro π s σ H xs us Q I r h;obtain⟨a,x,rfl,A,q⟩:=h;obtain⟨u,rfl,y⟩:=vals1 r;cases y;obtain⟨J,p,z,K⟩:=I.list (dM.of A);obtain⟨v,rfl,l⟩:=vals1 p;show Ha Bb Az Bc (Hg (.ref a)) (show az _ _ (Builtin.«sorted» _) _ _ _ from ?_);delta Builtin.«sorted»;show ar (m:=checkCount "sorted" 1 1 _) (a_ (ar (collect_list z.isList (ar (ou ?_)))));have hsz:((s.heap.push (seqObj "list" #[] 0)).update ↥s (ft (· ++ [v].toArray))).objs.size=↥s+1:=by rw[Heap.size_update,size_push']
 have d:(((s.heap.push (seqObj "list" #[] 0)).update ↥s (ft (· ++ [v].toArray))).push (seqObj "list" [v].toArray 0)).get? (↥s+1)=ae (seqObj "list" #[v] 0):=by rw[<- hsz];show fv _ rfl
 show az _ _ _ _ _ {s with heap:=((s.heap.push (seqObj "list" #[] 0)).update ↥s (ft (· ++ [v].toArray))).push (seqObj "list" [v].toArray 0)};rw[hsz];show ar (ik (km Ay ⟨_,d,rfl⟩ Bd (TH d ⟨_,rfl,?_⟩) (Hh _)));show a_ ⟨.ref (↥s+1),rfl,?_⟩;obtain⟨e1,j⟩:=a1E s.heap [v] #[v];have F:L2.Φ X π σ (upd H (↥s+1) (.lst [x])) {s with heap:=sortedAll s.heap [v] #[v]} :=
  I.laid (t':=s.toks) (λb o e=>a1D e) (pf _) ⟨by rw[fw];simp,[v],e1,.cons l .nil,by simpa[seqObj] using j⟩
 show⟨.ref _,_,F,rfl,q _ (I.hok.fresh (pf _))⟩
theorem B0:eX X (.builtin "sorted") (λxs H Q=>EG xs H Q\/BZ xs H Q\/HN X.K xs H Q):=by
 intro π s σ H xs us Q I r h;rcases h with h|h|h
 .exact kL π s σ H xs us Q I r h
 .exact pJ π s σ H xs us Q I r h
 .exact BY π s σ H xs us Q I r h
def TJ:F1
 |[.lst ds],Q=>∃a,mV ds=ae a/\⇑a<64/\(∀t∈a,t≠[])/\Q (.lst ((rE a).map nR))
 |_,_=>False
def TK(h:Z0 d=ae t):d=nR t:=by
 cases d<;>first|cases h;done|skip
 rename_i ds;delta nR;rw[<- ints_of h]
theorem zK:∀{ds:List D} {a:Q0a},mV ds=ae a->ds=a.map nR
 |[],a,h=>by cases h;rfl
 |d::ds,a,h=>by delta mV at h;obtain⟨t,e1,h⟩:=bnd h;obtain⟨us,j,rfl⟩:=rQ h;rw[bu,TK e1,zK j]
def Zm{K:aq}{S:ai->Prop}{H:Hp}{t:Q0e}{v:V}(h:Dn K S H (nR t) v):∃p,v=.ref p/\H p=ae (.tup (t.map V.int)):=by delta nR at h;symm at h;obtain⟨a,xs,rfl,d,j⟩:=h;rw[aK.ints.mp j] at d;show⟨a,rfl,d⟩
theorem ET{K:aq}{S:ai->Prop}{H:Hp}:∀{d:Q0a} {ys:List V},aK K S H (d.map nR) ys ->∃a:List ai,ys=a.map V.ref/\⇑a=⇑d /\∀(j:Nat) (p:ai) (t:Q0e),a[j]?=ae p->d[j]?=ae t->H p=ae (.tup (t.map V.int))
 |[],ys,h=>by erw[m_,aK] at h;show⟨[],h,rfl,λj p t e=>by simp at e⟩
 |t::d,ys,h=>by
  obtain⟨v,r,rfl,y,h2⟩:=aK.bA h;obtain⟨p,rfl,m⟩:=Zm y;obtain⟨a,rfl,o,x⟩:=ET h2;show⟨p::a,rfl,by simp[o],λj q u e1 l=>?_⟩
  cases j with
  |zero=>cases e1;cases l;show m
  |succ j=>show x j q u ↑e1 ↑l
def TL(a:Q0a):(cx ⇑a).map (jX a)=a:=by
 show rn λi=>?_;rw[c_];by_cases h:i<⇑a
 .rw [p0 h];simp[jX,h]
 .rw [ji ↑h,ji ↑h];rfl
theorem TN{K:aq}:C3F K (λxs H Q=>EG xs H Q\/BZ xs H Q\/HN K xs H Q) TJ:=by
 intro S H xs ds Q3 Q fc hd d k
 match ds,d with
 |[.lst es],d =>
  obtain⟨v,r,rfl,h1,h2⟩:=hd.bA;erw[aK] at h2;subst h2;symm at h1;obtain⟨a,ys,rfl,Z,sa,da⟩:=h1;obtain⟨L,e,I,h,q⟩:=d;rw[zK e] at da;obtain⟨F,rfl,m,y⟩:=ET da;have one:∀(p:ai) (t:Q0e) (H':Hp) (S':ai->Prop),ξ H H'->H p=ae (.tup (t.map V.int))->Dn K S' H' (nR t) (.ref p):=λp t H' S' O o=>by delta nR;symm;show⟨p,_,rfl,O _ _ o,aK.ints.mpr rfl⟩
  match L,m,y,I,h,q with
  |[],m,y,I,h,q =>
   have:F=[]:=ng.mp m;subst this;show .inl ⟨a,[],rfl,Z,⋯,λU o _ p d=>?_⟩;have:U=[]:=Ie.mp o;subst this;show k p [] _ [] d aM (aI d) (by erw[aK]) q
  |[t],m,y,I,h,q =>
   obtain⟨p,rfl⟩:∃p,F=[p]:=by
    match F,m with
    |[p],_=>show⟨p,rfl⟩
   show .inr (.inl ⟨a,.ref p,rfl,Z,λl d=>k l [.ref p] _ [nR t] d aM (aI d) (aK.one (one p t _ _ (aI d) (y 0 p t rfl rfl))) q⟩)
  |t1::t2::L,m,y,I,h,q =>
   generalize hT:t1::t2::L=T at *;show .inr (.inr ⟨a,F,T,rfl,Z,m,by rw[<- hT];simp,I,λj p t e1 e2=>⟨eV.of (y j p t e1 e2),h t (ko e2)⟩,λJ o hu l d=>?_⟩);have hlen:⇑J=⇑T:=by rw[o.length_eq,jh]
   have es:rE T=J.map (jX T):=by
    show IH ((j4 T).trans ?_) (CI T) ?_
    .have:=(o.map (jX T)).symm;rw[TL] at this;show this
    .rw [UpT,pk,ur];intro i j A hj Y;have:=hu i j Y ∅;simpa[A,hj] using this
   have dn:∀(H':Hp),ξ H H' ->∀z:List Nat,(∀i∈z,i<⇑T)->aK K (λx=>S x/\x≠l) H' (z.map λi=>nR (jX T i)) (z.map λi=>V.ref (F.getD i 0)):=by
    intro H' O z
    induction z with
    |nil=>intro _;show aK.nil
    |cons i z ih =>
     intro NF;have A:=NF i de;show aK.cons (one _ _ _ _ O ?_) (ih λx hx=>NF x (fg _ hx));show y i _ _ (by simp[m,A]) (by simp[jX,A])
   show k l _ _ (J.map λi=>nR (jX T i)) d aM (aI d) (dn _ (aI d) J λi A=>by simpa using o.mem_iff.mp A) ?_;rw[es,di] at q;show q
def EU:nJ TJ mW:=λds d Q e q=>by
 delta mW at e;split at e
 .rename_i a;obtain⟨j,e1,e⟩:=bnd e;by_cases h:⇑j<64/\j.all (λt=>!t.isEmpty)=af
  .rw [Z_ h] at e;cases e;show⟨j,e1,h.1,λt l z=>?_,q⟩;have:=jk.mp h.2 t l;rw[z] at this;cases this
  .rw [Zz h] at e;cases e
 .cases e
def TQ(a:X.mg "sorted"=ag)(j:xP X [e] t)(d:Gl X "sorted"<|>0)(h:Zq X e []<|>0):mJ X (.Call (.Name "sorted" p) [e] [] ν) (cM mW t):=cF (BM B0 TN wd d a j ⋯ ⋯ h (by rfl)) (BQ EU)
end
open PySem.SeqAt
def Vs(i:Nat){a:dc}{f:SF}(h:rP X a f):rP X a (zk i f) :=
 jT h λB σ H l=>by obtain⟨H₀,S,w,ρ,G,E,j,a,d,ok⟩:=l;show⟨H₀,S,w,freeze ρ i,G,E,j,a.frozen,d,ok⟩
end L4
namespace L5
open PySem.Spec PyProof.Rows L2 L3 L4
open PySem.W Builtin.ObjectAttr Builtin.Getset_descriptor
structure C_ (K:aq) (C:ai):Prop where
 hc:isClsIn K C=af
 hm:mroIn K C (.type "object")=ae af
 hs:subIn K (.ref C) (.type "BaseException")=ae af
 hga:findIn K (.ref C) "__getattribute__"=ae (ae (.builtin "BaseException.__getattribute__"))
 hgg:findIn K (.ref C) "__getattr__"=ae ag
 ha:findIn K (.ref C) "__class__"=ae (ae (.builtin "object.__class__"))
 hn:specialIn K (.builtin "object.__class__") "__get__"=ae (ae (.builtin "getset_descriptor.__get__"))
 ht:takesIn K (.builtin "object.__class__")=ae af
variable{X:Cx}
def Zl(X:Cx)(e C:ai):Prop:=∃a:ay,(e,a)∈X.pn/\a.cls=.ref C
def hcx(X:Cx)(a:Option aj)(pn:Q0b):Cx:={X with A:=X.A.mark a,calm:=ah,pn:=pn,xe:=λ_ _=>False}
theorem NY(j:X.calm=af):eX X (.builtin "max") (λxs H Q=>∃a b,xs=[.int a,.int b]/\Q (.int (if b>a then b else a)) H):=by
 intro π s σ H xs us Q I r h;obtain⟨a,b,rfl,q⟩:=h;obtain⟨u1,u2,rfl,⟨t1,rfl⟩,⟨t2,rfl⟩⟩:=vals2 r;show max_two_ints (I.ok.hd j) λh' l d=>⟨_,H,I.kept d,?_,q⟩;by_cases z:b>a
 .rw [Z_ z,Z_ z];show⟨_,rfl⟩
 .rw [Zz z,Zz z];show⟨_,rfl⟩
def Fg(g:Int->Int->Int):F1
 |[.int a,.int b],Q=>Q (.int (g a b))
 |_,_=>False
theorem Y2{K:aq}{g:Int->Int->Int}:C3 K (λxs H Q=>∃a b,xs=[.int a,.int b]/\Q (.int (g a b)) H) (Fg g):=by
 intro S H xs ds Q3 Q p m d k
 match ds,d with
 |[.int a,.int b],d =>
  obtain⟨v,r,rfl,l,h2⟩:=m.bA;obtain⟨n,o,rfl,j,h⟩:=h2.bA;erw[aK] at h;subst h;symm at l j;subst l j;show⟨a,b,rfl,k _ H _ (ξ.refl H) (by symm) d⟩
def HP:nJ (Fg λa b=>if b>a then b else a) xV:=λds d Q e q=>by
 delta xV at e;split at e
 .cases e;show q
 .cases e
def Vq(m:X.calm=af)(h:X.mg "max"=ag)(n:xP X [a,b] t)(j:Gl X "max"<|>0)(l:(ax [a,b] X.env=(ah,eval a X.env)::ax [b] X.env)<|>0)(d:(d_ ν (ax [b] X.env)).any (·.1)=ah<|>0):bD X (.Call (.Name "max" p) [a,b] [] ν) (cM xV t) :=
 cE (vT (NY m) Y2 a1N j h n ⋯ ⋯ l d) (BQ HP)
variable{K:aq}{C D:ai}
structure Zk (K:aq) (C D:ai):Prop where
 ne:(f_ C == f_ D)=ah
 c:isClsIn K D=af
 t:typeIn K (.ref D)=ae (.type "type")
 s:subIn K (.ref C) (.ref D)=ae ah
end L5
namespace L5
open PySem.Spec PyProof.Rows L2 L3 L4
open KL
variable{X:Cx}
def Cz:F2
 |.lst a,.int n,Q=>⇑a*n.toNat<=bq /\ -(2^63)<=n/\n<2^63/\Q (.lst (cc n.toNat a).flatten)
 |_,_,_=>False
theorem K8{K:aq}{S:ai->Prop}{H:Hp}{ds:List D}{xs:List V}(h:aK K S H ds xs):∀n:Nat,aK K S H (cc n ds).flatten (cc n xs).flatten
 |0=>aK.nil
 |n+1=>by rw[gx,gx,ml,ml];show h.append (K8 h n)
def rep3(q:bY X a ta)(U:bY X b tb):G5 X (.BinOp a .Mult b ν) (fX Cz ta tb):=imp (J6 aCE q U) λσ H Q h=>by
 obtain⟨S,ρ,Q3,z,y,O,k⟩:=h;show⟨S,ρ,_,z,y,O,λv H1 d m F q1=>?_⟩;show⟨S,ρ,_,bC z m,Sl.fits (.same m) y,q1,λu H2 Y l j q2=>?_⟩;cases d<;>(try show q2.elim)<;>cases Y<;>try show q2.elim
 rename_i ds n;symm at F j;obtain⟨a,xs,rfl,q,Z,A⟩:=F;subst j;have x:=aK.fits (.same l) _ _ A;obtain⟨K,J,I,L⟩:=q2;show⟨a,n,xs,rfl,rfl,l _ _ q,J,I,by rw[<- A.len];show K,λp o=>k p _ _ _ ((m.trans l).free o) aM ((m.trans l).trans (aI o)) ?_ L⟩;show aK.fits ((Fits.fresh o).trans (.same (aI o))) _ _ (K8 x _)
def NZ:Tells Cz repLM:=λx y d Q e q=>by
 cases x<;>first|(cases e;done)|skip
 cases y<;>first|(cases e;done)|skip
 rename_i a n;have e:(if ⇑a*n.toNat<=jJ/\n.natAbs<9223372036854775808 then ae (D.lst (cc n.toNat a).flatten) else ag)=ae d:=e;by_cases h:⇑a*n.toNat<=jJ/\n.natAbs<9223372036854775808
 .rw [Z_ h] at e;cases e;show⟨by rw[fw];show h.1,by have:=h.2;lia,by have:=h.2;lia,q⟩
 .rw [Zz h] at e;cases e
def TR(h:bD X a fa)(d:bD X b fb):mJ X (.BinOp a .Mult b ν) (aC repLM fa fb):=cF (rep3 h d) (gM NZ)
theorem B1:∀(l:Q0e) (a M:Int),(M=a\/M∈l)->a<=M->(∀b∈l,b<=M)->l.foldl (λm b=>if m<b then b else m) a=M
 |[],a,M,h,_,_=>by
  rcases h with h|h
  .exact h.symm
  .cases h
 |b::l,a,M,h,ha,hb=>by
  have n:=hb b (by simp);rw[jr];by_cases d:a<b
  .rw [Z_ d];show B1 l b M ?_ n λc j=>hb c (by simp[j]);rcases h with h|h
   .omega
   .rcases cg.mp h with h|h
    .exact .inl h
    .exact .inr h
  .rw [Zz d];show B1 l a M ?_ ha λc j=>hb c (by simp[j]);rcases h with h|h
   .exact .inl h
   .rcases cg.mp h with h|h
    .exact .inl ∅
    .exact .inr h
end L5
namespace L6
open PySem.Spec PyProof.Rows
section
variable{Ω:bj}{w:bg}{A:bx}{E:Q0c}{s:ao}
theorem stored(ho:s.heap.get? a=ae o)(d:o.data=.set es ep t):
  (s.heap.update a (a01 es' t')).get? a=ae {o with data:=.set es' (ep+1) t' }:=by
 have q:=tw (a01 es' t') ho (by rw[putSet_of es' t' d];rfl)
 rwa [putSet_of es' t' d] at q
end
open L2 L3 L4
def HQ:fillsNumberSlot (.type "tuple") "mul"=pure ah :=
 PySem.fillsNumberSlot_seq (id:="tuple.__mul__") (r:=ae (.builtin "tuple.__rmul__")) Gu.lookup (by decide+kernel) a07.lookup (by decide+kernel)
def HR:seqRepeat? (.type "tuple")=pure (ae (.builtin "tuple.__mul__")):=by delta seqRepeat?;rw[a0x (T:="tuple") (name:="__mul__") (id:="tuple.__mul__") Gu.lookup (by decide+kernel),a0x (T:="tuple") (name:="__rmul__") (id:="tuple.__rmul__") a07.lookup (by decide+kernel)];rfl
section
variable{Ω:bj}{w:bg}{A:bx}{E:Q0c}{s:ao}
def TU(a:Int)(l:gu)(t:ai)(items:Array aj):vv (Builtin.«int.__rmul__» ⟨[.int a l,.ref t],[]⟩) (λ_ R s=>g_ s.heap t items/\R (.ok (.ret Value.notImplemented)) s):=by
 show .of_wp λp0 o y x s h=>?_;obtain⟨j,h⟩:=h;have p:=j.typeIs;obtain⟨q,m,n,v,d⟩:=id j
 wp_walk
 rw[d];show a_ ?_;show ar (iw (a_ ⟨_,rfl,h⟩))
theorem Y3(x:Int)(v:gu)(t:ai)(items:Array aj)(X:-(2^63:Int)<=x/\x<2^63)(m:items.size*x.toNat<=2^24):vv (Builtin.«tuple.__mul__» ⟨[.ref t,.int x v],[]⟩) (λ_ R s=>g_ s.heap t items /\
  (items.isEmpty=af\/x=1->R (.ok (.ret (.ref t))) s)/\(items.isEmpty=ah->x≠1->R (.ok (.ret (.ref ↥s))) {s with heap:=s.heap.push {cls:=.type "tuple",data:=.seq ((cc x.toNat items).foldl (· ++ ·) #[])} })):=by
 show .of_wp λp0 L Z Y s h=>?_;obtain⟨o,F,h2⟩:=h;have q:=o.typeIs;obtain⟨O,y,z,U,l⟩:=id o;have e1:(Zv (x < -2^63)||Zv (x >= 2^63))=ah:=by rw[Zy ∅,Zy ∅];rfl
 wp_walk
 rw[Zz (by rw[e1];decide)]
 wp_walk
 rw[l];apply a_;apply a_;by_cases j:(items.isEmpty||x == 1)=af
 .rw [Z_ j];show ar (ar (vj q (a_ ?_)));rw[Z_ ⋯];show ar (iw (a_ ⟨_,rfl,F ↑j⟩))
 .rw [Zz j];have a:items.isEmpty=ah/\x≠1:=by simpa using j
  have h2:=h2 a.1 a.2;dsimp only;by_cases p:x<=0
  .rw [Z_ (by rw[Zx p];rfl)];have e0:x.toNat=0:=∅
   rw[e0] at h2;show ar (ql (a_ ⟨_,rfl,h2⟩) (gw _))
  .have K:(items.size:Int)*x<=2^24:=by
    have J:x=(x.toNat:Int):=∅
    rw[J]
    exact_mod_cast m
   rw[Zz (by rw[Zy p,a.1];decide),Zz ∅,Zz (by delta a3L;rw[fw];simp;lia)];have I:∀(n:Nat) (d:Array aj),((cc n items).foldl (· ++ ·) d).size=d.size+n*items.size:=by
    intro n
    induction n with
    |zero=>intro d;simp
    |succ n ih=>intro d;rw[gx,jr,ih,a2V,uh];lia
   show ar (ql (a_ ⟨_,rfl,h2⟩) ?_);show((cc x.toNat items).foldl (· ++ ·) #[]).size<=bq;rw[I,fw,Hv];simpa using m
theorem Y4(a:g_ s.heap t items)(h:-(2^63:Int)<=x/\x<2^63)(d:items.size*x.toNat<=2^24)(j:items.isEmpty=af\/x=1->Q (.ref t) s)
  (h2:items.isEmpty=ah->x≠1->Q (.ref ↥s) {s with heap:=s.heap.push {cls:=.type "tuple",data:=.seq ((cc x.toNat items).foldl (· ++ ·) #[])} }):az (au Ω w) A (binaryOp .Mult (.ref t) (.int x u)) Q E s :=
 a0r (T:="tuple") (U:="int") ⋯ a.typeIs (λs'=>vn s' x u) HQ a1f Ap HR a1c.lookup
  (qp Ap (vn s x u) a1h (a1n _ _) (TU x u t items) ⟨a,rfl,a.typeIs,qp Gu a.typeIs PySem.F.entry_tuple_mul (PySem.F.args_tuple_mul_2 _ _) (Y3 x u t items h d) ⟨a,j,h2⟩⟩)
variable{X:Cx}
def Vp(K:aq):R2:=λx y H Q=>∃a n xs,x=.ref a/\y=.int n/\eV K H a xs/\(-(2^63)<=n/\n<2^63)/\⇑xs*n.toNat<=bq/\(xs=[]\/n=1->Q (.ref a) H)/\(xs≠[]->n≠1 ->∀p,H p=ag->Q (.ref p) (upd H p (.tup (cc n.toNat xs).flatten)))
theorem zL(items:Q0f):∀(n:Nat) (a:Array aj),((cc n items.toArray).foldl (· ++ ·) a).toList=a.toList++(cc n items).flatten
 |0,a=>by simp
 |n+1,a=>by rw[gx,jr,zL items n,gx,ml];simp
def Y5:iP X (binaryOp .Mult) (Vp X.K):=by
 intro π s σ H x y v u Q I L J h;obtain⟨a,n,xs,rfl,rfl,Z,Y,m,q1,q2⟩:=h;cases L;obtain⟨tk,rfl⟩:=J;obtain⟨d,l,O,_⟩:=I.tuple Z;have p:=⇑l;have q:d.toArray.isEmpty=af↔xs=[]:=by rw[<- ng,p];simp
 show Y4 (items:=d.toArray) O Y (by simpa[<- p,fw] using m) (λz=>?_) λj F=>?_
 .exact ⟨.ref a,H,I,rfl,q1 (z.imp q.1 id)⟩
 .have U:xs≠[]:=λz=>by rw[q.2 z] at j;cases j
  show⟨.ref ↥s,_,I.laid (t':=s.toks) (o:=.tup (cc n.toNat xs).flatten) (λb o e=>cy _ e) (bt _) ⟨?_,(cc n.toNat d).flatten,l.rep _,⟨_,fv _ rfl,rfl,0,?_⟩,A3.new _ _⟩,rfl,q2 U F _ (I.hok.fresh (bt _))⟩
  .have:⇑(cc n.toNat xs).flatten=⇑xs*n.toNat:=by simp[Hv]
   rw[this];show m
  .show a1p _ _=a1p _ _;congr 1;apply a2T.mp;rw[zL];simp
theorem EV{K:aq}{S:ai->Prop}{H:Hp}{ds:List D}{xs:List V}(h:aK K S H ds xs):∀n:Nat,aK K S H (cc n ds).flatten (cc n xs).flatten
 |0=>aK.nil
 |n+1=>by rw[gx,gx,ml,ml];show h.append (EV h n)
def TV(h:CD a b=ae d):∃ds n,a=.tup ds/\b=.int n/\(⇑ds*n.toNat<=jJ/\n.natAbs<9223372036854775808)/\d=.tup (cc n.toNat ds).flatten:=by
 delta CD at h;split at h
 .split at h
  .rename_i z;cases h;show⟨_,_,rfl,rfl,z,rfl⟩
  .cases h
 .cases h
def Vo(U:bD X a fa)(O:bD X b fb):bD X (.BinOp a .Mult b ν) (aC CD fa fb):=imp (J6 Y5 U O) λσ H Q Vn=>by
 obtain⟨S,ρ,Q3,K,x,⟨d,h,y⟩,k⟩:=Vn;obtain⟨dx,ex,h⟩:=bnd h;obtain⟨dy,Y,h⟩:=bnd h;obtain⟨ds,n,rfl,rfl,o,rfl⟩:=TV h;show⟨S,ρ,λz=>z=.tup ds,K,x,⟨_,ex,rfl⟩,λv H1 d1 l OJ e1=>?_⟩;subst e1;show⟨S,ρ,λz=>z=.int n,bC K l,Sl.fits (.same l) x,⟨_,Y,rfl⟩,λv2 H2 d2 m L Z=>?_⟩;subst Z;symm at L;subst L;have j:=Dn.fits (.same m) _ _ OJ;symm at j;obtain⟨t,xs,rfl,I,q⟩:=j;have F:=q.len;show⟨t,n,xs,rfl,rfl,(eV.of I),⟨by have:=o.2;lia,by have:=o.2;lia⟩,by rw[<- F,fw];show o.1,λz=>?_,λz1 z2 p J=>?_⟩
 .refine k _ H2 _ (l.trans m) ?_ y;have e:(cc n.toNat ds).flatten=ds:=by
   rcases z with z|z
   .have:ds=[]:=ng.mp (by rw[F,z];rfl);rw[this];simp
   .rw [z];simp
  rw[e];symm;show⟨t,xs,rfl,I,q⟩
 .refine k _ _ _ ((l.trans m).trans (aI J)) ?_ y;symm;show⟨p,_,rfl,aM,aK.fits (.same (aI J)) _ _ (EV q _)⟩
end
theorem EW(n:g_ s.heap t ι.toArray)(m:⇑ι<=bq)
  (h:∀h',↥s<=h'.objs.size->(∀b u,s.heap.get? b=ae u->h'.get? b=ae u)->Q ι {s with heap:=h' }):az (au Ω w) A (collect (.ref t)) Q E s:=by
 obtain⟨o,a,j,p,d⟩:=id n;delta collect;apply ar;apply Fv;show lp Gy ?_;rw[l_ Gw]
 wp_walk
 show⟨ll t_ _,lp Gz ?_⟩;rw[l_ t_];have l:(s.heap.push {cls:=.type "list",data:=.seq #[]}).get? ↥s=ae {cls:=.type "list",data:=.seq #[] 0}:=fv _ rfl;show a0o (R:=wants _ _) (s:={s with heap:=s.heap.push {cls:=.type "list",data:=.seq #[]} }) ↥s t _ 0 (.inr rfl) l (cy _ a) j d ?_ ↑m;have g1:=tw (ft (· ++ ι.toArray)) l rfl;apply ar;apply zv g1;have fin:=h ((s.heap.push {cls:=.type "list",data:=.seq #[]}).update ↥s (ft (· ++ ι.toArray))) (mh (cj g1)) λb u e=>(An _ _ (ny (cj e))).trans (cy _ e);show a_ ?_;simpa using fin
theorem HS(x:g_ s.heap t ι.toArray)(j:mf ι ns)(y:⇑ns<64)
  (h:∀h' o l out a e,(∀b u,s.heap.get? b=ae u->h'.get? b=ae u)->↥s<=l->mf out a->a.Perm ns->a.Pairwise (· <= ·)->h'.get? l=ae (seqObj "list" out.toArray e)->Q (.ref l) {s with heap:=h',toks:=o}):
  az (au Ω w) A (call (.builtin "sorted") [.ref t]) Q E s:=by
 have p:⇑ι<64:=by rw[IntsAre.length j];show y
 apply Ha Bb Az Bc (Hg _);delta Builtin.«sorted»;show ar (m:=checkCount "sorted" 1 1 _) (a_ (ar (EW (A:=A.in1) x (by rw[fw];lia) λn v keep=>?_)));apply ar;show ou ?_ (by rw[fw];lia);have g1:(n.push (seqObj "list" ι.toArray 0)).get? n.objs.size=ae (seqObj "list" ι.toArray 0):=fv _ rfl;show ar (ik (km Ay ⟨_,g1,rfl⟩ Bd (list_sort_tree g1 j p λout a I F z=>⟨_,rfl,?_⟩) (Hh _)));obtain⟨e,g2⟩:=a1C (out:=out) g1;show a_ ⟨_,rfl,h _ s.toks _ out.toList a e (λb u q=>?_) v I F z ↑g2⟩;have d:=cj (keep b u q);rw[a1B (gg d) (by rw[tu];show uj d)];show cy _ (keep b u q)
variable{X:Cx}
def Zj(K:aq):List V->Hp->VK->Prop:=λxs H Q=>∃(a:ai) (ns:Q0e),xs=[.ref a]/\eV K H a (ns.map V.int)/\⇑ns<64 /\∀d:Q0e,d.Perm ns->d.Pairwise (· <= ·) ->∀p,H p=ag->Q (.ref p) (upd H p (.lst (d.map V.int)))
def HU:eX X (.builtin "sorted") (Zj X.K):=by
 intro π s σ H xs us Q I r h;obtain⟨a,ns,rfl,z,A,q⟩:=h;obtain⟨u,rfl,x⟩:=vals1 r;cases x;obtain⟨O,v,y,U⟩:=I.tuple z;show HS y (intsAre_of v) A λh' p l out d e keep m J n F g=>?_;have j:⇑d<=bq:=by rw[n.length_eq,fw];lia
 have L:=I.laid (t':=p) (a:=l) (o:=.lst (d.map V.int)) keep m ⟨by rw[bb];show j,out,e,fL J,by simpa[seqObj] using g⟩;show⟨.ref l,_,L,rfl,q d n F l (I.hok.fresh m)⟩
def TX(K:X.mg "sorted"=ag)(U:xP X [e] t)(L:Gl X "sorted"<|>0)(O:Zq X e []<|>0):
  mJ X (.Call (.Name "sorted" p) [e] [] ν) (cM k8 t) :=
 imp (lQ HU L K wd U ⋯ ⋯ O (by rfl)) λσ H Q Vm=>by
  obtain⟨S,ρ,Q3,Y,I,⟨d,h,J⟩,k⟩:=Vm;obtain⟨ds,o,h⟩:=bnd h;show⟨S,ρ,λz=>z=ds,Y,I,⟨_,o,rfl⟩,λvs H1 z q A q1=>?_⟩;subst q1;delta k8 at h;split at h
  .rename_i a;obtain⟨ns,e1,h⟩:=bnd h;by_cases n:⇑ns<64
   .rw [Z_ n] at h;cases h;rw[ints_of e1] at A;obtain⟨v,r,rfl,y,h2⟩:=A.bA;erw[aK] at h2;subst h2;symm at y;obtain⟨t1,xs,rfl,x,dt⟩:=y;rw[aK.ints.mp dt] at x;show⟨t1,ns,rfl,eV.of x,n,λm pm F l j=>?_⟩;have Z:m=sortI ns:=nL (pm.trans (lW _).symm) F (jH _);subst Z;show k l _ _ _ (q.free j) aM (q.trans (aI j)) (aK.ints.mpr rfl) J
   .rw [Zz n] at h;cases h
  .cases h
end L6
namespace L7
open PySem.Spec PyProof.Rows L2 L3 L4 LL
def kI(ns:Q0e):List Key:=ns.map dm
def Vl(ns:Q0e):(kI ns).map kV=ns.map V.int:=by delta kI;rw[di];rfl
section
variable(rd:List Int->List (List Int))
abbrev All:ai->Prop:=λ_=>True
end
def At(K:aq)(x:Q0a)(a:Q0e)(p:ai)(σ:L2.St)(H:Hp):Prop :=
 ∃d h,σ[0]?=ae (ae d)/\Dn K All H (aF x) d/\σ[1]?=ae (ae h)/\Dn K All H (τ a) h/\σ[2]?=ae (ae (.ref p))
def At.key{K:aq}{x:Q0a}{a:Q0e}{p:ai}{σ:L2.St}{H:Hp}(h:At K x a p σ H):∃b,σ[1]?=ae (ae (.ref b))/\H b=ae (.tup ((kI a).map kV)):=by obtain⟨n,o,v,h2,l,d,q⟩:=h;delta τ at d;symm at d;obtain⟨b,ys,rfl,j,m⟩:=d;rw[aK.ints.mp m] at j;show⟨b,l,by rw[Vl];show j⟩
section
variable{K:aq}{rd:List Int->List (List Int)}{x:Q0a}{Ok:List Int->Prop}{a:Q0e}{p:ai}{σ:L2.St}{H:Hp}{χ:List (List Key×V)}
structure Parts (K:aq) (rd:List Int->List (List Int)) (x:Q0a) (a:Q0e) (C1:TT) (T1:TE) (T3:TS):Prop where
 c1:∀p σ H Q,At K x a p σ H->(∀H',ξ H H'->Q (Zv (⇑a=⇑x)) H')->C1 σ H Q
 t1:∀σ H (Q:VK),(∀H',ξ H H'->Q (.int 1) H')->T1 σ H Q
 t3:∀p (D:Ends) σ H,⇑σ=4->At K x a p σ H->⇑a<⇑x->(∀(σ':L2.St) (H':Hp) (l:ai) (ps:List ai),ξ H H'->At K x a p σ' H'->σ'[3]?=ae (ae (.ref l))->H' l=ae (.lst (ps.map V.ref))->⇑ps=⇑(rd a) ->
  (∀(i:Nat) (q:ai) (b:Q0e),ps[i]?=ae q->(rd a)[i]?=ae b->H' q=ae (.tup (b.map V.int)))->D.nx σ' H')->T3 D σ H
variable{Ω:bj}{w:bg}{A:bx}{E:Q0c}{s:ao}{d it:ai}{o:ay}{es:Array wb}{ep i:Nat}
theorem N0(n:(d == sysModules)=ah)(ho:s.heap.get? d=ae o)(l:o.ExactDict)(m:o.data=.dict es ep)
  (h:Q (.ref ↥s) {s with heap:=s.heap.push {cls:=.type "dict_keyiterator",data:=.fields #[.ref d,.int 0 0,.int es.size 0,.int ep 0]} }):az (au Ω w) A (pyIter (.ref d)) Q E s:=by
 have j:s.TypeIs (.ref d) "dict":=⟨o,ho,l.1⟩;show wpAny_pyIter_slot j a1d (km a1d j F.entry_dict_iter ?_ (F.args_dict_iter_1 _))
 (delta Builtin.«dict.__iter__»;wp_walk)
 rw[l.1,Zz ⋯]
 wp_walk
 rw[m];show a_ ?_
 wp_walk
 rw[m];show a_ ?_
 wp_walk
 show⟨.ref ↥s,rfl,"dict_keyiterator",_,⟨_,fv _ rfl,rfl⟩,v_.lookup,h⟩
theorem N2(v:s.heap.IsKeyIter it d i es.size ep)(ho:s.heap.get? d=ae o)(y:o.data=.dict es ep)(z:i<es.size)
  (h:∀h',h'.IsKeyIter it d (i+1) es.size ep->qv it s.heap h'->Q (ae es[i].key) {s with heap:=h' }):az (au Ω w) A (pyNext (.ref it)) Q E s:=by
 have q:=v.typeIs;obtain⟨J,l,n,j⟩:=id v;delta pyNext;show ar (zx (sy (name:=kc "__next__") q v_ (km v_ q a1i ?_ (a1o _))));delta Builtin.«dict_keyiterator.__next__»
 wp_walk
 rw[j,show((Al "dict_keyiterator").elim "dict_keyiterator" λx=>x.tpName)="dict_keyiterator" by rw[zy];kernel_rfl,Zz ⋯]
 wp_walk
 rw[y];show a_ ?_;rw[Zz (by simp)]
 wp_walk
 rw[y];show a_ ?_;rw[Zz (by simp)];show a_ ?_;dsimp only;rw[Zz ∅,gj,mq z];dsimp only
 wp_walk
 rw[j];dsimp only;simp only[show((Al "dict_keyiterator").elim "dict_keyiterator" λx=>x.tpName)="dict_keyiterator" by rw[zy];kernel_rfl,show a1v "dict_keyiterator"=ah from by decide,nj,if_false];generalize F:List.any _ _=bw;have I:bw=ah:=by rw[<- F];decide
 subst I;rw[Z_ (by simp),Zz ⋯];have g1:=tw (Gr λx=>x.setIfInBounds (0+1) (rawInt ((i:Int)+1))) l (a02 (Ak j _));have m:(s.heap.update it (Gr λx=>x.setIfInBounds (0+1) (rawInt ((i:Int)+1)))).IsKeyIter it d (i+1) es.size ep:=⟨_,g1,(a03 ..).trans n,by rw[Ak j];simp[rawInt]⟩;have fin:=h _ m (lz ..);show wpAny_update l ?_;have t1:Shared.TypeIs {s with heap:=s.heap.update it (Gr λx=>x.setIfInBounds (0+1) (rawInt ((i:Int)+1)))} (.ref it) "dict_keyiterator":=m.typeIs;show ar (ik (ar (wpAny_isOneOf_keyiter t1 ?_)));rw[Z_ ⋯];show a_ (a_ ⟨_,rfl,a_ fin⟩)
theorem TY(y:A.handled=ag)(m:s.heap.IsKeyIter it d i es.size ep)(ho:s.heap.get? d=ae o)(n:o.data=.dict es ep)(v:es.size<=i)
  (h:∀h',a05 it s.heap h'->Q ag {s with heap:=h' }):az (au Ω w) A (pyNext (.ref it)) Q E s:=by
 have l:=m.typeIs;obtain⟨I,q,z,j⟩:=id m;delta pyNext;show ar (zx (sy (name:=kc "__next__") l v_ (km v_ l a1i ?_ (a1o _))));delta Builtin.«dict_keyiterator.__next__»
 wp_walk
 rw[j,show((Al "dict_keyiterator").elim "dict_keyiterator" λx=>x.tpName)="dict_keyiterator" by rw[zy];kernel_rfl,Zz ⋯]
 wp_walk
 rw[n];show a_ ?_;rw[Zz (by simp)]
 wp_walk
 rw[n];show a_ ?_;rw[Zz (by simp)];show a_ ?_;dsimp only;rw[Zz ∅,gj,a2Y v];dsimp only
 wp_walk
 rw[j];dsimp only;simp only[show((Al "dict_keyiterator").elim "dict_keyiterator" λx=>x.tpName)="dict_keyiterator" by rw[zy];kernel_rfl,show a1v "dict_keyiterator"=ah from by decide,nj,if_false];rw[Z_ (by simp)]
 wp_walk
 have F:A.in1.handled=ag:=y;delta raiseNew;apply ar;apply a0l;rw[F];show ar (a_ (a0d (ar ?_)));show Fx (b:=af) (T:="StopIteration") ?_ isSubtype_stop ?_
 .exact ⟨_,fv _ rfl,rfl⟩
 apply a_;apply h;show((lz ..).extBut.push _).push _
end
end L7
namespace L8
open PySem.Spec PyProof.Rows L2
def fV(χ:List (KX×V×V))(k:KX):Option V:=(χ.find? λp=>Zv (p.1=k)).map (·.2.2)
def cL(χ:List (KX×V×V))(k:KX)(y v:V):List (KX×V×V):=if χ.any (λp=>Zv (p.1=k))=af then χ.map (λp=>if p.1=k then(p.1,p.2.1,v) else p) else χ++[(k,y,v)]
def OK(H:Hp):KX->V->Prop
 |.inl k,y=>y=kV k
 |.inr ks,y=>∃b,y=.ref b/\lN H ks b
def pK(χ:List (KX×V×V))(k:KX):Prop:=∀p∈χ,p.1.isLeft=k.isLeft
def EX(χ:List (KX×V×V))(k:KX)(y v:V):⇑(cL χ k y v)<=⇑χ+1:=by
 delta cL;split
 .rw [bb];lia
 .simp
abbrev PL:List (KX×V×V)->List (Key×aj)->Prop:=jd λp q=>p.1=.inl q.1/\p.2.1=kV q.1/\Ψ p.2.2 q.2
abbrev PT(H:Hp):List (KX×V×V)->List (N1×ai×aj)->Prop:=jd λp q=>p.1=.inr q.1/\p.2.1=.ref q.2.1/\lN H q.1 q.2.1/\Ψ p.2.2 q.2.2
theorem PL.val(r:PL χ vs)(k:Key):lM (fV χ (.inl k)) (valueAt vs k):=by
 induction r with
 |nil=>show kl
 | @cons p q ps qs h t ih =>
  by_cases e:q.1=k
  .have e1:p.1=.inl k:=by rw[h.1,e]
   have a:fV (p::ps) (.inl k)=ae p.2.2:=by delta fV;rw[ja,Zx e1];rfl
   have b:valueAt (q::qs) k=ae q.2:=by delta valueAt;rw[ja];simp[e]
   rw[a,b];show h.2.2
  .have e1:¬ p.1=.inl k:=λz=>e (by rw[h.1] at z;show sx z);have a:fV (p::ps) (.inl k)=fV ps (.inl k):=by delta fV;rw[ja,Zy e1]
   have b:valueAt (q::qs) k=valueAt qs k:=by delta valueAt;rw[ja];simp[e]
   rw[a,b];show ih
theorem PT.val(r:PT H χ xs)(k:N1):lM (fV χ (.inr k)) ((atKey xs k).map (·.2)):=by
 induction r with
 |nil=>show kl
 | @cons p q ps qs h t ih =>
  by_cases e:q.1=k
  .have e1:p.1=.inr k:=by rw[h.1,e]
   have a:fV (p::ps) (.inr k)=ae p.2.2:=by delta fV;rw[ja,Zx e1];rfl
   have b:atKey (q::qs) k=ae q.2:=by delta atKey;rw[ja];simp[e]
   rw[a,b];show h.2.2.2
  .have e1:¬ p.1=.inr k:=λz=>e (by rw[h.1] at z;show Fm z);have a:fV (p::ps) (.inr k)=fV ps (.inr k):=by delta fV;rw[ja,Zy e1]
   have b:atKey (q::qs) k=atKey qs k:=by delta atKey;rw[ja];simp[e]
   rw[a,b];show ih
theorem TZ(χ:List (KX×V×V))(k:KX):χ.any (λp=>Zv (p.1=k))=(fV χ k).isSome:=by
 delta fV;rw[we]
 induction χ with
 |nil=>rfl
 |cons p ps ih =>
  rw[kz,ja,ih];cases Zv (p.1=k)<;>rfl
def PL.put(r:PL χ vs)(k:Key)(a:Ψ v u):PL (cL χ (.inl k) (kV k) v) (stored vs k u):=by
 have e:χ.any (λp=>Zv (p.1=.inl k))=vs.any (λd=>d.1=k):=by
  induction r with
  |nil=>rfl
  | @cons p q ps qs h t ih =>
   rw[kz,kz,ih,h.1];congr 1;show decide_eq_decide.2 ⟨λz=>sx z,λz=>by rw[z]⟩
 delta cL stored;rw[e];split
 .rename_i hc
  clear hc e
  induction r with
  |nil=>show .nil
  | @cons p q ps qs h t ih =>
   rw[bu,bu];show .cons ?_ ih;by_cases z:q.1=k
   .rw [Z_ z,Z_ (by rw[h.1,z])];show⟨h.1,h.2.1,a⟩
   .rw [Zz z,Zz (λy=>z (by rw[h.1] at y;show sx y))];show h
 .exact Aj r ⟨rfl,rfl,a⟩
def PT.put(r:PT H χ xs)(k:N1)(d:lN H k b)(a:Ψ v u):PT H (cL χ (.inr k) (.ref b) v) (storedH xs k b u):=by
 have e:χ.any (λp=>Zv (p.1=.inr k))=(atKey xs k).isSome:=by rw[TZ];have:=(PT.val r k).mI;rw[we] at this;show this
 delta cL storedH;rw[e];split
 .rename_i hc
  clear hc e
  induction r with
  |nil=>show .nil
  | @cons p q ps qs h t ih =>
   rw[bu,bu];show .cons ?_ ih;delta putAt;by_cases z:q.1=k
   .rw [Z_ z,Z_ (by rw[h.1,z])];show⟨h.1,h.2.1,h.2.2.1,a⟩
   .rw [Zz z,Zz (λy=>z (by rw[h.1] at y;show Fm y))];show h
 .exact Aj r ⟨rfl,rfl,d,a⟩
section
variable{P:bj}{w:bg}{H:Hp}{h:bh}{a:ai}{o:ay}{χ:List (KX×V×V)}
def pL(ok:mL P w H h)(n:lN H ks b):(iN P w).is h ks b:=by
 obtain⟨vs,e,r⟩:=n;obtain⟨_,l,d,⟨q,y,h2,m,x⟩,_⟩:=(show cK P w H h b (.tup vs) from ok b _ e);have go:∀{ks:N1} {vs:List V} {us:Q0f},jd (vE H) ks vs->θ vs us->fU (aW P w) h ks us:=by
  intro ks vs us r
  induction r generalizing us with
  |nil=>intro d;cases d;show .nil
  | @cons k v ks vs i _ ih =>
   intro d
   cases d with
   | @cons _ u _ us j rt =>
    show .cons ?_ (ih rt)
    cases k with
    |inl k =>
     have i:v=kV k:=i;subst i;show rL j
    |inr k =>
     obtain⟨c,rfl,p⟩:=i;have j:u=.ref c:=j;show⟨c,j,BI ok p⟩
 show⟨q,l.toArray,m,y,h2,x,by simpa using go r d⟩
def wN(x:xC P w H o χ)(ho:h.get? a=ae o)(v:∀p∈χ,p.1.isLeft=af):∃vs,PL χ vs/\h.DictOf (aW P w) a vs:=by
 obtain⟨ex,j,l,m,n⟩:=x;rcases n with⟨vs,r,d,h2,z⟩|⟨xs,r,d,h2⟩
 .exact ⟨vs,r,o,j,l,ho,ex,m,d,h2,z⟩
 .cases r with
  |nil =>
   have e0:j.toList=[]:=d;have e1:j=#[]:=by simpa using e0
   subst e1;show⟨[],.nil,o,#[],l,ho,ex,m,(λ_ y=>by simp at y),.nil,uu⟩
  | @cons p q ps qs hq t =>
   have:=v p de;rw[hq.1] at this;cases this
def B2(ok:mL P w H h)(x:xC P w H o χ)(ho:h.get? a=ae o)(v:∀p∈χ,p.1.isLeft=ah):∃xs,PT H χ xs/\h.DictOfH (iN P w) a xs:=by
 obtain⟨ex,j,m,n,d⟩:=x;rcases d with⟨vs,r,l,h2,z⟩|⟨xs,r,l,h2⟩
 .cases r with
  |nil =>
   have e0:j.toList=[]:=a2y (by rw[⇑h2];rfl);show⟨[],.nil,o,j,m,ho,ex,n,e0,(λ_ y=>by simp at y),uu⟩
  | @cons p q ps qs hq t =>
   have:=v p de;rw[hq.1] at this;cases this
 .refine ⟨xs,r,o,j,m,ho,ex,n,l,?_,h2⟩;have go:∀{χ:List (KX×V×V)} {xs:List (N1×ai×aj)},PT H χ xs ->∀x∈xs,(iN P w).is h x.1 x.2.1:=by
   intro χ xs r
   induction r with
   |nil=>intro x d;cases d
   |cons hq _ ih =>
    intro x d;rcases cg.1 d with e|d
    .subst e;show pL ok hq.2.2.1
    .exact ih x d
  show go r
variable{X:Cx}{π:Q0b}{σ:L2.St}{s:ao}{y v z:V}{u r:aj}{A:bx}{E:Q0c}{k:KX}
def EY(I:Φ X π σ H s)(e:H a=ae (.dX o χ)):⇑χ<=bq/\(a == sysModules)=ah/\s.heap.get? a=ae o/\xC X.Ω X.w H o χ:=I.hok a _ e
def xu{k:Key}(kd:pK χ (.inl k)):∀p∈χ,p.1.isLeft=af:=kd
def xt{k:N1}(kd:pK χ (.inr k)):∀p∈χ,p.1.isLeft=ah:=kd
theorem N3(J:A.units+2<dq)(I:Φ X π σ H s)(e:H a=ae (.dX o χ))(j:OK H k y)(kd:pK χ k)(F:fV χ k=ae v)(q:Ψ y u)(h:∀d s',Φ X π σ H s'->Ψ v d->Q d s'):
  az (au X.Ω X.w) A (getItem (.ref a) u) Q E s:=by
 obtain⟨z,O,ho,x⟩:=EY I e
 cases k with
 |inl k =>
  have j:y=kV k:=j;subst j;obtain⟨vs,rel,m⟩:=wN x ho (xu kd);obtain⟨d,hw,n⟩:=lM.some_of (v:=v) (o:=valueAt vs k) (by rw[<- F];show PL.val rel k);show a0m (rL q) m.mapOf hw (h d _ (I.tok _) n)
 |inr k =>
  obtain⟨b,rfl,L⟩:=j;obtain rfl:u=f_ b:=q;obtain⟨xs,rel,m⟩:=B2 I.hok x ho (xt kd);obtain⟨d,hw,n⟩:=lM.some_of (v:=v) (o:=(atKey xs k).map (·.2)) (by rw[<- F];show PT.val rel k);obtain⟨p,K,l⟩:=jf.mp hw;show a0n (nest_room J) (pL I.hok L) m K ?_;rw[l];show h d _ (I.tok _) n
theorem Li(neg:Bool)(p:A.units+2<dq)(I:Φ X π σ H s)(e:H a=ae (.dX o χ))(l:OK H k y)(kd:pK χ k)(m:Ψ y u)(h:∀s',Φ X π σ H s'->Q (.bool (if neg then !(fV χ k).isSome else(fV χ k).isSome)) s'):
  az (au X.Ω X.w) A (compareOp (if neg then .NotIn else .In) u (.ref a)) Q E s:=by
 obtain⟨z,j,ho,n⟩:=EY I e
 cases k with
 |inl k =>
  have l:y=kV k:=l;subst l;obtain⟨vs,rel,d⟩:=wN n ho (xu kd);have ev:(fV χ (.inl k)).isSome=(valueAt vs k).isSome:=(PL.val rel k).mI;rw[ev] at h
  cases neg with
  |false=>show wpAny_in_of (rL m) j d.mapOf (h _ (I.tok _))
  |true=>show wpAny_notIn_of (rL m) j d.mapOf (h _ (I.tok _))
 |inr k =>
  obtain⟨b,rfl,q⟩:=l;obtain rfl:u=f_ b:=m;obtain⟨xs,rel,d⟩:=B2 I.hok n ho (xt kd);have ev:=(PT.val rel k).mI;rw[we] at ev;rw[ev] at h
  cases neg with
  |false=>show wpAny_in_heap (nest_room p) (pL I.hok q) j d (h _ (I.tok _))
  |true=>show wpAny_notIn_heap (nest_room p) (pL I.hok q) j d (h _ (I.tok _))
def T2(I:Φ X π σ H s)(e:H a=ae (.dX o χ)):s.TypeIs (.ref a) "dict":=by obtain⟨z,j,ho,d⟩:=EY I e;show⟨o,ho,d.1.1⟩
def T4{P:bj}{w:bg}{h':bh}{H':Hp}{χ:List (KX×V×V)}{vs:List (Key×aj)}(rel:PL χ vs)(F:h'.DictOf (aW P w) a vs):∃d,h'.get? a=ae d/\xC P w H' d χ:=by obtain⟨d,q,x,p,h2,n,m,l,j⟩:=F;show⟨d,p,h2,q,x,n,.inl ⟨vs,rel,m,l,j⟩⟩
def Y6{P:bj}{w:bg}{h':bh}{H':Hp}{χ:List (KX×V×V)}{xs:List (N1×ai×aj)}(rel:PT H' χ xs)(x:h'.DictOfH (iN P w) a xs):∃d,h'.get? a=ae d/\xC P w H' d χ:=by obtain⟨d,p,q,n,h2,m,l,_,j⟩:=x;show⟨d,n,h2,p,q,m,.inr ⟨xs,rel,l,j⟩⟩
def Y7{H:Hp}{a:ai}{o:ay}{χ:List (KX×V×V)}{u:HO}(e:H a=ae (.dX o χ)):∀b ys,H b=ae (.tup ys)->upd H a u b=ae (.tup ys):=λb ys d=>by rw[aP (Eu d e (λz=>nomatch z))];show d
theorem N4(Y:A.units+2<dq)(I:Φ X π σ H s)(e:H a=ae (.dX o χ))(m:OK H k y)(kd:pK χ k)(Z:⇑χ<bq)(F:Ψ y u)(J:Ψ v r)(h:∀d s',Φ X π σ (upd H a (.dX d (cL χ k y v))) s'->Q () s'):
  az (au X.Ω X.w) A (setItem (.ref a) u r) Q E s:=by
 obtain⟨z,U,ho,O⟩:=EY I e;have L:⇑(cL χ k y v)<=bq:=by have:=EX χ k y v;lia
 have K:Mut (H a):=by rw[e];show kl
 cases k with
 |inl k =>
  have m:y=kV k:=m;subst m;obtain⟨vs,rel,x⟩:=wN O ho (xu kd);have q:⇑vs<=bq:=by rw[<- tm rel];show z
  show a0e (hsz:=q) (rL F) x λh' j p=>?_;obtain⟨d,g1,g2⟩:=T4 (H':=upd H a (.dX o (cL χ (.inl k) (kV k) v))) (PL.put rel k J) j;show h d _ (tH I K p ⟨d,g1⟩ ⟨L,U,g1,g2.stay λb ys n=>by
   by_cases l:b=a
   .subst l;rw[aM] at n;cases n
   .rw [aP l] at n ⊢;show n⟩)
 |inr k =>
  obtain⟨b,rfl,l⟩:=m;obtain rfl:u=f_ b:=F;obtain⟨xs,rel,x⟩:=B2 I.hok O ho (xt kd);have q:⇑xs<=bq:=by rw[<- tm rel];show z
  show a0f (hsz:=q) (nest_room Y) (pL I.hok l) x λh' j p=>?_;obtain⟨d,g1,g2⟩:=Y6 (PT.put rel k l J) j;show h d _ (tH I K p ⟨d,g1⟩ ⟨L,U,g1,g2.stay (Y7 e)⟩)
end
open L7
def Ff(h ty:TE):TE:=λσ H Q=>h σ H λx H1=>ty σ H1 λy d=>∃a o χ k v,x=.ref a/\d a=ae (.dX o χ)/\OK d k y/\pK χ k/\fV χ k=ae v/\Q v d
def xr(neg:Bool)(ty h:TE):TE:=λσ H Q=>ty σ H λy H1=>h σ H1 λx d=>∃a o χ k,x=.ref a/\d a=ae (.dX o χ)/\OK d k y/\pK χ k/\Q (.bl (if neg then !(fV χ k).isSome else(fV χ k).isSome)) d
def Vk(j ty h:TE):TS:=λD σ H=>h σ H λv H1=>j σ H1 λx m=>ty σ m λy d=>∃a o χ k,x=.ref a/\d a=ae (.dX o χ)/\OK d k y/\pK χ k/\⇑χ<bq /\∀l,D.nx σ (upd d a (.dX l (cL χ k y v)))
def Vj:TE:=λ_ H Q=>∀p o,H p=ag->Q (.ref p) (upd H p (.dX o []))
variable{X:Cx}
section
variable{o i e f value:av}{ν pos':br}{td ty tv tz:TE}
def K9(q:X.A.units+2<dq)(ho:PE X o td)(J:PE X i ty)(z:G3 i):PE X (.Subscript o i ν) (Ff td ty):=by intro π s σ H Q I h;show KN a1e.lookup z (dB (ho π s σ H _ I h) λu j ⟨x,H1,O,m,q1⟩=>?_);show dB (J π j σ H1 _ O q1) λiv Z K=>?_;obtain⟨y,U,d,l,a,ob,χ,k,v,ex,e,F,kd,p,q2⟩:=K;subst ex;obtain rfl:u=f_ a:=m;show⟨T2 d e,N3 q d e F kd p l λY s3 L n=>⟨v,U,L,n,q2⟩⟩
def N5(m:X.A.units+2<dq)(p:PE X i ty)(ho:PE X o td):PC X .NotIn i o (xr af ty td):=by intro π s σ H Q I h;show dB (p π s σ H _ I h) λU d q=>?_;obtain⟨y,H1,J,j,q1⟩:=q;show dB (ho π d σ H1 _ J q1) λu L v=>?_;obtain⟨x,K,F,l,a,O,χ,k,ex,e,n,kd,q2⟩:=v;subst ex;obtain rfl:u=f_ a:=l;show Li af m F e n kd j λs3 z=>⟨.bl _,K,z,rfl,q2⟩
def Y8(F:X.A.units+2<dq)(ho:PE X o td)(O:PE X i ty)(z:PE X value tv)(J:gq value (ae (.Subscript o i pos')) ν.line X.env=pure ah):PS X (.Assign [.Subscript o i pos'] value ν) (Vk td ty tv):=by intro π s σ H D I h;show a0u (dB (z π s σ H _ I h) λr j ⟨v,H1,I1,n,q1⟩=>?_) J;show dB (ho π j σ H1 _ I1 q1) λu d U=>?_;obtain⟨x,H2,I2,m,q2⟩:=U;show dB (O π d σ H2 _ I2 q2) λiv s3 Y=>?_;obtain⟨y,H3,I3,l,a,ob,χ,k,ex,e,L,kd,K,p⟩:=Y;subst ex;obtain rfl:u=f_ a:=m;show N4 F I3 e L kd K l n λq s4 Z=>⟨σ,_,Z,p q⟩
def T5(h:bh)(d:sysModules<h.objs.size):cK P w H (h.push {cls:=.type "dict",data:=.dict #[]}) h.objs.size (.dX {cls:=.type "dict",data:=.dict #[]} []) :=
 ⟨gw _,beq_eq_false_iff_ne.mpr (gb (gg d)),fv _ rfl,⟨rfl,rfl,rfl⟩,#[],0,rfl,.inl ⟨[],.nil,(λ_ a=>by simp at a),.nil,uu⟩⟩
def Y9:PE X (.Dict [] [] ν) Vj:=λπ s σ H Q I h =>
 a0t ⟨.ref ↥s,_,I.laid (t':=s.toks) (λ_ _ q=>cy _ q) (bt _) (T5 s.heap I.big),rfl,h _ _ (I.hok.fresh (bt _))⟩
end
def Vd(h:(aW P w).is k u=af):Ψ (kV k) u:=by
 rcases bT h with⟨i,t,rfl,rfl⟩|⟨i,t,rfl,rfl⟩
 .exact ⟨t,rfl⟩
 .exact ⟨t,rfl⟩
def T6(x:xC P w H o χ):∃d n,o.data=.dict d n/\θ (χ.map (·.2.1)) (d.toList.map (·.key)) /\∀p∈χ,OK H p.1 p.2.1:=by
 obtain⟨_,d,n,z,v⟩:=x;show⟨d,n,z,?_⟩;rcases v with⟨vs,r,_,h2,_⟩|⟨xs,r,y,_⟩
 .have go:∀{χ:List (KX×V×V)} {vs:List (Key×aj)} {l:List wb},PL χ vs->Pairs (aW P w) l vs->θ (χ.map (·.2.1)) (l.map (·.key)) /\∀p∈χ,OK H p.1 p.2.1:=by
   intro χ vs l r
   induction r generalizing l with
   |nil=>intro h2;cases h2;show⟨.nil,λp m=>by cases m⟩
   | @cons p q ps qs hq t ih =>
    intro h2
    cases h2 with
    |cons k1 k2 k3 =>
     obtain⟨j,h⟩:=ih k3;show⟨.cons ?_ j,λp' a=>?_⟩
     .dsimp only;rw[hq.2.1];show Vd k1
     .rcases cg.1 a with e|a
      .subst e;rw[hq.1,hq.2.1];rfl
      .exact h p' a
  show go r h2
 .have go:∀{χ:List (KX×V×V)} {xs:List (N1×ai×aj)},PT H χ xs->θ (χ.map (·.2.1)) ((xs.map (entryOfKey (iN P w))).map (·.key)) /\∀p∈χ,OK H p.1 p.2.1:=by
   intro χ xs r
   induction r with
   |nil=>show⟨.nil,λp m=>by cases m⟩
   | @cons p q ps qs hq t ih =>
    obtain⟨j,h⟩:=ih;show⟨.cons ?_ j,λp' a=>?_⟩
    .dsimp only;rw[hq.2.1];rfl
    .rcases cg.1 a with e|a
     .subst e;rw[hq.1,hq.2.1];show⟨_,rfl,hq.2.2.1⟩
     .exact h p' a
  rw[y];show go r
open L3 L4
section
variable{K:aq}{S:ai->Prop}{H:Hp}
def ZA(h:Dn K S H d v)(e:tY d=ae k):v=kV k:=by cases d<;>erw[tY] at e<;>cases e<;>symm at h<;>show h
theorem EZ:∀{ds:List D} {xs:List V} {ks:List Key},aK K S H ds xs->xX ds=ae ks->xs=ks.map kV
 |[],xs,ks,h,e=>by erw[aK] at h;cases e;show h
 |d::ds,xs,ks,h,e=>by obtain⟨v,r,rfl,j,h2⟩:=h.bA;obtain⟨k,l,e⟩:=bnd e;obtain⟨a,m,rfl⟩:=rQ e;rw[ZA j l,EZ h2 m];rfl
theorem T7(h:Dn K S H d v)(e:OS d=ae k):vE H k v:=by
 cases d with
 |tup ds =>
  obtain⟨ks,l,rfl⟩:=rQ e;symm at h;obtain⟨a,xs,rfl,j,dn⟩:=h;rw[EZ dn l] at j;show⟨a,rfl,j⟩
 |int i=>cases e;symm at h;show h
 |str i=>cases e;symm at h;show h
 |_=>cases e
theorem zM:∀{ds:List D} {xs:List V} {ks:N1},aK K S H ds xs->k9 ds=ae ks->jd (vE H) ks xs
 |[],xs,ks,h,e=>by erw[aK] at h;cases e;subst h;show .nil
 |d::ds,xs,ks,h,e=>by obtain⟨v,r,rfl,j,h2⟩:=h.bA;obtain⟨k,l,e⟩:=bnd e;obtain⟨a,m,rfl⟩:=rQ e;show .cons (T7 j l) (zM h2 m)
theorem tK(h:Dn K S H d v)(e:lB d=ae k):OK H k v:=by
 cases d with
 |tup ds =>
  obtain⟨ks,l,rfl⟩:=rQ e;symm at h;obtain⟨a,xs,rfl,j,dn⟩:=h;show⟨a,rfl,xs,j,zM dn l⟩
 |int i=>cases e;symm at h;show h
 |str i=>cases e;symm at h;show h
 |_=>cases e
def T9(k:Key):Dn K S H (dK k) (kV k):=by cases k<;>erw[dK,Dn]<;>rfl
theorem UA:∀ks:List Key,aK K S H (ks.map dK) (ks.map kV)
 |[]=>aK.nil
 |k::ks=>aK.cons (T9 k) (UA ks)
theorem zN:∀{ks:N1} {vs:List V},jd (vE H) ks vs->aK K S H (ks.map OT) vs
 |_,_,.nil=>aK.nil
 |k::ks,v::vs,.cons h t=>by
  show aK.cons ?_ (zN t)
  cases k with
  |inl k =>
   have h:v=kV k:=h;subst h;show T9 k
  |inr k =>
   obtain⟨b,rfl,a⟩:=h;erw[OT,Dn];show⟨b,_,rfl,a,UA k⟩
theorem Zi(h:OK H k v):Dn K S H (Z1 k) v:=by
 cases k with
 |inl k =>
  have h:v=kV k:=h;subst h;show T9 k
 |inr k =>
  obtain⟨b,rfl,vs,a,r⟩:=h;erw[Z1,Dn];show⟨b,vs,rfl,a,zN r⟩
theorem wQ:∀{χ:List (KX×V×V)} {ds:List D},aK K S H ds (χ.map (·.2.2))->(∀d,aQ (χ.map (·.1)) ds k=ae d ->∃v,fV χ k=ae v/\Dn K S H d v)/\(aQ (χ.map (·.1)) ds k=ag->fV χ k=ag)
 |[],ds,h=>⟨λd e=>by simp[aQ] at e,λ_=>rfl⟩
 |p::χ,ds,h=>by
  cases ds with
  |nil=>show Zw h.len (by simp)
  |cons d0 ds =>
   obtain⟨v,r,e1,l,h2⟩:=h.bA;rw[bu] at e1;cases e1;have j:=wQ (k:=k) (χ:=χ) (ds:=ds) h2;by_cases e:p.1=k
   .have a:aQ ((p::χ).map (·.1)) (d0::ds) k=ae d0:=by simp[aQ,e]
    have b:fV (p::χ) k=ae p.2.2:=by simp[fV,e]
    rw[a,b];show⟨λd m=>by cases m;show⟨_,rfl,l⟩,λz=>nomatch z⟩
   .have a:aQ ((p::χ).map (·.1)) (d0::ds) k=aQ (χ.map (·.1)) ds k:=by simp[aQ,e]
    have b:fV (p::χ) k=fV χ k:=by simp[fV,e]
    rw[a,b];show j
def B3(h:kindB (χ.map (·.1)) k=af):pK χ k:=λp a=>by delta kindB at h;rw[jk] at h;simpa using h p.1 (rj a)
theorem Vc(a:Dn K S H d v):∀{χ:List (KX×V×V)} {ds:List D},aK K S H ds (χ.map (·.2.2)) ->
  (L8.cL χ k y v).map (·.1)=(L4.cL (χ.map (·.1)) ds k d).1/\aK K S H (L4.cL (χ.map (·.1)) ds k d).2 ((L8.cL χ k y v).map (·.2.2)):=by
 intro χ ds h;have e:(χ.map (·.1)).any (λq=>Zv (q=k))=χ.any (λp=>Zv (p.1=k)):=by rw[Iz];rfl
 delta L8.cL L4.cL;rw[e];split
 .refine ⟨?_,?_⟩
  .erw[di];show kr λp _=>?_;show(if p.1=k then(p.1,p.2.1,v) else p).1=p.1;split<;>rfl
  .dsimp only;have go:∀{χ:List (KX×V×V)} {ds:List D},aK K S H ds (χ.map (·.2.2))->aK K S H (((χ.map (·.1)).zip ds).map λp=>if p.1=k then d else p.2) ((χ.map λp=>if p.1=k then(p.1,p.2.1,v) else p).map (·.2.2)):=by
    intro χ
    induction χ with
    |nil=>intro ds h;cases ds with
     |nil=>show aK.nil
     |cons d0 ds=>show Zw h.len (by simp)
    |cons p χ ih =>
     intro ds h
     cases ds with
     |nil=>show Zw h.len (by simp)
     |cons d0 ds =>
      obtain⟨u,r,e1,j,h2⟩:=h.bA;rw[bu] at e1;cases e1;show aK.cons ?_ (ih h2);by_cases z:p.1=k
      .simpa [z] using a
      .simpa [z] using j
   show go h
 .refine ⟨by simp,?_⟩;rw[gy];show h.append (aK.one a)
end
section
theorem Lh(I:X.A.units+2<dq)(ho:bD X o fo)(K:bD X i fi)(J:G3 i<|>8):bD X (.Subscript o i ν) (aC Ef fo fi):=imp (K9 I ho K J) λσ H Q Vb=>by
 obtain⟨S,ρ,Q3,F,n,⟨d,e,q⟩,k⟩:=Vb;obtain⟨x,ex,e⟩:=bnd e;obtain⟨y,O,e⟩:=bnd e;show⟨S,ρ,λd=>d=x,F,n,⟨x,ex,rfl⟩,λv H1 d1 j h e1=>?_⟩;subst e1;show⟨S,ρ,λd=>d=y,bC F j,Sl.fits (.same j) n,⟨y,O,rfl⟩,λu H2 d2 p DZ Y=>?_⟩;subst Y;have h:=Dn.fits (.same p) _ _ h
 cases d1 with
 |aY q0 ks ds =>
  obtain⟨z,U,e⟩:=bnd e;symm at h;obtain⟨a,o,χ,rfl,L,sa,⟨rfl,_⟩,da⟩:=h;by_cases l:kindB (χ.map (·.1)) z=af
  .rw [Z_ l] at e;obtain⟨m,ev,Z⟩:=(wQ da).1 d e;show⟨a,o,χ,z,m,rfl,L,tK DZ U,B3 l,ev,k m H2 d (j.trans p) Z q⟩
  .rw [Zz l] at e;cases e
 |_=>cases e
theorem UB(h:lift X.K (wE (aC (uB neg) fi fo)) σ H Q):xr neg (lift X.K (wE fi)) (lift X.K (wE fo)) σ H Q:=by
 obtain⟨S,ρ,Q3,A,p,⟨d,e,q⟩,k⟩:=h;obtain⟨x,ex,e⟩:=bnd e;obtain⟨y,L,e⟩:=bnd e;show⟨S,ρ,λd=>d=x,A,p,⟨x,ex,rfl⟩,λv H1 d1 l n e1=>?_⟩;subst e1;show⟨S,ρ,λd=>d=y,bC A l,Sl.fits (.same l) p,⟨y,L,rfl⟩,λu H2 Z z I Y=>?_⟩;subst Y;have n:=Dn.fits (.same z) _ _ n
 cases Z with
 |aY q0 ks ds =>
  obtain⟨j,O,e⟩:=bnd (o:=lB d1) e;symm at I;obtain⟨a,o,χ,rfl,J,sa,⟨rfl,_⟩,F⟩:=I;by_cases m:kindB (χ.map (·.1)) j=af
  .rw [Z_ m] at e;cases e;have ev:(fV χ j).isSome=(aQ (χ.map (·.1)) ds j).isSome:=by
    cases hl:aQ (χ.map (·.1)) ds j with
    |none=>rw[(wQ F).2 hl];rfl
    |some d3=>obtain⟨v3,U,_⟩:=(wQ F).1 d3 hl;rw[U];rfl
   show⟨a,o,χ,j,rfl,J,tK n O,B3 m,?_⟩;rw[ev];show k _ H2 _ (l.trans z) (by symm) q
  .rw [Zz m] at e;cases e
 |_=>cases e
section
variable{o i:av}{ν:br}{fo fi:EF}
def N6(h:liftT X.K (wT (tV (aC (uB neg) fi fo))) σ H Q):tB (xr neg (lift X.K (wE fi)) (lift X.K (wE fo))) σ H Q:=by
 obtain⟨S,ρ,Q3,n,j,⟨b,e,q⟩,k⟩:=h;obtain⟨d,e1,A⟩:=bnd e;have p:d=.bl b:=by
  obtain⟨x,ex,e⟩:=bnd e1;obtain⟨y,F,e⟩:=bnd e
  cases y with
  |aY q0 ks ds =>
   obtain⟨m,I,e⟩:=bnd (o:=lB x) e;by_cases a:kindB ks m=af
   .rw [Z_ a] at e;cases e;cases A;rfl
   .rw [Zz a] at e;cases e
  |_=>cases e
 subst p;show UB ⟨S,ρ,λd=>d=.bl b,n,j,⟨_,e1,rfl⟩,λv H1 d l dn z=>?_⟩;subst z;symm at dn;show⟨b,dn,k b H1 l q⟩
def HV(a:X.A.units+2<dq)(h:bD X i fi)(ho:bD X o fo)(d:behindInMarks .NotIn o=ah<|>5):wW X (.Compare i [.NotIn] [o] ν) (tV (aC (uB af) fi fo)):=RM (aB0 (N5 a h ho) d) λ_ _ _=>N6
end
end
def UC(hN:X.N.Nodup)(j:X.N[i]?=ae x<|>0)(m:Loc X.env.scope x<|>2)(q:gq (.Dict [] [] p) (ae (.Name x pos')) ν.line X.env=pure ah<|>0)(v:Zp X x<|>2):
  rP X (.Assign [.Name x pos'] (.Dict [] [] p) ν) (II i):=jT (nE hN j m Y9 q v) λB σ H ⟨H₀,S,w,ρ,G,E,h,l,n,ok⟩=>λp o a =>
 ok.nx _ _ _ _ (by rw[jo];show h) (l.G4 (d:=.aY gX [] []) (by rw[h];show iR j) (aI a) a ⟨o,[],aM,⟨rfl,trivial⟩,aK.nil⟩) n
def jA(h:zT o=ae p):o=ae (.ow (.aY p.1 p.2.1 p.2.2)):=by
 delta zT at h;split at h
 .cases h;rfl
 .cases h
theorem LA(hu:X.A.units+2<dq)(he:NK X e f)(hk:bD X k fk)
  (hN:X.N[i]?=ae x<|>0) (hv:xF X.env.scope x<|>3) (hd:Zu x<|>1) (U:Zt x<|>1)
  (hs:gq e (ae (.Subscript (.Name x p) k pos')) ν.line X.env=pure ah<|>0):
  rP X (.Assign [.Subscript (.Name x p) k pos'] e ν) (iE i f fk):=jT (Y8 hu (iO hN hv hd U) hk he hs) λB σ H Va=>by
 obtain⟨H₀,S,w,ρ,G,E,hl,st,I,ok⟩:=Va;delta wS iE at I;cases h:((f ρ).bind λp=>(zT p.1[i]?).bind λkd=>(fk (bH p.1)).bind λL=>(lB L).bind λm =>
  if kindB kd.2.1 m=af/\⇑kd.2.2<jJ then ae (p.1.set i (.ow (.aY (adr kd.1) (L4.cL kd.2.1 kd.2.2 m p.2).1 (L4.cL kd.2.1 kd.2.2 m p.2).2))) else ag) with
 |none=>rw[h] at I;show I.elim
 |some ρ2 =>
  rw[h] at I;obtain⟨⟨ρ1,d1⟩,eq,h⟩:=bnd h;obtain⟨⟨q0,ks,ds⟩,ed,h⟩:=bnd h;obtain⟨L,ek,h⟩:=bnd h;obtain⟨m,e2,h⟩:=bnd h;have J:=jA ed;by_cases O:kindB ks m=af/\⇑ds<jJ
  .rw [Z_ O] at h;cases h;show⟨H₀,S,w,ρ,G,λj d=>j=ρ1/\d=d1,hl,st,⟨_,eq,rfl,rfl⟩,λn v H' j d l dv q'=>?_⟩;obtain⟨rfl,rfl⟩:=q';obtain⟨a0,_,_⟩:=l.own i _ J;show⟨_,a0,S,bH j,λy=>y=L,l.RL,l.all,⟨L,ek,rfl⟩,λy H2 y' Y dy ey=>?_⟩;subst ey;have q:=l.same Y;obtain⟨a,b,c⟩:=q.own i _ J;obtain⟨o,χ,hp,⟨e5,hq⟩,dn⟩:=c;subst e5;have nS:¬ SO S n j (n i):=λ⟨_,z⟩=>z i _ J rfl;show⟨n i,o,χ,m,rfl,hp,tK dy e2,B3 O.1,?_,λZ=>?_⟩
   .have:=dn.len;rw[bb] at this;rw[fw,<- this];show O.2
   .have F:Fits X.K (SO S n j) (SO S n j) H2 (upd H2 (n i) (.dX Z (L8.cL χ m y v))):=.upd (.inr (.inr ⟨_,_,hp⟩)) nS;obtain⟨p1,p2⟩:=Vc (k:=m) (y:=y) (Dn.fits (.same Y) _ _ dv) dn;show ok.nx n σ _ _ hl (q.write (d':=.aY (adr q0) _ _) J ⟨Z,_,aM,⟨p1,o,hq⟩,aK.fits F _ _ p2⟩) I
  .rw [Zz O] at h;cases h
theorem qY{K:aq}{H₀ H H':Hp}{S:ai->Prop}{w:Nat->ai}{σ:L2.St}{ρ:bB}{G:List (D×V)}{i:Nat}{d d':D}(h:ST K H₀ S w σ H ρ G)(e:ρ[i]?=ae (Sv.ow d))(v:∀b u,b≠w i->H b=ae u->H' b=ae u)(q:sI K (SO S w ρ) H' d' (w i))(Z:(∀xs,d'≠.rws xs)<|>10):ST K H₀ S w σ H' (ρ.set i (.ow d')) G:=by
 obtain⟨a0,J,c0⟩:=h.own i d e;have wr:=c0.wr;have A:SO S w (ρ.set i (.ow d'))=SO S w ρ:=by
  funext a
  show propext ⟨λ⟨s,n⟩=>⟨s,λj f p=>?_⟩,λ⟨s,n⟩=>⟨s,λj f p=>?_⟩⟩
  .by_cases l:j=i
   .subst l;show n j d' (by rw[nh (df.1 e).1])
   .exact n j f (by rw[jq (gb l)];show p)
  .by_cases l:j=i
   .subst l;show n j d e
   .exact n j f (by rw[jq (gb l)] at p;show p)
 have I:∀a,SO S w ρ a->a≠w i:=λa z=>z.2 i d e;have U:∀a xs,H a=ae (.tup xs)->a≠w i:=λa xs z y=>by subst y;rcases wr with⟨_,k⟩|⟨_,k⟩|⟨_,_,k⟩<;>rw[z] at k<;>cases k
 have X:∀a o u,H a=ae (.tF o u)->a≠w i:=λa o u z y=>by subst y;rcases wr with⟨_,k⟩|⟨_,k⟩|⟨_,_,k⟩<;>rw[z] at k<;>cases k
 have F:Fits K (SO S w ρ) (SO S w ρ) H H':=⟨λa xs z=>v _ _ (U a xs z) z,λa ns z=>z.elim (λ⟨o,y⟩=>.inl ⟨o,v _ _ (X a o _ y) y⟩) .inr,λa xs z s=>⟨v _ _ (I a s) z,s⟩,λa xs z s=>⟨v _ _ (I a s) z,s⟩,λa o xs z s=>⟨v _ _ (I a s) z,s⟩⟩;show⟨h.fc,λb u z=>v b u (aT z J) (h.sm b u z),λj f p=>?_,λj k d1 e1 h1 h2 z=>?_,λj f p=>?_,λg hg=>by rw[A];show Dn.fits F _ _ (h.gh g hg),λj xs Y=>?_⟩
 rotate_right
 .rcases get_set Y with⟨_,z,_⟩|⟨l,z⟩
  .exact Zw (Sv.ow.inj z).symm (Z xs)
  .exact h.rwN z λO x=>v _ _ (λy=>l (h.inj _ _ _ _ z e y)) x
 .rw [A];rcases get_set p with⟨l,z,_⟩|⟨l,z⟩
  .cases z;subst l;show⟨a0,J,q⟩
  .obtain ⟨a,b,c⟩:=h.own j f z;show⟨a,b,c.fits F λO x=>v _ _ (λy=>l (h.inj _ _ _ _ z e y)) x⟩
 .have old:∀{m:Nat} {y:D},(ρ.set i (.ow d'))[m]?=ae (Sv.ow y) ->∃L,ρ[m]?=ae (Sv.ow L):=λ{m y} hm=>by
   rcases get_set hm with⟨l,_,_⟩|⟨_,z⟩
   .subst l;show⟨d,e⟩
   .exact ⟨_,z⟩
  obtain⟨_,g1⟩:=old h1;obtain⟨_,g2⟩:=old h2;show h.inj j k _ _ g1 g2 z
 .rw [A];rcases get_set p with⟨_,z,_⟩|⟨l,z⟩
  .cases z
  .obtain ⟨u,a,b⟩:=h.ro j f z;show⟨u,a,Dn.fits F f u b⟩
def xR(K:aq)(R:sC):Sp:=λvs H Q _=>∃(T:ai->Prop) (ds:List D) (us:List V) (p:ai) (o:ay) (χ:List (KX×V×V)) (xs:List D) (r:D×KD),vs=us++[.ref p]/\(∀a,H a=ag->T a)/\¬ T p/\H p=ae (.dX o χ)/\aK K T H ds us/\aK K T H xs (χ.map (·.2.2))/\R ds (χ.map (·.1),xs)=.ok r /\
 ∀v H' h d,(∀b u,b≠p->H b=ae u->H' b=ae u)->H' p=ae (.dX h d)->d.map (·.1)=r.2.1->aK K T H' r.2.2 (d.map (·.2.2))->Dn K T H' r.1 v->Q v H'
inductive jI (K:aq) (t:AF) (j:Nat) (σ:L2.St) (H:Hp) (Q:(List V->Hp->Prop)):Prop
 |mk (S:ai->Prop) (ρ:cN) (ds:List D) (p:ai) (h1:(∀a,H a=ag->S a)) (h2:Sl K S H ρ σ) (h3:t ρ=ae ds) (h4:σ[j]?=ae (ae (.ref p))) (h5:∀vs H',ξ H H'->aK K S H' ds vs->Q (vs++[.ref p]) H'):jI K t j σ H Q
def jY(x:bD X e f)(q:PA X es (jI X.K g j))(o:Zq X e es<|>0):PA X (e::es) (jI X.K (aA f g) j) :=
 RN (eR x q o) λσ H Q I=>by obtain⟨S,ρ,ds,p,n,l,a,A,k⟩:=I;obtain⟨d,F,a⟩:=bnd a;obtain⟨r,z,a⟩:=bnd a;cases a;show⟨S,ρ,λy=>y=d,n,l,⟨d,F,rfl⟩,λv H1 U h J e1=>?_⟩;subst e1;show⟨S,ρ,r,p,bC n h,Sl.fits (.same h) l,z,A,λvs L m O=>?_⟩;show k (v::vs) L (h.trans m) (aK.cons (Dn.fits (.same m) _ _ J) O)
def E1(hN:X.N[j]?=ae x<|>0)(d:xF X.env.scope x<|>3)(h:Zu x<|>1)(a:Zt x<|>1):PA X [.Name x ν] (jI X.K aH j) :=
 RN (eR (iO hN d h a) kH) λσ H Q n=>by obtain⟨S,ρ,ds,p,q,o,l,m,k⟩:=n;cases l;show⟨_,m,k [] H (ξ.refl H) aK.nil⟩
theorem qZ{R:sC}{t:AF}{j:Nat}{H₀ H:Hp}{S:ai->Prop}{w:Nat->ai}{σ:L2.St}{ρ:bB}{G:List (D×V)}{r:(Nat->ay->Prop)×D×KD}{Q:VK}(l:ST X.K H₀ S w σ H ρ G)(h:stepM R t j ρ=ae r)
  (k:∀v H',ST X.K H₀ S w σ H' (ρ.set j (.ow (.aY (adr r.1) r.2.2.1 r.2.2.2))) G->Dn X.K (SO S w ρ) H' r.2.1 v->Q v H'):KA (xR X.K R) [] E0 (jI X.K t j) σ H Q:=by
 obtain⟨ds,F,h⟩:=bnd h;obtain⟨⟨q0,ks,xs⟩,I,h⟩:=bnd h;have m:=jA I
 cases hR:R ds (ks,xs) with
 |no=>dsimp only at h;rw[hR] at h;cases h
 |ex c=>dsimp only at h;rw[hR] at h;cases h
 |ok r0 =>
  dsimp only at h;rw[hR] at h;cases h;obtain⟨Z,b0,_⟩:=l.own j _ m;show⟨SO S w ρ,fZ ρ,ds,w j,l.FN,l.rd,F,Z,λvs H1 p dn=>?_⟩;have a:=l.same p;obtain⟨_,_,⟨o,χ,y,⟨L,x⟩,Y⟩⟩:=a.own j _ m;subst L;show xR X.K R ((vs++[V.ref (w j)])++[]) H1 Q E0;rw[ki];show⟨SO S w ρ,ds,vs,w j,o,χ,xs,r0,rfl,a.FN,λz=>z.2 j _ m rfl,y,dn,Y,hR,λv H' q d A n J O U=>?_⟩;show k v H' (qY a m A ⟨q,d,n,⟨J,o,x⟩,O⟩) U
theorem Zh(C:Cl X.Ω X.w X.K X.mg X.ω g7 k y ps (xR X.K R))(Z:dW k X.A)(hij:i≠j)(hN:X.N.Nodup)
  (ha:PA X (e::es) (jI X.K t j)) (L:X.N[i]?=ae x<|>0) (U:Loc X.env.scope x<|>2) (hg:Gl X y<|>0) (I:Zu y<|>1) (he:Zq X e es<|>0) (n:Q0k X cpos es<|>0)
  (Y:gq (.Call (.Name y p) (e::es) [] cpos) (ae (.Name x pos')) ν.line X.env=pure ah<|>0) (hf:Zp X x<|>2):
  rP X (.Assign [.Name x pos'] (.Call (.Name y p) (e::es) [] cpos) ν) (pR i R t j):=by
 obtain⟨F,o,hk,hb⟩:=C;show jT (nE hN L U (mH F Z hg o hk hb .nil yX ha I he n) Y hf) λB σ H Uv=>?_;obtain⟨H₀,S,w,ρ,G,E,J,O,d,ok⟩:=Uv;delta wS pR at d
 cases h:stepM R t j ρ with
 |none=>rw[h] at d;show d.elim
 |some r =>
  rw[h] at d;show qZ O h λv H' l dv=>ok.nx w _ H' _ (by rw[jo];show J) (l.kK (by rw[J];show iR L) (Dn.fits (.mono λa z=>?_) _ _ dv)) d;show⟨z.1,λm y o=>?_⟩;rcases get_set o with⟨hj,_,hlt⟩|⟨_,q⟩
  .subst hj;obtain⟨_,et,h⟩:=bnd h;obtain⟨⟨q0,ks,xs⟩,eo,h⟩:=bnd h;show z.2 m _ (jA eo)
  .exact z.2 m y q
theorem Cy(C:Cl X.Ω X.w X.K X.mg X.ω g7 k y ps (xR X.K R))(q:dW k X.A)
  (U:PA X (e::es) (jI X.K t j)) (J:Gl X y<|>0) (m:Zu y<|>1) (L:Zq X e es<|>0) (l:Q0k X cpos es<|>0)
  (o:gq (.Call (.Name y p) (e::es) [] cpos) ag ν.line X.env=pure ah<|>0):
  rP X (.Expr (.Call (.Name y p) (e::es) [] cpos) ν) (LU R t j):=by
 obtain⟨F,x,I,O⟩:=C;show jT (J4 (mH F q J x I O .nil yX U m L l) o) λB σ H Y=>?_;obtain⟨H₀,S,w,ρ,G,E,z,n,a,ok⟩:=Y;delta wS LU at a
 cases h:stepM R t j ρ with
 |none=>rw[h] at a;show a.elim
 |some r =>
  rw[h] at a;show qZ n h λv H' d _=>ok.nx w _ H' _ z d a
abbrev LB(K:aq)(j:Nat)(k:EF):TS:=ze (Ff (sF j) (lift K (wE k)))
def UD{d:dc}{b:SF}{j:Nat}{x:ak}{i:av}{k:EF}{p l pos':br}(n:X.A.units+2<dq)(h:rP X d b)(q:bD X i k)(hN:X.N[j]?=ae x<|>0)(m:xF X.env.scope x<|>3)(v:Zu x<|>1)(a:Zt x<|>1)(o:G3 i<|>8):
  qN X [d,.Return (ae (.Subscript (.Name x p) i l)) pos'] (vJ (iQ X.K (XC X) ⇑X.N (wS b)) (LB X.K j k)):=oW h (A8 (GL (K9 n (iO hN m v a) q o)))
theorem z9{j:dc}{n:List dc}{f g:SF}{o:TS}(y:rP X j f)(h2:qN X n (vJ (iQ X.K (XC X) ⇑X.N (wS g)) o)):qN X (j::n) (vJ (iQ X.K (XC X) ⇑X.N (wS (aL f g))) o):=DX (oW y h2) λB σ H z=>by
 obtain⟨H₀,S,w,ρ,G,E,x,j,a,ok⟩:=z;delta wS aL at a;show⟨H₀,S,w,ρ,G,{E with nx:=wS g E},x,j,?_,⟨λv p H' h m l q=>⟨H₀,S,v,h,G,E,m,l,q,ok⟩,ok.rt,ok.bk,ok.ct,ok.ex⟩⟩;delta wS
 cases hf:f ρ with
 |nx h=>rw[hf] at a;show a
 |rt d=>rw[hf] at a;show a
 |ex c=>rw[hf] at a;show a
 |no=>rw[hf] at a;show a
theorem Lg{P:bj}{w:bg}{K:aq}{mg:Q0d}{ω:bh}{x qual:ak}{Z:dc}{f:ai}{fd:gn}{N ps:Q0g}{k n np:Nat}{b:SF}{key:EF}(F:U7 K x qual Z f fd)(S:dN N ps (aJ Z))(hn:⇑N=n)(hp:⇑ps=np)
  (X:∀(I:aj) (A:bx) (Γ:List fu) (s:ao) (H:Hp) (E:XK),dW k (A.deeper (envOfC qual (aJ Z) ↥s f I)) ->
   ∃xc,qN (kQ g7 P w K mg ω N qual (aJ Z) f I A Γ s H E).DO (cV Z) (vJ (iQ K xc ⇑N (wS b)) (LB K (np-1) key))):jE P w K mg ω g7 (k+1) f fd ps (xR K (runM n np b key)):=by
 subst hn hp;show F.ok S (λvs H Q E h=>?_) λI A Γ s H vs Q E hr h=>?_
 .obtain ⟨T,ds,us,p,o,χ,xs,r,rfl,fc,np,hp,du,dx,hR,kk⟩:=h;have hb:=IJ hR gX;delta nU at hb;split at hb
  .rename_i hl;rw[gi,<- du.len];show hl
  .cases hb
 .obtain ⟨xc,hb⟩:=X I A Γ s H E hr;obtain⟨T,ds,us,p,o,χ,xs,r,rfl,fc,nT,hp,du,dx,hR,kk⟩:=h;show⟨_,hb,?_⟩;have j:=IJ hR (λa _=>a=p);delta nU at j;split at j
  case isFalse=>cases j
  rename_i hl;have hlu:=du.len;have hpN:⇑ps<=⇑N:=by have:=congrArg uz S.pre;rw[iz] at this;lia
  have j0:⇑ps-1=⇑ds:=∅
  have sj:(startM ⇑N ds (λa _=>a=p) (χ.map (·.1),xs))[⇑ds]?=ae (Sv.ow (.aY (λa _=>a=p) (χ.map (·.1)) xs)):=by delta startM;rw[i_ (by simp)];simp
  have sv:∀i,i<⇑ds->(startM ⇑N ds (λa _=>a=p) (χ.map (·.1),xs))[i]?=(ds[i]?).map Sv.ro:=λi hi=>by delta startM;rw[jj ↑hi,c_]
  have sn:∀i,⇑ds<i ->∀y,(startM ⇑N ds (λa _=>a=p) (χ.map (·.1),xs))[i]?=ae y->y=Sv.no:=λi hi y e=>by
   delta startM at e;rw[i_ (by simp;lia)] at e;obtain⟨m,hm⟩:∃m,i-⇑(Ik Sv.ro ds)=m+1:=⟨i-⇑ds-1,by simp;lia⟩;rw[hm,jy,kg] at e;split at e
   .cases e;rfl
   .cases e
  have ow:∀(i:Nat) (d:D),(startM ⇑N ds (λa _=>a=p) (χ.map (·.1),xs))[i]?=ae (Sv.ow d)->i=⇑ds/\d=.aY (λa _=>a=p) (χ.map (·.1)) xs:=λi d e=>by
   rcases a14 i ⇑ds with h|h|h
   .rw [sv i h] at e;obtain⟨y,_,ey⟩:=jf.1 e;cases ey
   .subst h;rw[sj] at e;cases e;show⟨rfl,rfl⟩
   .cases sn i h _ e
  have so:∀a,T a->SO (λa=>T a\/a=p) (λ_=>p) (startM ⇑N ds (λa _=>a=p) (χ.map (·.1),xs)) a:=λa ta=>⟨.inl ta,λi d e z=>nT (by rw[<- show a=p from z];show ta)⟩;have J:L2.start N (us++[.ref p])=us.map ae++ae (.ref p)::cc (⇑N-(⇑us+1)) ag:=by delta L2.start;simp
  cases hbs:b (startM ⇑N ds (λa _=>a=p) (χ.map (·.1),xs)) with
  |no=>rw[hbs] at j;cases j
  |rt d=>rw[hbs] at j;cases j
  |ex c=>rw[hbs] at j;cases j
  |nx ρ1 =>
   rw[hbs] at j;dsimp only at j;show⟨λc=>if c=p then ag else H c,λa=>T a\/a=p,λ_=>p,startM ⇑N ds (λa _=>a=p) (χ.map (·.1),xs),[],{nx:=λρ=>ρ=ρ1,rt:=λ_=>False,bk:=λ_=>False,ct:=λ_=>False,ex:=λ_=>False},?_,?_,?_,?_⟩
   .rw [J];simp;lia
   .refine ⟨λa e=>?_,λc u e=>?_,λi d e=>?_,λi i' d d' h1 h2 _=>(ow i d h1).1.trans (ow i' d' h2).1.symm,λi d e=>?_,λg hg=>(by cases hg),λi xs e=>by have:=(ow i _ e).2;cases this⟩
    .by_cases z:a=p
     .exact .inr z
     .exact .inl (fc a (by simpa[z] using e))
    .by_cases z:c=p
     .simp [z] at e
     .simpa [z] using e
    .obtain ⟨rfl,rfl⟩:=ow i d e;show⟨?_,by simp,o,χ,hp,⟨rfl,rfl⟩,aK.fits (.mono so) _ _ dx⟩;rw[J,i_ (by simp;lia)];simp[hlu]
    .by_cases hi:i<⇑ds
     .rw [sv i hi] at e;obtain⟨y,e1,ey⟩:=jf.1 e;cases ey;obtain⟨v,ev,dv⟩:=du.get e1;show⟨v,?_,Dn.fits (.mono so) _ _ dv⟩;have hv:i<⇑us:=(df.1 ev).1;rw[J,jj ↑hv,c_,ev];rfl
     .rcases uk ⇑ds i with h|h
      .cases sn i h _ e
      .have:i=⇑ds:=∅
       subst this;rw[sj] at e;cases e
   .delta wS;rw[hbs]
   .refine ⟨λw' σ' H' L hl' l e=>?_,λ_ _ _ _ _ z=>z.elim,λ_ _ _ _ _ _ z=>z.elim,λ_ _ _ _ _ _ z=>z.elim,λ_ _ _ z=>z.elim⟩;subst e;rw[j0] at j ⊢;obtain⟨⟨q',ks',Y⟩,eo,j⟩:=bnd j;obtain⟨kv,ek,j⟩:=bnd j;obtain⟨O,e2,j⟩:=bnd j;have o0:=jA eo;obtain⟨a0,b0,⟨o1,E2,hp1,⟨e5,hq1⟩,dk1⟩⟩:=l.own ⇑ds _ o0;split at j
    case isFalse=>cases j
    rename_i hc;obtain⟨d,ed,hq9⟩:=rQ j;obtain⟨_,q⟩:=hc.2 _ _ hq1;have q:w' ⇑ds=p:=q;show⟨_,a0,SO (λa=>T a\/a=p) w' L,fZ L,λy=>y=kv,l.FN,l.rd,⟨kv,ek,rfl⟩,λy H2 y' s2 dy ey=>?_⟩;subst ey;have st2:=l.same s2;obtain⟨_,_,⟨o2,HW,U,⟨e6,_⟩,YI⟩⟩:=st2.own ⇑ds _ o0;have toT:∀a,SO (λa=>T a\/a=p) w' L a->T a:=λa z=>z.1.elim id λy=>Zw (y.trans q.symm) (z.2 _ _ o0);have e7:HW.map (·.1)=ks':=e6;have hk2:kindB (HW.map (·.1)) O=af:=by rw[e7];show hc.1
    have ed2:aQ (HW.map (·.1)) Y O=ae d:=by rw[e7];show ed
    obtain⟨v3,ev,dv⟩:=(wQ YI).1 d ed2;show⟨w' ⇑ds,o2,HW,O,v3,rfl,U,tK dy e2,B3 hk2,ev,?_⟩;have er:r=(d,ks',Y):=hq9.symm;subst er;rw[q] at U;show kk v3 H2 o2 HW (λc u ne hc=>s2 _ _ (l.sm c u (by simpa[ne] using hc))) U e7 (aK.fits (.mono toT) _ _ YI) (Dn.fits (.mono toT) _ _ dv)
theorem fdM{P:bj}{w:bg}{K:aq}{mg:Q0d}{ω:bh}{x:ak}{a:dc}{N j:Q0g}{k n l:Nat}{b:SF}{key:EF}(D:Df K mg x a j)
  (h:∀{f:ai} {d:aj} {A:bx} {Γ:List fu} {s:ao} {H:Hp} {E:XK},dW k (A.deeper (envOfC x (aJ a) ↥s f d))->N.Nodup ->∃xc,qN (kQ g7 P w K mg ω N x (aJ a) f d A Γ s H E).DO (cV a) (vJ (iQ K xc ⇑N (wS b)) (LB K (l-1) key)))
  (S:dN N j (aJ a)<|>7) (v:⇑N=n<|>0) (p:⇑j=l<|>0):Cl P w K mg ω g7 (k+1) x j (xR K (runM n l b key)):=by
 obtain⟨_,F,m,q⟩:=D;show⟨Lg F S v p λ_ _ _ _ _ _ o=>h o S.nd,m,F.kp,q⟩
def Us{P:bj}{w:bg}{K:aq}{mg:Q0d}{ω:bh}{k:Nat}{f:ai}{fd:gn}{a:Q0g}:jE P w K mg ω g7 k f fd a (xR K λ_ _=>.no) :=
 ⟨λ_ _ _ _ h=>(by obtain⟨_,_,_,_,_,_,_,_,_,_,_,_,_,_,e,_⟩:=h;cases e),λ_ _ _ _ _ _ _ _ _ _ _ _ _ h=>(by obtain⟨_,_,_,_,_,_,_,_,_,_,_,_,_,_,e,_⟩:=h;cases e)⟩
def nnM{P:bj}{w:bg}{K:aq}{mg:Q0d}{ω:bh}{k:Nat}{x:ak}{d:dc}{a:Q0g}(D:Df K mg x d a):Cl P w K mg ω g7 k x a (xR K λ_ _=>.no):=by obtain⟨_,F,m,q⟩:=D;show⟨Us,m,F.kp,q⟩
def Cw(j:X.mg "zip"=ag)(m:xP X [a,b] t)(l:Gl X "zip"<|>0)(h:ax [a,b] X.env=[(ah,eval a X.env),(ah,eval b X.env)]<|>0)(d:ax [b] X.env=[(ah,eval b X.env)]<|>0):
  VA X (.Tuple es kk tp) (.Call (.Name "zip" p) [a,b] [] ν) (uC t):=cI (Nz j m l h d) λρ Q o=>by
 obtain⟨ds,e,q⟩:=o;obtain⟨as,n,e⟩:=bnd e;show⟨as,n,?_⟩;delta Z2 at e;split at e<;>first|(cases e;show q)|cases e
open L5
section
def CNN(i j:Int):Prop:=0<=i/\0<=j
def Uq(h:nnC i j=af):CNN i j:=by delta nnC at h;rw[gr] at h;show⟨of_decide_eq_true h.1,of_decide_eq_true h.2⟩
def ZC:iP X (binaryOp .BitAnd) (rI CNN λi j=>.int ((i.toNat &&& j.toNat:Nat):Int)):=opI λi j _ _ _ _ _ a q=>and_int (by rw[bitAnd_pp a.1 a.2];show q)
section
variable{a b:av}{fa fb:EF}{ν:br}
def UE(l:bD X a fa)(d:bD X b fb):bD X (.BinOp a .BitAnd b ν) (aC nV fa fb):=cE (X8 ZC nF l d) (gM (fI λi j h=>Uq h))
def Lf(l:bD X a fa)(d:bD X b fb):bD X (.BinOp a .RShift b ν) (aC VL fa fb):=cE (X8 aBn nF l d) (gM (fI λi j h=>by simpa using h))
def Cv(l:bD X a fa)(d:bD X b fb):bD X (.BinOp a .LShift b ν) (aC VJ fa fb):=cE (X8 aBm nF l d) (gM (fI λi j h=>by
 erw[gr,decide_eq_true_eq] at h;show⟨h.1.1,∅,?_⟩;have:(2:Nat)^64=18446744073709551616:=by decide
 rw[this];show h.2))
end
end
end L8
namespace L9
open PySem.Spec PyProof.Rows L2 L3 L4 L5
open PySem.SeqAt
abbrev vI(p:Int×gu):aj:=.int p.1 p.2
theorem Zg(l b:ai)(o m:List (Int×gu))(n X:Nat)(dd L:Option ai)(U J:Array (Option aj)):
  vv (Builtin.«tuple.__lt__» ⟨[.ref l,.ref b],[]⟩) λA R s =>
   s.heap.get? l=ae ⟨.type "tuple",dd,.seq (o.map vI).toArray n,U⟩/\s.heap.get? b=ae ⟨.type "tuple",L,.seq (m.map vI).toArray X,J⟩/\R (.ok (.ret (.bool (fE (o.map (·.1)) (m.map (·.1)))))) s :=
 .of_wp λΩ w A R s h=>by
  obtain⟨I,g,d,z,F⟩:=s;obtain⟨Y,Z,h⟩:=h;have f2:=a3Q
  wp_walk using a0j Y,a0j Z,wpAny_forIn_list _ (λO c s'=>c.1=ag/\s'=⟨I,g,d,z,F⟩ /\∃us vs:List (Int×gu),O=(us.map vI).zip (vs.map vI)/\⇑us+⇑m=⇑vs+⇑o/\R (.ok (.ret (.bool (fE (us.map (·.1)) (vs.map (·.1)))))) ⟨I,g,d,z,F⟩) _
  case turn =>
   rintro⟨x,y⟩ O c s' ⟨K,rfl,us,vs,j,v,a⟩
   cases us with
   |nil=>cases j
   |cons p us =>
    cases vs with
    |nil=>cases j
    |cons q vs =>
     rw[bu,bu,Hx] at j;injection j with h1 h2;obtain⟨rfl,rfl⟩:=Hk h1;rw[bu,bu,fE] at a;show ar (Ah p.1 p.2 q.1 q.2 Ω w _ _ ?_);by_cases e:p.1=q.1
     .rw [Z_ e] at a;rw[show(p.1 == q.1)=af from beq_iff_eq.2 e]
      wp_walk
      show⟨rfl,rfl,us,vs,h2,by erw[fj] at v;lia,a⟩
     .rw [Zz e] at a;rw[show(p.1 == q.1)=ah from beq_eq_false_iff_ne.2 e];have step:∀{A:bx} {Q:Q0c} {E:Q0c},Q (.bool (Zv (p.1<q.1))) ⟨I,g,d,z,F⟩->az (au Ω w) A (richCompare .Lt (vI p) (vI q)) Q E ⟨I,g,d,z,F⟩:=λh=>A_ h
      wp_walk using step
      show⟨_,rfl,a⟩
  case fin =>
   rintro⟨b1,b2⟩ s' ⟨K,rfl,us,vs,j,v,a⟩;simp only at K;subst K;have e:fE (us.map (·.1)) (vs.map (·.1))=Zv (⇑o<⇑m):=by
    cases us with
    |nil =>
     cases vs with
     |nil =>
      show(Zy ?_).symm;erw[nc] at v;lia
     |cons q vs =>
      show(Zx ?_).symm;erw[nc,fj] at v;lia
    |cons p us =>
     cases vs with
     |nil =>
      show(Zy ?_).symm;erw[nc,fj] at v;lia
     |cons q vs=>cases j
   rw[e] at a
   wp_walk
   show⟨_,rfl,by simpa[a3N] using a⟩
  show⟨rfl,rfl,o,m,rfl,∅,h⟩
variable{X:Cx}
theorem fL:∀{is:Q0e} {us:Q0f},θ (is.map V.int) us ->∃a:List (Int×gu),us=a.map vI/\a.map (·.1)=is
 |[],_,.nil=>⟨[],rfl,rfl⟩
 |i::is,_,.cons r t=>by obtain⟨a,e,h⟩:=fL t;obtain⟨k,d⟩:=r;show⟨(i,k)::a,by rw[e,d];rfl,by rw[bu,h]⟩
end L9
namespace L4
open PySem.Spec PyProof.Rows L2 L3 PySem.W KL
variable{X:Cx}
section
variable{π:Q0b}{σ:L2.St}{H:Hp}{s:ao}
def Fp(X:Cx)(π:Q0b)(b:ai):Prop :=
 b≠X.env.locals/\b∉X.fs/\(b∈X.ex\/↥X.s₀<=b)/\(∀x c,X.env.cells.lookup x=ae c->c≠b) /\∀p∈X.pn++π,p.1≠b
def HX(I:Φ X π σ H s)(a:↥s<=b):Fp X π b:=(I.xG (H':=H) a (I.hok.fresh a)).2
def tM(I:Φ X π σ H s)(f:Fp X π b)(h:H b=ag)(e:s.heap.get? b=ae o)(d:∀v,o.data≠.cell v):Φ X (π++[(b,o)]) σ H s:=by
 show I.A7 λp a=>?_;rcases ij.1 a with z|z
 .exact I.pin p (ir _ z)
 .rw [dh.1 z];show⟨e,h,f.1,f.2.1,d⟩
def kM(I:Φ X (π++[(b,o)]) σ H s):s.heap.get? b=ae o/\H b=ag:=by obtain⟨e,n,_⟩:=I.pin (b,o) (ir _ (ir _ (dh.2 rfl)));show⟨e,n⟩
theorem pM(I:Φ X (π++[(b,o)]) σ H s)(f:Fp X π b)(k:∀c u,c≠b->s.heap.get? c=ae u->h'.get? c=ae u)(e:h'.get? b=ae o')(d:∀v,o'.data≠.cell v):
  Φ X (π++[(b,o')]) σ H {s with heap:=h',toks:=t' }:=by
 obtain⟨l,m,j,h,a⟩:=id f;show tM (I.gL.turned (t':=t') k (kM I).2 l j h a) f (kM I).2 e d
end
def ZD(X:Cx)(σ:L2.St)(P:Q0b)(f:aj)(t:V->Hp->VK->Prop):Prop :=
 ∀(π:Q0b) (s:ao) (H:Hp) (v:V) (u:aj) (Q:VK),Φ X π σ H s->(∀p∈P,p∈π)->Ψ v u->t v H Q ->
  az (au X.Ω X.w) X.A.in1.in1 (call f [u]) (EP X π σ Q) (λ_ _=>False) s
def jB(X:Cx)(n:Nat)(lt:Nat->Nat->Bool)(ks:List V)(H:Hp):Prop :=
 ∀(π:Q0b) (σ:L2.St) (s:ao) (us:Q0f),Φ X π σ H s->θ ks us ->
  ∃a,(∀Q:ma->ao->Prop,Q a s->az (au X.Ω X.w) X.A.in1.in1 (keyKind' us.toArray) Q (λ_ _=>False) s) /\
   ∀(i j:Nat) (C:Bool->ao->Prop),i<n->j<n->C (lt i j) s->qr X.Ω X.w X.A.in1.in1 a us i j C s
theorem zP(r:Ψ k u):∀{ks:List V} {us:Q0f},θ ks us->θ (ks++[k]) (us++[u])
 |_,_,.nil=>.cons r .nil
 |_,_,.cons q h=>.cons q (zP r h)
theorem iT:∀{ks:List V} {us:Q0f},θ ks us->⇑ks=⇑us
 |_,_,.nil=>rfl
 |_,_,.cons q h=>by rw[fj,fj,iT h]
theorem rA(r:θ xs us):∀a:List Nat,(∀i∈a,i<⇑us)->θ (a.map λi=>xs.getD i .non) (a.map λi=>us.getD i gz)
 |[],_=>.nil
 |i::a,h=>by
  have l:=h i de;have d:=iT r;obtain⟨u,n,m⟩:=r.get (i:=i) (x:=xs[i]'∅) (by simp[d,l]);have e1:xs.getD i .non=xs[i]'∅:=by simp[d,l]
  have p:us.getD i gz=u:=by rw[kh,n];rfl
  show .cons ?_ (rA r a λj o=>h j (fg _ o));show Ψ (xs.getD i .non) (us.getD i gz);rw[e1,p];show m
section
variable{π:Q0b}{σ:L2.St}{H:Hp}{s:ao}{P:Q0b}{f:aj}{t:V->Hp->VK->Prop}{xs:List V}{us:Q0f}{a kS:ai}{e1:Nat}{E:Q0c}
 {W:Nat->List V->Hp->Prop}
end
abbrev HY(q:ak)(sc:gd)(a:List (ak×ai))(L f:ai)(cd:aj):fu:=envX q sc L f cd a
def E3(X:Cx)(N:Q0g)(q:ak)(sc:gd)(a:List (ak×ai))(L f:ai)(cd:aj)(s₀:ao)(H₀:Hp):Cx :=
 {X with N:=N,s₀:=s₀,H₀:=H₀,env:=HY q sc a L f cd,A:=X.A.in1.in1.deeper (HY q sc a L f cd),Γ:=X.stack,stack:=HY q sc a L f cd::X.stack,ex:=[],fn:=λ_=>ah,calm:=af,pn:=[],xe:=λ_ _=>False}
structure LC (X:Cx) (x:ak) (fs:Q0g) (fr:List Nat) (sc:gd):Prop where
 kind:sc.kind=.function
 co:sc.isCoroutine=ah
 gen:sc.isGenerator=ah
 par:sc.names.lookup x=ae .local
 UG:∀y∈sc.names,y.2≠.cell
 free:∀y∈sc.names,y.2=.free->X.env.kindOf y.1=ae .cell\/X.env.kindOf y.1=ae .free
 slot:∀(k:Nat) (y:ak),fs[k]?=ae y ->∃j,fr[k]?=ae j/\X.N[j]?=ae y/\(y,jv)∈sc.names/\sc.names.lookup y=ae .free
 BN:⇑fr=⇑fs
def N7(v:V)(fr:List Nat)(σ:L2.St):L2.St:=ae v::fr.map λj=>(σ[j]?).join
section
variable{π:Q0b}{σ:L2.St}{H:Hp}{s:ao}
theorem ZE(hc:X.calm=af)(B:LC X x fs fr sc)(I:Φ X π σ H s)
  (J:∀y∈sc.names,y.2=.free->cl.lookup y.1=X.env.cells.lookup y.1) (K:∀y c,cl.lookup y=ae c->X.env.cells.lookup y=ae c) (r:Ψ v u)
  (hn:O.Ns ↥s λy=>[(x,u)].reverse.lookup y) (L:∀b o,s.heap.get? b=ae o->O.get? b=ae o):
  Φ (E3 X (x::fs) q sc cl ↥s f cd s H) [] (N7 v fr σ) H {s with heap:=O,toks:=t' }:=by
 have ok:(E3 X (x::fs) q sc cl ↥s f cd s H).Ok:=by
  show⟨I.ok.mod,B.kind,rfl,rfl,bt _,λy z c O h2=>I.ok.inj y z c (K y c O) (K z c h2),λy a=>?_,(λy c h=>by cases h),λ_=>I.ok.hd hc,a1x (A:=X.A.in1.in1) I.ok.frames,.inr ⟨rfl,rfl⟩,(λb z=>by cases z),λb o e=>I.bs b o e,iq I.ok.U6 I.sz,(λb o _ z=>by cases z),(λb z=>by cases z),I.stack,I.A6,I.tab⟩;have a:sc.names.lookup y=ae .cell\/sc.names.lookup y=ae .free:=a;rcases a with a|a
  .exact Zw rfl (B.UG _ (kn a))
  .have n:=kn a;obtain⟨c,e⟩:=I.ok.has y (B.free _ n rfl);show⟨c,(J _ n rfl).trans e⟩
 show⟨ok,rfl,I.bare,Un.kept L,⟨_,hn,λi y w e1 m e3=>?_⟩,λy c e=>?_,I.hok.fresh (bt _),λy c e=>I.kP y c (K y c e),(λp hp=>by cases hp),I.hok.kept L,?_⟩
 .cases i with
  |zero =>
   have e1:x=y:=dg e1;have m:v=w:=dg (dg m);subst e1 m;show⟨u,r,.inl ⟨B.par,by simp⟩⟩
  |succ i =>
   have e1:fs[i]?=ae y:=e1;obtain⟨j,ej,eN,n,Z⟩:=B.slot i y e1;have U:(σ[j]?).join=ae w:=by have m:(fr.map λj=>(σ[j]?).join)[i]?=ae (ae w):=m;rw[c_,ej] at m;show dg m
   have e5:σ[j]?=ae (ae w):=by
    cases q:σ[j]? with
    |none=>rw[q] at U;cases U
    |some o=>rw[q] at U;rw[show o=ae w from U]
   have F:=B.free _ n rfl;obtain⟨mm,_,hl⟩:=I.loc;obtain⟨z,rz,l⟩:=hl j y w eN e5 (.inr F);show⟨z,rz,?_⟩;rcases l with⟨k1,_⟩|⟨k1,c,ec,zc⟩
   .rcases F with y1|y1<;>rw[k1] at y1<;>cases y1
   .obtain ⟨Y,d,hd⟩:=zc;show .inr ⟨.inr Z,c,(J _ n rfl).trans ec,Y,L _ _ d,hd⟩
 .obtain ⟨w,Y,d,hd⟩:=I.cell y c (K y c e);show⟨w,Y,L _ _ d,hd⟩
 .show ⇑(N7 v fr σ)=⇑(x::fs);delta N7;rw[fj,bb,B.BN,fj]
def rW(H:Hp)(c:ai)(q:ak):Prop:=∃a vs t,H c=ae (A4 a)/\a.data=.fields vs/\vs[1]?=ae (.str q t)
def rW.rec(x:rW H c q)(ok:mL P w H h):h.CodeRec (.ref c) q:=by obtain⟨a,vs,t,e,d,v⟩:=x;show⟨c,a,vs,t,rfl,(ok c _ e).1,d,v⟩
def rW.same(x:rW H c q)(a:ξ H H'):rW H' c q:=by obtain⟨h,vs,t,e,d,v⟩:=x;show⟨h,vs,t,a _ _ e,d,v⟩
theorem ZF(hc:X.calm=af)(B:LC X x fs fr sc)(a:X.A.depth<recursionLimit)
  (m:∀y∈sc.names,y.2=.free->cl.lookup y.1=X.env.cells.lookup y.1) (F:∀y c,cl.lookup y=ae c->X.env.cells.lookup y=ae c)
  (hb:∀u,bindArgs (Ac "<lambda>" q params body sc cl pm (.ref c) ct) ⟨[u],[]⟩=pure [(x,u)]) (Z:∀L s H,PE (E3 X (x::fs) q sc cl L f (.ref c) s H) body te):
  ZD X σ [(f,Ab "<lambda>" q params body sc cl pm c ct)] (.ref f) (λv H Q=>rW H c q/\te (N7 v fr σ) H Q):=by
 intro π s H v u Q I U r ⟨cq,O⟩;have ef:=(I.pin _ (ir _ (U _ de))).1;show wpAny_call (kla_callFunE (fd:=Ac "<lambda>" q params body sc cl pm (.ref c) ct) a ef rfl B.co B.gen rfl (cq.rec I.hok) ?_);rw[hb u];show a_ (wpAny_newFunctionEnv B.UG (λy K=>?_) (λh1 l d=>⟨I.nolimit.fresh _ d,?_⟩) B.kind)
 .rw [dh.1 K];show B.par
 .have Y:∀b o,s.heap.get? b=ae o->h1.get? b=ae o:=λb o e=>d.extBut b o (gg (cj e)) (cy _ e);have J:=ZE (q:=q) (f:=f) (cd:=.ref c) (t':=s.toks+1) hc B I m F r l Y;show kla_codeExpr ?_;show jb (Z ↥s s H [] _ (N7 v fr σ) H Q J O) (λw s' h=>?_) λ_ _ z=>z.elim;obtain⟨y,H',j,n,p⟩:=h;show⟨y,H',I.call' (s':=s') (ch:=[]) j.os j.ω j.hok j.bare (λb z=>by cases z),n,p⟩
theorem wR{m p2:br}{c j:aj}:∀(l:Q0f),TriplesOk l->codeAmong p2 (l++[rawInt m.line,rawInt m.col,c])=ae j->codeAmong p2 l=ae j\/j=c
 |[],_,h=>by
  erw[uv,codeAmong,rawInt] at h;split at h
  .exact .inr (dg h).symm
  .cases h
 |.int a t::.int b u::d::r,hT,h=>by
  erw[Bm,codeAmong] at h ⊢;split at h
  .rename_i hp;rw[Z_ hp];show .inl h
  .rename_i hn;rw[Zz hn];show wR r hT h
theorem UH(I:Φ X π σ H s)(hx:(x0,c,P)∈cU X.K)(hq:X.env.qual++"<lambda>"=lO x0)
  (j:X.env.code=.ref c) (B:LC X x fs fr sc) (hdef:defaultsOf params X.env=([],[]))
  (h:∀(f a:ai) (ct:aj) (O:List (ak×ai)) (H':Hp) (s':ao),ξ H H'->rW H' a (lO x0)->(∀y∈sc.names,y.2=.free->O.lookup y.1=X.env.cells.lookup y.1)->(∀y c,O.lookup y=ae c->X.env.cells.lookup y=ae c) ->
   Φ X (π++[(f,Ab "<lambda>" (lO x0) params body sc O ((X.mg "__name__").getD .none) a ct)]) σ H' s'->Q (.ref f) s'):
  az (au X.Ω X.w) X.A (eval (.Lambda params body sc ν) X.env) Q E s:=by
 obtain⟨hC,hP⟩:=I.tab _ hx;dsimp only at hC hP;obtain⟨ps,eP,hT,hA⟩:=I.hok P _ hP;have C:=hC.keeps I.bk;obtain⟨bm,ob,b1,b2,b3,b4,b5,b6⟩:=I.mod.bm;have F:=I.mod.glob.keeps I.bk;have hgP:ie≠P:=λz=>by obtain⟨o,es,ep,eo,U,_⟩:=F;rw[z,eP] at eo;cases eo;cases U
 have l:=I.bk _ _ b3;have J:bm≠P:=λz=>by rw[z,eP] at l;cases l;cases b4
 have hbG:bm≠ie:=λz=>by obtain⟨o,es,ep,eo,U,_⟩:=F;rw[z,eo] at l;cases l;rw[U] at b6;cases b6
 have Ck:s.heap.BuiltinsAt X.mg P:=⟨bm,ob,b1,b2,hbG,J,l,b4,b5,b6⟩;obtain⟨O,ecl,hcl,jU⟩:=vU (scope:=sc) (env:=X.env) λy hy hf=>I.ok.has _ (B.free y hy hf);show kla_eval hdef ?_;rw[hq]
 -- behind the making: the function object is laid and pinned
 have fin:∀(a:ai) (ct:aj) (H':Hp) (h':bh) (p:gu),ξ H H'->rW H' a (lO x0)->Φ X π σ H' {s with heap:=h',toks:=p} ->
   Q (.ref h'.objs.size) {s with heap:=h'.push (Ab "<lambda>" (lO x0) params body sc O ((X.mg "__name__").getD .none) a ct),toks:=p}:=λa ct H' h' p m cq I'=>by
  have I2:=I'.kept (t':=p) (h':=h'.push (Ab "<lambda>" (lO x0) params body sc O ((X.mg "__name__").getD .none) a ct)) λb u e=>cy _ e;show h _ a ct O H' _ m cq hcl jU (tM I2 (HX I' (bt _)) (I'.hok.fresh (bt _)) (fv _ rfl) (λv z=>by cases z))
 cases hf:codeAmong ν ps.toList with
 |some cv =>
  obtain⟨a,L,vs,t,rfl,e1,e2,e3⟩:=hA ν cv hf;show kla_makeFunctionHit (mg:=X.mg) ecl I.ok.glob F j C eP hT hf Ck λct h' p hk hsz=>?_;show fin a ct H h' p (λ_ _ e=>e) ⟨L,vs,t,e1,e2,e3⟩ (I.kept hk)
 |none =>
  show kla_makeFunction (mg:=X.mg) ecl I.ok.glob F j C eP hT hf hgP Ck λa ct h' p hX hge hlt Z Y=>?_;obtain⟨c2,L,vs,t,e2,hoc,U,hv⟩:=Z;cases e2;have hfr:H a=ag:=I.hok.fresh hge;have nC:∀{b:ai} {o:HO},H b=ae o->b≠a:=λe=>aT e hfr;have nP:∀{b:ai},H b=ag->b≠P:=λe z=>by rw[z,hP] at e;cases e
  have m:ξ H (upd H a (A4 L)):=λb o e=>by rw[aP (nC e)];show e
  show fin a ct (upd H a (A4 L)) h' p m ⟨L,vs,t,aM,U,hv⟩ (I.un (t':=p) ⟨λb o e n _ _=>hX b o (nP n) e,λb o e n _ _=>⟨o.slots,hX b o (nP n) e⟩,λb o e n _=>?_,λb o e _=>?_,λb xs e=>m _ _ e,λb o u e=>m _ _ e,λb q e=>m _ _ e⟩ λb u e=>?_)
  .rw [aP (gg (gm (cj e) hge))];show n
  .by_cases hb:b=P
   .exact ⟨_,hb▸Y⟩
   .exact ⟨o,hX b o hb e⟩
  .by_cases hb:b=a
   .subst hb;rw[aM] at e;cases e;show⟨hoc,trivial,⟨L,hoc⟩,λ_ _ _ _=>trivial⟩
   .rw [aP hb] at e;by_cases J:b=P
    .subst J;rw[hP] at e;cases e;show⟨_,Y,?_,λp2 cv e=>?_⟩
     .rw [r_];show TriplesOk_snoc _ _ _ _ hT
     .rw [r_] at e;rcases wR _ hT e with z|z
      .obtain ⟨c3,oc3,vs3,t3,y1,y2,y3⟩:=hA p2 cv z;show⟨c3,oc3,vs3,t3,y1,m _ _ y2,y3⟩
      .exact ⟨a,L,vs,t,z,aM,U,hv⟩
    .refine (I.hok b u e).stay (λd w hc q=>hX d w ?_ q) (λd q=>m _ _ q) (λd xs q=>m _ _ q) λd o u q=>m _ _ q;rcases hc with z|z
     .rw [z];show J
     .intro y;rw[y,hP] at z;cases z
def track(I:Φ X (π++[(b,o)]) σ H s)(f:Fp X π b)(new:cK X.Ω X.w (upd H b u) s.heap b u):Φ X π σ (upd H b u) s:=by
 obtain⟨y,A,x,v,p⟩:=f;have j:=(kM I).2;have J:=I.gL;have a:∀{d:ai} {w:HO},H d=ae w->upd H b u d=ae w:=λ{d w} e=>by rw[aP (aT e j)];show e
 have q:=J.step (s:=s) (H':=upd H b u) (h':=s.heap) (g':=s.gens) (t':=s.toks) (d':=s.drawn) (ch:=[b]) (λd h=>?_) (λd w _ _ _ e _=>e) (λd w _ _ _ e _=>⟨w.slots,e⟩) (λd w h e n=>?_) (λd w _ e=>⟨w,e⟩) (λd xs e=>a e) (λd o u e=>a e) (λd q e=>a e) (λm l=>l) (λd w e=>?_) J.bare
 .exact q
 .rw [dh.1 h];show⟨x,y,v,p⟩
 .rw [aP λz=>h (dh.2 z)];show n
 .by_cases h:d=b
  .subst h;rw[aM] at e;cases e;show new
  .rw [aP h] at e;show(J.hok d w e).stay (λ_ _ _ q=>q) (λ_ q=>a q) (λ_ _ q=>a q) λ_ _ _ q=>a q
theorem Zf{K:aq}{S:ai->Prop}{H H':Hp}{ρ:cN}{σ:L2.St}{fr:List Nat}{d:D}{v:V}(l:Sl K S H ρ σ)(h:ξ H H')(x:Dn K S H' d v):Sl K S H' ((benv 1 fr ρ).set 0 (ae d)) (N7 v fr σ):=by
 intro i e a
 cases i with
 |zero=>cases a;show⟨v,rfl,x⟩
 |succ i =>
  have a:(fr.map λj=>(ρ[j]?).join)[i]?=ae (ae e):=a;rw[c_] at a
  cases ej:fr[i]? with
  |none=>rw[ej] at a;cases a
  |some j =>
   rw[ej] at a;have a:(ρ[j]?).join=ae e:=dg a;have n:ρ[j]?=ae (ae e):=by
    cases q:ρ[j]? with
    |none=>rw[q] at a;cases a
    |some o=>rw[q] at a;rw[show o=ae e from a]
   obtain⟨w,m,p⟩:=l j e n;show⟨w,?_,Dn.fits (Fits.same h) e w p⟩;show(fr.map λj=>(σ[j]?).join)[i]?=ae (ae w);rw[c_,ej,ug,m];rfl
end
def ZG(Γ:List (ak×jn))(sc:gd)(N:Q0g)(x:ak)(fs:Q0g)(fr:List Nat):Bool :=
 (sc.kind == .function) && !sc.isCoroutine && !sc.isGenerator&&Zv (sc.names.lookup x=ae .local)&&sc.names.all (λy=>Zv (y.2≠.cell)) &&
 sc.names.all (λy=>Zv (y.2=.free->(Γ.lookup y.1=ae .cell\/Γ.lookup y.1=ae .free)))&&Zv (⇑fr=⇑fs) &&
 (fs.zip fr).all (λy=>Zv (N[y.2]?=ae y.1)&&sc.names.contains (y.1,jv)&&Zv (sc.names.lookup y.1=ae .free))
def LD(h:ZG X.env.scope.names sc X.N x fs fr=af):LC X x fs fr sc:=by
 delta ZG at h;erw[gr,jk,decide_eq_true_eq,Bv] at h;obtain⟨⟨⟨⟨⟨⟨⟨q,h2⟩,p⟩,o⟩,n⟩,m⟩,l⟩,j⟩:=h;show⟨eq_of_beq q,h2,p,o,n,m,λk y e=>?_,l⟩;have v:k<⇑fs:=(df.mp e).1;have d:(y,fr[k]'∅)∈fs.zip fr:=by
  have:(fs.zip fr)[k]?=ae (y,fr[k]'∅):=by rw[wy];show⟨e,by simp⟩
  show ko this
 obtain⟨⟨a,b⟩,c⟩:=j _ d;show⟨fr[k]'∅,by simp,a,↑b,c⟩
def UI{K:aq}{x0:ak}{f c n:ai}{j:aj}{h:Option ai}{fd:gn}{d:Array (Option aj)}(l:nsIn K ie x0=ae (ae (.ref f)))(m:K.lookup f=ae ⟨j,h,.func fd,d⟩)(a:tabIn K x0=ae (c,n)):fd.code=.ref c:=by
 delta tabIn at a;rw[l] at a;dsimp only at a;rw[m] at a;dsimp only at a;split at a
 .rename_i c2 hc;split at a
  .split at a
   .cases a;show hc
   .cases a
  .cases a
 .cases a
def Ze{K:aq}{x0:ak}{c a:ai}(d:x0∈DK)(h:tabIn K x0=ae (c,a)):(x0,c,a)∈cU K:=wu.2 ⟨x0,d,by rw[h];rfl⟩
theorem Uo{P:bj}{w:bg}{K:aq}{mg:Q0d}{ω:bh}{x qual:ak}{m:dc}{f c Pt:ai}{fd:gn}{N j:Q0g}{k n z:Nat}{b:SF}(F:U7 K x qual m f fd)(Z:nsIn K ie x=ae (ae (.ref f)))(ht:tabIn K x=ae (c,Pt))(S:dN N j (aJ m))(hn:⇑N=n)(L:⇑j=z)
  (a:∀(A:bx) (Γ:List fu) (s:ao) (H:Hp) (E:XK),dW k (A.deeper (envOfC qual (aJ m) ↥s f (.ref c))) ->
   nI (kQ g7 P w K mg ω N qual (aJ m) f (.ref c) A Γ s H E).DO (cV m) b):jE P w K mg ω g7 (k+1) f fd j (FP K (c7 n z b)):=by
 subst hn L;obtain⟨oc,od,kV,doc,pm,an,y,ct,Y,rfl,I,p⟩:=F.ex;have ec:y=.ref c:=UI Z I ht;subst ec;show Eo I p S (λvs H Q E h=>?_) λA Γ s H vs Q E hr h=>?_
 .obtain ⟨S',ds,Q3,O,dn,⟨d,e,q⟩,_⟩:=h;rw[<- dn.len];delta c7 at e;by_cases h:⇑ds=⇑j
  .exact h
  .rw [Zz h] at e;cases e
 .obtain ⟨S',ds,Q3,O,dn,⟨d,e,q⟩,J⟩:=h;have l:=a A Γ s H E hr;delta c7 at e;by_cases h:⇑ds=⇑j
  case neg=>rw[Zz h] at e;cases e
  rw[Z_ h] at e;show⟨_,L2.qN.DO l,H,S',λ_=>0,jF N ds,[],{nx:=λ_=>Q3 .non,rt:=Q3},?_,DY O dn,?_,⟨λw' U H' X _ o q=>?_,λv H' d s' d' q=>J v H' d s' d' q,λ_ _ _ _ _ _ q=>q,λ_ _ _ _ _ _ q=>q,λ_ _ _ q=>q.elim⟩⟩
  .have hl2:=dn.len;have L:⇑j<=⇑N:=by have:=congrArg uz S.pre;rw[iz] at this;lia
   delta L2.start;show _=⇑N;rw[gi,bb,n_];lia
  .have e2:jF N ds=eD ⇑N ds:=rfl;delta wS;rw[e2]
   cases l:b (eD ⇑N ds) with
   |rt d'=>rw[l] at e;cases e;show q
   |nx ρ=>rw[l] at e;cases e;show q
   |no=>rw[l] at e;cases e
   |ex c=>rw[l] at e;cases e
  .exact J .non H' .non o.sm (by symm) q
theorem ZH:∀(us:Q0f),⇑us=1 ->∃a,us=[a]
 |[a],_=>⟨a,rfl⟩
theorem ZI:∀(us:Q0f),⇑us=2 ->∃d a,us=[d,a]
 |[d,a],_=>⟨d,a,rfl⟩
theorem ZJ:∀(us:Q0f),⇑us=3 ->∃h d a,us=[h,d,a]
 |[h,d,a],_=>⟨h,d,a,rfl⟩
theorem ZK:∀(us:Q0f),⇑us=4 ->∃j h d a,us=[j,h,d,a]
 |[j,h,d,a],_=>⟨j,h,d,a,rfl⟩
theorem Le{P:bj}{w:bg}{K:aq}{mg:Q0d}{ω:bh}{x:ak}{d:dc}{c z:ai}{N j:Q0g}{k n l:Nat}{b:SF}(D:Df K mg x d j)(o:tabIn K x=ae (c,z))
  (h:∀{f:ai} {A:bx} {Γ:List fu} {s:ao} {H:Hp} {E:XK},dW k (A.deeper (envOfC x (aJ d) ↥s f (.ref c)))->N.Nodup->nI (kQ g7 P w K mg ω N x (aJ d) f (.ref c) A Γ s H E).DO (cV d) b)
  (S:dN N j (aJ d)<|>7) (y:⇑N=n<|>0) (v:⇑j=l<|>0):Cl P w K mg ω g7 (k+1) x j (FP K (c7 n l b)):=by
 obtain⟨a,F,m,q⟩:=D;show⟨Uo F a o S y v λ_ _ _ _ _ p=>h p S.nd,m,F.kp,q⟩
def pN{K:aq}{x:ak}(h:nsIn K ie x=ae ag):tabIn K x=ag:=by delta tabIn;rw[h]
theorem E4{K:aq}{x:ak}{f c j:ai}{n h:aj}{m d:Option ai}{fd:gn}{vs:Array aj}{l a:Array (Option aj)}(v:nsIn K ie x=ae (ae (.ref f)))(h2:K.lookup f=ae ⟨n,m,.func fd,l⟩)(q:fd.code=.ref c)
  (p:K.lookup c=ae ⟨h,d,.fields vs,a⟩) (o:vs[11]?=ae (.ref j)):tabIn K x=ae (c,j):=by
 delta tabIn;rw[v];dsimp only;rw[h2];dsimp only;rw[q];dsimp only;rw[p];dsimp only;rw[o]
theorem N8{K:aq}{r1 j h d a:Option (ai×ai)}(o:tabIn K "going_of"=r1)(h2:tabIn K "count_of_chain"=j)(n:tabIn K "cut_paper"=h)(m:tabIn K "downsets"=d)(l:tabIn K "strictest_chains"=a):
  cU K=([("going_of",r1),("count_of_chain",j),("cut_paper",h),("downsets",d),("strictest_chains",a)]:List (ak×Option (ai×ai))).filterMap λp=>p.2.map λt=>(p.1,t.1,t.2):=by
 subst o h2 n m l;rfl
def tabs_ok{K:aq}{q:bj}{L:List (ak×ai×ai)}(h:cU K=L)(nd:(L.map (·.2.2)).Nodup)(rc:∀t∈L,∃e,(recsOf q).find? (λe=>e.name == t.1)=ae e):TabsOk K q:=⟨by rw[h];show nd,by rw[h];show rc⟩
section
variable{Ω:bj}{w:bg}{A:bx}{E:Q0c}{s:ao}{z TI TO i1 i2:ai}{f1 f2:List ai}{n1 n2 k:Nat}{P1 P2:Nat->aj->Prop}{S1 S2:Nat->bh->Prop}{a b:aj}
structure Zap (z TI TO i1 i2:ai) (f1 f2:List ai):Prop where
 zO:z≠TO
 zI:z≠TI
 OI:TO≠TI
 m1:i1∈f1
 m2:i2∈f2
 z1:z∉f1
 z2:z∉f2
 o1:TO∉f1
 o2:TO∉f2
 c1:i1∉f2
 c2:i2∉f1
 I1:TI≠i1
 I2:TI≠i2
def Zap.q2(p:Zap z TI TO i1 i2 f1 f2):z≠i2:=λe=>p.z2 (e▸p.m2)
def Zap.p1(p:Zap z TI TO i1 i2 f1 f2):TO≠i1:=λe=>p.o1 (e▸p.m1)
end
open PySem.SeqAt
end L4
namespace L9
open PySem.SeqAt PySem.Spec PyProof.Rows L2 L3 L4 L5
open MeetsSeq3 MeetsSeq2 MeetsSeq
open AutoSeq1 (wpAny_loadPart')  -- objects read
def Cu(A:bx)(s:ao)(x y:aj)(r:Bool):Prop :=
 ∀(Ω:bj) (w:bg) (E:Q0c) (Q:Q0c),Q (.bool r) s->az (au Ω w) A (richCompare .Lt x y) Q E s
variable{X:Cx}
def Ld{K:aq}{S:ai->Prop}{H:Hp}{a b:D}{xs:List V}(h:aK K S H [a,b] xs):∃u w,xs=[u,w]/\Dn K S H a u/\Dn K S H b w:=by erw[aK] at h;obtain⟨u,r,rfl,d,w,j,rfl,h2,rfl⟩:=h;show⟨u,w,rfl,d,h2⟩
end L9
namespace L9
open PySem.SeqAt PySem.Spec PyProof.Rows L2 L3 L4 L5 PySem.W KL
variable{X:Cx}
def map_getD{α:Type}(xs:List α)(z:α):(cx ⇑xs).map (λi=>xs.getD i z)=xs:=by
 show rn λi=>?_;rw[c_];by_cases h:i<⇑xs
 .rw [p0 h];simp[h]
 .rw [ji ↑h,ji ↑h];rfl
end L9
namespace L4
open PySem.SeqAt PySem.Spec PyProof.Rows L2 L3
open PySem.W
abbrev eE(a:ma)(it:Array fm)(p:Array Nat)(q:Array (Nat×Nat×Nat))(g:Nat):dj:=nr a (p.map (bz it)) q g ag
def Asks(Ω:bj)(w:bg)(A:bx)(s:ao)(a:ma)(it:Array fm)(n:Nat)(lt:Nat->Nat->Bool):Prop :=
 ∀(i j:Nat) (C:Bool->ao->Prop),i<n->j<n->C (lt i j) s->kas_cmp Ω w A a it i j C s
def tN:Bool->fm->Array fm->Nat->Nat->Nat->StateT dj gk (Option Nat):=sortPriv% PySem.Builtin.gallop
section
variable{Ω:bj}{w:bg}{A:bx}{E:Q0c}{s:ao}{κ:ma}{it:Array fm}{n:Nat}{lt:Nat->Nat->Bool}
theorem E5(m:Asks Ω w A s κ it n lt)(d:i<n)(a:j<n)(h:Q (ae (lt i j)) (eE κ it p q g)):
  wpS (au Ω w) A E s (lt' (bz it i) (bz it j)) Q (eE κ it p q g):=by
 rw[lt'_eq];show bo (my ?_);show bo (qw (zx (jb (m i j (λc s'=>c=lt i j/\s'=s) d a ⟨rfl,rfl⟩) (λc s' l=>?_) λ_ _ z=>z.elim)));obtain⟨rfl,rfl⟩:=l;show⟨rfl,b_ h⟩
def eQ{a:Array Nat}{i:Nat}{d:dj}{Q:fm->dj->Prop}(j:i<a.size)(h:Q (bz it (a.getD i 0)) d):wpS (au Ω w) A E s (elem' (a.map (bz it)) i) Q d:=by
 rw[elem'_eq];have e:(a.map (bz it))[i]?=ae (bz it (a.getD i 0)):=by simp[lh,j]
 rw[e];show b_ h
theorem zQ{left:Bool}{key:Nat}{arr:Array Nat}{ω cnt hint:Nat}{p:Array Nat}{q:Array (Nat×Nat×Nat)}{g:Nat}{Q:Option Nat->dj->Prop}(hA:Asks Ω w A s κ it n lt)(hk:key<n)(J:ω+cnt<=arr.size)(hn:∀i,i<arr.size->arr.getD i 0<n)(hh:hint<cnt)
  (B:Nat->Bool) (hB:∀i,i<cnt->B i=if left=af then lt (arr.getD (ω+i) 0) key else !lt key (arr.getD (ω+i) 0)) (mono:∀i j,i<=j->j<cnt->B j=af->B i=af)
  (h:∀k,k<=cnt->(∀i,i<k->B i=af)->(∀i,k<=i->i<cnt->B i=ah)->Q (ae k) (eE κ it p q g)):
  wpS (au Ω w) A E s (tN left (bz it key) (arr.map (bz it)) ω cnt hint) Q (eE κ it p q g):=by
 have ask:∀(i:Nat) (R:Option Bool->dj->Prop),i<cnt->R (ae (B i)) (eE κ it p q g)->wpS (au Ω w) A E s (do
   let x <- elem' (arr.map (bz it)) (ω+i)
   if left then lt' x (bz it key) else return (<- lt' (bz it key) x).map (!·)) R (eE κ it p q g):=λi R F O=>by
  show bo (eQ ∅ ?_);rw[hB i F] at O
  cases left with
  |true=>show E5 hA (hn _ ∅) hk O
  |false=>show bo (E5 hA hk (hn _ ∅) (b_ O))
 have fin:∀lo F:Nat,lo<=F->F<=cnt->(∀i,i<lo->B i=af)->(∀i,F<=i->i<cnt->B i=ah) ->∀R:Option (Option Nat)×Nat×Nat->dj->Prop,(∀l k,k<=cnt->(∀i,i<k->B i=af)->(∀i,k<=i->i<cnt->B i=ah)->R (ag,l,k) (eE κ it p q g))->wpS (au Ω w) A E s (forIn [0:cnt] ((ag,lo,F):Option (Option Nat)×Nat×Nat) λ_ c=>if c.2.1 >= c.2.2 then pure (.done (ag,c.2.1,c.2.2)) else do
   let x <- (do
    let x <- elem' (arr.map (bz it)) (ω+(c.2.1+(c.2.2-c.2.1)/2))
    if left then lt' x (bz it key) else return (<- lt' (bz it key) x).map (!·):StateT dj gk (Option Bool))
   match x with
   |some m=>if m=af then pure (.yield (ag,c.2.1+(c.2.2-c.2.1)/2+1,c.2.2)) else pure (.yield (ag,c.2.1,c.2.1+(c.2.2-c.2.1)/2))
   |_=>pure (.done (ae ag,c.2.1,c.2.2))) R (eE κ it p q g):=λlo F U h2 h3 h4 R O=>by
  show je (I:=λx c d=>d=eE κ it p q g /\∃l k,c=(ag,l,k)/\l<=k/\k<=cnt/\k-l<=cnt-x/\(∀i,i<l->B i=af)/\(∀i,k<=i->i<cnt->B i=ah)) ?_ ?_ ⟨rfl,lo,F,rfl,U,h2,∅,h3,h4⟩
  .rintro x c d _ hx ⟨rfl,l,k,rfl,X,v,y,a,L⟩;dsimp only;by_cases K:l >= k
   .rw [Z_ K];show b_ (O l k v (λi F=>a i ∅) L)
   .rw [Zz K];show bo (ask _ _ ∅ ?_)
    cases J:B (l+(k-l)/2) with
    |true =>
     show b_ ⟨rfl,_,_,rfl,∅,v,∅,λi F=>?_,L⟩;show mono i _ ∅ ∅ J
    |false =>
     show b_ ⟨rfl,_,_,rfl,∅,∅,∅,a,λi U h2=>?_⟩
     cases hb2:B i with
     |false=>rfl
     |true=>rw[mono _ i U h2 hb2] at J;cases J
  .rintro c d ⟨rfl,l,k,rfl,X,v,y,a,L⟩;show O l k v (λi F=>a i ∅) L
 delta tN;show bo (ask hint _ hh ?_)
 cases hr:B hint with
 |true =>
  show bo (jw (je (I:=λx c d=>d=eE κ it p q g /\∃l o,c=(ag,l,o)/\x<o/\l<o/\hint+l<cnt/\B (hint+l)=af) (Q:=λc d=>d=eE κ it p q g /\∃l o,c=(ag,l,o)/\l<o/\hint+l<cnt/\B (hint+l)=af/\(o<cnt-hint->B (hint+o)=ah)) ?_ ?_ ⟨rfl,0,1,rfl,∅,∅,∅,hr⟩) ?_)
  .rintro x c d _ hx ⟨rfl,l,o,rfl,X,v,y,a⟩;dsimp only;by_cases K:o >= cnt-hint
   .rw [Z_ K];show b_ ⟨rfl,l,o,rfl,v,y,a,λz=>∅⟩
   .rw [Zz K];show bo (ask _ _ ∅ ?_)
    cases J:B (hint+o) with
    |true=>show b_ ⟨rfl,_,_,rfl,∅,∅,∅,J⟩
    |false=>show b_ ⟨rfl,l,o,rfl,v,y,a,λ_=>J⟩
  .rintro c d ⟨rfl,l,o,rfl,X,v,y,a⟩;show⟨rfl,l,o,rfl,v,y,a,λz=>∅⟩
  .rintro c d ⟨rfl,l,o,rfl,v,y,a,L⟩;dsimp only;show bo (fin _ _ ∅ ∅ (λi F=>mono i (hint+l) ∅ y a) (λi U h2=>?_) _ λl k k1 Z Y=>b_ (h k k1 Z Y))
   cases hb2:B i with
   |false=>rfl
   |true =>
    have:=L ∅;rw[mono _ i ∅ h2 hb2] at this;cases this
 |false =>
  show bo (jw (je (I:=λx c d=>d=eE κ it p q g /\∃l o,c=(ag,l,o)/\x<o/\l<o/\l<=hint/\B (hint-l)=ah) (Q:=λc d=>d=eE κ it p q g /\∃l o,c=(ag,l,o)/\l<o/\l<=hint/\B (hint-l)=ah/\(o<hint+1->B (hint-o)=af)) ?_ ?_ ⟨rfl,0,1,rfl,∅,∅,∅,hr⟩) ?_)
  .rintro x c d _ hx ⟨rfl,l,o,rfl,X,v,y,a⟩;dsimp only;by_cases K:o >= hint+1
   .rw [Z_ K];show b_ ⟨rfl,l,o,rfl,v,y,a,λz=>∅⟩
   .rw [Zz K];show bo (ask _ _ ∅ ?_)
    cases J:B (hint-o) with
    |true=>show b_ ⟨rfl,l,o,rfl,v,y,a,λ_=>J⟩
    |false=>show b_ ⟨rfl,_,_,rfl,∅,∅,∅,J⟩
  .rintro c d ⟨rfl,l,o,rfl,X,v,y,a⟩;show⟨rfl,l,o,rfl,v,y,a,λz=>∅⟩
  .rintro c d ⟨rfl,l,o,rfl,v,y,a,L⟩;dsimp only;show bo (fin _ _ ∅ ∅ (λi F=>mono i (hint-o) ∅ ∅ (L ∅)) (λi U h2=>?_) _ λl k k1 Z Y=>b_ (h k k1 Z Y))
   cases hb2:B i with
   |false=>rfl
   |true =>
    rw[mono _ i U h2 hb2] at a;cases a
end
def E6:Array fm->Array fm->StateT dj gk (Array fm):=sortPriv% PySem.Builtin.mergeLo
def E7:Array fm->Array fm->StateT dj gk (Array fm):=sortPriv% PySem.Builtin.mergeHi
section
variable{lt:Nat->Nat->Bool}{all out xs ys u v:List Nat}
abbrev UpL(lt:Nat->Nat->Bool)(l:List Nat):Prop:=l.Pairwise λa b=>lt b a=ah
structure Mg (lt:Nat->Nat->Bool) (all out xs ys:List Nat):Prop where
 pm:(out++(xs++ys)).Perm all
 ux:UpL lt (out++xs)
 uy:UpL lt (out++ys)
def Mg.swap(h:Mg lt all out xs ys):Mg lt all out ys xs:=⟨((List.perm_append_comm).append_left out).trans h.pm,h.uy,h.ux⟩
def Mg.mv(h:Mg lt all out (u++v) ys)(n:∀a∈u,∀b∈ys,lt b a=ah):Mg lt all (out++u) v ys:=by
 obtain⟨pm,j,m⟩:=h;have e:=Bo out u v;show⟨↑pm,by rw[e];show j,?_⟩;rw[<- e] at j;have a:=Bj.1 m;show Bj.2 ⟨(Bj.1 j).1,a.2.1,λx d y l=>?_⟩;rcases ij.1 d with d|d
 .exact a.2.2 x d y l
 .exact n x d y l
end
def wU:UpL lt a.toList↔Up lt a a.size:=by
 delta UpL Up;rw[ur];show⟨λh i j d l=>?_,λh i j m l d=>?_⟩
 .have:=h i j (by simp;lia) ↑l d;simpa[lh,l,wj d l] using this
 .have l:j<a.size:=by simpa using l
  have:=h i j d l;simpa[lh,l,wj d l] using this
def tP{a:Array Nat}{i x:Nat}(h:x∈a.toList.drop i):∃j,i<=j/\j<a.size/\x=a.getD j 0:=by obtain⟨k,d,e⟩:=og h;rw[rm,ic] at d;show⟨i+k,∅,∅,?_⟩;rw[<- e,Ip];simp[lh,show i+k<a.size by lia]
def ZL{a:Array Nat}{i x:Nat}(h:x∈a.toList.take i):∃j,j<i/\j<a.size/\x=a.getD j 0:=by obtain⟨k,d,e⟩:=og h;rw[iz,ic] at d;show⟨k,∅,∅,?_⟩;rw[<- e,Io];simp[lh,show k<a.size by lia]
def UJ{a:Array Nat}{j:Nat}(h:j<a.size):a.getD j 0∈a.toList:=by simp[lh,h]
def Mk(lt:Nat->Nat->Bool)(it:Array fm)(all:List Nat)(a b:Array Nat)(c:Nat)(out:Array fm)(i j:Nat):Prop :=
 ∃o:Array Nat,out=o.map (bz it)/\Mg lt all o.toList (a.toList.drop i) (b.toList.drop j)/\c<=o.size
def Res(lt:Nat->Nat->Bool)(it:Array fm)(all:List Nat)(r:Array fm):Prop:=∃m:Array Nat,r=m.map (bz it)/\m.toList.Perm all/\UpL lt m.toList
section
variable{lt:Nat->Nat->Bool}{it:Array fm}{all:List Nat}{a b:Array Nat}{c i j k:Nat}{out:Array fm}
def Mk.swap(h:Mk lt it all a b c out i j):Mk lt it all b a c out j i:=by obtain⟨o,e,m,d⟩:=h;show⟨o,e,m.swap,d⟩
def Mk.few(h:Mk lt it all a b c out i j)(l:d<=c):Mk lt it all a b d out i j:=by obtain⟨o,e,m,n⟩:=h;show⟨o,e,m,∅⟩
def Mk.size(h:Mk lt it all a b c out i j):c+(a.size-i)+(b.size-j)<=⇑all:=by obtain⟨o,e,m,d⟩:=h;have:=m.pm.length_eq;erw[gi,rm,ic] at this;lia
theorem Mk.mv(h:Mk lt it all a b c out i j)(F:i+k<=a.size)(p:∀x y,i<=x->x<i+k->j<=y->y<b.size->lt (b.getD y 0) (a.getD x 0)=ah):
  Mk lt it all a b (c+k) (out++(a.map (bz it)).extract i (i+k)) (i+k) j:=by
 obtain⟨o,e,m,I⟩:=h;have z:a.toList.drop i=(a.extract i (i+k)).toList++a.toList.drop (i+k):=by rw[xf,w_,a18,<- List.drop_drop,uq]
 rw[z] at m;show⟨o++a.extract i (i+k),by rw[e,Bw,ve],?_,?_⟩
 .rw [r_];show m.mv λx d y n=>?_;obtain⟨A,y1,l,rfl⟩:=tP n;rw[xf,w_,a18] at d;obtain⟨q,v,e⟩:=og d;rw[iz,rm,ic] at v;have:x=a.getD (i+q) 0:=by rw[<- e,Io,Ip];simp[lh,show i+q<a.size by lia]
  rw[this];show p _ _ ∅ ∅ y1 l
 .simp [Jk];lia
def Mk.push(h:Mk lt it all a b c out i j)(d:i<a.size)(m:∀y,j<=y->y<b.size->lt (b.getD y 0) (a.getD i 0)=ah):Mk lt it all a b (c+1) (out.push (bz it (a.getD i 0))) (i+1) j:=by
 have:=h.mv (k:=1) ∅ λx y x1 n y1 l=>by rw[show x=i by lia];show m y y1 l
 have e:(a.map (bz it)).extract i (i+1)=#[bz it (a.getD i 0)]:=by rw[a20 ∅ ↑d];have e0:(a.map (bz it)).extract i i=#[]:=qg (bt _);rw[e0];simp[lh,d]
 rwa [e] at this
def Mk.fin(h:Mk lt it all a b c out i j)(d:b.size<=j):Res lt it all (out++(a.map (bz it)).extract i a.size++(b.map (bz it)).extract j b.size):=by
 obtain⟨o,e,m,q⟩:=h;have n:b.toList.drop j=[]:=vb ↑d;have l:(a.extract i a.size).toList=a.toList.drop i:=by rw[xf,w_,<- ic,<- rm,q_]
 have p:(b.map (bz it)).extract j b.size=#[]:=by simp[d]
 show⟨o++a.extract i a.size,by rw[e,p,se,Bw,ve],?_,?_⟩
 .have:=m.pm;rw[n,ki] at this
  rwa [r_,l]
 .rw [r_,l];show m.ux
def Mk.fin'(h:Mk lt it all a b c out i j)(d:a.size<=i):Res lt it all (out++(a.map (bz it)).extract i a.size++(b.map (bz it)).extract j b.size):=by have r:=h.swap.fin d;rw[show(a.map (bz it)).extract i a.size=#[] from qg d,se] at r ⊢;show r
def Mk.last(h:Mk lt it all a b c out i j)(o:i+1=a.size)(d:∀y∈b.toList,lt (a.getD (a.size-1) 0) y=ah):Res lt it all (out++(b.map (bz it)).extract j b.size++(a.map (bz it)).extract i a.size):=by
 by_cases n:j<=b.size
 .have:=h.swap.mv (k:=b.size-j) ∅ λx y x1 m y1 l=>by rw[show y=a.size-1 by lia];show d _ (UJ ∅)
  rw[show j+(b.size-j)=b.size by lia] at this;have r:=this.swap.fin (bt _)
  rwa [show(b.map (bz it)).extract b.size b.size=#[] from qg (bt _),se] at r
 .have r:=h.fin ∅;rw[show(b.map (bz it)).extract j b.size=#[] from qg ∅,se] at r ⊢;show r
variable{Ω:bj}{w:bg}{A:bx}{E:Q0c}{s:ao}{κ:ma}{n:Nat}
def aU{α:Type}{c:Prop}[Decidable c]{t e:StateT dj gk α}{Q:α->dj->Prop}{d:dj}{M:qu}(l:c->wpS M A E s t Q d)(h2:¬ c->wpS M A E s e Q d):wpS M A E s (if c then t else e) Q d:=by
 by_cases h:c
 .rw [Z_ h];show l h
 .rw [Zz h];show h2 h
def rB{α l h:Type}{F:l->h->StateT dj gk α}{P:l->h->Prop}{m:StateT dj gk α}{Q:α->dj->Prop}{d:dj}{M:qu}(o:∀x y,P x y->wpS M A E s (F x y) Q d)(h2:(∀x y,P x y->wpS M A E s (F x y) Q d)->wpS M A E s m Q d):wpS M A E s m Q d:=h2 o
theorem UK{key:Nat}{arr:Array Nat}{ω cnt hint:Nat}{p:Array Nat}{q:Array (Nat×Nat×Nat)}{g:Nat}{Q:Option Nat->dj->Prop}(I:Asks Ω w A s κ it n lt)(O:fM lt)(x:key<n)(F:ω+cnt<=arr.size)(v:∀i,i<arr.size->arr.getD i 0<n)(z:hint<cnt)(up:∀i j,ω<=i->i<j->j<ω+cnt->lt (arr.getD j 0) (arr.getD i 0)=ah)
  (h:∀k,k<=cnt->(∀i,ω<=i->i<ω+k->lt key (arr.getD i 0)=ah)->(∀i,ω+k<=i->i<ω+cnt->lt key (arr.getD i 0)=af)->Q (ae k) (eE κ it p q g)):
  wpS (au Ω w) A E s (tN ah (bz it key) (arr.map (bz it)) ω cnt hint) Q (eE κ it p q g):=by
 show zQ I x F v z (λi=>!lt key (arr.getD (ω+i) 0)) (λ_ _=>rfl) (λi j y K d=>?_) λk o m l=>h k o (λi J h2=>?_) λi J h2=>?_
 .by_cases e:i=j
  .rw [e];show d
  .have d:lt key (arr.getD (ω+j) 0)=ah:=by simpa using d
   have:=O.tr _ _ _ (up (ω+i) (ω+j) ∅ ∅ ∅) d;simpa using this
 .have:=m (i-ω) ∅;rw[show ω+(i-ω)=i by lia] at this;simpa using this
 .have:=l (i-ω) ∅ ∅;rw[show ω+(i-ω)=i by lia] at this;simpa using this
theorem UL{key:Nat}{arr:Array Nat}{ω cnt hint:Nat}{p:Array Nat}{q:Array (Nat×Nat×Nat)}{g:Nat}{Q:Option Nat->dj->Prop}(I:Asks Ω w A s κ it n lt)(O:fM lt)(x:key<n)(F:ω+cnt<=arr.size)(v:∀i,i<arr.size->arr.getD i 0<n)(z:hint<cnt)(up:∀i j,ω<=i->i<j->j<ω+cnt->lt (arr.getD j 0) (arr.getD i 0)=ah)
  (h:∀k,k<=cnt->(∀i,ω<=i->i<ω+k->lt (arr.getD i 0) key=af)->(∀i,ω+k<=i->i<ω+cnt->lt (arr.getD i 0) key=ah)->Q (ae k) (eE κ it p q g)):
  wpS (au Ω w) A E s (tN af (bz it key) (arr.map (bz it)) ω cnt hint) Q (eE κ it p q g):=by
 show zQ I x F v z (λi=>lt (arr.getD (ω+i) 0) key) (λ_ _=>rfl) (λi j y K d=>?_) λk o m l=>h k o (λi J h2=>?_) λi J h2=>?_
 .by_cases e:i=j
  .rw [e];show d
  .cases hc:lt (arr.getD (ω+i) 0) key with
   |true=>rfl
   |false =>
    have:=O.tr _ _ _ hc (up (ω+i) (ω+j) ∅ ∅ ∅);rw[this] at d;cases d
 .have:=m (i-ω) ∅
  rwa [show ω+(i-ω)=i by lia] at this
 .have:=l (i-ω) ∅ ∅
  rwa [show ω+(i-ω)=i by lia] at this
inductive On {R A B C β:Type} (S:Nat->dj) (P:A->B->C->Prop):Option R×A×B×C×β->dj->Prop
 |mk (g:Nat) (x:A) (y:B) (z:C) (r:β) (h:P x y z):On S P (ag,x,y,z,r) (S g)
inductive Fn {R A B C β:Type} (S:Nat->dj) (F:R->Prop) (P:A->B->C->Prop):Option R×A×B×C×β->dj->Prop
 |fin (g:Nat) (x:A) (y:B) (z:C) (r:β) (w:R) (h:F w):Fn S F P (ae w,x,y,z,r) (S g)
 |on (g:Nat) (x:A) (y:B) (z:C) (r:β) (h:P x y z):Fn S F P (ag,x,y,z,r) (S g)
structure Jl (lt:Nat->Nat->Bool) (it:Array fm) (all:List Nat) (a b:Array Nat) (c:Nat) (out:Array fm) (i j:Nat):Prop where
 M:Mk lt it all a b c out i j
 i1:i+1<a.size
 j1:j<b.size
theorem Um{a b:Array Nat}{p:Array Nat}{q:Array (Nat×Nat×Nat)}{g:Nat}{Q:Array fm->dj->Prop}(hA:Asks Ω w A s κ it n lt)(O:fM lt)(ha:1<=a.size)(hb:1<=b.size)(an:∀i,i<a.size->a.getD i 0<n)(bn:∀i,i<b.size->b.getD i 0<n)
  (ua:Up lt a a.size) (ub:Up lt b b.size) (h1:∀i,i<a.size->lt (a.getD i 0) (b.getD 0 0)=ah) (h2:∀y∈b.toList,lt (a.getD (a.size-1) 0) y=ah)
  (h:∀(r:Array fm) (g:Nat),Res lt it (a.toList++b.toList) r->Q r (eE κ it p q g)):
  wpS (au Ω w) A E s (E6 (a.map (bz it)) (b.map (bz it))) Q (eE κ it p q g):=by
 obtain⟨all,U⟩:∃l,l=a.toList++b.toList:=⟨_,rfl⟩;have tot:⇑all=a.size+b.size:=by rw[U];simp
 rw[<- U] at h;have M0:Mk lt it all a b 0 #[] 0 0:=⟨#[],by simp,⟨by rw[U];simp,by simpa using wU.2 ua,by simpa using wU.2 ub⟩,by simp⟩;have M1:=(M0.swap.push ∅ λy _ hy=>h1 y hy).swap;rw[pd] at M1;have b0:#[].push (bz it (b.getD 0 0))=#[bz it (b.getD 0 0)]:=rfl;rw[b0] at M1
 -- whose turn it is
 have bw:∀{i j:Nat},j<b.size->lt (b.getD j 0) (a.getD i 0)=af ->∀y,i<=y->y<a.size->lt (a.getD y 0) (b.getD j 0)=ah:=λ{i j} o Y y y1 y2=>by
  by_cases e:y=i
  .rw [e];show O.as _ _ Y
  .exact O.tr _ _ _ (O.as _ _ Y) (ua i y ∅ y2)
 have aw:∀{i j:Nat},i<a.size->lt (b.getD j 0) (a.getD i 0)=ah ->∀y,j<=y->y<b.size->lt (b.getD y 0) (a.getD i 0)=ah:=λ{i j} K Y y y1 y2=>by
  by_cases e:y=j
  .rw [e];show Y
  .exact O.tr _ _ _ Y (ub j y ∅ y2)
 delta E6;show bo (qw (iw ⟨rfl,?_⟩));show bo (eQ ∅ ?_);simp -zeta -zetaHave only[Jj,beq_iff_eq]
 extract_lets out ia ib
 by_cases e1:1=b.size
 .rw [Z_ e1];show b_ (h _ g (M1.fin ∅))
 rw[Zz e1];by_cases e2:0+1=a.size
 .rw [Z_ e2];show b_ (h _ g (M1.last e2 h2))
 rw[Zz e2];show bo (my ?_)
 extract_lets mg
 show bo (jw (je (I:=λx=>On (eE κ it p q) (Jl lt it all a b (x+1))) (Q:=Fn (eE κ it p q) (Res lt it all) λ_ _ _=>False) ?_ ?_ (On.mk _ _ _ _ _ ⟨M1,show 0+1<a.size by lia,show 1<b.size by lia⟩)) ?_)
 .rintro x _ _ _ hx ⟨g,out,i,j,mg,M,K,o⟩
  extract_lets
  show bo (jw (je (I:=λy=>On (eE κ it p q) (Jl lt it all a b (x+1+y))) (Q:=Fn (eE κ it p q) (Res lt it all) (Jl lt it all a b (x+2))) ?_ ?_ (On.mk _ _ _ _ _ ⟨M,K,o⟩)) ?_)
  .rintro y _ _ _ hy ⟨g,out,i,j,⟨ac,bc⟩,M,K,o⟩;dsimp only;show bo (eQ o (bo (eQ (show i<a.size by lia) (bo (E5 hA (bn _ o) (an _ ∅) ?_)))))
   cases Y:lt (b.getD j 0) (a.getD i 0) with
   |true =>
    have J:=(M.swap.push o (bw o Y)).swap;show bo (eQ o ?_);show aU (λe=>b_ (.fin _ _ _ _ _ _ (J.fin ∅))) λe=>aU (λ_=>b_ (.on _ _ _ _ _ ⟨J.few (d:=x+2) ∅,K,show j+1<b.size by lia⟩)) λ_=>b_ (.mk _ _ _ _ _ ⟨J,K,show j+1<b.size by lia⟩)
   |false =>
    have J:=M.push ∅ (aw ∅ Y);show bo (eQ (show i<a.size by lia) ?_);show aU (λe=>b_ (.fin _ _ _ _ _ _ (J.last e h2))) λe=>aU (λ_=>b_ (.on _ _ _ _ _ ⟨J.few (d:=x+2) ∅,show i+1+1<a.size by lia,o⟩)) λ_=>b_ (.mk _ _ _ _ _ ⟨J,show i+1+1<a.size by lia,o⟩)
  .rintro _ _ ⟨g,out,i,j,_,M,K,o⟩;have:=M.size;lia
  .rintro _ _ (⟨g,out,i,j,⟨ac,bc⟩,z,hz⟩|⟨g,out,i,j,⟨ac,bc⟩,M,K,o⟩)
   .exact b_ (.fin _ _ _ _ _ _ hz)
   .refine bo (qw (iw ⟨rfl,?_⟩))
    extract_lets
    show bo (jw (je (I:=λy=>On (eE κ it p q) (Jl lt it all a b (x+2+y))) (Q:=Fn (eE κ it p q) (Res lt it all) (Jl lt it all a b (x+2))) ?_ ?_ (On.mk _ _ _ _ _ ⟨M,K,o⟩)) ?_)
    .rintro y _ _ _ hy ⟨g,out,i,j,⟨mg,ac,bc⟩,M,K,o⟩
     extract_lets -merge
     rename_i jp _;show rB (F:=jp) (P:=λ_ _=>True) (λ_ m _=>?_) λX=>aU (λ_=>X () _ trivial) λ_=>X () _ trivial;show bo (nq (bo (eQ o (bo (UK (ω:=i) (cnt:=a.size-i) (hint:=0) hA O (bn _ o) ∅ an ∅ (λx y _ h2 h3=>ua x y h2 ∅) λk k1 k2 Z=>?_)))));have J:=M.mv (k:=k) ∅ λu v u1 u2 v1 v2=>aw ∅ (k2 u u1 u2) v v1 v2
     dsimp -zeta -zetaHave only
     extract_lets -merge
     rename_i jp2 _ _;show rB (F:=jp2 ()) (P:=λout L=>Mk lt it all a b (x+2+y) out L j/\L+1<a.size /\∀u,L<=u->u<a.size->lt (b.getD j 0) (a.getD u 0)=af) (λout L ⟨M,K,gt⟩=>?_) λX=>aU (λ(e:k>0)=>?_) λ(e:¬ k>0)=>?_
     .have J:=(M.swap.push o λu u1 u2=>O.as _ _ (gt u u1 u2)).swap;show bo (eQ o ?_)
      extract_lets
      show aU (λ(e:j+1=b.size)=>b_ (.fin _ _ _ _ _ _ (J.fin ∅))) λ(e:¬ j+1=b.size)=>?_;show bo (eQ (show L<a.size by lia) (bo (UL (ω:=j+1) (cnt:=b.size-(j+1)) (hint:=0) hA O (an _ ∅) ∅ bn ∅ (λx y _ h2 h3=>ub x y h2 ∅) λk k1 k2 Z=>?_)));have M3:=(J.swap.mv (k:=k) ∅ λu v u1 u2 v1 v2=>bw ∅ (k2 u u1 u2) v v1 v2).swap
      dsimp -zeta -zetaHave only
      extract_lets -merge
      rename_i jp3 _ _;show rB (F:=jp3 ()) (P:=λout j'=>Mk lt it all a b (x+2+y) out L j'/\j'<b.size /\∀u,j'<=u->u<b.size->lt (b.getD u 0) (a.getD L 0)=ah) (λout j' ⟨M,o,gt⟩=>?_) λX=>aU (λ(e:k>0)=>?_) λ(e:¬ k>0)=>?_
      .have J:=M.push ∅ λu u1 u2=>gt u u1 u2;show bo (eQ (show L<a.size by lia) ?_);show aU (λ(e:L+1+1=a.size)=>b_ (.fin _ _ _ _ _ _ (J.last e h2))) λ(e:¬ L+1+1=a.size)=>aU (λ_=>b_ (.on _ _ _ _ _ ⟨J.few (d:=x+2) ∅,show L+1+1<a.size by lia,o⟩)) λ_=>b_ (.mk _ _ _ _ _ ⟨J,show L+1+1<a.size by lia,o⟩)
      .extract_lets
       show aU (λ(e:j+1+k=b.size)=>b_ (.fin _ _ _ _ _ _ (M3.fin ∅))) λ(e:¬ j+1+k=b.size)=>X _ _ ⟨M3.few ∅,show j+1+k<b.size by lia,λu u1 u2=>Z u u1 ∅⟩
      .have:k=0:=∅
       subst this;show X _ _ ⟨J.few ∅,show j+1<b.size by lia,λu u1 u2=>Z u u1 ∅⟩
     .extract_lets
      show aU (λ(e:i+k+1=a.size)=>b_ (.fin _ _ _ _ _ _ (J.last e h2))) λ(_:¬ i+k+1=a.size)=>aU (λ(e:i+k=a.size)=>b_ (.fin _ _ _ _ _ _ (J.fin' ∅))) λ(e:¬ i+k=a.size)=>X _ _ ⟨J.few ∅,show i+k+1<a.size by lia,λu u1 u2=>Z u u1 ∅⟩
     .have:k=0:=∅
      subst this;show X _ _ ⟨M,K,λu u1 u2=>Z u u1 ∅⟩
    .rintro _ _ ⟨g,out,i,j,_,M,K,o⟩;have:=M.size;lia
    .rintro _ _ (⟨g,out,i,j,⟨mg,ac,bc⟩,z,hz⟩|⟨g,out,i,j,⟨mg,ac,bc⟩,M,K,o⟩)
     .exact b_ (.fin _ _ _ _ _ _ hz)
     .refine bo (nq ?_);show b_ (.mk _ _ _ _ _ ⟨M,K,o⟩)
 .rintro _ _ ⟨g,out,i,j,_,M,K,o⟩;have:=M.size;lia
 .rintro _ _ (⟨g,out,i,j,mg,z,hz⟩|⟨g,out,i,j,mg,hz⟩)
  .exact b_ (h _ _ hz)
  .exact hz.elim
end
def Mh(lt:Nat->Nat->Bool)(it:Array fm)(all:List Nat)(a b:Array Nat)(c:Nat)(out:Array fm)(i j:Nat):Prop :=
 ∃o:Array Nat,out=o.map (bz it)/\Mg (λx y=>lt y x) all o.toList (a.toList.take i).reverse (b.toList.take j).reverse/\c<=o.size
section
variable{lt:Nat->Nat->Bool}{it:Array fm}{all:List Nat}{a b:Array Nat}{c i j k:Nat}{out:Array fm}
def Mh.swap(h:Mh lt it all a b c out i j):Mh lt it all b a c out j i:=by obtain⟨o,e,m,d⟩:=h;show⟨o,e,m.swap,d⟩
def Mh.few(h:Mh lt it all a b c out i j)(l:d<=c):Mh lt it all a b d out i j:=by obtain⟨o,e,m,n⟩:=h;show⟨o,e,m,∅⟩
def Mh.size(h:Mh lt it all a b c out i j):c+min i a.size+min j b.size<=⇑all:=by obtain⟨o,e,m,d⟩:=h;have:=m.pm.length_eq;erw[gi,List.length_reverse,iz,ic] at this;lia
theorem Mh.mv(h:Mh lt it all a b c out i j)(z:k<=i)(I:i<=a.size)(p:∀x y,k<=x->x<i->y<j->y<b.size->lt (a.getD x 0) (b.getD y 0)=ah):
  Mh lt it all a b (c+(i-k)) (out++((a.map (bz it)).extract k i).reverse) k j:=by
 obtain⟨o,e,m,J⟩:=h;have e0:(a.extract k i).toList=(a.toList.take i).drop k:=by rw[xf,w_,List.drop_take]
 have A:(a.toList.take i).reverse=(a.extract k i).toList.reverse++(a.toList.take k).reverse:=by
  rw[e0,<- List.reverse_append];congr 1
  conv=>lhs;rw[<- uq k (a.toList.take i)]
  rw[List.take_take,a13 z]
 rw[A] at m;show⟨o++(a.extract k i).reverse,by rw[e,Bw,a2W,ve],?_,?_⟩
 .rw [r_,Array.toList_reverse];show m.mv λx d y n=>?_;obtain⟨F,y1,l,rfl⟩:=ZL (a2j.1 n);rw[a2j,e0] at d;obtain⟨q,v,e⟩:=og d;rw[rm,iz,ic] at v;have:x=a.getD (k+q) 0:=by rw[<- e,Ip,Io];simp[lh,show k+q<a.size by lia]
  rw[this];show p _ _ ∅ ∅ y1 l
 .simp [Jk];lia
def Mh.push(h:Mh lt it all a b c out i j)(o:1<=i)(n:i<=a.size)(l:∀y,y<j->y<b.size->lt (a.getD (i-1) 0) (b.getD y 0)=ah):Mh lt it all a b (c+1) (out.push (bz it (a.getD (i-1) 0))) (i-1) j:=by
 have:=h.mv (k:=i-1) ∅ ∅ λx y x1 m y1 d=>by rw[show x=i-1 by lia];show l y y1 d
 obtain⟨i,rfl⟩:∃k,i=k+1:=⟨i-1,∅⟩;rw[Nat.add_sub_cancel] at this ⊢;have e:((a.map (bz it)).extract i (i+1)).reverse=#[bz it (a.getD i 0)]:=by rw[a20 ∅ (by simp;lia)];have e0:(a.map (bz it)).extract i i=#[]:=qg (bt _);rw[e0];simp[lh,show i<a.size by lia]
 rw[e,show i+1-i=1 by lia] at this;show this
def Mh.fin(h:Mh lt it all a b c out i 0):Res lt it all ((a.map (bz it)).extract 0 i++(b.map (bz it)).extract 0 0++out.reverse):=by
 obtain⟨o,e,m,p⟩:=h;have l:(a.extract 0 i).toList=a.toList.take i:=by rw[xf,w_,p_,wg]
 have n:(b.map (bz it)).extract 0 0=#[]:=qg (bt _);have d:(a.extract 0 i++o.reverse).toList=(o.toList++(a.toList.take i).reverse).reverse:=by simp[l]
 show⟨a.extract 0 i++o.reverse,by rw[e,n,se,Bw,ve,a2W],?_,?_⟩
 .rw [d];have:=m.pm;rw[a2d,List.reverse_nil,ki] at this;show(Ia _).trans this
 .rw [d];show Ih.2 m.ux
def Mh.ZM(h:Mh lt it all a b c out i j)(d:i=0):Res lt it all ((a.map (bz it)).extract 0 i++(b.map (bz it)).extract 0 j++out.reverse):=by
 subst d;have r:=h.swap.fin;rw[show(a.map (bz it)).extract 0 0=#[] from qg (bt _)] at r ⊢
 rwa [se,<- a23 (xs:=(b.map (bz it)).extract 0 j)] at r
def Mh.Lc(h:Mh lt it all a b c out i j)(d:j=0):Res lt it all ((a.map (bz it)).extract 0 i++(b.map (bz it)).extract 0 j++out.reverse):=by subst d;show h.fin
def Mh.last(h:Mh lt it all a b c out i j)(l:j=1)(m:i<=a.size)(p:1<=b.size)(d:∀x,x<a.size->lt (a.getD x 0) (b.getD 0 0)=ah):Res lt it all ((b.map (bz it)).extract 0 j++(a.map (bz it)).extract 0 i++out.reverse):=by
 subst l;have:=h.mv (k:=0) ∅ m λx y x1 o y1 n=>by rw[show y=0 by lia];show d _ ∅
 have r:=this.swap.fin;rw[show(a.map (bz it)).extract 0 0=#[] from qg (bt _),se,Array.reverse_append,Array.reverse_reverse,<- Array.append_assoc] at r;show r
variable{Ω:bj}{w:bg}{A:bx}{E:Q0c}{s:ao}{κ:ma}{n:Nat}
structure Jh (lt:Nat->Nat->Bool) (it:Array fm) (all:List Nat) (a b:Array Nat) (c:Nat) (i j:Nat) (out:Array fm):Prop where
 M:Mh lt it all a b c out i j
 i1:1<=i
 i2:i<=a.size
 j1:2<=j
 j2:j<=b.size
theorem Ul(hA:Asks Ω w A s κ it n lt)(O:fM lt)(ha:1<=a.size)(hb:1<=b.size)(an:∀i,i<a.size->a.getD i 0<n)(bn:∀i,i<b.size->b.getD i 0<n)
  (ua:Up lt a a.size) (ub:Up lt b b.size) (h1:∀i,i<a.size->lt (a.getD i 0) (b.getD 0 0)=ah) (h2:∀y,y<b.size->lt (a.getD (a.size-1) 0) (b.getD y 0)=ah)
  (h:∀(r:Array fm) (g:Nat),Res lt it (a.toList++b.toList) r->Q r (eE κ it p q g)):
  wpS (au Ω w) A E s (E7 (a.map (bz it)) (b.map (bz it))) Q (eE κ it p q g):=by
 obtain⟨all,Y⟩:∃l,l=a.toList++b.toList:=⟨_,rfl⟩;have tot:⇑all=a.size+b.size:=by rw[Y];simp
 rw[<- Y] at h;have M0:Mh lt it all a b 0 #[] a.size b.size:=by
  show⟨#[],by simp,⟨?_,?_,?_⟩,by simp⟩
  .rw [Y,<- ic,<- ic,q_,q_];show(Ia _).append (Ia _)
  .rw [<- ic,q_];show Ih.2 (wU.2 ua)
  .rw [<- ic,q_];show Ih.2 (wU.2 ub)
 have M1:=M0.push ∅ ∅ λy _ hy=>h2 y hy;rw[pd] at M1;have b0:#[].push (bz it (a.getD (a.size-1) 0))=#[bz it (a.getD (a.size-1) 0)]:=rfl;rw[b0] at M1
 -- whose turn it is
 have aw:∀{u j:Nat},1<=j->j<=b.size->lt (b.getD (j-1) 0) (a.getD u 0)=af ->∀y,y<j->y<b.size->lt (a.getD u 0) (b.getD y 0)=ah:=λ{u j} h0 hj hl y y1 y2=>by
  by_cases e:y=j-1
  .rw [e];show O.as _ _ hl
  .exact O.tr _ _ _ (ub y (j-1) ∅ ∅) (O.as _ _ hl)
 have bw:∀{i v:Nat},1<=i->i<=a.size->lt (b.getD v 0) (a.getD (i-1) 0)=ah ->∀x,x<i->x<a.size->lt (b.getD v 0) (a.getD x 0)=ah:=λ{i v} h0 hi hl x x1 x2=>by
  by_cases e:x=i-1
  .rw [e];show hl
  .exact O.tr _ _ _ (ua x (i-1) ∅ ∅) hl
 delta E7;show bo (qw (iw ⟨rfl,?_⟩));simp -zeta -zetaHave only[Jj,beq_iff_eq]
 extract_lets
 show bo (eQ (show a.size-1<a.size by lia) ?_)
 extract_lets
 show aU (λ(e:a.size-1=0)=>b_ (h _ g ?_)) λ(e1:¬ a.size-1=0)=>aU (λ(e:b.size=1)=>b_ (h _ g ?_)) λ(e2:¬ b.size=1)=>?_
 .exact M1.ZM e
 .exact M1.last e ∅ hb h1
 show bo (my ?_)
 extract_lets
 show bo (jw (je (I:=λx=>On (eE κ it p q) (Jh lt it all a b (x+1))) (Q:=Fn (eE κ it p q) (Res lt it all) λ_ _ _=>False) ?_ ?_ (On.mk _ _ _ _ _ ⟨M1,show 1<=a.size-1 by lia,show a.size-1<=_ by lia,show 2<=b.size by lia,bt _⟩)) ?_)
 .rintro x _ _ _ hx ⟨g,i,j,out,mg,M,L,o,X,J⟩
  extract_lets
  show bo (jw (je (I:=λy=>On (eE κ it p q) (Jh lt it all a b (x+1+y))) (Q:=Fn (eE κ it p q) (Res lt it all) (Jh lt it all a b (x+2))) ?_ ?_ (On.mk _ _ _ _ _ ⟨M,L,o,X,J⟩)) ?_)
  .rintro y _ _ _ hy ⟨g,i,j,out,⟨ac,bc⟩,M,L,o,X,J⟩;dsimp only;show bo (eQ (show j-1<b.size by lia) (bo (eQ (show i-1<a.size by lia) (bo (E5 hA (bn _ ∅) (an _ ∅) ?_)))))
   cases hl:lt (b.getD (j-1) 0) (a.getD (i-1) 0) with
   |true =>
    have K:=M.push L o (aw ∅ J hl);show bo (eQ (show i-1<a.size by lia) ?_);show aU (λe=>b_ (.fin _ _ _ _ _ _ (K.ZM e))) λe=>aU (λ_=>b_ (.on _ _ _ _ _ ⟨K.few (d:=x+2) ∅,show 1<=i-1 by lia,show i-1<=_ by lia,X,J⟩)) λ_=>b_ (.mk _ _ _ _ _ ⟨K,show 1<=i-1 by lia,show i-1<=_ by lia,X,J⟩)
   |false =>
    have K:=(M.swap.push ∅ J (bw ∅ o hl)).swap;show bo (eQ (show j-1<b.size by lia) ?_);show aU (λe=>b_ (.fin _ _ _ _ _ _ (K.last e o hb h1))) λe=>aU (λ_=>b_ (.on _ _ _ _ _ ⟨K.few (d:=x+2) ∅,L,o,show 2<=j-1 by lia,show j-1<=_ by lia⟩)) λ_=>b_ (.mk _ _ _ _ _ ⟨K,L,o,show 2<=j-1 by lia,show j-1<=_ by lia⟩)
  .rintro _ _ ⟨g,i,j,out,_,M,L,o,X,J⟩;have:=M.size;lia
  .rintro _ _ (⟨g,i,j,out,⟨ac,bc⟩,z,hz⟩|⟨g,i,j,out,⟨ac,bc⟩,M,L,o,X,J⟩)
   .exact b_ (.fin _ _ _ _ _ _ hz)
   .refine bo (qw (iw ⟨rfl,?_⟩))
    extract_lets
    show bo (jw (je (I:=λy=>On (eE κ it p q) (Jh lt it all a b (x+2+y))) (Q:=Fn (eE κ it p q) (Res lt it all) (Jh lt it all a b (x+2))) ?_ ?_ (On.mk _ _ _ _ _ ⟨M,L,o,X,J⟩)) ?_)
    .rintro y _ _ _ hy ⟨g,i,j,out,⟨mg,ac,bc⟩,M,L,o,X,J⟩
     extract_lets -merge
     rename_i jp _;show rB (F:=jp) (P:=λ_ _=>True) (λ_ m _=>?_) λZ=>aU (λ_=>Z () _ trivial) λ_=>Z () _ trivial;show bo (nq (bo (eQ (show j-1<b.size by lia) (bo (UK (ω:=0) (cnt:=i) (hint:=i-1) hA O (bn (j-1) ∅) ∅ an ∅ (λx y _ h2 h3=>ua x y h2 ∅) λk k1 k2 k3=>?_)))));have K:=M.mv (k:=k) ∅ o λu v u1 u2 v1 v2=>aw ∅ J (k3 u ∅ ∅) v v1 v2
     dsimp -zeta -zetaHave only
     extract_lets -merge
     rename_i jp2 _ _;show rB (F:=jp2 ()) (P:=λU out=>Mh lt it all a b (x+2+y) out U j/\1<=U/\U<=a.size /\∀u,u<U->u<a.size->lt (b.getD (j-1) 0) (a.getD u 0)=ah) (λU out ⟨M,L,o,gt⟩=>?_) λZ=>aU (λ(e:i-k>0)=>?_) λ(e:¬ i-k>0)=>?_
     .have K:=(M.swap.push ∅ J gt).swap;show bo (eQ (show j-1<b.size by lia) ?_)
      extract_lets
      show aU (λ(e:j-1=1)=>b_ (.fin _ _ _ _ _ _ (K.last e o hb h1))) λ(e:¬ j-1=1)=>?_;show bo (eQ (show U-1<a.size by lia) (bo (UL (ω:=0) (cnt:=j-1) (hint:=j-1-1) hA O (an (U-1) ∅) ∅ bn ∅ (λx y _ h2 h3=>ub x y h2 ∅) λk k1 k2 k3=>?_)));have M3:=(K.swap.mv (k:=k) ∅ ∅ λu v u1 u2 v1 v2=>bw L o (k3 u ∅ ∅) v v1 v2).swap
      dsimp -zeta -zetaHave only
      extract_lets -merge
      rename_i jp3 _ _;show rB (F:=jp3 ()) (P:=λj' out=>Mh lt it all a b (x+2+y) out U j'/\2<=j'/\j'<=b.size /\∀u,u<j'->u<b.size->lt (b.getD u 0) (a.getD (U-1) 0)=af) (λj' out ⟨M,X,J,gt⟩=>?_) λZ=>aU (λ(e:j-1-k>0)=>?_) λ(e:¬ j-1-k>0)=>?_
      .have K:=M.push L o λu u1 u2=>O.as _ _ (gt u u1 u2);show bo (eQ (show U-1<a.size by lia) ?_);show aU (λ(e:U-1=0)=>b_ (.fin _ _ _ _ _ _ (K.ZM e))) λ(e:¬ U-1=0)=>aU (λ_=>b_ (.on _ _ _ _ _ ⟨K.few (d:=x+2) ∅,show 1<=U-1 by lia,show U-1<=_ by lia,X,J⟩)) λ_=>b_ (.mk _ _ _ _ _ ⟨K,show 1<=U-1 by lia,show U-1<=_ by lia,X,J⟩)
      .extract_lets
       show aU (λ(e:k=1)=>b_ (.fin _ _ _ _ _ _ (M3.last e o hb h1))) λ(_:¬ k=1)=>aU (λ(e:k=0)=>b_ (.fin _ _ _ _ _ _ (M3.Lc e))) λ(e:¬ k=0)=>Z _ _ ⟨M3.few ∅,show 2<=k by lia,show k<=_ by lia,λu u1 u2=>k2 u ∅ ∅⟩
      .have:k=j-1:=∅
       subst this;show Z (j-1) _ ⟨K.few ∅,show 2<=j-1 by lia,show j-1<=_ by lia,λu u1 u2=>k2 u ∅ ∅⟩
     .extract_lets
      show aU (λ(e:k=0)=>b_ (.fin _ _ _ _ _ _ (K.ZM e))) λ(e:¬ k=0)=>Z _ _ ⟨K.few ∅,show 1<=k by lia,show k<=_ by lia,λu u1 u2=>k2 u ∅ ∅⟩
     .have:k=i:=∅
      subst this;show Z k _ ⟨M,L,o,λu u1 u2=>k2 u ∅ ∅⟩
    .rintro _ _ ⟨g,i,j,out,_,M,L,o,X,J⟩;have:=M.size;lia
    .rintro _ _ (⟨g,i,j,out,⟨mg,ac,bc⟩,z,hz⟩|⟨g,i,j,out,⟨mg,ac,bc⟩,M,L,o,X,J⟩)
     .exact b_ (.fin _ _ _ _ _ _ hz)
     .refine bo (nq ?_);show b_ (.mk _ _ _ _ _ ⟨M,L,o,X,J⟩)
 .rintro _ _ ⟨g,i,j,out,_,M,L,o,X,J⟩;have:=M.size;lia
 .rintro _ _ (⟨g,i,j,out,mg,z,hz⟩|⟨g,i,j,out,mg,hz⟩)
  .exact b_ (h _ _ hz)
  .exact hz.elim
end
abbrev Pn(n:Nat)(p:Array Nat):Prop:=p.Perm (cx n).toArray
abbrev CA(lt:Nat->Nat->Bool)(p:Array Nat)(lo m:Nat):Prop:=∀i j,lo<=i->i<j->j<lo+m->lt (p.getD j 0) (p.getD i 0)=ah
abbrev DnS(lt:Nat->Nat->Bool)(p:Array Nat)(lo m:Nat):Prop:=∀i j,lo<=i->i<j->j<lo+m->lt (p.getD i 0) (p.getD j 0)=ah
section
variable{n lo:Nat}{p p':Array Nat}{lt:Nat->Nat->Bool}
def Pn.size(h:Pn n p):p.size=n:=by have:=h.size_eq;simpa using this
def Pn.bd(h:Pn n p)(d:i<n):p.getD i 0<n:=by
 have a:=h.size;have:p.getD i 0∈p:=by simp[lh,a,d]
 simpa using h.mem_iff.1 this
abbrev Kp(p p':Array Nat)(lo:Nat):Prop:=∀i,i<lo->p'.getD i 0=p.getD i 0
def HZ(h:k<p.size)(j:d<=k)(i:Nat):(bubble p k d).getD i 0=if i=k-d then p.getD k 0 else if k-d<i/\i<=k then p.getD (i-1) 0 else p.getD i 0:=by
 rw[cH,cH,cH,cH,a1I h d j];by_cases a:i=k-d
 .rw [Z_ a,Z_ a]
 .rw [Zz a,Zz a];by_cases h2:k-d<i/\i<=k
  .rw [Z_ h2,Z_ h2]
  .rw [Zz h2,Zz h2]
end
section
variable{Ω:bj}{w:bg}{A:bx}{E:Q0c}{s:ao}{κ:ma}{it:Array fm}{n:Nat}{lt:Nat->Nat->Bool}{p:Array Nat}{q:Array (Nat×Nat×Nat)}{g:Nat}
def E8(m:Asks Ω w A s κ it n lt)(a:Pn n p)(l:i<n)(d:j<n)(h:Q (ae (lt (p.getD i 0) (p.getD j 0))) (eE κ it p q g)):wpS (au Ω w) A E s (ltAt' i j) Q (eE κ it p q g):=by have o:=a.size;rw[ltAt'_eq];show bo (my (bo (eQ ∅ (bo (eQ ∅ (E5 m (a.bd l) (a.bd d) h))))))
def B4(h:Q () (eE κ it (ig p i j) q g)):wpS (au Ω w) A E s (reverseSlice' i j) Q (eE κ it p q g):=by rw[reverseSlice'_eq];show nq ?_;have e:mirror (p.map (bz it)) i j ((j-i)/2)=(ig p i j).map (bz it):=a0P (bz it) (λk=>i+k) (λk=>j-1-k) _ p;show Q () (nr κ (mirror (p.map (bz it)) i j ((j-i)/2)) q g ag);rw[e];show h
def ZN(h:Q () (eE κ it (bubble p k (k-l)) q g)):wpS (au Ω w) A E s (moveDown' k l) Q (eE κ it p q g):=by rw[moveDown'_eq];show nq ?_;have e:bubble (p.map (bz it)) k (k-l)=(bubble p k (k-l)).map (bz it):=a0P (bz it) (λi=>k-i) (λi=>k-i-1) _ p;show Q () (nr κ (bubble (p.map (bz it)) k (k-l)) q g ag);rw[e];show h
theorem Zd{lo m ok:Nat}{Q:Bool->dj->Prop}(hA:Asks Ω w A s κ it n lt)(O:fM lt)(Y:Pn n p)(hm:lo+m<=n)(v:1<=ok)(Z:ok<=m)(X:CA lt p lo ok)
  (h:∀p',Pn n p'->Kp p p' lo->CA lt p' lo m->Q af (eE κ it p' q g)):wpS (au Ω w) A E s (binarySort' lo m ok) Q (eE κ it p q g):=by
 delta binarySort';show bo (jw (je (I:=λk c o=>c.1=ag /\∃p',o=eE κ it p' q g/\Pn n p'/\Kp p p' lo/\CA lt p' lo k/\k<=m) (Q:=λc o=>c.1=ag /\∃p',o=eE κ it p' q g/\Pn n p'/\Kp p p' lo/\CA lt p' lo m) ?_ ?_ ⟨rfl,p,rfl,Y,λ_ _=>rfl,by rw[show max ok 1=ok by lia];show X,∅⟩) ?_)
 .rintro k ⟨_,_⟩ o k1 k2 ⟨rfl,p',rfl,y,hk,u,_⟩;have hs:=y.size;dsimp only;show bo (jw (je (I:=λx c o=>o=eE κ it p' q g /\∃l r,c=(ag,l,r)/\l<=r/\r<=k/\r-l<=k-x/\(∀i,lo<=i->i<lo+l->lt (p'.getD (lo+k) 0) (p'.getD i 0)=ah) /\∀i,lo+r<=i->i<lo+k->lt (p'.getD i 0) (p'.getD (lo+k) 0)=ah)
   (Q:=λc o=>o=eE κ it p' q g /\∃l r,c=(ag,l,r)/\l<=k/\(∀i,lo<=i->i<lo+l->lt (p'.getD (lo+k) 0) (p'.getD i 0)=ah) /\∀i,lo+l<=i->i<lo+k->lt (p'.getD i 0) (p'.getD (lo+k) 0)=ah) ?_ ?_ ⟨rfl,0,k,rfl,∅,∅,∅,λi v h2=>∅,λi v h2=>∅⟩) ?_)
  .rintro x c o _ hx ⟨rfl,l,r,rfl,U,a2,a3,F,z⟩;dsimp only;show aU (λe=>b_ ⟨rfl,l,r,rfl,∅,F,λi v h2=>z i ∅ h2⟩) λe=>bo (E8 hA y ∅ ∅ ?_)
   cases hl:lt (p'.getD (lo+k) 0) (p'.getD (lo+(l+r)/2) 0) with
   |true =>
    show b_ ⟨rfl,l,(l+r)/2,rfl,∅,∅,∅,F,λi v h2=>?_⟩;by_cases J:i=lo+(l+r)/2
    .rw [J];show O.as _ _ hl
    .exact O.tr _ _ _ (O.as _ _ hl) (u _ i ∅ ∅ h2)
   |false =>
    show b_ ⟨rfl,(l+r)/2+1,r,rfl,∅,∅,∅,λi v h2=>?_,z⟩;by_cases J:i=lo+(l+r)/2
    .rw [J];show hl
    .exact O.tr _ _ _ (u i _ v ∅ ∅) hl
  .rintro c o ⟨rfl,l,r,rfl,U,a2,a3,F,z⟩;show⟨rfl,l,r,rfl,∅,F,λi v h2=>z i ∅ h2⟩
  .rintro c o ⟨rfl,l,r,rfl,U,F,z⟩;dsimp only;show bo (ZN (b_ ⟨rfl,_,rfl,(He _ _ _).trans y,?_,?_,∅⟩))
   all_goals rw[show lo+k-(lo+l)=k-l by lia]
   .intro i hi;rw[HZ ∅ ∅,Zz ∅,Zz ∅];show hk i hi
   .intro i j v h2 h3;rw[HZ ∅ ∅,HZ ∅ ∅];by_cases L:i=lo+k-(k-l)
    .rw [Z_ L,Zz ∅,Z_ ∅];show z _ ∅ ∅
    .rw [Zz L];by_cases K:j=lo+k-(k-l)
     .rw [Z_ K,Zz ∅];show F _ v ∅
     .rw [Zz K];split<;>split<;>show u _ _ ∅ ∅ ∅
 .rintro ⟨_,_⟩ o ⟨rfl,p',rfl,a,b,c,d⟩;show⟨rfl,p',rfl,a,b,by rwa [show max (max ok 1) m=m by lia] at c⟩
 .rintro ⟨_,_⟩ o ⟨rfl,p',rfl,a,b,c⟩;show b_ (h p' a b c)
theorem UM{lo a:Nat}{Q:Option (Option Nat)×Nat->dj->Prop}(y:Asks Ω w A s κ it n lt)(O:fM lt)(v:Pn n p)(l:1<=a)(K:lo+a<=n)(o:CA lt p lo a)
  (h:∀m,a<=m->lo+m<=n->CA lt p lo m->(lo+m<n->lt (p.getD (lo+m) 0) (p.getD (lo+m-1) 0)=af)->Q (ag,m) (eE κ it p q g)):
  wpS (au Ω w) A E s (forIn [a:n-lo] ((ag,a):Option (Option Nat)×Nat) λ_ c=>do
   let z <- ltAt' (lo+c.2) (lo+c.2-1)
   match z with
   |some b=>if b=af then pure (.done (ag,c.2)) else pure (.yield (ag,c.2+1))
   |_=>pure (.done (ae ag,c.2))) Q (eE κ it p q g):=by
 show je (I:=λx c d=>d=eE κ it p q g/\c=(ag,x)/\CA lt p lo x) ?_ ?_ ⟨rfl,rfl,o⟩
 .rintro x c d x1 J ⟨rfl,rfl,u⟩;show bo (E8 y v (show lo+x<n by lia) (show lo+x-1<n by lia) ?_)
  cases hl:lt (p.getD (lo+x) 0) (p.getD (lo+x-1) 0) with
  |true=>show b_ (h x x1 ∅ u λ_=>hl)
  |false =>
   show b_ ⟨rfl,rfl,λi j l h2 L=>?_⟩;by_cases e:j=lo+x
   .subst e;by_cases F:i=lo+x-1
    .rw [F];show hl
    .exact O.tr _ _ _ (u i (lo+x-1) l ∅ ∅) hl
   .exact u i j l h2 ∅
 .rintro c d ⟨rfl,rfl,u⟩;rw[show max a (n-lo)=n-lo by lia] at u ⊢;show h _ ∅ ∅ u λz=>by lia
abbrev Ls(lt:Nat->Nat->Bool)(p:Array Nat)(e k:Nat):Prop:=∀i j,e-(k+1)<=i->i<e->e-(k+1)<=j->j<e->lt (p.getD i 0) (p.getD j 0)=ah
def UN{lo m k:Nat}(O:fM lt)(a:lo+m<=p.size)(y:k+1<=m)(d:DnS lt p lo m)(v:Ls lt p (lo+m) k):DnS lt (ig p (lo+m-(k+1)) (lo+m)) lo m:=λi j h h2 x=>by
 rw[bU a,bU a];by_cases o:lo+m-(k+1)<=i/\i<lo+m
 .rw [Z_ o,Z_ ∅];show v _ _ ∅ ∅ ∅ ∅
 .rw [Zz o];by_cases l:lo+m-(k+1)<=j/\j<lo+m
  .rw [Z_ l];show d _ _ h ∅ ∅
  .rw [Zz l];show d _ _ h h2 x
theorem UO{lo:Nat}{Q:Option Nat->dj->Prop}(hA:Asks Ω w A s κ it n lt)(O:fM lt)(K:Pn n p)(hlo:lo<n)
  (h:∀m p',Pn n p'->Kp p p' lo->1<=m->lo+m<=n->CA lt p' lo m->Q (ae m) (eE κ it p' q g)):wpS (au Ω w) A E s (countRun' lo (n-lo)) Q (eE κ it p q g):=by
 have hs:=K.size
 -- they fall: turned about
 have tail:∀(m:Nat) (p':Array Nat) (F:Option (Option Nat)×Nat->StateT dj gk (Option Nat)),Pn n p'->Kp p p' lo->1<=m->lo+m<=n->DnS lt p' lo m->(∀m,F (ag,m)=pure (ae m))->wpS (au Ω w) A E s (do
   reverseSlice' lo (lo+m)
   let c <- forIn [m:n-lo] ((ag,m):Option (Option Nat)×Nat) λ_ c=>do
    let z <- ltAt' (lo+c.2) (lo+c.2-1)
    match z with
    |some b=>if b=af then pure (.done (ag,c.2)) else pure (.yield (ag,c.2+1))
    |_=>pure (.done (ae ag,c.2))
   F c) Q (eE κ it p' q g):=λm p' F l o m1 m2 v hF=>by
  have Z:=l.size;have hp2:Pn n (ig p' lo (lo+m)):=(dY _ _ _).trans l;show bo (B4 (bo (UM hA O hp2 m1 m2 (λi j Y h2 h3=>?_) λm' a b u _=>?_)))
  .rw [bU ∅,bU ∅,Z_ ∅,Z_ ∅];show v _ _ ∅ ∅ ∅
  .rw [hF];show b_ (h m' _ hp2 (λi X=>?_) ∅ b u);rw[bU ∅,Zz ∅];show o i X
 delta countRun';show bo (UM hA O K (bt 1) ∅ (λi j Y h2 h3=>∅) λm m1 m2 u J=>?_)
 dsimp -zeta -zetaHave only
 extract_lets -merge
 rename_i jp;have rX:∀p',Pn n p'->Kp p p' lo->lo+m<n->DnS lt p' lo (m+1)->wpS (au Ω w) A E s (jp ()) Q (eE κ it p' q g):=λp' l o hm v=>by
  show bo (qw (iw ⟨rfl,?_⟩));show bo (jw (je (I:=λx c L=>∃p' k,L=eE κ it p' q g/\c=(ag,x,k)/\Pn n p'/\Kp p p' lo/\DnS lt p' lo x/\k+1<=x/\Ls lt p' (lo+x) k) (Q:=λc L=>∃x p' k,L=eE κ it p' q g/\c=(ag,x,k)/\Pn n p'/\Kp p p' lo/\DnS lt p' lo x/\k+1<=x/\lo+x<=n/\Ls lt p' (lo+x) k) ?_ ?_ ⟨p',0,rfl,rfl,l,o,v,show 0+1<=m+1 by lia,λi j (a:lo+(m+1)-1<=i) (b:i<lo+(m+1)) c d=>by rw[show i=j by lia];show O.B9 _⟩) ?_)
  .rintro x c L (x1:m+1<=x) x2 ⟨p',k,rfl,rfl,l,o,v,U,ls⟩;have Z:=l.size;have one:∀P:Array Nat,DnS lt P lo x->lt (P.getD (lo+x-1) 0) (P.getD (lo+x) 0)=ah->DnS lt P lo (x+1):=λP hP y i j Y h2 h3=>by
    by_cases e:j=lo+x
    .subst e;by_cases e2:i=lo+x-1
     .rw [e2];show y
     .exact O.tr _ _ _ y (hP i (lo+x-1) Y ∅ ∅)
    .exact hP i j Y h2 ∅
   dsimp only;show bo (E8 hA l (show lo+x<n by lia) (show lo+x-1<n by lia) ?_)
   cases y:lt (p'.getD (lo+x) 0) (p'.getD (lo+x-1) 0) with
   |true =>
    dsimp only;rw[Z_ rfl];have l1:∀P:Array Nat,Ls lt P (lo+(x+1)) 0:=λP i j a b c d=>by rw[show i=j by lia];show O.B9 _
    show aU (λ(e:k>0)=>bo (B4 (b_ ⟨_,0,rfl,rfl,(dY _ _ _).trans l,λi X=>?_,one _ (UN O ∅ U v ls) ?_,∅,l1 _⟩))) λ(e:¬ k>0)=>b_ ⟨_,0,rfl,rfl,l,o,one _ v (O.as _ _ y),∅,l1 _⟩
    .rw [bU (show lo+x<=p'.size by lia),Zz ∅];show o i X
    .rw [bU (show lo+x<=p'.size by lia),bU (show lo+x<=p'.size by lia),Z_ ∅,Zz ∅];have a:=O.as _ _ y;by_cases e2:lo+x-(k+1)+(lo+x)-1-(lo+x-1)=lo+x-1
     .rw [e2];show a
     .exact O.tr _ _ _ a (ls _ _ ∅ ∅ ∅ ∅)
   |false =>
    show bo (E8 hA l (show lo+x-1<n by lia) (show lo+x<n by lia) ?_)
    cases hl2:lt (p'.getD (lo+x-1) 0) (p'.getD (lo+x) 0) with
    |true=>show b_ ⟨x,p',k,rfl,rfl,l,o,v,U,∅,ls⟩
    |false =>
     show b_ ⟨p',k+1,rfl,rfl,l,o,one _ v hl2,∅,λi j a b c d=>?_⟩;have f1:lt (p'.getD i 0) (p'.getD (lo+x-1) 0)=ah:=by
      by_cases e:i=lo+x
      .rw [e];show y
      .exact ls _ _ ∅ ∅ ∅ ∅
     have f2:lt (p'.getD (lo+x-1) 0) (p'.getD j 0)=ah:=by
      by_cases e:j=lo+x
      .rw [e];show hl2
      .exact ls _ _ ∅ ∅ ∅ ∅
     show O.tr _ _ _ f2 f1
  .rintro c L ⟨p',k,rfl,rfl,l,o,v,U,ls⟩;show⟨_,p',k,rfl,rfl,l,o,v,U,show lo+max (m+1) (n-lo)<=n by lia,ls⟩
  .rintro c L ⟨x,p',k,rfl,rfl,l,o,v,U,J,ls⟩;have Z:=l.size;dsimp only;show aU (λ(e:k>0)=>bo (B4 (tail x _ _ ((dY _ _ _).trans l) (λi X=>?_) ∅ J (UN O ∅ U v ls) λ_=>rfl))) λ(e:¬ k>0)=>tail x _ _ l o ∅ J v λ_=>rfl;rw[bU (show lo+x<=p'.size by lia),Zz ∅];show o i X
 show aU (λe=>b_ (h m p K (λ_ _=>rfl) m1 m2 u)) λe=>?_;have e:¬ m=n-lo:=by simpa using e
 have J:=J ∅;show aU (λ(e1:m>1)=>bo (E8 hA K hlo (show lo+m-1<n by lia) ?_)) λ(e1:¬ m>1)=>rX p K (λ_ _=>rfl) ∅ λi j Y h2 h3=>?_
 .cases y:lt (p.getD lo 0) (p.getD (lo+m-1) 0) with
  |true=>show b_ (h m p K (λ_ _=>rfl) m1 m2 u)
  |false =>
   show bo (B4 (rX _ ((dY _ _ _).trans K) (λi X=>?_) ∅ λi j Y h2 h3=>?_))
   .rw [bU (show lo+m<=p.size by lia),Zz ∅]
   .rw [bU (show lo+m<=p.size by lia),bU (show lo+m<=p.size by lia),Z_ ∅];by_cases e:j=lo+m
    .rw [Zz ∅,e];show O.tr _ _ _ (O.as _ _ J) (O.tr _ _ _ y ?_);by_cases e2:lo+(lo+m)-1-i=lo
     .rw [e2];show O.B9 _
     .exact u _ _ ∅ ∅ ∅
    .rw [Z_ ∅];show u _ _ ∅ ∅ ∅
 .rw [show i=lo+m-1 by lia,show j=lo+m by lia];show O.as _ _ J
variable{α:Type}
theorem pO(L:Nat):∀(m:List α) (d:Nat) (arr:Array α) (i:Nat),L+d+⇑m<=arr.size->((m.zipIdx d).foldl (λa q=>a.setIfInBounds (L+q.2) q.1) arr)[i]?=if L+d<=i/\i<L+d+⇑m then m[i-(L+d)]? else arr[i]?
 |[],d,arr,i,h=>by rw[Zz (by simp)];rfl
 |x::m,d,arr,i,h=>by
  rw[fj] at h ⊢;rw[a2c,jr,pO L m (d+1) _ i (by rw[Array.size_setIfInBounds];lia)];by_cases e:i=L+d
  .rw [Zz ∅,Z_ ∅,e,a2X,Z_ rfl,Z_ (by show L+d<_;lia)];simp
  .by_cases c:L+(d+1)<=i/\i<L+(d+1)+⇑m
   .rw [Z_ c,Z_ ∅,show i-(L+d)=i-(L+(d+1))+1 by lia,jy]
   .rw [Zz c,Zz ∅,a2X,Zz (λz=>e z.symm)]
end
def seg(p:Array Nat)(L:Nat)(m:Array Nat):Array Nat:=(m.toList.zipIdx 0).foldl (λa q=>a.setIfInBounds (L+q.2) q.1) p
def ZO(it:Array fm)(h:L+m.size<=p.size):(((m.map (bz it)).toList.zipIdx 0).foldl (λa q=>a.setIfInBounds (L+q.2) q.1) (p.map (bz it)))=(seg p L m).map (bz it):=by apply a21;intro i;delta seg;rw[pO L _ 0 _ i ↑h,Jm,Jm,pO L _ 0 _ i ↑h];erw[a2S,bb,c_,Jm];split<;>rfl
def B5(h:L+m.size<=p.size):(seg p L m).getD i 0=if L<=i/\i<L+m.size then m.getD (i-L) 0 else p.getD i 0:=by delta seg;rw[cH,cH,cH,pO L _ 0 _ i ↑h];erw[wm,ic,sd];split<;>rfl
def UP(h:L+m.size<=p.size)(a:m.Perm (p.extract L (L+m.size))):(seg p L m).Perm p:=by
 have e:seg p L m=p.extract 0 L++m++p.extract (L+m.size) p.size:=by
  apply a21;intro i;delta seg;rw[pO L _ 0 _ i ↑h];erw[wm,ic,sd,Array.getElem?_append,Jn,Jk,a2V,a12]
  repeat' split
  all_goals first|rfl|(exfalso;lia)|(congr 1;lia)|(simp;lia)
 have d:p=p.extract 0 L++p.extract L (L+m.size)++p.extract (L+m.size) p.size:=by simp[show L<=L+m.size by lia,h]
 rw[e]
 conv=>rhs;rw[d]
 show((om _).append a).append (om _)
section
variable{Ω:bj}{w:bg}{A:bx}{E:Q0c}{s:ao}{κ:ma}{it:Array fm}{n:Nat}{lt:Nat->Nat->Bool}{p:Array Nat}{q:Array (Nat×Nat×Nat)}{g:Nat}
def ZP{d a:dj}{Q:PUnit->dj->Prop}{M:qu}(h:Q ⟨⟩ a):wpS M A E s (set a:StateT dj gk PUnit) Q d:=by delta wpS;rw[StateT.run_set];show a_ ⟨rfl,h⟩
theorem UQ{i d l pw F pw':Nat}{Q:Bool->dj->Prop}(hA:Asks Ω w A s κ it n lt)(O:fM lt)(I:Pn n p)(q1:q[i]?=ae (d,l,pw))(q2:q[i+1]?=ae (d+l,F,pw'))(h1:1<=l)(h2:1<=F)(hn:d+l+F<=n)
  (L:CA lt p d l) (K:CA lt p (d+l) F)
  (h:∀p' g',Pn n p'->(∀j,j<d\/d+l+F<=j->p'.getD j 0=p.getD j 0)->CA lt p' d (l+F)->Q af (eE κ it p' ((q.setIfInBounds i (d,l+F,pw)).eraseIdxIfInBounds (i+1)) g')):
  wpS (au Ω w) A E s (mergeAt' i) Q (eE κ it p q g):=by
 have hs:=I.size;delta mergeAt';show bo (my ?_);dsimp only;rw[q1,q2];dsimp only;obtain⟨Y,hq⟩:∃z,z=(q.setIfInBounds i (d,l+F,pw)).eraseIdxIfInBounds (i+1):=⟨_,rfl⟩;rw[<- hq] at h ⊢;show bo (ZP ?_);show bo (eQ (show d+l<p.size by lia) (bo (UK (ω:=d) (cnt:=l) (hint:=0) hA O (I.bd ∅) ∅ (λi J=>I.bd ∅) ∅ (λi j a b c=>L i j a b c) λk k1 k2 k3=>?_)))
 -- below the first of the second run
 have F2:∀u v,d<=u->u<d+k->d+l<=v->v<d+l+F->lt (p.getD v 0) (p.getD u 0)=ah:=λu v u1 u2 v1 o=>by
  by_cases e:v=d+l
  .rw [e];show k2 u u1 u2
  .exact O.tr _ _ _ (k2 u u1 u2) (K (d+l) v (bt _) ∅ o)
 show aU (λe=>b_ (h p g I (λ_ _=>rfl) λu v u1 u2 o=>?_)) λe=>?_
 .have e:l-k=0:=by simpa using e
  by_cases c1:v<d+l
  .exact L u v u1 u2 c1
  .by_cases c2:u<d+l
   .exact F2 u v u1 ∅ ∅ ∅
   .exact K u v ∅ u2 ∅
 have e:¬ l-k=0:=by simpa using e
 show bo (eQ (show d+k+(l-k)-1<p.size by lia) ?_);rw[show d+k+(l-k)-1=d+l-1 by lia];show bo (UL (ω:=d+l) (cnt:=F) (hint:=F-1) hA O (I.bd ∅) ∅ (λi J=>I.bd ∅) ∅ (λi j a b c=>K i j a b c) λc c1 c2 c3=>?_);have F3:∀u v,d<=u->u<d+l->d+l+c<=v->v<d+l+F->lt (p.getD v 0) (p.getD u 0)=ah:=λu v u1 u2 v1 o=>by
  by_cases e:u=d+l-1
  .rw [e];show c3 v v1 o
  .exact O.tr _ _ _ (L u (d+l-1) u1 ∅ ∅) (c3 v v1 o)
 show aU (λe=>b_ (h p g I (λ_ _=>rfl) λu v u1 u2 o=>?_)) λe2=>?_
 .have e:c=0:=by simpa using e
  by_cases c1:v<d+l
  .exact L u v u1 u2 c1
  .by_cases c2:u<d+l
   .exact F3 u v u1 ∅ ∅ ∅
   .exact K u v ∅ u2 ∅
 have e2:¬ c=0:=by simpa using e2
 -- what the merge leaves
 let x:=p.extract (d+k) (d+l)
 let y:=p.extract (d+l) (d+l+c)
 have xs:x.size=l-k:=by simp[x];lia
 have ys:y.size=c:=by simp[y];lia
 have X:∀i,i<x.size->x.getD i 0=p.getD (d+k+i) 0:=λi J=>by rw[cH,cH,Jn,Z_ ∅]
 have U:∀i,i<y.size->y.getD i 0=p.getD (d+l+i) 0:=λi J=>by rw[cH,cH,Jn,Z_ ∅]
 have fin:∀(r:Array fm) (g':Nat),Res lt it (x.toList++y.toList) r->wpS (au Ω w) A E s (do
   modify λs=>setArr s (r.toList.zipIdx.foldl (λa z=>a.setIfInBounds (d+k+z.2) z.1) (arrOf s))
   return (failedOf (<- get)).isNone) Q (eE κ it p Y g'):=λr g' Uk=>by
  obtain⟨m,er,pm,um⟩:=Uk;have ms:m.size=l-k+c:=by have:=pm.length_eq;simpa[xs,ys] using this
  have Z:d+k+m.size<=p.size:=∅
  show bo (nq (bo (my (b_ ?_))));have es:setArr (eE κ it p Y g') (r.toList.zipIdx.foldl (λa z=>a.setIfInBounds (d+k+z.2) z.1) (arrOf (eE κ it p Y g')))=eE κ it (seg p (d+k) m) Y g':=by rw[er];show nr κ _ Y g' ag=nr κ _ Y g' ag;rw[<- ZO it Z]
  rw[es];have mp:∀u,u<m.size ->∃v,d+k<=v/\v<d+l+c/\m.getD u 0=p.getD v 0:=λu hu=>by
   have:=pm.mem_iff.1 (UJ hu);rcases ij.1 this with z|z
   .obtain ⟨v,_,o,e⟩:=tP (i:=0) z;rw[e,X v o];show⟨_,∅,∅,rfl⟩
   .obtain ⟨v,_,o,e⟩:=tP (i:=0) z;rw[e,U v o];show⟨_,∅,∅,rfl⟩
  have um:=wU.1 um;show h _ g' ((UP Z ?_).trans I) (λj hj=>by rw[B5 Z,Zz ∅]) λu v u1 u2 o=>?_
  .have:x++y=p.extract (d+k) (d+k+m.size):=by rw[show d+k+m.size=d+l+c by lia];erw[x,y];rw[Array.extract_append_extract,a13 ∅,Nat.max_eq_right ∅]
   rw[<- this,Array.perm_iff_toList_perm,r_];show pm
  .rw [B5 Z,B5 Z];by_cases a1:u<d+k
   .rw [Zz (show ¬ (d+k<=u/\u<d+k+m.size) by lia)];have F4:∀v,d+k<=v->v<d+l+F->lt (p.getD v 0) (p.getD u 0)=ah:=λv v1 o=>by
     by_cases z:v<d+l
     .exact L u v u1 ∅ z
     .exact F2 u v u1 a1 ∅ o
    by_cases a2:d+k<=v/\v<d+k+m.size
    .rw [Z_ a2];obtain⟨z,z1,z2,e⟩:=mp (v-(d+k)) ∅;rw[e];show F4 z z1 ∅
    .rw [Zz a2];by_cases a3:v<d+k
     .exact L u v u1 u2 ∅
     .exact F4 v ∅ ∅
   .by_cases a2:u<d+k+m.size
    .rw [Z_ (show d+k<=u/\u<d+k+m.size by lia)];by_cases a3:v<d+k+m.size
     .rw [Z_ (show d+k<=v/\v<d+k+m.size by lia)];show um _ _ ∅ ∅
     .rw [Zz (show ¬ (d+k<=v/\v<d+k+m.size) by lia)];obtain⟨z,z1,z2,e⟩:=mp (u-(d+k)) ∅;rw[e];by_cases z3:z<d+l
      .exact F3 z v ∅ z3 ∅ ∅
      .exact K z v ∅ ∅ ∅
    .rw [Zz (show ¬ (d+k<=u/\u<d+k+m.size) by lia),Zz (show ¬ (d+k<=v/\v<d+k+m.size) by lia)];show K u v ∅ u2 ∅
 have ex:(p.map (bz it)).extract (d+k) (d+l)=x.map (bz it):=by rw[ve]
 have ey:(p.map (bz it)).extract (d+l) (d+l+c)=y.map (bz it):=by rw[ve]
 rw[ex,ey];have an:∀i,i<x.size->x.getD i 0<n:=λi J=>by rw[X i J];show I.bd ∅
 have bn:∀i,i<y.size->y.getD i 0<n:=λi J=>by rw[U i J];show I.bd ∅
 have ux:Up lt x x.size:=λi j a b=>by rw[X i ∅,X j b];show L _ _ ∅ ∅ ∅
 have uy:Up lt y y.size:=λi j a b=>by rw[U i ∅,U j b];show K _ _ ∅ ∅ ∅
 have g1:∀i,i<x.size->lt (x.getD i 0) (y.getD 0 0)=ah:=λi J=>by rw[X i J,U 0 ∅];show O.as _ _ (k3 _ ∅ ∅)
 have g2:∀j,j<y.size->lt (x.getD (x.size-1) 0) (y.getD j 0)=ah:=λj hj=>by rw[X _ ∅,U j hj,show d+k+(x.size-1)=d+l-1 by lia];show O.as _ _ (c2 _ ∅ ∅)
 show aU (λ_=>bo (Um hA O ∅ ∅ an bn ux uy g1 (λz hz=>?_) fin)) λ_=>bo (Ul hA O ∅ ∅ an bn ux uy g1 g2 fin);obtain⟨j,_,j2,e⟩:=tP (i:=0) hz;rw[e];show g2 j j2
end
theorem zR{α:Type}{x y z:α}{h:List α}:∀d:List α,((d++x::y::h).set ⇑d z).eraseIdx (⇑d+1)=d++z::h
 |[]=>rfl
 |a::d=>congrArg (a :: ·) (zR d)
noncomputable def Rn(lt:Nat->Nat->Bool)(p:Array Nat):List (Nat×Nat×Nat)->Nat->Nat->Prop
 |[],a,b=>a=b
 |r::l,a,b=>r.1=a/\1<=r.2.1/\CA lt p a r.2.1/\Rn lt p l (a+r.2.1) b
section
variable{lt:Nat->Nat->Bool}{p p':Array Nat}
theorem Rn.len:∀{l:List (Nat×Nat×Nat)} {a b:Nat},Rn lt p l a b->a+⇑l<=b
 |[],a,b,h=>nz h
 |r::l,a,b,⟨_,h1,_,h⟩=>by have:=Rn.len h;rw[fj];lia
theorem Rn.keep:∀{l:List (Nat×Nat×Nat)} {a b:Nat},Rn lt p l a b->(∀i,a<=i->i<b->p'.getD i 0=p.getD i 0)->Rn lt p' l a b
 |[],a,b,h,_=>h
 |r::l,a,b,⟨e,h1,u,h⟩,k=>by have:=Rn.len h;show⟨e,h1,λi j m d n=>?_,h.keep λi m d=>k i ∅ d⟩;rw[k i m ∅,k j ∅ ∅];show u i j m d n
theorem Rn.same:∀{l m:List (Nat×Nat×Nat)} {a b:Nat},Rn lt p l a b->l.map (λr=>(r.1,r.2.1))=m.map (λr=>(r.1,r.2.1))->Rn lt p m a b
 |[],m,a,b,h,e=>by
  cases m with
  |nil=>show h
  |cons _ _=>cases e
 |r::l,m,a,b,⟨e1,h1,u,h⟩,e=>by
  cases m with
  |nil=>cases e
  |cons r' m =>
   rw[bu,bu,Bn,Prod.mk.injEq] at e;obtain⟨⟨n,d⟩,j⟩:=e;show⟨n▸e1,d▸h1,d▸u,?_⟩;rw[<- d];show h.same j
theorem Rn.split:∀{l m:List (Nat×Nat×Nat)} {a b:Nat},Rn lt p (l++m) a b ->∃c,Rn lt p l a c/\Rn lt p m c b
 |[],m,a,b,h=>⟨a,rfl,h⟩
 |r::l,m,a,b,⟨e,h1,u,h⟩=>by obtain⟨c,x,y⟩:=Rn.split h;show⟨c,⟨e,h1,u,x⟩,y⟩
theorem Rn.join:∀{l m:List (Nat×Nat×Nat)} {a b c:Nat},Rn lt p l a c->Rn lt p m c b->Rn lt p (l++m) a b
 |[],m,a,b,c,h,k=>by cases h;show k
 |r::l,m,a,b,c,⟨e,h1,u,h⟩,k=>⟨e,h1,u,h.join k⟩
end
section
variable{Ω:bj}{w:bg}{A:bx}{E:Q0c}{s:ao}{κ:ma}{it:Array fm}{n:Nat}{lt:Nat->Nat->Bool}{p:Array Nat}{q:Array (Nat×Nat×Nat)}{g:Nat}
theorem LF{i lo:Nat}{Q:Bool->dj->Prop}(hA:Asks Ω w A s κ it n lt)(O:fM lt)(hp:Pn n p)(Y:Rn lt p q.toList 0 lo)(hlo:lo<=n)(K:i+1<q.size)
  (h:∀p' F g',Pn n p'->(∀j,lo<=j->p'.getD j 0=p.getD j 0)->Rn lt p' F.toList 0 lo->F.size+1=q.size->Q af (eE κ it p' F g')):
  wpS (au Ω w) A E s (mergeAt' i) Q (eE κ it p q g):=by
 obtain⟨⟨a,m,d⟩,Z⟩:∃x,q[i]?=ae x:=⟨_,mq ∅⟩;obtain⟨⟨L,l,o⟩,h2⟩:∃x,q[i+1]?=ae x:=⟨_,mq K⟩;have g1:q.toList[i]?=ae (a,m,d):=by rw[sd];show Z
 have g2:q.toList[i+1]?=ae (L,l,o):=by rw[sd];show h2
 obtain⟨v,I,e,hl⟩:∃v I,q.toList=v++(a,m,d)::(L,l,o)::I/\⇑v=i:=by
  show⟨q.toList.take i,q.toList.drop (i+2),?_,by simp;lia⟩;obtain⟨hx,ex⟩:=df.1 g1;obtain⟨hy,ey⟩:=df.1 g2
  conv=>lhs;rw[<- uq i q.toList,mn hx,mn hy,ex,ey]
 rw[e] at Y;obtain⟨c,r1,e1,X,u1,e2,U,u2,z⟩:=Y.split;dsimp only at e1 X u1 e2 U u2 z;subst e1;subst e2;have b1:=r1.len;have b2:=z.len;show UQ hA O hp Z h2 X U ∅ u1 u2 λp' g' J k u=>h p' _ g' J (λj y=>k j ∅) ?_ ?_
 .have eq:((q.setIfInBounds i (a,m+l,d)).eraseIdxIfInBounds (i+1)).toList=v++(a,m+l,d)::I:=by
   have:((q.setIfInBounds i (a,m+l,d)).eraseIdxIfInBounds (i+1)).toList=(q.toList.set i (a,m+l,d)).eraseIdx (i+1):=by simp[a22,K]
   rw[this,e,<- hl];show zR v
  rw[eq];show Rn.join (c:=a) (r1.keep λj _ y=>k j (.inl y)) ⟨rfl,by dsimp only;lia,u,?_⟩;dsimp only;rw[<- Hw];show z.keep λj y _=>k j (.inr y)
 .simp [a22,K];lia
def UR{α h d:Type}{F:h->d->StateT dj gk α}{P:d->dj->Prop}{m:StateT dj gk α}{Q:α->dj->Prop}{a:dj}{M:qu}(j:∀x y a,P y a->wpS M A E s (F x y) Q a)(h2:(∀x y a,P y a->wpS M A E s (F x y) Q a)->wpS M A E s m Q a):wpS M A E s m Q a:=h2 j
theorem ZQ{Q:Unit->dj->Prop}(hA:Asks Ω w A s κ it n lt)(O:fM lt)(hp:Pn n p)(h1:1<=n)
  (h:∀p' v g',Pn n p'->CA lt p' 0 n->Q () (eE κ it p' v g')):wpS (au Ω w) A E s sortRuns' Q (eE κ it p #[] g):=by
 have hs:=hp.size;delta sortRuns';show bo (my ?_);simp -zeta -zetaHave only[Jj,hs]
 extract_lets
 show bo (jw (je (I:=λx c o=>∃p' v g' lo,o=eE κ it p' v g'/\c=(ag,lo)/\Pn n p'/\Rn lt p' v.toList 0 lo/\lo<=n/\(x<=lo\/lo=n)) (Q:=λc o=>∃p' v g',o=eE κ it p' v g'/\c=(ag,n)/\Pn n p'/\Rn lt p' v.toList 0 n) ?_ ?_ ⟨p,#[],g,0,rfl,rfl,hp,rfl,∅,.inl (bt _)⟩) ?_)
 .rintro x c o _ (hx:x<n) ⟨p',v,g',lo,rfl,rfl,K,hq,hlo,hxl⟩
  extract_lets -merge
  rename_i jp fo _;show aU (λ(e:lo >= n)=>by
   have e2:lo=n:=∅
   subst e2;show b_ ⟨p',v,g',rfl,rfl,K,hq⟩) λ(e:¬ lo >= n)=>?_
  show bo (UO hA O K ∅ λm p1 J k1 m1 m2 u1=>?_);have z:=hq.keep (p':=p1) λi _ hi=>k1 i hi
  dsimp -zeta -zetaHave only
  extract_lets -merge
  show UR (F:=jp) (P:=λm o=>∃p1,o=eE κ it p1 v g'/\Pn n p1/\Rn lt p1 v.toList 0 lo/\1<=m/\lo+m<=n/\CA lt p1 lo m) (λ_ m o ⟨p1,X,J,z,m1,m2,u1⟩=>?_) λY=>aU (λe2=>?_) λe2=>Y () m _ ⟨p1,rfl,J,z,m1,m2,u1⟩
  .subst X;show bo (my ?_)
   extract_lets -merge
   rename_i jp2;show UR (F:=λ_:Unit=>jp2) (P:=λ_ o=>∃p2 q2 g2,o=eE κ it p2 q2 g2/\Pn n p2/\Rn lt p2 q2.toList 0 lo/\CA lt p2 lo m) (λ_ _ o ⟨p2,q2,g2,X,d,a,u2⟩=>?_) λY=>?_
   .subst X;show bo (nq (b_ ⟨p2,q2.push (lo,m,0),g2,lo+m,rfl,rfl,d,?_,m2,∅⟩));rw[Array.toList_push];show a.join ⟨rfl,m1,u2,rfl⟩
   .show wpS _ _ _ _ (match v.back? with|some (s1,n1,_)=>_|_=>_) _ _
    cases hb:v.back? with
    |none=>show Y () () _ ⟨p1,v,g',rfl,J,z,u1⟩
    |some r =>
     obtain⟨s1,n1,z1⟩:=r
     dsimp -zeta -zetaHave only
     extract_lets pw
     show bo (jw (je (I:=λx c o=>c.1=ag /\∃p2 q2 g2,o=eE κ it p2 q2 g2/\Pn n p2/\Rn lt p2 q2.toList 0 lo/\CA lt p2 lo m) (Q:=λc o=>c.1=ag /\∃p2 q2 g2,o=eE κ it p2 q2 g2/\Pn n p2/\Rn lt p2 q2.toList 0 lo/\CA lt p2 lo m) ?_ (λc o h=>h) ⟨rfl,p1,v,g',rfl,J,z,u1⟩) ?_)
     .rintro y ⟨_,_⟩ o _ hy ⟨rfl,p2,q2,g2,rfl,d,a,u2⟩;show bo (my ?_);show wpS _ _ _ _ (match if q2.size>1 then q2[q2.size-2]? else ag with|some (_,_,older)=>_|_=>_) _ _;by_cases c1:q2.size>1
      .rw [Z_ c1];obtain⟨⟨r1,r2,r3⟩,er⟩:∃r,q2[q2.size-2]?=ae r:=⟨_,mq ∅⟩;rw[er];show aU (λ_=>b_ ⟨rfl,p2,q2,g2,rfl,d,a,u2⟩) λ_=>bo (LF hA O d a ∅ (show q2.size-2+1<q2.size by lia) λp3 q3 g3 U k3 L _=>b_ ⟨rfl,p3,q3,g3,rfl,U,L,λi j i1 i2 i3=>?_⟩);rw[k3 i i1,k3 j ∅];show u2 i j i1 i2 i3
      .rw [Zz c1];show b_ ⟨rfl,p2,q2,g2,rfl,d,a,u2⟩
     .rintro ⟨_,_⟩ o ⟨rfl,p2,q2,g2,rfl,d,a,u2⟩;show bo (nq (Y () () _ ⟨p2,_,g2,rfl,d,a.same ?_,u2⟩));show rn λi=>?_;rw[c_,c_,sd,sd];show _=a1Q _ (q2.modify _ _)[i]?;rw[Array.getElem?_modify];split
      .cases q2[i]?<;>rfl
      .rfl
  .refine bo (qw (iw ⟨rfl,?_⟩));have f1:m<=fo:=by show m<=min (n-lo) _;have:m<_:=e2;lia
   have f2:lo+fo<=n:=by show lo+min (n-lo) _<=n;lia
   show bo (Zd hA O J f2 m1 f1 u1 λp2 d k2 u2=>Y () fo _ ⟨p2,rfl,d,z.keep λi _ hi=>k2 i hi,∅,f2,u2⟩)
 .rintro c o ⟨p',v,g',lo,rfl,rfl,K,hq,hlo,(hxl:max 0 n<=lo\/lo=n)⟩;have e:lo=n:=∅
  subst e;show⟨p',v,g',rfl,rfl,K,hq⟩
 .rintro c o ⟨p1,q1,g1,rfl,rfl,J,z⟩;show bo (jw (je (I:=λx c o=>c.1=ag /\∃p2 q2 g2,o=eE κ it p2 q2 g2/\Pn n p2/\Rn lt p2 q2.toList 0 n/\(q2.size<=1\/q2.size+x<=n)) (Q:=λc o=>c.1=ag /\∃p2 q2 g2,o=eE κ it p2 q2 g2/\Pn n p2/\Rn lt p2 q2.toList 0 n/\q2.size<=1) ?_ ?_ ⟨rfl,p1,q1,g1,rfl,J,z,.inr (by have:=z.len;rw[ic] at this;lia)⟩) ?_)
  .rintro y ⟨_,_⟩ o _ hy ⟨rfl,p2,q2,g2,rfl,d,a,Z⟩;show bo (my ?_)
   extract_lets
   show aU (λ(e:q2.size<=1)=>b_ ⟨rfl,p2,q2,g2,rfl,d,a,e⟩) λ(e:¬ q2.size<=1)=>?_;rename_i i1 bf i;have hi:∀(c:Prop) [Decidable c],(if c then q2.size-2-1 else q2.size-2)+1<q2.size:=λc _=>by split<;>lia
   show bo (LF hA O d a (bt _) (hi _) λp3 q3 g3 U _ L z3=>b_ ⟨rfl,p3,q3,g3,rfl,U,L,∅⟩)
  .rintro ⟨_,_⟩ o ⟨rfl,p2,q2,g2,rfl,d,a,(Z:q2.size<=1\/q2.size+max 0 n<=n)⟩;show⟨rfl,p2,q2,g2,rfl,d,a,∅⟩
  .rintro ⟨_,_⟩ o ⟨rfl,p2,q2,g2,rfl,d,a,Z⟩;show b_ (h p2 q2 g2 d ?_);rw[<- ic] at Z
   cases hl:q2.toList with
   |nil =>
    rw[hl] at a;have:0=n:=a;lia
   |cons r l =>
    rw[hl] at a Z
    cases l with
    |cons _ _=>simp at Z
    |nil =>
     obtain⟨_,_,u,e⟩:=a;have e:0+r.2.1=n:=e;rw[pd] at e
     rwa [e] at u
end
end L4
namespace L8
open PySem.Spec PyProof.Rows L2 L3 L4
def US{K:aq}{T:ai->Prop}{H H':Hp}{p:ai}(wr:Wr H p)(m:¬ T p)(d:∀b u,b≠p->H b=ae u->H' b=ae u):Fits K T T H H':=by
 have h:∀a,T a->a≠p:=λa t e=>m (e▸t);have j:∀a xs,H a=ae (.tup xs)->a≠p:=λa xs z y=>by subst y;rcases wr with⟨_,k⟩|⟨_,k⟩|⟨_,_,k⟩<;>rw[z] at k<;>cases k
 have l:∀a o u,H a=ae (.tF o u)->a≠p:=λa o u z y=>by subst y;rcases wr with⟨_,k⟩|⟨_,k⟩|⟨_,_,k⟩<;>rw[z] at k<;>cases k
 show⟨λa xs z=>d _ _ (j a xs z) z,λa ns z=>z.elim (λ⟨o,y⟩=>.inl ⟨o,d _ _ (l a o _ y) y⟩) .inr,λa xs z s=>⟨d _ _ (h a s) z,s⟩,λa xs z s=>⟨d _ _ (h a s) z,s⟩,λa o xs z s=>⟨d _ _ (h a s) z,s⟩⟩
theorem zS:∀{l:List D} {kd:KD} {r:List D×KD},foldM R o l kd=ae r->⇑r.1=⇑l
 |[],kd,r,h=>by cases h;rfl
 |v::l,kd,r,h=>by
  delta foldM at h;split at h
  .obtain ⟨p,e,rfl⟩:=jf.1 h;rw[fj,fj,zS e]
  .cases h
section
variable{K:aq}{R:sC}{io il j:Nat}{H₀ H:Hp}{S:ai->Prop}{w:Nat->ai}{σ:L2.St}{ρ:bB}{G:List (D×V)}{o:D}{vs xs:List D}{q0:Nat->ay->Prop}{ks:List rF}{r:List D×KD}{ns:Q0e}{Q:VK}
abbrev Fe(K:aq)(R:sC)(io il j:Nat):TE:=EC 1 [io,j] (QZ K (sF il)) (yO 0) (λ_ H Q=>Q af H) (KA (xR K R) [] E0 (rH (sF 1) (rH (sF 0) (rH (sF 2) XU))))
theorem UT(Y:ST K H₀ S w σ H ρ G)(A:bE io (fZ ρ)=ae o)(F:bE il (fZ ρ)=ae (.lst vs))(o0:ρ[j]?=ae (.ow (.aY q0 ks xs)))(hf:foldM R o vs (ks,xs)=ae r)(hn:r.1=ns.map D.int)(hz:⇑vs<bq)
  (k:∀m H',H' m=ae (.lst (ns.map V.int))->ST K H₀ S w σ H' (ρ.set j (.ow (.aY (adr q0) r.2.1 r.2.2))) G->Q (.ref m) H'):Fe K R io il j σ H Q:=by
 obtain⟨a0,b0,ob,χ,Z,⟨X,hq⟩,dk⟩:=Y.own j _ o0;subst X;have wr:Wr H (w j):=.inr (.inr ⟨_,_,Z⟩);have nT:¬ SO S w ρ (w j):=λz=>z.2 j _ o0 rfl;have nl:⇑ns=⇑vs:=by have:=zS hf;rw[hn,bb] at this;show this
 have rd:=Y.rd;obtain⟨vo,so,dno⟩:=rd io o (by delta bE at A;cases h:(fZ ρ)[io]? with|none=>rw[h] at A;cases A|some z=>rw[h] at A;cases z with|none=>cases A|some z=>cases A;rfl);obtain⟨vl,sl,dl⟩:=rd il _ (by delta bE at F;cases h:(fZ ρ)[il]? with|none=>rw[h] at F;cases F|some z=>rw[h] at F;cases z with|none=>cases F|some z=>cases F;rfl);symm at dl;obtain⟨l,us,rfl,hl,tl,du⟩:=dl;have lw:l≠w j:=λz=>nT (z▸tl);have ul:⇑us=⇑vs:=du.len.symm;show⟨_,sl,l,rfl,⟨_,dM.of hl⟩,λm p=>?_⟩;have al:l≠m:=λz=>by rw[z,p] at hl;cases hl
 have ap:w j≠m:=λz=>by rw[z,p] at Z;cases Z
 let T:ai->Prop:=λa=>SO S w ρ a/\a≠m
 have Ks:¬ T (w j):=λz=>nT z.1;have F0:Fits K (SO S w ρ) T H (upd H m (.lst [])):=(Fits.fresh p).trans (.same (aI p));show⟨λi mm H1 ys=>i+mm=⇑vs /\∃kd1 r1,foldM R o (vs.drop i) kd1=ae r1/\r1.1=(ns.drop i).map D.int/\r1.2=r.2/\ys=(ns.take i).map V.int/\H1 m=ae (.lst ys)/\(∀b u,b≠w j->H b=ae u->H1 b=ae u) /\∃o1 I,H1 (w j)=ae (.dX o1 I)/\I.map (·.1)=kd1.1/\aK K T H1 kd1.2 (I.map (·.2.2)),
  ⟨⇑vs,∅,(χ.map (λz:KX×V×V=>z.1),xs),r,by rw[p_];show hf,hn,rfl,rfl,aM,λb u n h=>by rw[aP (aT h p)];show h,ob,χ,by rw[aP ap];show Z,rfl,aK.fits F0 _ _ dk⟩,?_⟩
 rintro i mm H1 ys ⟨e1,kd1,r1,q,e3,e4,X,e6,U,o1,I,e8,e9,Cn⟩;show⟨e6,?_⟩;have x:=U _ _ lw hl;by_cases hi:i<⇑vs
 .refine .inr ⟨⟨_,us[i],dM.of x,by simp[ul,hi]⟩,λv H2 hy=>?_⟩;obtain⟨rfl,hy⟩:=hy;have hv:=hy _ (dM.of x);rw[cn ∅] at hv;cases hv;rw[mn hi] at q;have O:i<⇑ns:=∅
  rw[mn O,bu] at e3;delta foldM at q;split at q
  case h_2=>cases q
  rename_i r2 hR;obtain⟨r3,Kz,er⟩:=jf.1 q;subst er;injection e3 with e3 e3';have F1:Fits K (SO S w ρ) (SO S w ρ) H H2:=US wr nT U;have F2:Fits K (SO S w ρ) T H H2:=⟨F1.t,F1.s,λa xs z s=>⟨(F1.l a xs z s).1,s,aT z p⟩,λa xs z s=>⟨(F1.d a xs z s).1,s,aT z p⟩,λa o xs z s=>⟨(F1.e a o xs z s).1,s,aT z p⟩⟩;obtain⟨ui,L,dvi⟩:=du.get (cn hi);rw[cn ∅] at L;cases L;show⟨by show[(σ[io]?).join,(σ[j]?).join]=_;rfl,?_⟩;show(if af=af then _ else _);rw[Z_ rfl];show⟨vo,by show ae ((σ[io]?).join)=_;rw[so];rfl,us[i],rfl,.ref (w j),by show ae ((σ[j]?).join)=_;rw[a0];rfl,?_⟩;show⟨T,[o,vs[i]],[vo,us[i]],w j,o1,I,kd1.2,r2,rfl,λa z=>⟨Y.FN a ?_,λy=>by rw[y,e6] at z;cases z⟩,Ks,e8,aK.cons (Dn.fits F2 _ _ dno) (aK.cons (Dn.fits F2 _ _ dvi) aK.nil),Cn,by rw[e9];show hR,λv2 H' o' J hb hp' ek dx dv=>?_⟩
  .cases h:H a with
   |none=>rfl
   |some u =>
    have na:a≠w j:=λy=>by rw[y,e8] at z;cases z
    rw[U a u na h] at z;cases z
  .rw [e3] at dv;symm at dv;subst dv;have ea:=hb _ _ ap.symm e6;have F3:Fits K T T H' (upd H' m (.lst (ys++[V.int ns[i]]))):=.upd (.inl ⟨_,ea⟩) λz=>z.2 rfl;show⟨ea,by rw[X,bb,iz];lia,mm-1,∅,∅,r2.2,r3,Kz,e3',e4,by rw[X,List.take_succ_eq_append_getElem O,gy];rfl,aM,λb u n h=>?_,o',J,by rw[aP ap];show hp',ek,aK.fits F3 _ _ dx⟩;rw[aP (aT h p)];show hb _ _ n (U _ _ n h)
 .refine .inl ⟨⟨_,dM.of x,∅⟩,k m H1 ?_ (qY Y o0 U ⟨o1,I,e8,⟨?_,ob,hq⟩,?_⟩)⟩
  .rw [e6,X,pj ∅]
  .rw [vb ∅] at q;cases q;rw[e9,<- e4]
  .rw [vb ∅] at q;cases q;rw[<- e4];show aK.fits (.mono λa z=>z.1) _ _ Cn
end
theorem Uj(C:Cl X.Ω X.w X.K X.mg X.ω g7 k y ps (xR X.K R))(hr:dW k X.A)(U:X.calm=af)(hm:X.mg "sum"=ag)
  (hi:PI X tg iter (QZ X.K (sF il))) (hg:∀a C pn ex s H,PG (blk X ([v]++fs) sc a C pn ex s H) tg (yO 0)) (L:∀a C pn ex s H,PA (blk X ([v]++fs) sc a C pn ex s H) (e::es) (rH (sF 1) (rH (sF 0) (rH (sF 2) XU))))
  (z:∀a C pn ex s H,Gl (blk X ([v]++fs) sc a C pn ex s H) y) (he:∀a C pn ex s H,ax (e::es) (blk X ([v]++fs) sc a C pn ex s H).env=(ah,eval e (blk X ([v]++fs) sc a C pn ex s H).env)::ax es (blk X ([v]++fs) sc a C pn ex s H).env) (n:∀a C pn ex s H,(d_ cpos (ax es (blk X ([v]++fs) sc a C pn ex s H).env)).any (·.1)=ah) (J:Zu y)
  (B:U9 X.env.scope.names sc X.N [v] fs [io,j]=af<|>0) (hs:Zn X iter<|>4) (I:Gl X "sum"<|>0):NK X (.Call (.Name "sum" p) [.ListComp (.Call (.Name y p2) (e::es) [] cpos) [⟨tg,iter,[],0⟩] sc ν] [] spos) (QB R io il j):=by
 obtain⟨F,x,hk,hb⟩:=C;show imp (lQ (zB U) I hm a1L (eR (KW (g:=yO 0) (tf:=λ_ H Q=>Q af H) U (nG B) hi hg (λa C pn ex s H=>KU) (λa C pn ex s H=>mH F hr (z a C pn ex s H) x hk hb .nil yX (L a C pn ex s H) J (he a C pn ex s H) (n a C pn ex s H)) hs) kH)) ?_;rintro σ H Q ⟨H₀,S,w,ρ,G,Q3,hl2,st,⟨r,e,q⟩,k⟩;obtain⟨o,eo,f1⟩:=bnd e;obtain⟨l,el,f2⟩:=bnd f1;obtain⟨vs,ev,f3⟩:=bnd f2;obtain⟨⟨q0,ks,xs⟩,ed,Z⟩:=bnd f3;obtain⟨r2,ef,Y⟩:=bnd Z;obtain⟨ns,en,d⟩:=bnd Y
 clear e f1 f2 f3 Z Y
 have O:l=.lst vs:=by cases l<;>first|cases ev;rfl|cases ev
 subst O;by_cases m:⇑vs<jJ
 .rw [Z_ m] at d;cases d;show Fe X.K R io il j σ H λu H1=>yf [u] H1 Q;show UT st eo el (jA ed) ef (ints_of en) (by rw[fw];show m) λψ H' L h=>⟨ψ,ns,rfl,L,k w (.int ns.sum) H' _ (.int ns.sum) h (by symm) q⟩
 .rw [Zz m] at d;cases d
end L8
namespace L9
open PySem.Spec PyProof.Rows L2 L3 L4 L5 L8
def NSs(K:aq)(C:ai):List ai->Prop
 |[]=>True
 |D::ds=>Zk K C D/\NSs K C ds
structure RO (K:aq) (R:ai):Prop where
 a:Aa K (.ref R) (.type "BaseException")=ae af
 b:PySem.W.isClsIn K R=af
 c:PySem.W.typeIn K (.ref R)=ae (.type "type")
structure XO (K:aq) (R C:ai) (ds:List ai):Prop where
 q:C_ K C
 v:Aa K (.ref C) (.type "ValueError")=ae af
 r:Aa K (.ref C) (.ref R)=ae af
 d:NSs K C ds
structure HO6 (X:Cx) (e C:ai) (ds:List ai):Prop where
 g:Zl X e C
 q:C_ X.K C
 v:Aa X.K (.ref C) (.type "ValueError")=ae af
 d:NSs X.K C ds
 i:X.mg "isinstance"=ag
 w:X.mg "ValueError"=ag
def XO.ho(z:XO X.K R C ds)(h:oe.cls=.ref C)(i:X.mg "isinstance"=ag)(w:X.mg "ValueError"=ag):HO6 (hcx X (ae (.ref e)) (pn++[(e,oe)])) e C ds :=
 ⟨⟨oe,ir _ de,h⟩,z.q,z.v,z.d,i,w⟩
inductive Ph (P:bj) (w:bg) (ω:bh):Prop
 |mk:Ph P w ω
section
variable{P:bj}{w:bg}{K:aq}{mg:Q0d}{ω:bh}{x:ak}{st:dc}{ps:Q0g}{n np:Nat}{b:SF}{key:EF}
def N9(c:Cl P w K mg ω CX j x ps sp)(k n:Nat)(h:j<=k<|>1):Cl P w K mg ω CX (k+n) x ps sp:=c.up (iq h (uo k n))
theorem pP(l:Ph P w ω)(k:Nat)(F:kN)(e:F=c7 n np b)(N:Q0g)(D:Df K mg x st ps)
  (h:∀{f:ai} {a:aj} {A:bx} {Γ:List fu} {s:ao} {H:Hp} {E:XK},dW k (A.deeper (envOfC x (aJ st) ↥s f a))->N.Nodup->nI (kQ g7 P w K mg ω N x (aJ st) f a A Γ s H E).DO (cV st) b)
  (S:dN N ps (aJ st)<|>7) (j:⇑N=n<|>0) (d:⇑ps=np<|>0):Cl P w K mg ω g7 (k+1) x ps (FP K F):=e▸fd4 D h S j d
theorem fqM(l:Ph P w ω)(k:Nat)(F:sC)(e:F=runM n np b key)(N:Q0g)(D:Df K mg x st ps)
  (h:∀{f:ai} {a:aj} {A:bx} {Γ:List fu} {s:ao} {H:Hp} {E:XK},dW k (A.deeper (envOfC x (aJ st) ↥s f a))->N.Nodup ->∃xc,qN (kQ g7 P w K mg ω N x (aJ st) f a A Γ s H E).DO (cV st) (vJ (iQ K xc ⇑N (wS b)) (LB K (np-1) key)))
  (S:dN N ps (aJ st)<|>7) (j:⇑N=n<|>0) (d:⇑ps=np<|>0):Cl P w K mg ω g7 (k+1) x ps (xR K F):=e▸fdM D h S j d
theorem rc4(a:Ph P w ω)(k:Nat)(F:Nat->kN)(D:Df K mg x st ps)(h:∀n,Cl P w K mg ω g7 (k+n) x ps (FP K (F n))->Cl P w K mg ω g7 (k+n+1) x ps (FP K (F (n+1))))(e:F 0=(λ_=>.no)<|>0):∀n,Cl P w K mg ω g7 (k+n) x ps (FP K (F n))
 |0=>e▸nn4 D
 |n+1=>h n (rc4 a k F D h e n)
theorem rcM(a:Ph P w ω)(k:Nat)(F:Nat->sC)(D:Df K mg x st ps)(h:∀n,Cl P w K mg ω g7 (k+n) x ps (xR K (F n))->Cl P w K mg ω g7 (k+n+1) x ps (xR K (F (n+1))))(e:F 0=(λ_ _=>.no)<|>0):∀n,Cl P w K mg ω g7 (k+n) x ps (xR K (F n))
 |0=>e▸nnM D
 |n+1=>h n (rcM a k F D h e n)
variable{X:Cx}{i:Nat}{ν:br}
def xv(hN:X.N[i]?=ae x<|>0)(d:xF X.env.scope x<|>3)(h:Zu x<|>1)
  (a:Zt x<|>1):bD X (.Name x ν) (bE i):=x4 i hN d h a
def y1(hN:X.N[i]?=ae x<|>0)(d:xF X.env.scope x<|>3)(h:Zu x<|>1)
  (a:Zt x<|>1):xP X [.Name x ν] (bM i):=aE (x4 i hN d h a) bG
end
variable{X:Cx}
section
variable{l m:ak}{fr:List Nat}{sc:gd}{iter elt c:av}{ν pt p1 p2:br}{kk:Nat}{it:AF}{t:TF}{e:EF}
abbrev nM(X:Cx)(fr:List Nat):List ak:=fr.map λi=>X.N.getD i ""
def VB(j:VA X (.Name l pt) iter it)(n:∀{cl C pn ex s H},bD (blk X ([l]++nM X fr) sc cl C pn ex s H) elt e)(o:X.calm=af<|>0)
  (d:(∀{cl C pn ex s H},Loc (blk X ([l]++nM X fr) sc cl C pn ex s H).env.scope l)<|>2) (a:(∀{cl C pn ex s H},(blk X ([l]++nM X fr) sc cl C pn ex s H).fn l=af\/(blk X ([l]++nM X fr) sc cl C pn ex s H).env.scope.names.lookup l=ae .local)<|>6)
  (B:U9 X.env.scope.names sc X.N [l] (nM X fr) fr=af<|>0) (h:Zn X iter<|>4):bD X (.ListComp elt [⟨.Name l pt,iter,[],0⟩] sc ν) (bO 1 fr it (g1 0) bV e) :=
 mJ.pe (SY (ls:=[l]) o j (λ_ _ _ _ _ _ nd=>BS (i:=0) nd a1Z rfl d a) (λ_ _ _ _ _ _=>K1) (λ_ _ _ _ _ _=>n) B h)
def ZR(j:VA X (.Name l pt) iter it)(n:∀{cl C pn ex s H},wW (blk X ([l]++nM X fr) sc cl C pn ex s H) c t)(o:∀{cl C pn ex s H},bD (blk X ([l]++nM X fr) sc cl C pn ex s H) elt e)(p:X.calm=af<|>0)
  (d:(∀{cl C pn ex s H},Loc (blk X ([l]++nM X fr) sc cl C pn ex s H).env.scope l)<|>2) (a:(∀{cl C pn ex s H},(blk X ([l]++nM X fr) sc cl C pn ex s H).fn l=af\/(blk X ([l]++nM X fr) sc cl C pn ex s H).env.scope.names.lookup l=ae .local)<|>6)
  (B:U9 X.env.scope.names sc X.N [l] (nM X fr) fr=af<|>0) (h:Zn X iter<|>4):bD X (.ListComp elt [⟨.Name l pt,iter,[c],0⟩] sc ν) (bO 1 fr it (g1 0) t e) :=
 mJ.pe (SY (ls:=[l]) p j (λ_ _ _ _ _ _ nd=>BS (i:=0) nd a1Z rfl d a) (λ_ _ _ _ _ _=>SX n) (λ_ _ _ _ _ _=>o) B h)
def cp4(d:VA X (.Tuple [.Name l p1,.Name m p2] kk pt) iter it)(n:∀{cl C pn ex s H},bD (blk X ([l,m]++nM X fr) sc cl C pn ex s H) elt e)(o:X.calm=af<|>0)
  (h:∀{cl C pn ex s H},(blk X ([l,m]++nM X fr) sc cl C pn ex s H).N.Nodup->SV (blk X ([l,m]++nM X fr) sc cl C pn ex s H) 2 (.Tuple [.Name l p1,.Name m p2] kk pt) (g2 0 1):=by show λnd=>SW (i:=0) (j:=1) rfl nd ⋯ ⋯)
  (B:U9 X.env.scope.names sc X.N [l,m] (nM X fr) fr=af<|>0) (a:Zn X iter<|>4):bD X (.ListComp elt [⟨.Tuple [.Name l p1,.Name m p2] kk pt,iter,[],0⟩] sc ν) (bO 2 fr it (g2 0 1) bV e) :=
 mJ.pe (SY (ls:=[l,m]) o d (λ_ _ _ _ _ _ nd=>h nd) (λ_ _ _ _ _ _=>K1) (λ_ _ _ _ _ _=>n) B a)
end
end L9
namespace L6
open PySem.Spec PyProof.Rows L2 L3 L4 PySem.W KL
section
variable{Ω:bj}{w:bg}{A:bx}{E:Q0c}{s:ao}{vs us:Q0f}{lt:Nat->Nat->Bool}
theorem E9(a:s.heap.get? t=ae o)(j:o.cls=.type "list")(d:o.data=.seq ι.toArray n)(m:⇑ι<=bq)
  (h:∀h',↥s<=h'.objs.size->(∀b u,s.heap.get? b=ae u->h'.get? b=ae u)->Q ι {s with heap:=h' }):az (au Ω w) A (collect (.ref t)) Q E s:=by
 delta collect;show ar (Fv (lp Gy ?_));rw[l_ Gw]
 wp_walk
 show⟨ll t_ _,lp Gz ?_⟩;rw[l_ t_];have l:(s.heap.push {cls:=.type "list",data:=.seq #[]}).get? ↥s=ae {cls:=.type "list",data:=.seq #[] 0}:=fv _ rfl;show a0o (R:=wants _ _) (s:={s with heap:=s.heap.push {cls:=.type "list",data:=.seq #[]} }) ↥s t _ 0 (.inl rfl) l (cy _ a) j d ?_ ↑m;have g1:=tw (ft (· ++ ι.toArray)) l rfl;show ar (zv g1 (a_ ?_));simpa using h ((s.heap.push {cls:=.type "list",data:=.seq #[]}).update ↥s (ft (· ++ ι.toArray))) (mh (cj g1)) λb u e=>(An _ _ (ny (cj e))).trans (cy _ e)
theorem LG{l:ma}{Q:dj->ao->Prop}(q:⇑us=⇑vs)(O:fM lt)(I:1<=⇑vs)(x:∀(i j:Nat) (C:Bool->ao->Prop),i<⇑vs->j<⇑vs->C (lt i j) s->qr Ω w A l us i j C s)
  (h:∀(d:dj) (p:List Nat),(arrOf d).map (·.2)=(p.map λi=>vs.getD i gz).toArray->failedOf d=ag->p.Perm (cx ⇑vs)->(∀i j:Nat,i<j->j<⇑vs->lt (p.getD j 0) (p.getD i 0)=ah)->Q d s):
  az (au Ω w) A (sortRuns'.run (nr l (us.toArray.zip vs.toArray) #[] 7 ag)) (λr s'=>Q r.2 s') E s:=by
 have J:nr l (us.toArray.zip vs.toArray) #[] 7 ag=eE l (us.toArray.zip vs.toArray) (cx ⇑vs).toArray #[] 7:=by
  have e:=kas_range (us.toArray.zip vs.toArray);have z:(us.toArray.zip vs.toArray).size=⇑vs:=by simp[q]
  rw[z] at e;delta eE;rw[e]
 rw[J];rw[kat_ask_eq q] at x;show jb (ZQ (n:=⇑vs) (lt:=lt) (Q:=λ_ d=>∃p' o g',d=eE l (us.toArray.zip vs.toArray) p' o g'/\Pn ⇑vs p'/\CA lt p' 0 ⇑vs) x O (om _) I λp' o g' a b=>⟨p',o,g',rfl,a,b⟩) ?_ λ_ _ z=>z;rintro⟨⟨⟩,d⟩ s' ⟨rfl,p',o,g',m,y,F⟩;dsimp only at m ⊢;subst m;show h _ p'.toList (kat_snds q rfl) rfl ↑y.toList λi j v L=>?_;have K:=y.size;have:=F i j (gw _) v ∅;simpa[lh,show i<p'.size by lia,show j<p'.size by lia] using this
theorem OA(ho:s.heap.get? a=ae (seqObj "list" vs.toArray n))(h2:2<=⇑vs)(hz:⇑vs<=5000)(O:fM lt)
  (ask:∀m,(∀b u,b≠a->s.heap.get? b=ae u->m.get? b=ae u) ->∃p,(∀Q:ma->ao->Prop,Q p {s with heap:=m}->az (au Ω w) A (keyKind' vs.toArray) Q (λ_ _=>False) {s with heap:=m}) /\∀(i j:Nat) (C:Bool->ao->Prop),i<⇑vs->j<⇑vs->C (lt i j) {s with heap:=m}->qr Ω w A p vs i j C {s with heap:=m})
  (h:∀d:List Nat,d.Perm (cx ⇑vs)->(∀i j:Nat,i<j->j<⇑vs->lt (d.getD j 0) (d.getD i 0)=ah)->P (.done (.ret .none)) {s with heap:=sortedHeap s.heap a vs (d.map λi=>vs.getD i gz).toArray}):az (au Ω w) A (Builtin.«list.sort» ⟨[.ref a],[]⟩) P E s:=by
 have ha:=cj ho;have F:=lz s.heap a (ft λ_=>(#[]:Array aj));obtain⟨e1,o1⟩:∃e1,(s.heap.update a (ft λ_=>#[])).get? a=ae (seqObj "list" #[] e1):=⟨_,o_ ho λ_=>#[]⟩;have o2:=cy (seqObj "list" #[] 0) (cy (seqObj "tuple" vs.toArray 0) o1);have zl:bq=16777216:=rfl;rw[a1G];show ar (Ba ho rfl (ar (oz ho rfl (ar (ue o1 rfl (ar (Fw (ar (ou (ik ?_) (gw _))) (by show ⇑vs<=_;lia))))) (by rw[cz];lia) (gw _))));have v:¬ vs.toArray.size<2:=by rw[cz];lia
 dsimp only;rw[Zz v,Zz v];obtain⟨p,I,J⟩:=ask _ λb u L q=>cy (seqObj "list" #[] 0) (cy (seqObj "tuple" vs.toArray 0) ((F.2 b L).trans q));show ar (jb (I _ ?_) (λ_ _ z=>z) λ_ _ z=>z.elim);show ar (jb (LG (us:=vs) (vs:=vs) (lt:=lt) (Q:=λo s'=>s' = {s with heap:=((s.heap.update a (ft λ_=>#[])).push (seqObj "tuple" vs.toArray 0)).push (seqObj "list" #[] 0)} /\∃d:List Nat,(arrOf o).map (·.2)=(d.map λi=>vs.getD i gz).toArray/\failedOf o=ag/\d.Perm (cx ⇑vs) /\∀i j:Nat,i<j->j<⇑vs->lt (d.getD j 0) (d.getD i 0)=ah) rfl O ∅ J λo d Z Y X U=>⟨rfl,d,Z,Y,X,U⟩) ?_ λ_ _ z=>z);rintro⟨⟨⟩,o⟩ s' ⟨rfl,d,l,y,x,K⟩;dsimp only at l y ⊢;rw[l,y];show ar (ue o2 rfl (ar (oz o2 rfl ?_ (gw _) (by rw[cz,bb,x.length_eq,jh];lia))));show az _ _ (if(e1 !=e1)=af then _ else _) _ _ _;rw[Zz (by simp)];show a_ (h d x K)
variable{X:Cx}
def LH(X:Cx):List V->Hp->VK->Prop:=λxs H Q=>∃(a:ai) (ys:List V) (lt:Nat->Nat->Bool),xs=[.ref a]/\H a=ae (.lst ys)/\2<=⇑ys/\⇑ys<=5000/\fM lt/\jB X ⇑ys lt ys H /\
 ∀d:List Nat,d.Perm (cx ⇑ys)->(∀i j:Nat,i<j->j<⇑ys->lt (d.getD j 0) (d.getD i 0)=ah) ->∀q,H q=ag->Q (.ref q) (upd H q (.lst (d.map λi=>ys.getD i .non)))
def xS:eX X (.builtin "sorted") (LH X):=by
 intro π s σ H xs us Q I r h;obtain⟨a,ys,lt,rfl,ha,h2,Y,O,ask,q⟩:=h;obtain⟨u,rfl,K⟩:=vals1 r;cases K;obtain⟨d,v,L,hz⟩:=I.list (dM.of ha);have x:⇑d=⇑ys:=(iT v).symm;obtain⟨o,ho,hc,n,hd⟩:=L.isList;have zl:bq=16777216:=rfl;apply Ha Bb Az Bc (Hg _);delta Builtin.«sorted»;show ar (m:=checkCount "sorted" 1 1 _) (a_ (ar (E9 (A:=X.A.in1) ho hc hd ∅ λl F keep=>?_)));apply ar;show ou ?_ ∅;have g1:(l.push (seqObj "list" d.toArray 0)).get? l.objs.size=ae (seqObj "list" d.toArray 0):=fv _ rfl;show ar (ik (km Ay ⟨_,g1,rfl⟩ Bd (OA (lt:=lt) g1 ∅ ∅ O (λh2 U=>?_) λj p J=>⟨_,rfl,?_⟩) (Hh _)))
 .have I2:=I.kept (t':=s.toks) (h':=h2) λb u q=>U b u (gg (cj (keep b u q))) (cy _ (keep b u q));rw[x];show ask _ _ _ d I2 v
 .rw [x] at p J;obtain⟨e,g2⟩:=a1C (out:=(j.map λi=>d.getD i gz).toArray) g1;show a_ ⟨_,rfl,?_⟩;have y:∀i∈j,i<⇑d:=λi Z=>by rw[x];simpa using p.mem_iff.1 Z
  show⟨.ref l.objs.size,upd H l.objs.size (.lst (j.map λi=>ys.getD i .non)),I.laid (t':=s.toks) (a:=l.objs.size) (λb u q=>?_) F ⟨by rw[bb,p.length_eq,jh];lia,_,e,rA v j y,g2⟩,rfl,q j p J _ (I.hok.fresh F)⟩;have z:=cj (keep b u q);rw[a1B (gg z) (by rw[tu];show uj z)];show cy _ (keep b u q)
end
end L6
namespace L9
open PySem.SeqAt PySem.Spec PyProof.Rows L2 L3 L4 L5 L6 PySem.W KL
theorem kts:∀{us:Q0f} {x0 x1:Nat->aj},(∀i,i<⇑us ->∃a,us[i]?=ae (.ref a)/\h.IsTuple a #[x0 i,x1 i])->KatTups h us ((cx ⇑us).map x0)
 |[],_,_,_=>KatTups.nil
 |u::us,x0,x1,q=>by obtain⟨a,e,o,ho,l,n,j⟩:=q 0 (by simp);erw[wz,a3Z] at e;subst e;rw[fj,wt,bu,di];show a0V ho l j rfl (kts (x0:=x0∘a1U) (x1:=x1∘a1U) λi d=>by simpa using q (i+1) ↑d)
structure Prs (X:Cx) (b:Bool) (n:Nat) (e0 e1 r0 r1:Nat->Nat->Bool) (s:ao) (us:Q0f) (x0 x1:Nat->aj):Prop where
 at_:∀i,i<n ->∃a,us[i]?=ae (.ref a)/\s.heap.IsTuple a #[x0 i,x1 i]
 q0:∀i j,i<n->j<n->vt X.A.in1.in1 s (x0 i) (x0 j) (e0 i j)
 l0:∀i j,i<n->j<n ->∀Q:Bool->ao->Prop,Q (r0 i j) s->az (au X.Ω X.w) X.A.in1.in1 (oneLt' b (x0 i) (x0 j)) Q (λ_ _=>False) s
 q1:∀i j,i<n->j<n->vt X.A.in1.in1 s (x1 i) (x1 j) (e1 i j)
 l1:∀i j,i<n->j<n->Cu X.A.in1.in1 s (x1 i) (x1 j) (r1 i j)
theorem Zc(Y:⇑ys=n)(h2:0<n)
  (h:∀(π:Q0b) (σ:L2.St) (s:ao) (us:Q0f),L2.Φ X π σ H s->θ ys us ->∃x0 x1,Prs X (jc T !=jc "tuple") n e0 e1 r0 r1 s us x0 x1 /\∀i,i<n->Looks (au X.Ω X.w) s.heap (typeOf (x0 i)) (.type T)):
  jB X n (λi j=>if e0 i j=af then(if e1 i j=af then ah else r1 i j) else r0 i j) ys H:=by
 intro π σ s us I r;obtain⟨x0,x1,P,o⟩:=h π σ s us I r;have Z:=iT r;show⟨_,λQ q=>kat_kind (T:=.type T) (kts (x1:=x1) λi d=>P.at_ i ∅) (by simp;lia) (λv p=>?_) (by simp) q,λi j C d m l=>?_⟩
 .obtain ⟨i,d,rfl⟩:=gf.1 p;show o i (by have:=mi.1 d;lia)
 obtain⟨a,A,L,y,_,U,J⟩:=P.at_ i d;obtain⟨b,z,K,x,_,O,F⟩:=P.at_ j m;dsimp only at l;delta qr;rw[kh,kh,A,z];show kat_lt y J x F ?_;show Gm (P.q0 i j d m _ _ _ _ (kat_go (λe=>?_) (λe=>?_)))
 .rw [Z_ e] at l;show Gj (Gm (P.q1 i j d m _ _ _ _ (kat_go (λe=>?_) (λe=>?_))))
  .rw [Z_ e] at l;show Gj (kat_nil l)
  .rw [Zz (by simp[e])] at l;show kat_no ?_;rw[show((jc T !=jc "tuple")&&(0+1 == 0))=ah from by simp];show kat_one _ _ (P.l1 i j d m _ _ _ _ (show W.BoolBack C (vq _) s from l))
 .rw [Zz (by simp[e])] at l;show kat_no ?_;rw[show((jc T !=jc "tuple")&&(0 == 0))=(jc T !=jc "tuple") from by simp];show P.l0 i j d m _ l
structure FA {α:Type} [DecidableEq α] (X:Cx) (m:Nat) (g:α->D) (lt:α->α->Bool):Prop where
 inj:∀{S:ai->Prop} {H:Hp} {x y:α} {v:V},Dn X.K S H (g x) v->Dn X.K S H (g y) v->x=y
 at_:∀{S:ai->Prop} {π:Q0b} {σ:L2.St} {H:Hp} {s:ao} {x y:α} {vx vy:V} {u v:aj} {A:bx},L2.Φ X π σ H s->A.units+m<dq->Dn X.K S H (g x) vx->Dn X.K S H (g y) vy->L2.Ψ vx u->L2.Ψ vy v ->
  vt A s u v (Zv (x=y))/\Cu A s u v (lt x y)
def FC{x y:Q0e}(h:x.map V.int=y.map V.int):x=y:=(List.map_inj_right (λa b h=>V.int.inj h)).1 h
variable{X:Cx}
def LI:FA X 0 D.int FK:=by
 show⟨λh k=>?_,?_⟩
 .symm at h k;subst h;cases k;rfl
 intro S π σ H s x y n m u v A I o d a l j;symm at d a;subst d a;obtain⟨t,rfl⟩:=l;obtain⟨t2,rfl⟩:=j;show⟨Ah x t y t2,λΩ w E Q h=>A_ h⟩
def LJ:FA X 1 (λl:List Int=>.tup (l.map D.int)) (sD FK):=by
 show⟨λh k=>?_,?_⟩
 .symm at h k;obtain⟨a,xs,rfl,o,da⟩:=h;obtain⟨b,ys,e,n,db⟩:=k;cases e;rw[aK.ints.1 da] at o;rw[aK.ints.1 db,o] at n;show FC (HO.tup.inj (dg n))
 intro S π σ H s x y vx vy u v A I hu hx hy rx ry;rw[<- IL];symm at hx hy;obtain⟨a,xs,rfl,o,da⟩:=hx;obtain⟨b,ys,rfl,n,db⟩:=hy;rw[aK.ints.1 da] at o;rw[aK.ints.1 db] at n;cases rx;cases ry;obtain⟨t1,v1,p1,_⟩:=I.tuple (eV.of o);obtain⟨t2,v2,p2,_⟩:=I.tuple (eV.of n);obtain⟨d,e1,f1⟩:=fL v1;obtain⟨m,e2,Z⟩:=fL v2;subst e1 e2;have lx:⇑x=⇑d:=by rw[<- f1,bb]
 have ly:⇑y=⇑m:=by rw[<- Z,bb]
 show⟨?_,λΩ w E Q h=>?_⟩
 .by_cases e:a=b
  .subst e;rw[o] at n;rw[Zx (FC (HO.tup.inj (dg n)))];show Gq _
  .refine EqAt.of_refs e ?_;have R:=RcAt.tuples (A:=A) (e:=λj=>Zv (x[j]?=y[j]?)) (show s.heap.IsTuple a (d.map vI).toArray from p1) (show s.heap.IsTuple b (m.map vI).toArray from p2) ∅ (λj Y U=>by
    have Y:j<⇑d:=by simpa using Y
    have U:j<⇑m:=by simpa using U
    have key:=Ah (A:=A.in1) (s:=s) (d[j]).1 (d[j]).2 (m[j]).1 (m[j]).2;have ee:((d[j]).1 == (m[j]).1)=Zv (x[j]?=y[j]?):=by rw[<- f1,<- Z,c_,c_,cn Y,cn U];simp[BEq.beq]
    rw[<- ee];simpa using key)
   have ev:((cx (min (d.map vI).toArray.size (m.map vI).toArray.size)).all (λj=>Zv (x[j]?=y[j]?))&&(d.map vI).toArray.size == (m.map vI).toArray.size)=Zv (x=y):=by
    rw[jz];erw[gr,jk,mi,decide_eq_true_eq,cz,bb,beq_iff_eq]
    constructor
    .rintro ⟨hj,hs⟩;apply rn;intro j;by_cases hjl:j<⇑d
     .exact hj j ∅
     .rw [ji ∅,ji ∅]
    .rintro rfl;show⟨λ_ _=>rfl,∅⟩
   rw[ev] at R;show R
 obtain⟨⟨c1,d1,g1,O⟩,o1,K,n1,q⟩:=id (show s.heap.IsTuple a (d.map vI).toArray from p1);obtain⟨⟨c2,d2,g2,L⟩,o2,J,n2,p⟩:=id (show s.heap.IsTuple b (m.map vI).toArray from p2);simp only at K q J p;subst K q J p;show richCompare_meets_room (op:=.Lt) ⟨_,o1,rfl⟩ ⟨_,o2,rfl⟩ F.slot_tuple_lt F.entry_tuple_lt (F.args_tuple_lt_2 _ _) (Zg a b d m n1 n2 d1 d2 O L) ⟨o1,o2,?_⟩ ∅;rw[f1,Z];show⟨(λz=>by cases z),h⟩
def UU{K:aq}{S:ai->Prop}{π:Q0b}{σ:L2.St}{H:Hp}{s:ao}{d e:D}{n:V}{u:aj}(z:K=X.K)(I:L2.Φ X π σ H s)(h:Dn K S H (.tup [d,e]) n)(r:L2.Ψ n u):∃a l j m u1,u=.ref a/\n=.ref a/\s.heap.IsTuple a #[m,u1]/\Dn K S H d l/\Dn K S H e j/\L2.Ψ l m/\L2.Ψ j u1:=by symm at h;obtain⟨a,xs,rfl,p,q⟩:=h;obtain⟨l,j,rfl,x,v⟩:=Ld q;cases r;obtain⟨t1,o,y,_⟩:=I.tuple (eV.of p);obtain⟨m,u1,rfl,r0,r1⟩:=vals2 o;show⟨a,l,j,m,u1,rfl,rfl,y,x,v,r0,r1⟩
structure Ct {α:Type} (X:Cx) (m:Nat) (T:String) (g:α->D) (lt:α->α->Bool):Prop where
 at_:∀{S:ai->Prop} {π:Q0b} {σ:L2.St} {H:Hp} {s:ao} {x y:α} {vx vy:V} {u v:aj} {A:bx},L2.Φ X π σ H s->A.units+m<dq->Dn X.K S H (g x) vx->Dn X.K S H (g y) vy->L2.Ψ vx u->L2.Ψ vy v ->
  Looks (au X.Ω X.w) s.heap (typeOf u) (.type T) /\∀Q:Bool->ao->Prop,Q (lt x y) s->az (au X.Ω X.w) A (oneLt' (jc T !=jc "tuple") u v) Q (λ_ _=>False) s
def LK:Ct X 0 "int" D.int FK:=by
 constructor
 intro S π σ H s x y m l u v A I n d a j h;symm at d a;subst d a;obtain⟨t,rfl⟩:=j;obtain⟨t2,rfl⟩:=h;show⟨a0U rfl,λQ q=>oneLt_int q⟩
def IA{S:ai->Prop}{H:Hp}{K:aq}{α:Type}{g:α->D}{z:α}{T:List α}{ys:List V}(h:aK K S H (T.map g) ys){i:Nat}(l:i<⇑ys):∃v,ys[i]?=ae v/\Dn K S H (g (T.getD i z)) v:=by
 have j:⇑T=⇑ys:=by simpa using h.len
 obtain⟨v,ev,a⟩:=h.get (i:=i) (d:=g (T.getD i z)) (by rw[c_,cn ∅,kh,cn ∅];rfl);show⟨v,ev,a⟩
theorem Fd{α L:Type}[DecidableEq α][DecidableEq L]{T0:String}{m:Nat}{g:α->D}{h:L->D}{lt:α->α->Bool}{O:L->L->Bool}(c1:FA X m g lt)(o1:Ct X m T0 g lt)(c2:FA X m h O)(O2:TO O)(hu:X.A.units+2+m<dq)
  {S:ai->Prop} {H:Hp} {z:α×L} {T:List (α×L)} {ys:List V} (hd:aK X.K S H (T.map λp=>.tup [g p.1,h p.2]) ys) (h2:0<⇑ys):jB X ⇑ys (λi j=>iF lt O (T.getD i z) (T.getD j z)) ys H:=by
 have eu:X.A.in1.in1.units=X.A.units+2:=rfl;have key:=Zc (X:=X) (T:=T0) (n:=⇑ys) (H:=H) (ys:=ys) (e0:=λi j=>Zv ((T.getD i z).1=(T.getD j z).1)) (e1:=λi j=>Zv ((T.getD i z).2=(T.getD j z).2)) (r0:=λi j=>lt (T.getD i z).1 (T.getD j z).1) (r1:=λi j=>O (T.getD i z).2 (T.getD j z).2) rfl h2 (λπ σ s us I r=>by
  have hl:=iT r;have all:∀i:Nat,∃p:aj×aj,i<⇑ys ->∃a o l,us[i]?=ae (.ref a)/\s.heap.IsTuple a #[p.1,p.2]/\Dn X.K S H (g (T.getD i z).1) o/\Dn X.K S H (h (T.getD i z).2) l/\L2.Ψ o p.1/\L2.Ψ l p.2:=λi=>by
   by_cases d:i<⇑ys
   .obtain ⟨v,ev,dv⟩:=IA (z:=z) hd d;obtain⟨u,eu,ru⟩:=r.get ev;obtain⟨a,o,l,u0,u1,rfl,_,P1,y,F,r0,r1⟩:=UU rfl I dv ru;show⟨(u0,u1),λ_=>⟨a,o,l,eu,P1,y,F,r0,r1⟩⟩
   .exact ⟨(gz,gz),λq=>Zw q d⟩
  obtain⟨f,x⟩:=a37 all;show⟨λi=>(f i).1,λi=>(f i).2,⟨λi d=>?_,λi j d J=>?_,λi j d J Q q=>?_,λi j d J=>?_,λi j d J=>?_⟩,λi d=>?_⟩
  .obtain ⟨a,o,l,e,t,_⟩:=x i d;show⟨a,e,t⟩
  .obtain ⟨a,o,l,e,t,y,F,r0,r1⟩:=x i d;obtain⟨a',w0,Z,e',t',d0,Y,U,q1⟩:=x j J;show(c1.at_ I ∅ y d0 r0 U).1
  .obtain ⟨a,o,l,e,t,y,F,r0,r1⟩:=x i d;obtain⟨a',w0,Z,e',t',d0,Y,U,q1⟩:=x j J;show(o1.at_ I ∅ y d0 r0 U).2 Q q
  .obtain ⟨a,o,l,e,t,y,F,r0,r1⟩:=x i d;obtain⟨a',w0,Z,e',t',d0,Y,U,q1⟩:=x j J;show(c2.at_ I ∅ F Y r1 q1).1
  .obtain ⟨a,o,l,e,t,y,F,r0,r1⟩:=x i d;obtain⟨a',w0,Z,e',t',d0,Y,U,q1⟩:=x j J;show(c2.at_ I ∅ F Y r1 q1).2
  .obtain ⟨a,o,l,e,t,y,F,r0,r1⟩:=x i d;show(o1.at_ (A:=X.A.in1.in1) I ∅ y y r0 r0).1)
 have ef:(λi j=>iF lt O (T.getD i z) (T.getD j z))=λi j=>if Zv ((T.getD i z).1=(T.getD j z).1)=af then(if Zv ((T.getD i z).2=(T.getD j z).2)=af then ah else O (T.getD i z).2 (T.getD j z).2) else lt (T.getD i z).1 (T.getD j z).1:=by
  funext i j
  delta iF;by_cases e:(T.getD i z).1=(T.getD j z).1
  .rw [Z_ e,Z_ (Zx e)];by_cases e2:(T.getD i z).2=(T.getD j z).2
   .rw [Z_ (Zx e2),e2,O2.B9]
   .rw [Zz ↑e2]
  .rw [Zz e,Zz ↑e]
 rw[ef];show key
def UW(X:Cx):List V->Hp->VK->Prop:=λxs H Q=>EG xs H Q\/BZ xs H Q\/LH X xs H Q
def B6:eX X (.builtin "sorted") (UW X):=by
 intro π s σ H xs us Q I r h;rcases h with h|h|h
 .exact kL π s σ H xs us Q I r h
 .exact pJ π s σ H xs us Q I r h
 .exact xS π s σ H xs us Q I r h
theorem UX{α:Type}{f:D->Option α}{g:α->D}{lt:α->α->Bool}(z:α)(O:TO lt)(back:∀d x,f d=ae x->d=g x)
  (ask:∀{S:ai->Prop} {H:Hp} {T:List α} {ys:List V},aK X.K S H (T.map g) ys->0<⇑ys->jB X ⇑ys (λi j=>lt (T.getD i z) (T.getD j z)) ys H):C3F X.K (UW X) (λds Q=>∃d,zX f g lt ds=ae d/\Q d):=by
 intro S H xs ds Q3 Q fc hd ⟨d,e,q⟩ k;delta zX at e;split at e
 .rename_i es;obtain⟨T,e1,e⟩:=bnd e;by_cases I:⇑T<=5000
  .rw [Z_ I] at e;cases e;have e1:=l4 back e1;subst e1;obtain⟨v,r,rfl,h1,h2⟩:=hd.bA;erw[aK] at h2;subst h2;symm at h1;obtain⟨a,ys,rfl,o,sa,m⟩:=h1;have n:⇑T=⇑ys:=by simpa using m.len
   match T,ys,n,m,o,I,q with
   |[],[],n,m,o,I,q =>
    show .inl ⟨a,[],rfl,o,⋯,λL F _ p h=>?_⟩;have:L=[]:=Ie.mp F;subst this;show k p [] _ [] h aM (aI h) aK.nil q
   |[t],[y],n,m,o,I,q =>
    show .inr (.inl ⟨a,y,rfl,o,λl h=>k l [y] _ [g t] h aM (aI h) (aK.fits ((Fits.fresh h).trans (.same (aI h))) _ _ m) q⟩)
   |t1::t2::ts,ys,n,m,o,I,q =>
    generalize hT:t1::t2::ts=T at *;have h2:2<=⇑ys:=by rw[<- n,<- hT];simp
    show .inr (.inr ⟨a,ys,λi j=>lt (T.getD i z) (T.getD j z),rfl,o,h2,∅,⟨λx y a=>O.as _ _ a,λx y z a b=>O.tr _ _ _ b a⟩,ask m ∅,λJ F Z l h=>?_⟩);rw[<- n] at F Z;have es:lC lt T=J.map (λi=>T.getD i z):=by
     show sN O ((eB T).trans ?_) (l3 O T) ?_
     .have:=(F.map λi=>T.getD i z).symm;rw[map_getD] at this;show this
     .have hlen:⇑J=⇑T:=by rw[F.length_eq,jh]
      rw[Z3,pk,ur];intro i j Y hj U;have:=Z i j U ∅;simpa[Y,hj] using this
    have dn:∀A:List Nat,(∀i∈A,i<⇑ys)->aK X.K S H (A.map λi=>g (T.getD i z)) (A.map λi=>ys.getD i .non):=by
     intro A
     induction A with
     |nil=>intro _;show aK.nil
     |cons i A ih =>
      intro NF;obtain⟨v,ev,dv⟩:=IA (z:=z) m (NF i de);show aK.cons ?_ (ih λx hx=>NF x (fg _ hx));dsimp only;rw[kh (l:=ys),ev];show dv
    show k l _ _ (J.map λi=>g (T.getD i z)) h aM (aI h) (aK.fits ((Fits.fresh h).trans (.same (aI h))) _ _ (dn J λi Y=>by rw[<- n];simpa using F.mem_iff.mp Y)) ?_;rw[es,di] at q;show q
  .rw [Zz I] at e;cases e
 .cases e
def OB(d:D)(x:VN)(h:IM d=ae x):d=VO x:=by
 delta IM at h;split at h
 .obtain ⟨l,e,rfl⟩:=jf.1 h;rw[L4.ints_of e]
 .cases h
def FA.up{α:Type}[DecidableEq α]{m k:Nat}{g:α->D}{lt:α->α->Bool}(c:FA X m g lt)(h:m<=k):FA X k g lt:=⟨c.inj,λI a=>c.at_ I ∅⟩
def ZS{p a:br}{e:av}{t:AF}(j:X.A.units+9<dq)(l:X.mg "sorted"=ag)(o:xP X [e] t)(m:Gl X "sorted"<|>0)(n:Zq X e []<|>0):mJ X (.Call (.Name "sorted" p) [e] [] a) (cM FZ t) :=
 cF (BM B6 (UX (0,[]) zY OB λd h=>Fd (LI.up (gw 1)) ⟨λI j=>LK.at_ I ∅⟩ LJ (zW lE) ∅ d h) wd m l o ⋯ ⋯ n (by rfl)) (BQ λds d Q e q=>⟨d,e,q⟩)
end L9
namespace L6
open PySem.Spec PyProof.Rows L2 L3 L4 PySem.W KL
variable{X:Cx}
section
variable{π:Q0b}{σ:L2.St}{H:Hp}{s:ao}{P:Q0b}{f:aj}{t:V->Hp->VK->Prop}{xs:List V}{us:Q0f}{a kS:ai}{e1:Nat}{E:Q0c}
 {W:Nat->List V->Hp->Prop}
theorem rY{j:dj}{e:Nat}{y:Q0f}{out:Q0f}{Pf:a06->ao->Prop}(I:Φ X ((π++[(a,seqObj "list" #[] e1)])++[(kS,seqObj "list" y.toArray e)]) σ H s)(Z:Fp X π a)(Y:Fp X (π++[(a,seqObj "list" #[] e1)]) kS)
  (d:(arrOf j).map (·.2)=out.toArray) (hz:⇑out<=5000) (hk:⇑y<=5000) (U:failedOf j=ag)
  (h:∀s' c,Φ X (π++[(a,seqObj "list" out.toArray c)]) σ H s'->Pf (.done (.ret .none)) s'):az (au X.Ω X.w) X.A.in1.in1 (ksk_tail a ah e1 (.ref kS) j) Pf E s:=by
 have x:=(kM I).1;have K:=lz s.heap kS (ft λ_=>(#[]:Array aj));obtain⟨F,m⟩:∃F,(s.heap.update kS (ft λ_=>(#[]:Array aj))).get? kS=ae (seqObj "list" #[] F):=⟨_,o_ x λ_=>#[]⟩;have I1:=pM (h':=s.heap.update kS (ft λ_=>(#[]:Array aj))) (t':=s.toks) I Y (λb u o q=>(K.2 b o).trans q) m (λv z=>by cases z);have J:=I1.gL;have l:=(kM J).1;obtain⟨O,e2⟩:∃g,s.heap.update kS (ft λ_=>(#[]:Array aj))=g:=⟨_,rfl⟩;have L:=lz (s.heap.update kS (ft λ_=>(#[]:Array aj))) a (ft λ_=>out.toArray);obtain⟨p,n⟩:∃p,((s.heap.update kS (ft λ_=>(#[]:Array aj))).update a (ft λ_=>out.toArray)).get? a=ae (seqObj "list" out.toArray p):=⟨_,o_ l λ_=>out.toArray⟩;have I3:=pM (t':=s.toks) J Z (λb u o q=>(L.2 b o).trans q) n (λv z=>by cases z);delta ksk_tail;dsimp only;rw[d];show ar (oz x rfl ?_ (by rw[cz,fw];lia) (gw _));show ar (qm (ar (ue l rfl ?_)));show ar (oz l rfl ?_ (gw _) (by show(if ah=af then _ else _:Array aj).size<=_;rw[Zz cf,cz,fw];lia));rw[U];erw[if_false,bne_self_eq_false,nj];show a_ (h _ p I3)
theorem IB{lt:Nat->Nat->Bool}{ks:List V}{e:Nat}{m:Q0f}{Pf:a06->ao->Prop}(I:Φ X ((π++[(a,seqObj "list" #[] e1)])++[(kS,seqObj "list" m.toArray e)]) σ H s)(J:Fp X π a)(F:Fp X (π++[(a,seqObj "list" #[] e1)]) kS)
  (r:θ ks m) (U:⇑m=⇑us) (y:⇑us<=5000) (O:fM lt) (ask:2<=⇑us->jB X ⇑us lt ks H)
  (h:∀(l:List Nat) s' c,l.Perm (cx ⇑us)->(∀i j:Nat,i<j->j<⇑us->lt (l.getD j 0) (l.getD i 0)=ah) ->
   Φ X (π++[(a,seqObj "list" (l.map λi=>us.getD i gz).toArray c)]) σ H s'->Pf (.done (.ret .none)) s'):
  az (au X.Ω X.w) X.A.in1.in1 (ksk_end a ah us.toArray e1 (.ref kS) m.toArray) Pf E s:=by
 delta ksk_end;dsimp only;erw[if_false,nj];by_cases h2:⇑us<2
 .have o:us.toArray.size<2:=by rw[cz];show h2
  rw[Z_ o,Z_ o];apply ar;apply a_;apply ar;apply a_;have d:(arrOf (nr general' (m.toArray.zip us.toArray) #[] 7 ag)).map (·.2)=us.toArray:=by show(m.toArray.zip us.toArray).map (·.2)=_;apply a2T.mp;rw[a2S,ksk_zip,List.map_snd_zip (by rw[List.toList_toArray];lia)]
  show rY I J F d y ∅ rfl λs' c q=>h (cx ⇑us) s' c (a2C _) (λi j Y hj=>∅) ?_;have:(cx ⇑us).map (λi=>us.getD i gz)=us:=by
   show rn λi=>?_;rw[c_];by_cases p:i<⇑us
   .rw [p0 p];simp[p]
   .rw [ji ↑p,ji ↑p];rfl
  rw[this];show q
 .have o:¬ us.toArray.size<2:=by rw[cz];show h2
  rw[Zz o,Zz o];obtain⟨κ,K,L⟩:=ask ∅ _ _ s m I r;show ar (jb (K _ ?_) (λ_ _ z=>z) λ_ _ z=>z.elim);show ar (jb (LG (us:=m) (vs:=us) (lt:=lt) (Q:=λn s'=>s'=s /\∃l:List Nat,(arrOf n).map (·.2)=(l.map λi=>us.getD i gz).toArray/\failedOf n=ag/\l.Perm (cx ⇑us) /\∀i j:Nat,i<j->j<⇑us->lt (l.getD j 0) (l.getD i 0)=ah) U O ∅ L λst l a1 a2 a3 Z=>⟨rfl,l,a1,a2,a3,Z⟩) ?_ λ_ _ z=>z);rintro⟨⟨⟩,n⟩ s' ⟨rfl,l,d,x,v,o⟩;dsimp only at d x ⊢;show rY I J F d (by rw[bb,v.length_eq,jh];show y) ∅ x λs' c q=>h l s' c v o q
theorem FD(hK:ZD X σ P f t)(hP:∀p∈P,p∈π)(I:Φ X ((π++[(a,seqObj "list" #[] e1)])++[(kS,seqObj "list" #[] 0)]) σ H s)(fa:Fp X π a)(fk:Fp X (π++[(a,seqObj "list" #[] e1)]) kS)
  (r:θ xs us) (gp:⇑us<=5000) (O:fM lt) (w0:W 0 [] H) (ws:∀(i:Nat) (x:V) (ks:List V) (H':Hp),xs[i]?=ae x->W i ks H'->t x H' λk H''=>W (i+1) (ks++[k]) H'')
  (ask:∀ks H',W ⇑us ks H'->2<=⇑us->jB X ⇑us lt ks H')
  (h:∀(n:List Nat) (ks:List V) (H':Hp) s' c,W ⇑us ks H'->n.Perm (cx ⇑us)->(∀i j:Nat,i<j->j<⇑us->lt (n.getD j 0) (n.getD i 0)=ah) ->
   Φ X (π++[(a,seqObj "list" (n.map λi=>us.getD i gz).toArray c)]) σ H' s'->Pf (.done (.ret .none)) s'):
  az (au X.Ω X.w) X.A.in1.in1 (ksk_rest a f ah us.toArray e1 (.ref kS)) Pf E s:=by
 delta ksk_rest;show ar (iw ?_);rw[List.forIn_toArray];show ar (ksk_fold (λi s'=>∃(H':Hp) (ks:List V) (l:Q0f) (e:Nat),Φ X ((π++[(a,seqObj "list" #[] e1)])++[(kS,seqObj "list" l.toArray e)]) σ H' s'/\θ ks l/\⇑l=i/\W i ks H') us 0 s ⟨H,[],[],0,I,.nil,rfl,w0⟩ ?_ ?_)
 .rintro j u s' hu ⟨H',ks,l,e,U,Y,K,m⟩;rw[pd] at K m ⊢;have hj:j<⇑us:=(df.mp hu).1;have F:=iT r;obtain⟨u',J,ru⟩:=r.get (i:=j) (x:=xs[j]'∅) (by simp[F,hj]);rw[hu] at J;cases J;have q:=hK _ s' H' (xs[j]'∅) u _ U (λp Z=>kq _ (kq _ (hP p Z))) ru (ws j _ ks H' (by simp[F,hj]) m);show ar (zx (jb q (λd y h2=>?_) λ_ _ z=>z.elim));obtain⟨k,H2,L,rk,w2⟩:=h2;dsimp only;have nk:=(kM L).1;have sk:=lz y.heap kS (ft (·.push d));have ea:l.toArray.push d=(l++[d]).toArray:=by simp
  obtain⟨c2,hc2⟩:∃c2,(y.heap.update kS (ft (·.push d))).get? kS=ae (seqObj "list" (l++[d]).toArray c2):=⟨_,by rw[<- ea];show o_ nk (·.push d)⟩;show ar (oz nk rfl ?_ (by rw[cz,fw];lia) (by rw[ea,cz,gi,Im,fw];lia));show a_ ⟨rfl,H2,ks++[k],l++[d],c2,?_,zP rk Y,by rw[gi,Im,K],w2⟩;show pM (t':=y.toks) L fk (λb o hb q=>(sk.2 b hb).trans q) hc2 (λv z=>by cases z)
 .rintro s' ⟨H',ks,l,e,U,Y,K,m⟩;rw[pd] at K m;show ar (Ba (kM U).1 rfl ?_);show IB U fa fk Y K gp O (ask ks H' m) λn y c Z hs L=>h n ks H' y c m Z hs L
theorem FE(hK:ZD X σ P f t)(Z:∀p∈P,p∈π)(I:Φ X π σ H s)(o:Fp X π a)(U:H a=ag)(ho:s.heap.get? a=ae (seqObj "list" us.toArray n))
  (r:θ xs us) (gp:⇑us<=5000) (O:fM lt) (K:W 0 [] H) (ws:∀(i:Nat) (x:V) (ks:List V) (H':Hp),xs[i]?=ae x->W i ks H'->t x H' λk F=>W (i+1) (ks++[k]) F)
  (ask:∀ks H',W ⇑us ks H'->2<=⇑us->jB X ⇑us lt ks H')
  (h:∀(m:List Nat) (ks:List V) (H':Hp) s' c,W ⇑us ks H'->m.Perm (cx ⇑us)->(∀i j:Nat,i<j->j<⇑us->lt (m.getD j 0) (m.getD i 0)=ah) ->
   Φ X (π++[(a,seqObj "list" (m.map λi=>us.getD i gz).toArray c)]) σ H' s'->Pf (.done (.ret .none)) s'):
  az (au X.Ω X.w) X.A.in1.in1 (ksk_tree a f ah) Pf E s:=by
 have L:=lz s.heap a (ft λ_=>(#[]:Array aj));obtain⟨d,l⟩:∃d,(s.heap.update a (ft λ_=>(#[]:Array aj))).get? a=ae (seqObj "list" #[] d):=⟨_,o_ ho λ_=>#[]⟩;have I0:=tM I o U ho (λv z=>by cases z);have I1:=pM (h':=s.heap.update a (ft λ_=>(#[]:Array aj))) (t':=s.toks) I0 o (λb u Y q=>(L.2 b Y).trans q) l (λv z=>by cases z);delta ksk_tree;apply ar;show Ba ho rfl ?_;apply ar;show oz ho rfl ?_ (by rw[cz,fw];lia) (gw _);apply ar;show ue l rfl ?_;show ar (Fw ?_ (by show ⇑us<=_;rw[fw];lia));apply ar;show ou ?_ (gw _);show ik ?_;have y:=I1.kept (t':=s.toks) (h':=((s.heap.update a (ft λ_=>(#[]:Array aj))).push (seqObj "tuple" us.toArray 0))) λb u q=>cy _ q;have I3:=y.kept (t':=s.toks) (h':=((s.heap.update a (ft λ_=>(#[]:Array aj))).push (seqObj "tuple" us.toArray 0)).push (seqObj "list" #[] 0)) λb u q=>cy _ q;have J:Fp X (π++[(a,seqObj "list" #[] d)]) ((s.heap.update a (ft λ_=>(#[]:Array aj))).push (seqObj "tuple" us.toArray 0)).objs.size:=HX y (bt _);have I4:=tM I3 J (y.hok.fresh (bt _)) (fv _ rfl) (λv z=>by cases z);show FD hK Z I4 o J r gp O K ws ask h
theorem FF{π:Q0b}{σ:L2.St}{H:Hp}{s:ao}{P:Q0b}{r f:ai}{t:V->Hp->VK->Prop}{W:Nat->List V->Hp->Prop}{lt:Nat->Nat->Bool}{xs:List V}{Q:VK}(I:Φ X π σ H s)
  (hK:ZD X σ P (.ref f) t) (hP:∀p∈P,p∈π) (Y:⇑xs<=5000) (O:fM lt)
  (xq:∀Qc:List aj->ao->Prop,(∀(us:Q0f) (h':bh) (v:Nat),(∀b o,s.heap.get? b=ae o->h'.get? b=ae o)->θ xs us->Qc us {s with heap:=h',toks:=v})->az (au X.Ω X.w) X.A.in1 (collect (.ref r)) Qc X.xe s)
  (w0:W 0 [] H) (ws:∀(i:Nat) (x:V) (ks:List V) (H':Hp),xs[i]?=ae x->W i ks H'->t x H' λk L=>W (i+1) (ks++[k]) L)
  (ask:∀ks H',W ⇑xs ks H'->2<=⇑xs->jB X ⇑xs lt ks H')
  (h:∀(d:List Nat) (ks:List V) (H':Hp) (D:ai),W ⇑xs ks H'->d.Perm (cx ⇑xs)->(∀i j:Nat,i<j->j<⇑xs->lt (d.getD j 0) (d.getD i 0)=ah)->H D=ag->H' D=ag ->
   Q (.ref D) (upd H' D (.lst (d.map λi=>xs.getD i .non)))):
  az (au X.Ω X.w) X.A (call (.builtin "sorted") [.ref r] [(kc "key",.ref f)]) (EP X π σ Q) X.xe s:=by
 show call_function_entry_kw Bb Az Bc (ksk_s1 _ _) ?_;delta Builtin.«sorted»;apply ar (m:=checkCount "sorted" 1 1 _);apply a_;show ar (xq _ λus h' v kp y=>?_);have U:=iT y;have J:=I.kept (t':=v) kp;apply ar;show ou ?_ (by rw[fw];lia);have I2:=J.kept (t':=v) (h':=h'.push (seqObj "list" us.toArray 0)) λb u q=>cy _ q;have l:(h'.push (seqObj "list" us.toArray 0)).get? h'.objs.size=ae (seqObj "list" us.toArray 0):=fv _ rfl;have n:H h'.objs.size=ag:=J.hok.fresh (bt _);have Z:Fp X π h'.objs.size:=HX J (bt _);show ar (ik (wpAny_call_entry_kw Ay ⟨_,l,rfl⟩ Bd ?_ (ksk_l1 _ _)));show az (au X.Ω X.w) X.A.in1.in1 (Builtin.«list.sort» ⟨[.ref h'.objs.size],[(kc "key",.ref f)]⟩) _ _ _;rw[ksk_t1];rw[U] at Y;rw[U] at ask h;show FE hK hP I2 Z n l y Y O w0 ws ask λd ks H' s' c w' z hs K=>?_;have F:=(kM K).2;show⟨_,rfl,a_ ⟨_,rfl,.ref h'.objs.size,upd H' h'.objs.size (.lst (d.map λi=>xs.getD i .non)),track K Z ?_,rfl,h d ks H' _ w' z hs n F⟩⟩;show⟨?_,d.map λi=>us.getD i gz,c,rA y d λi hi=>by simpa using z.mem_iff.mp hi,(kM K).1⟩;rw[bb,z.length_eq,jh,fw];lia
end
end L6
namespace L9
open PySem.SeqAt PySem.Spec PyProof.Rows L2 L3 L4 L5 L6 L7 L8 PySem.W KL
variable{X:Cx}
structure Src (X:Cx) (items:D->Option (List D)):Prop where
 at_:∀{S:ai->Prop} {π:Q0b} {σ:L2.St} {H:Hp} {s:ao} {d:D} {v:V} {ds:List D},L2.Φ X π σ H s->X.A.handled=ag->Dn X.K S H d v->items d=ae ds ->∃(r:ai) (xs:List V),v=.ref r/\aK X.K S H ds xs/\⇑xs<=bq /\
  ∀Qc:List aj->ao->Prop,(∀(us:Q0f) (h':bh) (tk:Nat),(∀b o,s.heap.get? b=ae o->h'.get? b=ae o)->θ xs us->Qc us {s with heap:=h',toks:=tk})->az (au X.Ω X.w) X.A.in1 (collect (.ref r)) Qc X.xe s
theorem ZT(I:(d == sysModules)=ah)(p:o.ExactDict)(x:o.data=.dict es ep):KdlSrc Ω w "dict" d d es.size (λi v=>∃h:i<es.size,v=es[i].key) (λh=>h.get? d=ae o) where
 type:=λ_ a=>⟨o,a,p.1⟩
 there:=λ_ a=>⟨cj a,cj a⟩
 keep:=λ_ _ a J=>J d (.inl rfl) o a
 notList:=by decide
 notTuple:=by decide
 hint:=λ_ _ _ _ a q=>kdl_hint_dict ⟨o,a,p.1⟩ q
 iter:=λA s K a=>⟨_,λi h=>h.IsKeyIter ↥s d i es.size ep/\h.get? d=ae o,(λ_ _ q=>N0 I a p x q),
  ⟨λb L=>cg.2 (.inl (dh.1 L)),λi h h' j k=>⟨j.1.at λl e=>k _ de l e,k d (fg _ de) o j.2⟩,
   λi s' Q E F j h=>N2 j.1 j.2 x F λh' m y=>h _ h' s'.toks ⟨F,rfl⟩ ⟨m,(y.2 d (gg (cj a))).trans j.2⟩ λb l n e=>(y.2 b λz=>n (dh.2 z)).trans e,
   λs' Q E j h=>TY K j.1 j.2 x (bt _) λh' O=>h h' s'.toks λb l n e=>O b l (λz=>n (dh.2 z)) e,
   λi s' Q E j h=>wpAny_pyIter_keyiter j.1 h⟩,⟨⟨_,fv _ rfl,rfl,by simp⟩,cy _ a⟩⟩
theorem FG{K:aq}{S:ai->Prop}{H:Hp}:∀χ:List (KX×V×V),(∀p∈χ,OK H p.1 p.2.1)->aK K S H ((χ.map (·.1)).map Z1) (χ.map (·.2.1))
 |[],_=>aK.nil
 |p::l,h=>aK.cons (Zi (h p de)) (FG l λq a=>h q (fg _ a))
theorem Ui:Src X OU:=⟨λ{S π σ H s d v ds} I L p y=>by
 cases d with
 |aY q0 ks xs =>
  cases y;symm at p;obtain⟨a,o,χ,rfl,O,Y,⟨rfl,_⟩,da⟩:=p;obtain⟨m,F,ho,n⟩:=EY I O;obtain⟨l,Z,U,ks,K⟩:=T6 n;have J:l.size=⇑χ:=by have:=⇑ks;simp at this;lia
  show⟨a,χ.map (·.2.1),rfl,?_,by rw[bb];show m,λQc q=>?_⟩
  .exact FG χ K
  .refine kdu_collect (ZT F n.1 U) L ho (by rw[J];show m) λh' z j A hit=>q _ h' z A ?_;have:j.toList=l.toList.map (·.key):=by
    apply rn;intro i;by_cases x:i<l.size
    .have h:i<j.size:=by rw[hit.1];show x
     obtain⟨_,e⟩:=hit.2 i j[i] (by simp[h]);simp[x,h,e]
    .rw [ji (by rw[ic,hit.1];lia),ji (by simp;lia)]
   rw[this];show ks
 |_=>cases y⟩
def UY{a:Type}{f:D->Option a}{g:a->D}(h:∀d x,f d=ae x->d=g x)(d:D)(x:Int×a)(e:VP f d=ae x):d=.tup [.int x.1,g x.2]:=by
 delta VP at e;split at e
 .obtain ⟨b,e1,rfl⟩:=jf.1 e;rw[h _ _ e1]
 .cases e
theorem ZU{Y:Type}[DecidableEq Y]{fd:D->Option Y}{g:Y->D}{lt:Y->Y->Bool}{items:D->Option (List D)}{m:Nat}(zb:Y)(back:∀d x,fd d=ae x->d=g x)(O:TO lt)(cb:FA X (m+1) g lt)(sr:Src X items)
  {x0 x:ak} {fs:Q0g} {fr:List Nat} {c Pt:ai} {a body:av} {fa fk:EF} {params:Ax} {sc:gd} {p ν xp kp:br} {k:Nat} (hc:X.calm=af) (hr:dW k X.A) (hu:X.A.units+2+(m+1)<dq) (hm:X.mg "sorted"=ag)
  (hx:(x0,c,Pt)∈cU X.K) (Z:X.env.code=.ref c) (ha:bD X a fa) (hk:∀cl L f cd s H,bD (E3 X (x::fs) (lO x0) sc cl L f cd s H) body fk) (B:ZG X.env.scope.names sc X.N x fs fr=af<|>0)
  (hb:∀(cl:List (ak×ai)) (pm cd ct u:aj),bindArgs (Ac "<lambda>" (lO x0) params body sc cl pm cd ct) ⟨[u],[]⟩=pure [(x,u)]:=by intro _ _ _ _ _;rfl)
  (hq:X.env.qual++"<lambda>"=lO x0<|>0) (hdef:defaultsOf params X.env=([],[])<|>0)
  (hg:Gl X "sorted"<|>0) (he:Zq X a []<|>0) (he2:(d_ ν (ax [a] X.env)=(ah,eval a X.env)::d_ ν (ax [] X.env))<|>0) (hpl:(d_ ν (ax [a] X.env)).any (λx=>x.fst)=ah<|>0):
  mJ X (.Call (.Name "sorted" p) [a] [⟨ae "key",.Lambda params body sc xp,kp⟩] ν) (zZ fd g lt items fr fa fk):=by
 intro π s σ H Q I ⟨S,ρ,Q3,fc,sl,⟨d,n,q3⟩,kk⟩;obtain⟨da,e1,n⟩:=bnd n;obtain⟨ds,e2,n⟩:=bnd n;obtain⟨bs,e5,n⟩:=bnd n;obtain⟨kd,e3,n⟩:=bnd n;obtain⟨T,e4,n⟩:=bnd n;by_cases ht:⇑T<=5000/\T.map (·.2)=bs
 case neg=>rw[Zz ht] at n;cases n
 rw[Z_ ht] at n;cases n;obtain⟨ht5,htb⟩:=ht;subst htb;have ekd:=l4 (UY back) e4;have eds:=l4 back e5;rw[di] at eds;have lds:⇑ds=⇑T:=by rw[eds,bb]
 have lkd:⇑kd=⇑T:=by rw[ekd,bb]
 have hA:PA X [a] _:=eR ha kH he;show vm (kC I hg hm wd ?_);show a1K (dB (hA ν π s σ H (λvs H1=>∃v,vs=[v]/\ξ H H1/\Dn X.K S H1 da v) I ⟨S,ρ,λd=>d=da,fc,sl,⟨da,e1,rfl⟩,λv H1 d' s1 d1 q1=>?_⟩) λus s1 ⟨vs,H1,I1,r1,q1⟩=>?_) he2 (hplain:=hpl)
 .subst q1;show⟨v,rfl,s1,d1⟩
 obtain⟨v,rfl,sm1,dv1⟩:=q1;obtain⟨u,rfl,ru⟩:=vals1 r1;have hd0:X.A.handled=ag:=I.ok.hd hc;show kws_cons (UH I1 hx hq Z (LD B) hdef λf c' ct cl H2 s2 sm2 cq hcl jU I2=>kws_nil ?_);have sm:=sm1.trans sm2;obtain⟨r,xs,rfl,F,hxz,xq⟩:=sr.at_ I2 hd0 (Dn.fits (.same sm2) _ _ dv1) e2;cases ru;show az (au X.Ω X.w) X.A (call (.builtin "sorted") [.ref r] [(kc "key",.ref f)]) _ _ s2;have o:⇑xs=⇑T:=by rw[<- lds];show F.len.symm
 have key:=ZF (te:=lift X.K (wE fk)) (σ:=σ) (q:=lO x0) (params:=params) (f:=f) (c:=c') (pm:=(X.mg "__name__").getD .none) (ct:=ct) hc (LD B) (by have:=hr.dp;lia) hcl jU (λu=>hb cl _ _ _ u) λL s H=>hk cl L f (.ref c') s H;have main:=FF (Q:=Q) (W:=λi ks H'=>ξ H2 H'/\aK X.K S H' (kd.take i) ks) (lt:=λi j=>iF FK lt (T.getD i (0,zb)) (T.getD j (0,zb))) (xs:=xs) (r:=r) I2 key (λp hp=>ir _ hp) (by rw[o];show ht5) ⟨λx y a=>(lD lE O).as _ _ a,λx y z a b=>(lD lE O).tr _ _ _ b a⟩
  xq ⟨ξ.refl _,by rw[a2d];show aK.nil⟩ (λi x ks H' hxi ⟨h,dk⟩=>?_) (λks H' ⟨h,dk⟩ h2=>?_) λix ks H' Dd ⟨h,dk⟩ hp hs hD hD'=>?_
 .exact dB main λv s' ⟨y,H',J,ry,qy⟩=>⟨y,H',J.gL,ry,qy⟩
 .have U:i<⇑ds:=by have:=(df.1 hxi).1;lia
  obtain⟨v,ev,dv⟩:=F.get (i:=i) (d:=ds[i]) (cn U);rw[hxi] at ev;cases ev;obtain⟨kv,ek,ek2⟩:=xZ e3 (cn U);show⟨cq.same h,S,_,λd=>d=kv,bC fc (sm.trans h),Zf (d:=ds[i]) sl (sm.trans h) (Dn.fits (.same h) _ _ dv),⟨kv,ek2,rfl⟩,λv H'' d s3 dv n=>?_⟩;subst n;show⟨h.trans s3,?_⟩;rw[List.take_add_one,ek];show aK.append (aK.fits (Fits.same s3) _ _ dk) (aK.one dv)
 .rw [o,pj ∅,ekd] at dk;have hl:=dk.len;rw[bb] at hl;rw[o,hl];show Fd (LI.up (gw _)) ⟨λI hu=>LK.at_ I ∅⟩ cb O hu dk ∅
 .rw [o] at hp hs;have hH:H Dd=ag:=sm.free hD;have es:lC (iF FK lt) T=ix.map (λi=>T.getD i (0,zb)):=by
   show sN (lD lE O) ((eB T).trans ?_) (l3 (lD lE O) T) ?_
   .have:=(hp.map λi=>T.getD i (0,zb)).symm;rw[map_getD] at this;show this
   .have hlen:⇑ix=⇑T:=by rw[hp.length_eq,jh]
    rw[Z3,pk,ur];intro i j U hj hij;have:=hs i j hij ∅;simpa[U,hj] using this
  show kk Dd _ _ ((lC (iF FK lt) T).map λt=>g t.2) hH aM ((sm.trans h).trans (aI hD')) ?_ q3;rw[es,di];have dn:∀jx:List Nat,(∀i∈jx,i<⇑xs)->aK X.K S H2 (jx.map ((λt=>g t.2)∘λi=>T.getD i (0,zb))) (jx.map λi=>xs.getD i .non):=by
   intro jx
   induction jx with
   |nil=>intro _;show aK.nil
   |cons i jx ih =>
    intro NF;have U:=NF i de;obtain⟨v,ev,dv⟩:=IA (z:=(0,zb)) (g:=(λt:Int×Y=>g t.2)) (by rw[eds] at F;show F) U;show aK.cons ?_ (ih λx hx=>NF x (fg _ hx));dsimp only;rw[kh (l:=xs),ev];show dv
  show aK.fits ((Fits.same h).trans ((Fits.fresh hD').trans (.same (aI hD')))) _ _ (dn ix λi U=>by rw[o];simpa using hp.mem_iff.mp U)
def UZ(d:D)(x:Q0e)(h:F5 d=ae x):d=qi x:=by
 delta F5 at h;split at h
 .rw [L4.ints_of h]
 .cases h
theorem Zb{x0 x:ak}{fs:Q0g}{fr:List Nat}{c Pt:ai}{a body:av}{v q:EF}{params:Ax}{sc:gd}{p j y z:br}{k:Nat}(hc:X.calm=af)(I:dW k X.A)(hu:X.A.units+9<dq)(O:X.mg "sorted"=ag)
  (F:(x0,c,Pt)∈cU X.K) (d:X.env.code=.ref c) (ha:bD X a v) (U:∀o L f cd s H,bD (E3 X (x::fs) (lO x0) sc o L f cd s H) body q) (B:ZG X.env.scope.names sc X.N x fs fr=af<|>0)
  (hb:∀(o:List (ak×ai)) (pm cd ct u:aj),bindArgs (Ac "<lambda>" (lO x0) params body sc o pm cd ct) ⟨[u],[]⟩=pure [(x,u)]:=by intro _ _ _ _ _;rfl)
  (J:X.env.qual++"<lambda>"=lO x0<|>0) (h:defaultsOf params X.env=([],[])<|>0)
  (Y:Gl X "sorted"<|>0) (Z:Zq X a []<|>0) (n:(d_ j (ax [a] X.env)=(ah,eval a X.env)::d_ j (ax [] X.env))<|>0) (l:(d_ j (ax [a] X.env)).any (λx=>x.fst)=ah<|>0):
  mJ X (.Call (.Name "sorted" p) [a] [⟨ae "key",.Lambda params body sc y,z⟩] j) (z4 fr v q) :=
 ZU (m:=0) [] UZ (zW lE) LJ Ui hc I ∅ O F d ha U B hb J h Y Z n l
end L9
namespace L4
open PySem.Spec PyProof.Rows L2 L3 PySem.W KL
section
variable{Ω:bj}{w:bg}{A:bx}{It S:ai}{fp wr:List ai}{n:Nat}{P:Nat->aj->Prop}{St:Nat->bh->Prop}
def Cs(n:Nat)(val:Nat->Int)(d v:aj):Prop:=(n=0/\v=d) \/∃i t,i<n/\v=.int (val i) t /\∀k,k<n->val k<=val i
def Cr(j:Nat)(val:Nat->Int)(old:Q0f):Prop:=(j=0/\old=[]) \/∃i t,i<j/\old=[.int (val i) t,.int (val i) t] /\∀k,k<j->val k<=val i
theorem ZV(val:Nat->Int)(d:aj)(W:Walks Ω w A.in1 It fp wr n P St)(hP:∀i v,P i v ->∃t,v=.int (val i) t)(Ci:S∉fp){s0:ao}{R:Ai->ao->Prop}
  (hR:∀v h' I,Cs n val d v->(∀b o,b∉wr->b≠S->s0.heap.get? b=ae o->h'.get? b=ae o)->R (.ok (.ret v)) {s0 with heap:=h',toks:=I}):
  ∀(r j:Nat) (h:bh) (I:Nat) (old:Q0f) (c:Nat),n<j+r->j<=n->St j h->h.get? S=ae (seqObj "list" old.toArray c)->Cr j val old ->
   (∀b o,b∉wr->b≠S->s0.heap.get? b=ae o->h.get? b=ae o) ->
   mr (au Ω w) A (.builtin "max.loop" ⟨[.ref It,.none,.ref S],[(kc "default",d)]⟩) R {s0 with heap:=h,toks:=I}:=by
 have L:toString "max"++toString ".loop"=("max.loop":String):=by decide
 have Cg:S∉wr:=λz=>Ci (W.sub _ z);intro r
 induction r with
 |zero=>intro j h I old c hr hj;lia
 |succ r ih =>
  intro j h I old c hr hj Y O hu kept;apply lp PySem.F.entry_max_loop;rw[(l_ wa _)];show az (au Ω w) A.in1 (seqItems? (.ref S) >>= _) _ _ _;apply ar;show zr O rfl ?_;show az _ A.in1 (tryCatch (pyNext (.ref It)) _ >>= _) _ _ _;by_cases e:j=n
  .subst e;show ar (Fs (W.done _ _ _ Y λy a p=>?_));have q:=p S _ Cg O;rcases hu with⟨z,rfl⟩|⟨i,t,hi,rfl,x⟩
   .show az _ A.in1 (rule _ >>= _) _ _ _;show ar (iw (a_ (hR d y a (.inl ⟨z,rfl⟩) λb o hw l e=>p b o hw (kept b o hw l e))))
   .show az _ A.in1 (updateSeq S (λ_=>#[]) >>= _) _ _ _;have s1:=lz y S (ft λ_=>(#[]:Array aj));show ar (Fq q rfl (ar (qm (a_ (hR _ _ a (.inr ⟨i,t,hi,rfl,x⟩) λb o hw l e=>(s1.2 b l).trans (p b o hw (kept b o hw l e)))))))
  .refine ar (Fs (W.item j _ _ _ ∅ Y λv y a hv K p=>?_));have q:=p S _ Cg O;obtain⟨m,rfl⟩:=hP _ _ hv;have put:∀h2:bh,(∀b o,b≠S->y.get? b=ae o->h2.get? b=ae o) ->∀J U,h2.get? S=ae (seqObj "list" (wo J) U)->Cr (j+1) val J ->
     mr (au Ω w) A (.builtin "max.loop" ⟨[.ref It,.none,.ref S],[(kc "default",d)]⟩) R {s0 with heap:=h2,toks:=a}:=λh2 Z J U g2 u2 =>
    ih (j+1) h2 a J U ∅ ∅ (W.frame _ _ _ K λb x o e=>Z b o (λz=>Ci (z▸x)) e) g2 u2 λb o hw l e=>Z b o l (p b o hw (kept b o hw l e))
   have X:=λxs:Array aj=>(lz y S (ft λ_=>xs)).2;rcases hu with⟨z,rfl⟩|⟨i,t,hi,rfl,x⟩
   .show az _ A.in1 (updateSeq S (λ_=>#[.int (val j) m,.int (val j) m]) >>= _) _ _ _;show ar (Fq q rfl ?_);rw[L];show a_ ⟨ll wa _,put _ (λb o l e=>(X _ b l).trans e) _ _ (o_ q λ_=>#[.int (val j) m,.int (val j) m]) (.inr ⟨j,m,∅,rfl,λk p=>?_⟩)⟩;rw[show k=j by lia];show Jd _
   .show az _ A.in1 (tryCatch (holding [_,_] (richCompare .Gt _ _ >>= _)) _ >>= _) _ _ _;show ar (Fs (ik (ar (CmpOf.ints_gt (prog:=Ω) (w:=w) (A:=A.in1) (P:=λi v=>∃t,v=.int (val i) t) val (λi v h=>h) j i _ _ _ _ _ ⟨m,rfl⟩ ⟨t,rfl⟩ ?_))));show ar (ik (lj (ar (qm (a_ ?_)))));by_cases hg:val j>val i
    .erw[hg,decide_true,if_true];show ar (Fq q rfl (ar (qm ?_)));rw[L];show a_ ⟨ll wa _,put _ (λb o l e=>(X _ b l).trans e) _ _ (o_ q λ_=>#[.int (val j) m,.int (val j) m]) (.inr ⟨j,m,∅,rfl,λk p=>?_⟩)⟩;by_cases e:k=j
     .subst e;show Jd _
     .have:=x k ∅;lia
    .erw[hg,decide_false,nj,if_false];show ar (qm ?_);rw[L];show a_ ⟨ll wa _,put y (λ_ _ _ e=>e) _ c q (.inr ⟨i,t,∅,rfl,λk p=>?_⟩)⟩;by_cases e:k=j
     .subst e;lia
     .exact x k ∅
def OC(a v:aj):argsOk "max" ⟨[a],[(kc "default",v)]⟩:=by delta argsOk;kernel_rfl
variable{X:Cx}{σ:L2.St}{π:Q0b}{H:Hp}{s:ao}{Q:VK}
theorem U0{n:Nat}{zs:Nat->Int}{ns:Q0e}{k:Int}{o:gu}{v:aj}(q:⇑ns=n)(p:∀j,j<n->zs j=ns.getD j 0)(h:Cs n zs (.int k o) v):∃t,v=.int (lF k ns) t:=by
 rcases h with⟨z,rfl⟩|⟨i,t,x,rfl,m⟩
 .have:ns=[]:=ng.1 (q.trans z);show⟨o,by delta lF;rw[Z_ this]⟩
 show⟨t,?_⟩;have get:∀j (a:j<⇑ns),zs j=ns[j]:=λj a=>by rw[p j ∅,kh,cn a];rfl
 have mem:zs i∈ns:=by rw[get i ∅];show wx _
 have top:∀b∈ns,b<=zs i:=λb d=>by obtain⟨j,a,e⟩:=og d;have:=m j ∅;rw[get j a,e] at this;show this
 cases ns with
 |nil=>cases mem
 |cons c l =>
  have:lF k (c::l)=zs i:=L5.B1 l c _ (cg.mp mem) (top c (by simp)) λb m=>top b (by simp[m]);rw[this]
theorem OD{a:ai}{ns:Q0e}{k:Int}{p:gu}(hc:X.calm=af)(I:Φ X π σ H s)(ha:eV X.K H a (ns.map V.int))(q:Q (.int (lF k ns)) H):
  az (au X.Ω X.w) X.A (call (.builtin "max") [.ref a] [(kc "default",.int k p)]) (EP X π σ Q) X.xe s:=by
 have nm:toString "max"++toString ".loop"=("max.loop":String):=by decide
 obtain⟨Y,rv,pt,hz⟩:=I.tuple ha;have L:=intsAre_of rv;obtain⟨zs,O⟩:=L.allInts.items;have U:zs.toList.map (·.1)=ns:=by rw[<- a0z,<- O];show L.numsOf
 have sz:zs.size=⇑ns:=by rw[<- U,bb,ic]
 have J:s.heap.IsTuple a (intItems zs):=O▸(show s.heap.IsTuple a Y.toArray from pt);have x:a<↥s:=by obtain⟨_,e,_⟩:=J;show cj e
 apply kmk_tree PySem.F.kind_max PySem.F.plain_max PySem.F.entry_max (OC _ _);show az _ X.A.in1 (a1w "max" ["key","default"] 0 ⟨[],[(kc "default",.int k p)]⟩ >>= _) _ _ s;show ar (wpAny_of_eq (show a1w "max" ["key","default"] 0 ⟨[],[(kc "default",.int k p)]⟩=pure [ag,ae (.int k p)] from rfl) ?_);show ar (a_ (ar (vk J (ar (ou ?_ (gw _))))));rw[nm];have W:=Walks.tuple (prog:=X.Ω) (w:=X.w) (A:=X.A.in1) (I.ok.hd hc) ↥s a (gg x) (intItems zs);obtain⟨d,y⟩:∃d:ay,d={cls:=.type "tuple_iterator",data:=.fields #[.ref a,.int 0 0]}:=⟨_,rfl⟩;rw[<- y];have m:(s.heap.push d).objs.size=↥s+1:=tu _ _;show a_ ⟨ll wa _,ZV (numAt zs) (.int k p) W (λ_ _=>intItems_at) (s0:={s with heap:=s.heap.push d}) ?_ (λv h' Z ht hk=>?_) (zs.size+1) 0 _ _ [] 0 (by simp[intItems]) (gw _) ⟨⟨d,cy _ (fv _ (by subst y;rfl)),by subst y;rfl,by subst y;rfl⟩,(J.push _).push _⟩ (fv _ rfl) (.inl ⟨rfl,rfl⟩) λ_ _ _ _ e=>cy _ e⟩
 .intro h;erw[pq,or_false,cg] at h;rcases h with z|z
  .have z:(s.heap.push d).objs.size=↥s:=z;rw[m] at z;show Hs _ z
  .have z:(s.heap.push d).objs.size=a:=z;rw[m] at z;show jg _ (gm (z▸x) (pf _))
 .obtain ⟨t,rfl⟩:=U0 (ns:=ns) (by simp[intItems,sz]) (λj _=>by rw[numAt_eq,U]) ht;show⟨.int (lF k ns),H,I.kept λb o e=>hk b o (λh=>?_) (λh=>?_) (cy _ e),⟨t,rfl⟩,q⟩
  .have:b=↥s:=by simpa using h
   show jg _ (this▸cj e)
  .have l:=cj e;have h:b=(s.heap.push d).objs.size:=h;rw[h,m] at l;show jg _ (wj (Bi _) l)
def Uh{a b:av}{q fb:EF}{p m kp:br}(hc:X.calm=af)(hm:X.mg "max"=ag)(ha:bD X a q)(hb:bD X b fb)(hg:Gl X "max"<|>0)(he:Zq X a []<|>0)
  (L:(d_ m (ax [a] X.env)=(ah,eval a X.env)::d_ m (ax [] X.env))<|>0) (O:(d_ m (ax [a] X.env)).any (·.1)=ah<|>0):
  bD X (.Call (.Name "max" p) [a] [⟨ae "default",b,kp⟩] m) (aC IP q fb):=by
 intro π s σ H Q I ⟨S,ρ,Q3,fc,Z,⟨d,z,q3⟩,kk⟩;obtain⟨x,ex,z⟩:=bnd z;obtain⟨y,ey,j⟩:=bnd z
 clear z
 delta IP at j;split at j
 case h_2=>cases j
 rename_i ds k;obtain⟨ns,en,j⟩:=bnd j;cases j;have:=ints_of en;subst this;have hA:xP X [a] (aA q aH):=aE ha bG he;show vm (kC I hg hm a1N ?_);show a1K (dB (hA m π s σ H (λvs H1=>∃l,vs=[.ref l]/\ξ H H1/\H1 l=ae (.tup (ns.map V.int))) I ⟨S,ρ,λes=>es=[.tup (ns.map D.int)],fc,Z,⟨[.tup (ns.map D.int)],(by show((q ρ).bind λd=>(ae ([]:List D)).bind λds=>ae (d::ds))=_;rw[ex];rfl),rfl⟩,λvs H1 es K d1 q1=>?_⟩) λus K ⟨vs,H1,I1,r1,q1⟩=>?_) L O
 .subst q1;obtain⟨v,r,rfl,h1,h2⟩:=d1.bA;erw[aK] at h2;subst h2;symm at h1;obtain⟨l,xs,rfl,U,dn⟩:=h1;have Y:=aK.ints.mp dn;subst Y;show⟨l,rfl,K,U⟩
 obtain⟨l,rfl,h,U⟩:=q1;obtain⟨u,rfl,ru⟩:=vals1 r1;cases ru;show kws_cons (dB (hb π K σ H1 (λv F=>v=.int k/\ξ H1 F) I1 ⟨S,ρ,λd=>d=.int k,bC fc h,Sl.fits (.same h) Z,⟨_,ey,rfl⟩,λv F d J dv eq=>?_⟩) λu J ⟨v,F,I2,r2,Y,o⟩=>kws_nil ?_)
 .subst eq;symm at dv;show⟨dv,J⟩
 subst Y;obtain⟨tk,rfl⟩:=r2;show az (au X.Ω X.w) X.A (call (.builtin "max") [.ref l] [(kc "default",.int k tk)]) _ _ J;show OD hc I2 (eV.of (o _ _ U)) (kk (.int (lF k ns)) F (.int (lF k ns)) (h.trans o) (by symm) q3)
end
end L4
namespace L8
open PySem.Spec PyProof.Rows L2 L3 L4
variable{X:Cx}
theorem Lb{k:Nat}{Z:Q0g}{R:sC}{j:Nat}{y:ak}{p U bp h:br}{c e:av}{o:List av}{n:TF}{t:AF}{u v:List dc}{f g:SF}(hc:wW X c n)(C:Cl X.Ω X.w X.K X.mg X.ω g7 k y Z (xR X.K R))(hr:dW k X.A)
  (ha:PA X (e::o) (jI X.K t j)) (hu:nI X u f) (hv:nI X v g) (hg:Gl X y<|>0) (J:Zu y<|>1) (he:Zq X e o<|>0) (I:Q0k X h o<|>0):
  rP X (.If (.BoolOp .And [c,.Call (.Name y p) (e::o) [] h] bp) u v U) (OW n R t j f g):=by
 obtain⟨F,hm,hk,hb⟩:=C;show jT (Et (PW.pt (aB3 hc (XH (aB1 (mH F hr hg hm hk hb .nil yX ha J he I))))) hu hv) λB σ H Ug=>?_;obtain⟨H₀,S,w,ρ,G,E,L,x,hw,ok⟩:=Ug;delta wS OW at hw
 cases hB:IQ n R t j ρ with
 |none=>rw[hB] at hw;show hw.elim
 |some r =>
 obtain⟨b,l⟩:=r;rw[hB] at hw;have go:∀H',ST X.K H₀ S w σ H' l G->if b=af then iQ X.K (XC X) ⇑X.N (wS f) B σ H' else iQ X.K (XC X) ⇑X.N (wS g) B σ H':=λH' a=>by
  cases b with
  |true=>rw[Z_ rfl];show⟨H₀,S,w,l,G,E,L,a,hw,ok⟩
  |false=>rw[Zz cf];show⟨H₀,S,w,l,G,E,L,a,hw,ok⟩
 delta IQ at hB
 cases h1:n (bH ρ) with
 |none=>rw[h1] at hB;cases hB
 |some c1 =>
 rw[h1] at hB;show⟨S,bH ρ,λz=>z=c1,x.RL,x.all,⟨c1,h1,rfl⟩,λd H1 Y q1=>?_⟩;subst q1;have m:=x.same Y
 cases d with
 |false=>cases hB;rw[Zz cf];show go H1 m
 |true =>
  rw[Z_ rfl];dsimp only at hB;split at hB
  .rename_i q b' kd h2;cases hB;show qZ m h2 λv H' a O=>?_;symm at O;show⟨b,O,go H' a⟩
  .cases hB
abbrev LM(K:aq)(e:EF):TS:=ze (lift K (wE e))
def Ue{a:dc}{b:SF}{e:av}{f:EF}{d:br}(h:rP X a b)(j:bD X e f):qN X [a,.Return (ae e) d] (vJ (iQ X.K (XC X) ⇑X.N (wS b)) (LM X.K f)):=oW h (A8 (GL j))
def Za{a:List D}{d:D}(h:LW a d=af):∃i ds,d=.lst (.int i::ds)/\kX ds=af/\(a=[] \/∃xs r,a=.tup xs::r):=by
 delta LW at h;split at h
 .exact ⟨_,_,rfl,h,.inl rfl⟩
 .exact ⟨_,_,rfl,h,.inr ⟨_,_,rfl⟩⟩
 .cases h
def Y_{K:aq}{H:Hp}{T m:ai->Prop}{a:ai}{x:List D}{d:D}{v:V}(h:LW x d=af)(L:∀b,T b->b≠a->m b)(ho:sI K m H (.lst x) a)(n:Dn K T H d v):Dn K m H d v:=by
 obtain⟨ys,A,l⟩:=ho;obtain⟨i,ds,rfl,J,F⟩:=Za h;symm at n ⊢;obtain⟨p,xs,rfl,j,y,O⟩:=n;obtain⟨Y,r0,rfl,q,I⟩:=O.bA;symm at q;subst q;show⟨p,_,rfl,j,L p y λe=>?_,.cons (by symm) (I.B8 J)⟩;subst e;rw[A] at j;cases j;rcases F with rfl|⟨zs,r,rfl⟩
 .erw[aK] at l;cases l
 .obtain ⟨U,r1,e1,o,_⟩:=l.bA;cases e1;symm at o;obtain⟨_,_,z,_⟩:=o;cases z
theorem IC{R:sC}{t:AF}{a j:Nat}{H₀ H:Hp}{S:ai->Prop}{w:Nat->ai}{σ:L2.St}{ρ:bB}{G:List (D×V)}{r:(Nat->ay->Prop)×D×KD}{Q:VK}(y:a≠j)(m:ST X.K H₀ S w σ H ρ G)(h:CK R t a j ρ=ae r)
  (k:∀v H',ST X.K H₀ S w σ H' (ρ.set j (.ow (.aY (adr r.1) r.2.2.1 r.2.2.2))) G->Dn X.K (SO S w ρ) H' r.2.1 v->Q v H'):KA (xR X.K R) [] E0 (jI X.K t j) σ H Q:=by
 obtain⟨Y,F,h⟩:=bnd h;obtain⟨ds,et,h⟩:=bnd h;obtain⟨⟨Z,ks,xs⟩,eo,h⟩:=bnd h;have n:=jA eo;have A:ρ[a]?=ae (.ow (.lst Y)):=by
  delta k7 at F;split at F
  .rename_i z;cases F;show z
  .cases F
 cases hR:R ds (ks,xs) with
 |no=>dsimp only at h;rw[hR] at h;cases h
 |ex c=>dsimp only at h;rw[hR] at h;cases h
 |ok r0 =>
  dsimp only at h;rw[hR] at h;dsimp only at h;split at h
  case isFalse=>cases h
  rename_i hc;cases h;obtain⟨a0,b0,_⟩:=m.own j _ n;obtain⟨aa,ba,ca⟩:=m.own a _ A;have O:w a≠w j:=λe=>y (m.inj _ _ _ _ A n e);have sub:∀b,SO S w ρ b->SO S w ρ b\/b=w a:=λb z=>.inl z;show⟨λb=>SO S w ρ b\/b=w a,(fZ ρ).set a (ae (.lst Y)),ds,w j,λb e=>.inl (m.FN b e),λi d e=>?_,et,a0,λvs H1 s1 dn=>?_⟩
  .by_cases x:a=i
   .subst x;rw[nh (by delta fZ;rw[bb];show(df.1 A).1)] at e;cases e;obtain⟨ys,J,U⟩:=ca;show⟨_,aa,?_⟩;symm;show⟨_,ys,rfl,J,.inr rfl,aK.fits (.mono sub) _ _ U⟩
   .rw [jq x] at e;obtain⟨v,e1,e2⟩:=m.rd i d e;show⟨v,e1,Dn.fits (.mono sub) _ _ e2⟩
  have l:=m.same s1;obtain⟨_,_,⟨o,χ,hp,⟨e5,hq⟩,dk⟩⟩:=l.own j _ n;subst e5;show xR X.K R ((vs++[V.ref (w j)])++[]) H1 Q E0;rw[ki];show⟨λb=>SO S w ρ b\/b=w a,ds,vs,w j,o,χ,xs,r0,rfl,λb e=>.inl (l.FN b e),λz=>z.elim (λz=>z.2 j _ n rfl) λz=>O z.symm,hp,dn,aK.fits (.mono sub) _ _ dk,hR,λv H' o' q hb L ek dx dv=>?_⟩;have p:=qY (d':=.aY (adr Z) r0.2.1 r0.2.2) l n hb ⟨o',q,L,⟨ek,o,hq⟩,dx.B8 hc.2⟩;show k v H' p (Y_ hc.1 (λb z hz=>z.resolve_right hz) ?_ dv);have I:(ρ.set j (.ow (.aY (adr Z) r0.2.1 r0.2.2)))[a]?=ae (.ow (.lst Y)):=by rw[jq (gb y)];show A
  obtain⟨_,_,ys,J,U⟩:=p.own a _ I;show⟨ys,J,aK.fits (.mono λb z=>⟨z.1,λi d e=>?_⟩) _ _ U⟩;by_cases x:j=i
  .subst x;show z.2 j _ (by rw[nh (df.1 n).1])
  .exact z.2 i d (by rw[jq x];show e)
theorem Yz{k:Nat}{ps:Q0g}{R:sC}{i a j:Nat}{x y:ak}{p ν pos' n ip:br}{c e e2:av}{I:List av}{L:TF}{t:AF}{f2:EF}(hc:wW X c L)(C:Cl X.Ω X.w X.K X.mg X.ω g7 k y ps (xR X.K R))(hr:dW k X.A)(hij:i≠j)(haj:a≠j)(hN:X.N.Nodup)
  (ha:PA X (e::I) (jI X.K t j)) (h2:bD X e2 f2) (hi:X.N[i]?=ae x<|>0) (hx:Loc X.env.scope x<|>2) (hg:Gl X y<|>0) (hdb:Zu y<|>1) (he:Zq X e I<|>0) (Y:Q0k X n I<|>0)
  (hs:gq (.IfExp c (.Call (.Name y p) (e::I) [] n) e2 ip) (ae (.Name x pos')) ν.line X.env=pure ah<|>0) (hf:Zp X x<|>2):
  rP X (.Assign [.Name x pos'] (.IfExp c (.Call (.Name y p) (e::I) [] n) e2 ip) ν) (uF i L R t a j f2):=by
 obtain⟨F,Z,hk,hb⟩:=C;show jT (nE hN hi hx (DN hc (mH F hr hg Z hk hb .nil yX ha hdb he Y) h2) hs hf) λB σ H Uy=>?_;obtain⟨H₀,S,w,ρ,G,E,J,U,l,ok⟩:=Uy;delta wS uF at l
 cases h1:L (bH ρ) with
 |none=>rw[h1] at l;show l.elim
 |some c1 =>
 rw[h1] at l;show⟨S,bH ρ,λz=>z=c1,U.RL,U.all,⟨c1,h1,rfl⟩,λd H1 s1 q1=>?_⟩;subst q1;have o:=U.same s1
 cases d with
 |true =>
  rw[Z_ rfl];dsimp only at l
  cases h:CK R t a j ρ with
  |none=>rw[h] at l;show l.elim
  |some r =>
   rw[h] at l;show IC haj o h λv H' O dv=>ok.nx w _ H' _ (by rw[jo];show J) (O.kK (by rw[J];show iR hi) (Dn.fits (.mono λb z=>?_) _ _ dv)) l;show⟨z.1,λm y Z=>?_⟩;rcases get_set Z with⟨hj,_,hlt⟩|⟨_,q⟩
   .subst hj;obtain⟨_,_,h⟩:=bnd h;obtain⟨_,_,h⟩:=bnd h;obtain⟨⟨q0,ks,xs⟩,eo,h⟩:=bnd h;show z.2 m _ (jA eo)
   .exact z.2 m y q
 |false =>
  rw[Zz cf];dsimp only at l
  cases h:f2 (fZ ρ) with
  |none=>rw[h] at l;show l.elim
  |some d =>
   rw[h] at l;show⟨SO S w ρ,fZ ρ,λz=>z=d,o.FN,o.rd,⟨d,h,rfl⟩,λv H' d' s2 dn e=>?_⟩;subst e;show ok.nx w _ H' _ (by rw[jo];show J) ((o.same s2).kK (by rw[J];show iR hi) dn) l
theorem La{P:bj}{w:bg}{K:aq}{mg:Q0d}{ω:bh}{x qual:ak}{U:dc}{f:ai}{fd:gn}{N X:Q0g}{k n np:Nat}{b:SF}{e0:EF}(F:U7 K x qual U f fd)(S:dN N X (aJ U))(hn:⇑N=n)(hp:⇑X=np)
  (O:∀(I:aj) (A:bx) (Γ:List fu) (s:ao) (H:Hp) (E:XK),dW k (A.deeper (envOfC qual (aJ U) ↥s f I)) ->
   ∃xc,qN (kQ g7 P w K mg ω N qual (aJ U) f I A Γ s H E).DO (cV U) (vJ (iQ K xc ⇑N (wS b)) (LM K e0))):jE P w K mg ω g7 (k+1) f fd X (xR K (CJ n np b e0)):=by
 subst hn hp;show F.ok S (λvs H Q E h=>?_) λI A Γ s H vs Q E hr h=>?_
 .obtain ⟨T,ds,us,p,o,χ,xs,r,rfl,fc,np,hp,du,dx,hR,kk⟩:=h;have Z:=IS hR gX;delta uE at Z;split at Z
  .rename_i hl;rw[gi,<- du.len];show hl
  .cases Z
 .obtain ⟨xc,Z⟩:=O I A Γ s H E hr;obtain⟨T,ds,us,p,o,χ,xs,r,rfl,fc,nT,hp,du,dx,hR,kk⟩:=h;show⟨_,Z,?_⟩;have j:=IS hR (λa _=>a=p);delta uE at j;split at j
  case isFalse=>cases j
  rename_i hl;have hlu:=du.len;have hpN:⇑X<=⇑N:=by have:=congrArg uz S.pre;rw[iz] at this;lia
  have j0:⇑X-1=⇑ds:=∅
  have sj:(startM ⇑N ds (λa _=>a=p) (χ.map (·.1),xs))[⇑ds]?=ae (Sv.ow (.aY (λa _=>a=p) (χ.map (·.1)) xs)):=by delta startM;rw[i_ (by simp)];simp
  have sv:∀i,i<⇑ds->(startM ⇑N ds (λa _=>a=p) (χ.map (·.1),xs))[i]?=(ds[i]?).map Sv.ro:=λi hi=>by delta startM;rw[jj ↑hi,c_]
  have sn:∀i,⇑ds<i ->∀y,(startM ⇑N ds (λa _=>a=p) (χ.map (·.1),xs))[i]?=ae y->y=Sv.no:=λi hi y e=>by
   delta startM at e;rw[i_ (by simp;lia)] at e;obtain⟨m,hm⟩:∃m,i-⇑(Ik Sv.ro ds)=m+1:=⟨i-⇑ds-1,by simp;lia⟩;rw[hm,jy,kg] at e;split at e
   .cases e;rfl
   .cases e
  have ow:∀(i:Nat) (d:D),(startM ⇑N ds (λa _=>a=p) (χ.map (·.1),xs))[i]?=ae (Sv.ow d)->i=⇑ds/\d=.aY (λa _=>a=p) (χ.map (·.1)) xs:=λi d e=>by
   rcases a14 i ⇑ds with h|h|h
   .rw [sv i h] at e;obtain⟨y,_,ey⟩:=jf.1 e;cases ey
   .subst h;rw[sj] at e;cases e;show⟨rfl,rfl⟩
   .cases sn i h _ e
  have so:∀a,T a->SO (λa=>T a\/a=p) (λ_=>p) (startM ⇑N ds (λa _=>a=p) (χ.map (·.1),xs)) a:=λa ta=>⟨.inl ta,λi d e z=>nT (by rw[<- show a=p from z];show ta)⟩;have J:L2.start N (us++[.ref p])=us.map ae++ae (.ref p)::cc (⇑N-(⇑us+1)) ag:=by delta L2.start;simp
  cases hbs:b (startM ⇑N ds (λa _=>a=p) (χ.map (·.1),xs)) with
  |no=>rw[hbs] at j;cases j
  |rt d=>rw[hbs] at j;cases j
  |ex c=>rw[hbs] at j;cases j
  |nx ρ1 =>
   rw[hbs] at j;dsimp only at j;show⟨λc=>if c=p then ag else H c,λa=>T a\/a=p,λ_=>p,startM ⇑N ds (λa _=>a=p) (χ.map (·.1),xs),[],{nx:=λρ=>ρ=ρ1,rt:=λ_=>False,bk:=λ_=>False,ct:=λ_=>False,ex:=λ_=>False},?_,?_,?_,?_⟩
   .rw [J];simp;lia
   .refine ⟨λa e=>?_,λc u e=>?_,λi d e=>?_,λi i' d d' h1 h2 _=>(ow i d h1).1.trans (ow i' d' h2).1.symm,λi d e=>?_,λg hg=>(by cases hg),λi xs e=>by have:=(ow i _ e).2;cases this⟩
    .by_cases z:a=p
     .exact .inr z
     .exact .inl (fc a (by simpa[z] using e))
    .by_cases z:c=p
     .simp [z] at e
     .simpa [z] using e
    .obtain ⟨rfl,rfl⟩:=ow i d e;show⟨?_,by simp,o,χ,hp,⟨rfl,rfl⟩,aK.fits (.mono so) _ _ dx⟩;rw[J,i_ (by simp;lia)];simp[hlu]
    .by_cases hi:i<⇑ds
     .rw [sv i hi] at e;obtain⟨y,e1,ey⟩:=jf.1 e;cases ey;obtain⟨v,ev,dv⟩:=du.get e1;show⟨v,?_,Dn.fits (.mono so) _ _ dv⟩;have hv:i<⇑us:=(df.1 ev).1;rw[J,jj ↑hv,c_,ev];rfl
     .rcases uk ⇑ds i with h|h
      .cases sn i h _ e
      .have:i=⇑ds:=∅
       subst this;rw[sj] at e;cases e
   .delta wS;rw[hbs]
   .refine ⟨λw' σ' H' L hl' l e=>?_,λ_ _ _ _ _ z=>z.elim,λ_ _ _ _ _ _ z=>z.elim,λ_ _ _ _ _ _ z=>z.elim,λ_ _ _ z=>z.elim⟩;subst e;rw[j0] at j;obtain⟨⟨q',ks',xs'⟩,eo,j⟩:=bnd j;obtain⟨d,ed,j⟩:=bnd j;have o0:=jA eo;obtain⟨a0,b0,⟨o1,E2,hp1,⟨e5,hq1⟩,dk1⟩⟩:=l.own ⇑ds _ o0;split at j
    case isFalse=>cases j
    rename_i hc;obtain⟨_,q⟩:=hc _ _ hq1;have q:w' ⇑ds=p:=q;show⟨SO (λa=>T a\/a=p) w' L,fZ L,λy=>y=d,l.FN,l.rd,⟨d,ed,rfl⟩,λy H2 y' s2 dy ey=>?_⟩;subst ey;have st2:=l.same s2;obtain⟨_,_,⟨o2,HW,Y,⟨e6,_⟩,YI⟩⟩:=st2.own ⇑ds _ o0;have toT:∀a,SO (λa=>T a\/a=p) w' L a->T a:=λa z=>z.1.elim id λy=>Zw (y.trans q.symm) (z.2 _ _ o0);have er:r=(y',ks',xs'):=(dg j).symm;subst er;rw[q] at Y;show kk y H2 o2 HW (λc u ne hc=>s2 _ _ (l.sm c u (by simpa[ne] using hc))) Y e6 (aK.fits (.mono toT) _ _ YI) (Dn.fits (.mono toT) _ _ dy)
theorem fdV{P:bj}{w:bg}{K:aq}{mg:Q0d}{ω:bh}{x:ak}{a:dc}{N j:Q0g}{k n l:Nat}{b:SF}{e0:EF}(D:Df K mg x a j)
  (h:∀{f:ai} {d:aj} {A:bx} {Γ:List fu} {s:ao} {H:Hp} {E:XK},dW k (A.deeper (envOfC x (aJ a) ↥s f d))->N.Nodup ->∃xc,qN (kQ g7 P w K mg ω N x (aJ a) f d A Γ s H E).DO (cV a) (vJ (iQ K xc ⇑N (wS b)) (LM K e0)))
  (S:dN N j (aJ a)<|>7) (v:⇑N=n<|>0) (p:⇑j=l<|>0):Cl P w K mg ω g7 (k+1) x j (xR K (CJ n l b e0)):=by
 obtain⟨_,F,m,q⟩:=D;show⟨La F S v p λ_ _ _ _ _ _ o=>h o S.nd,m,F.kp,q⟩
end L8
namespace L9
open PySem.Spec PyProof.Rows L2 L3 L4 L5 L8
section
variable{P:bj}{w:bg}{K:aq}{mg:Q0d}{ω:bh}{x:ak}{st:dc}{ps:Q0g}{n np:Nat}{b:SF}{key:EF}
theorem fqV(l:Ph P w ω)(k:Nat)(F:sC)(e:F=CJ n np b key)(N:Q0g)(D:Df K mg x st ps)
  (h:∀{f:ai} {a:aj} {A:bx} {Γ:List fu} {s:ao} {H:Hp} {E:XK},dW k (A.deeper (envOfC x (aJ st) ↥s f a))->N.Nodup ->∃xc,qN (kQ g7 P w K mg ω N x (aJ st) f a A Γ s H E).DO (cV st) (vJ (iQ K xc ⇑N (wS b)) (LM K key)))
  (S:dN N ps (aJ st)<|>7) (j:⇑N=n<|>0) (d:⇑ps=np<|>0):Cl P w K mg ω g7 (k+1) x ps (xR K F):=e▸fdV D h S j d
end
end L9
namespace K29
open L2 L3 L4 L6 L7 L8 L9 L5
def top(i : Nat):dc:=PySem.Challenge.pw_risecount_k29_whole_chain_rows_of_parts.main.body.getD i (.Pass ⟨0,0,0,0⟩)
structure Zs (K:aq) (mg:Q0d) (U1 U2:ai):Prop where
 ZX:z_ K "downsets"=ae (U1,U2)
 D1:Df K mg "is_thing" (top 4) ["number","n"]
 D2:Df K mg "ties_of" (top 5) ["order"]
 D3:Df K mg "ready_things" (top 7) ["order","ahead"]
 D4:Df K mg "joined" (top 8) ["ahead","thing"]
 D5:Df K mg "find_ways" (top 10) ["order","ahead","ways"]
 D6:Df K mg "ways_on" (top 9) ["order"]
 D7:Df K mg "added" (top 15) ["one","other"]
 D8:Df K mg "one_descent_more" (top 14) ["shares"]
 D9:Df K mg "find_shares" (top 13) ["order","ahead","last","shares"]
 D10:Df K mg "shares_on" (top 12) ["order"]
 D11:Df K mg "shares_by_descents" (top 11) ["order"]
 D12:Df K mg "downsets" (top 17) ["order"]
 D13:Df K mg "is_calm" (top 18) ["order","things"]
 D14:Df K mg "mark_of" (top 21) ["things"]
 D15:Df K mg "things_of" (top 22) ["mark"]
 D16:Df K mg "is_calm_mark" (top 24) ["order","mark","calm"]
 D17:Df K mg "chains_to" (top 23) ["order","mark","ahead","calm"]
 D18:Df K mg "chain_table" (top 20) ["order"]
 D19:Df K mg "chosen" (top 26) ["x","m"]
 D20:Df K mg "sum_over_descents" (top 27) ["shares","n","k"]
 D21:Df K mg "first_differences" (top 29) ["values"]
 D22:Df K mg "shares_by_steps" (top 28) ["order"]
 D23:Df K mg "_law_mixed" (top 31) ["_law_cell_here","_law_k","_law_salt"]
 D24:Df K mg "_law_draws" (top 32) ["_law_cell_here","_law_many","_law_salt"]
 D25:Df K mg "_law_cell" (top 33) ["_law_script","_law_k"]
 D26:Df K mg "_law_order" (top 34) ["_law_draws_here","_law_n","_law_thick"]
 D27:Df K mg "_law_drawn" (top 35) ["_law_script","_law_k","_law_most","_law_salt"]
 D28:Df K mg "_law_masks" (top 36) ["_law_order_here"]
 D29:Df K mg "_law_things" (top 37) ["_law_mask","_law_many"]
 D30:Df K mg "_law_downs" (top 38) ["_law_order_here"]
 D31:Df K mg "_law_part" (top 39) ["_law_order_here","_law_things_here"]
 D32:Df K mg "_law_chain_order" (top 40) ["_law_script"]
 D33:Df K mg "_law_tuple" (top 41) ["_law_found","_law_many"]
 D34:Df K mg "_law_same" (top 42) ["_law_found","_law_due"]
 D35:Df K mg "law" (top 43) ["_law_script"]
 lY:mg "sorted"=ag
 cZ:mg "tuple"=ag
 rZ:mg "enumerate"=ag
 FH:mg "all"=ag
 dE:mg "len"=ag
 d6:mg "range"=ag
 U3:mg "sum"=ag
 Fc:mg "zip"=ag
 Eg:mg "max"=ag
 Ux:mg "any"=ag
 Yy:mg "list"=ag
 bI:mg "isinstance"=ag
 B7:mg "bool"=ag
 U4:mg "int"=ag
 Uw:mg "str"=ag
section
variable{P:bj}{w:bg}{ω:bh}{K:aq}{mg:Q0d}{U1 U2:ai}(p:Ph P w ω)(Z:Zs K mg U1 U2)
include p Z
def o1:=pP p 3 LL.iJ rfl ["number","n"] Z.D1 λa nd=>(aR (dG (aCm Xu Er Vu Vv i4 xv xv)))
def o2:=pP p 3 LL.hV rfl ["order","ties","b","row"] Z.D2 λa nd=>(a8 (wK nd (kT bG))
  (a8 (qW rfl jm (wH Z.rZ y1) (Fi rfl nd)
   (aR (mS (Y0 (pG (VB (gP xv) (qU (aE xv y1))))))))
  (aR (dG (gE Z.cZ (aE (mJ.pe (TQ Z.lY y1)) bG))))))
def o3:=pP p 3 LL.cP rfl ["order","ahead","others"] Z.D3 λa nd=>(a8 (qV (ls:=["thing"]) (fs:=["ahead"]) (fr:=[1]) nd rfl (eS Z.d6 (fY Z.dE y1)) (λ_ _ _ _ _ _ nd=>BS (i:=0) nd ⋯) (λ_ _ _ _ _ _=>SX (Fj xv xv)) (λ_ _ _ _ _ _=>xv))
  (aR (dG (ZR (gP xv) (qT (S6 rfl Z.FH (aE (VB (gP (wF xv xv)) (in4 xv xv)) bG))) xv))))
def o4:=pP p 3 LL.eK rfl ["ahead","thing"] Z.D4 λa nd=>(aR (dG (gE Z.cZ (aE (mJ.pe (TX Z.lY (aE (gO xv (qU y1)) bG))) bG))))
def o5:=rcM p 4 K11.bR Z.D5 (λn d=>fqM p (4+n) _ rfl ["order","ahead","ways","further"] Z.D5 λa nd=>⟨_,(z9 (g9 (HI (fY Z.dE y1) (fY Z.dE y1))
   (aR (LA (i:=2) (u2 a) (pG i4) xv))
   g8)
  (UD (j:=2) (u2 a) (g9 (HV (u2 a) xv xv)
   (a8 (qV (ls:=["thing"]) (fs:=["ahead"]) (fr:=[1]) nd rfl (gP (bJ (N9 (o3 p Z) 4 n) a (aE xv y1))) (λ_ _ _ _ _ _ nd=>BS (i:=0) nd ⋯) (λ_ _ _ _ _ _=>K1) (λ_ _ _ _ _ _=>(bJ (N9 (o4 p Z) 4 n) a (aE xv y1))))
   (aR (LA (i:=2) (u2 a) (Uj (v:="longer") (fs:=["order","ways"]) (io:=0) (il:=3) (j:=2) d a rfl Z.U3 (XJ (iO (i:=3) rfl (by first|show .inl rfl|show .inr (.inl rfl)|show .inr (.inr rfl)))) (λ_ _ _ _ _ _=>kD (i:=0) (show(["longer","order","ways"]:Q0g).Nodup by decide+kernel) rfl (.inl rfl)) (λ_ _ _ _ _ _=>eR (iO (i:=1) rfl (by first|show .inl rfl|show .inr (.inl rfl)|show .inr (.inr rfl))) (eR (iO (i:=0) rfl (.inl rfl)) (eR (iO (i:=2) rfl (by first|show .inl rfl|show .inr (.inl rfl)|show .inr (.inr rfl))) kH))) (λ_ _ _ _ _ _=>rfl) (λ_ _ _ _ _ _=>rfl) (λ_ _ _ _ _ _=>rfl) ⋯) xv)))
   g8) xv))⟩) rfl 11
def o6:=pP p 15 K11.jP rfl ["order","ways"] Z.D6 λa nd=>(a8 (UC nd)
  (a8 (Cy (j:=1) (o5 p Z).up a (jY xv (jY (qU bG) (E1 (j:=1)))))
  (aR (dG xv))))
def o7:=pP p 3 LL.i7 rfl ["one","other"] Z.D7 λa nd=>(aR (dG (cp4 (Cw Z.Fc (aE xv y1)) (gO xv xv))))
def o8:=pP p 3 LL.bK rfl ["shares"] Z.D8 λa nd=>(aR (dG (gO (mJ.pe (kT (aE i4 bG))) (sl4 xv no4 (po4 (ya i4))))))
def o9:=rcM p 4 LL.a9 Z.D9 (λn d=>fqM p (4+n) _ rfl ["order","ahead","last","shares","state","some","thing","further"] Z.D9 λa nd=>⟨_,(z9 (dZ nd (qU (aE xv y1)))
  (UD (j:=3) (u2 a) (g9 (HV (u2 a) xv xv)
   (a8 (wK nd (TR (mJ.pe (kT (aE i4 bG))) (Vq rfl Z.Eg (aE (fY Z.dE y1) (aE i4 bG)))))
   (a8 (g9 (HI (fY Z.dE y1) (fY Z.dE y1))
    (aR (Ln (pG i4) i4))
    g8)
   (a8 (Vs 5 (qW rfl jm (gP (bJ (N9 (o3 p Z) 4 n) a (aE xv y1))) (lX nd)
    (a8 (Zh (i:=7) (j:=3) d a ⋯ nd (jY xv (jY (bJ (N9 (o4 p Z) 4 n) a (aE xv y1)) (jY xv (E1 (j:=3))))))
    (aR (dZ nd (bJ (N9 (o7 p Z) 4 n) a (aE xv (aE (if4 (YW xv xv) (bJ (N9 (o8 p Z) 4 n) a y1) xv) bG))))))))
   (aR (LA (i:=3) (u2 a) (pG xv) xv)))))
   g8) xv))⟩) rfl 11
def Kr:=pP p 15 LL.i8 rfl ["order","shares"] Z.D10 λa nd=>(a8 (UC nd)
  (a8 (Cy (j:=1) (o9 p Z).up a (jY xv (jY (qU bG) (jY i4 (E1 (j:=1))))))
  (aR (dG xv))))
def Kq:=pP p 16 LL.dA rfl ["order"] Z.D11 λa nd=>(aR (dG (gE Z.cZ (aE (Lh (u2 a) (bJ (Kr p Z).up a y1) (qU (aE (qU bG) (aE i4 bG)))) bG))))
def Ko:Cl P w K mg ω g7 17 "downsets" ["order"] (FP K MA.j8):=have _:=p;Le (N:=["order"]) Z.D12 Z.ZX λa nd=>(aR (dG (gE Z.cZ (aE (mJ.pe (Zb (x:="things") (fs:=[]) (fr:=[]) (x0:="downsets") rfl a (u9 a) Z.lY (Ze ⋯ Z.ZX) rfl (bJ (o6 p Z).up a y1) (λ_ _ _ _ _ _=>(qU (aE (fY Z.dE y1) y1))))) bG))))
def Kn:=pP p 4 DB.iB rfl ["order","things"] Z.D13 λa nd=>(a8 (g9 (zC (qT (S6 rfl Z.FH (aE (VB (gP xv) (bJ (o1 p Z).up a (aE xv (aE (fY Z.dE y1) bG)))) bG))))
   (aR aCt)
   g8)
  (aR (dG (yb (Lk rfl Z.Ux (aE (cp4 (gP (bJ (o2 p Z).up a y1)) (HJ (gt4 xv xv) (HJ (in4 xv xv) (SQ (in4 xv xv))))) bG))))))
def Km:=pP p 3 DB.mE rfl ["things","mark","power","thing"] Z.D14 λa nd=>(a8 (dZ nd i4)
  (a8 (dZ nd i4)
  (a8 (qW rfl jm (eS Z.d6 (gO (Uh rfl Z.Eg xv (ya i4)) i4)) (lX nd)
   (a8 (g9 (De xv xv)
    (aR (dZ nd (gO xv xv)))
    g8)
   (aR (dZ nd (vZ xv i4)))))
  (aR (dG xv)))))
def Kl:=pP p 3 DB.fK rfl ["mark","things","thing"] Z.D15 λa nd=>(a8 (wK nd (kT bG))
  (a8 (dZ nd i4)
  (a8 (S4 jm (YW xv i4)
   (a8 (g9 (HI (sL xv i4) i4)
    (aR (mS (BV (i:=1) (pG xv))))
    g8)
   (a8 (dZ nd (SM xv i4))
   (aR (dZ nd (gO xv i4))))))
  (aR (dG (gE Z.cZ y1))))))
def Kk:=fqM p 5 DB.cQ rfl ["order","mark","calm"] Z.D16 λa nd=>⟨_,(UD (j:=2) (u2 a) (g9 (HV (u2 a) xv xv)
   (aR (LA (i:=2) (u2 a) (pG (bJ (Kn p Z).up a (aE xv (aE (bJ (Kl p Z).up a y1) bG)))) xv))
   g8) xv)⟩
def Kj:=fqV p 6 DB.eO rfl ["order","mark","ahead","calm","counts","lower","lower_counts"] Z.D17 λa nd=>⟨_,(z9 (dZ nd (mJ.pe (TR (mJ.pe (kT (aE i4 bG))) (gO (fY Z.dE y1) i4))))
  (Ue (qW rfl jm (gP xv) (Fi rfl nd)
   (aR (Lb (HI (UE xv xv) xv) (Kk p Z).up a (jY xv (jY (HH xv xv) (E1 (j:=3))))
    (aR (dZ nd (bJ (o7 p Z).up a (aE xv y1))))
    g8))) (gO (mJ.pe (kT (aE i4 bG))) (sl4 xv no4 (po4 (ya i4))))))⟩
def Ki:=pP p 17 DB.gH rfl ["order","table","ahead","calm","things","mark","counts"] Z.D18 λd nd=>(a8 (wK nd (kT bG))
  (a8 (wK nd (kT bG))
  (a8 (UC nd)
  (a8 (qW rfl jm (gP (bJ (Ko p Z).up d y1)) (lX nd)
   (a8 (dZ nd (bJ (Km p Z).up d y1))
   (a8 (Yz (i:=6) (a:=2) (j:=3) (qT xv) (Kj p Z).up d ⋯ ⋯ nd (jY xv (jY xv (jY xv (E1 (j:=3))))) (gO (mJ.pe (kT (aE i4 bG))) (mJ.pe (TR (mJ.pe (kT (aE i4 bG))) (fY Z.dE y1)))))
   (a8 (mS (BV (i:=2) (pG (qU (aE xv y1)))))
   (aR (mS (BV (i:=1) (pG (qU (aE xv (aE (gE Z.cZ y1) bG)))))))))))
  (aR (dG (gE Z.cZ y1)))))))
def Kh:=pP p 3 LL.oG rfl ["x","m","many","step"] Z.D19 λa nd=>(a8 (dZ nd i4)
  (a8 (qW rfl jm (eS Z.d6 xv) (lX nd)
   (aR (dZ nd (SM (vZ xv (HH xv xv)) (gO xv i4)))))
  (aR (dG xv))))
def Kg:=pP p 4 LL.dH rfl ["shares","n","k"] Z.D20 λa nd=>(aR (dG (Dj rfl Z.U3 (aE (cp4 (wH Z.rZ y1) (vZ xv (bJ (Kh p Z).up a (aE (HH (HH (gO xv xv) i4) xv) y1)))) bG))))
def Kf:=pP p 3 LL.dI rfl ["values","firsts","row"] Z.D21 λd nd=>(a8 (wK nd (kT bG))
  (a8 (dZ nd xv)
  (a8 (S4 jm (qT xv)
   (a8 (mS (BV (i:=1) (pG (wF xv i4))))
   (aR (qV (ls:=["a","b"]) (fs:=[]) (fr:=[]) nd rfl (Cw Z.Fc (aE xv (aE (sl4 xv (po4 i4) no4) bG))) (λ_ _ _ _ _ _ nd=>SW (i:=0) (j:=1) rfl nd ⋯ ⋯) (λ_ _ _ _ _ _=>K1) (λ_ _ _ _ _ _=>(HH xv xv))))))
  (aR (dG (gE Z.cZ y1))))))
def Ke:=pP p 17 LL.eF rfl ["order","n","shares"] Z.D22 λa nd=>(a8 (dZ nd (fY Z.dE y1))
  (a8 (dZ nd (bJ (Kq p Z).up a y1))
  (aR (dG (bJ (Kf p Z).up a (aE (VB (eS Z.d6 (gO xv i4)) (bJ (Kg p Z).up a (aE xv (aE xv y1)))) bG))))))
def Kd:=pP p 3 LL.hJ rfl ["_law_cell_here","_law_k","_law_salt","_law_one","_law_two"] Z.D23 λa nd=>(a8 (dZ nd (sL (vZ (gO (gO (gO xv (vZ (vZ i4 xv) xv)) (vZ i4 xv)) xv) i4) i4))
  (a8 (dZ nd (sL (gO (gO (vZ xv (gO (SM xv i4) i4)) (vZ i4 xv)) xv) i4))
  (aR (dG (sL (vZ xv i4) i4)))))
def vh:=pP p 4 LL.f9 rfl ["_law_cell_here","_law_many","_law_salt","_law_found","_law_left","_law_k"] Z.D24 λa nd=>(a8 (wK nd (kT bG))
  (a8 (dZ nd i4)
  (a8 (g9 (Mq xv (Ms i4 i4))
   (aR (dZ nd xv))
   g8)
  (a8 (qW rfl jm (eS Z.d6 xv) (lX nd)
   (aR (g9 (YW xv i4)
    (a8 (mS (BV (i:=3) (pG (sL xv i4))))
    (aR (dZ nd (SM xv i4))))
    (aR (mS (BV (i:=3) (pG (bJ (Kd p Z).up a (aE xv (aE xv y1))))))))))
  (aR (dG xv))))))
def vg:=pP p 3 LL.iG rfl ["_law_script","_law_k"] Z.D25 λa nd=>(a8 (g9 (HI (fY Z.dE y1) i4)
   (aR (dG i4))
   g8)
  (aR (dG (wF xv (sL xv (fY Z.dE y1))))))
def Kc:=pP p 3 LL.l6 rfl ["_law_draws_here","_law_n","_law_thick","_law_rest","_law_word","_law_k","_law_low","_law_at","_law_j","_law_under","_law_i"] Z.D26 λa nd=>(a8 (wK nd (HK rfl Z.Yy Z.d6 y1))
  (a8 (wK nd (kT bG))
  (a8 (qW rfl jm (eS Z.d6 xv) (lX nd)
   (aR (mS (BV (i:=4) (Mu (i:=3) (px4 (sL (wF xv xv) (fY Z.dE y1))))))))
  (a8 (S3 (i:=6) nd)
  (a8 (dZ nd xv)
  (a8 (qW rfl jm (eS Z.d6 xv) (lX nd)
   (a8 (dZ nd (mJ.pe (kT bG)))
   (a8 (qW rfl jm (eS Z.d6 xv) (lX nd)
    (a8 (g9 (Mr (sL (wF xv xv) i4) xv)
     (aR (Wu (i:=9) nd (Vz xv (ZR (gP (gO (Dc (u1 a) xv (wF xv xv)) (mJ.pe (kT (aE (wF xv xv) bG))))) (Fj xv xv) xv))))
     g8)
    (aR (dZ nd (gO xv i4)))))
   (aR (Wt (i:=6) (u1 a) (pG xv) (wF xv xv))))))
  (aR (dG (gE Z.cZ (aE (VB (eS Z.d6 xv) (gE Z.cZ (aE (mJ.pe (YY Z.lY (aE (Dc (u1 a) xv xv) bG))) bG))) bG))))))))))
def Kb:=pP p 5 LL.l7 rfl ["_law_script","_law_k","_law_most","_law_salt","_law_head","_law_n","_law_draws_here"] Z.D27 λa nd=>(a8 (dZ nd (bJ (vh p Z).up a (aE (bJ (vg p Z).up a (aE xv y1)) (aE i4 y1))))
  (a8 (dZ nd (sL (wF xv i4) (gO xv i4)))
  (a8 (dZ nd (bJ (vh p Z).up a (aE (bJ (vg p Z).up a (aE xv (aE (gO xv i4) bG))) (aE (gO xv (SM (vZ xv (HH xv i4)) i4)) (aE (gO xv i4) bG)))))
  (aR (dG (bJ (Kc p Z).up a (aE xv (aE xv (aE (wF (mJ.pe (kT (aE i4 (aE i4 (aE i4 (aE i4 (aE i4 (aE i4 (aE i4 (aE i4 bG)))))))))) (sL (wF xv i4) i4)) bG)))))))))
def Ka:=pP p 3 LL.mC rfl ["_law_order_here"] Z.D28 λa nd=>(aR (dG (VB (gP xv) (Dj rfl Z.U3 (aE (VB (gP xv) (Cv i4 xv)) bG)))))
def J_:=pP p 3 MA.j9 rfl ["_law_mask","_law_many"] Z.D29 λa nd=>(aR (dG (gE Z.cZ (aE (ZR (eS Z.d6 xv) (HI (UE (Lf xv xv) i4) i4) xv) bG))))
def Ce:=pP p 4 MA.iA rfl ["_law_order_here","_law_many","_law_masks_here","_law_found","_law_mask","_law_things_here"] Z.D30 λa nd=>(a8 (dZ nd (fY Z.dE y1))
  (a8 (dZ nd (bJ (Ka p Z).up a y1))
  (a8 (wK nd (kT bG))
  (a8 (qW rfl jm (eS Z.d6 (Cv i4 xv)) (lX nd)
   (a8 (dZ nd (bJ (J_ p Z).up a (aE xv y1)))
   (aR (g9 (qT (S6 rfl Z.FH (aE (VB (gP xv) (eq4 (UE (wF xv xv) xv) (wF xv xv))) bG)))
    (aR (mS (BV (i:=3) (pG (qU (aE (fY Z.dE y1) y1))))))
    g8))))
  (aR (dG (cp4 (gP (mJ.pe (ZS (u9 a) Z.lY y1))) xv)))))))
def Cd:=pP p 3 DB.iM rfl ["_law_order_here","_law_things_here","_law_found","_law_b"] Z.D31 λa nd=>(a8 (wK nd (kT bG))
  (a8 (qW rfl jm (gP xv) (lX nd)
   (aR (mS (BV (i:=2) (pG (gE Z.cZ (aE (ZR (eS Z.d6 (fY Z.dE y1)) (De (wF xv xv) (wF xv xv)) xv) bG)))))))
  (aR (dG (gE Z.cZ y1)))))
def Jz:=pP p 6 eZ rfl ["_law_script","_law_order_here","_law_most"] Z.D32 λa nd=>(a8 (dZ nd (bJ (Kb p Z).up a (aE xv (aE i4 (aE i4 (aE i4 bG))))))
  (a8 (dZ nd i4)
  (a8 (g9 (HI (sL (wF (bJ (vh p Z).up a (aE (bJ (vg p Z).up a (aE xv (aE i4 bG))) (aE i4 (aE i4 bG)))) i4) i4) i4)
   (aR (dZ nd i4))
   g8)
  (a8 (g9 (YW (fY Z.dE (aE (bJ (Ce p Z).up a y1) bG)) xv)
   (aR (dG (bJ (Cd p Z).up a (aE xv (aE (ER rfl Z.cZ Z.d6 i4) bG)))))
   g8)
  (aR (dG xv))))))
def Jy:=pP p 3 LL.mB rfl ["_law_found","_law_many"] Z.D33 λa nd=>(a8 (g9 (PW4.pt (yc (zC (qT (sM BO.t Z.bI Z.cZ uf xv))) (yd (ye (fY Z.dE y1) xv))))
   (aR (dG b4))
   g8)
  (aR (dG (S6 rfl Z.FH (aE (VB (gP xv) (HJ (sM BO.i Z.bI Z.U4 Hf xv) (SQ (yb (sM BO.b Z.bI Z.B7 Be xv))))) bG)))))
def Jx:=rc4 p 3 LL.d7 Z.D34 (λn d=>pP p (3+n) _ rfl ["_law_found","_law_due"] Z.D34 λa nd=>(a8 (g9 (qT (sM BO.t Z.bI Z.cZ uf xv))
   (a8 (g9 (PW4.pt (yc (zC (qT (sM BO.t Z.bI Z.cZ uf xv))) (yd (ye (fY Z.dE y1) (fY Z.dE y1)))))
    (aR (dG b4))
    g8)
   (aR (dG (S6 rfl Z.FH (aE (VB (eS Z.d6 (fY Z.dE y1)) (bJ d a (aE (wF xv xv) (aE (wF xv xv) bG)))) bG)))))
   g8)
  (a8 (g9 (Mp xv n4)
   (aR (dG (is4 xv n4)))
   g8)
  (a8 (g9 (qT (sM BO.b Z.bI Z.B7 Be xv))
   (aR (dG (HJ (sM BO.b Z.bI Z.B7 Be xv) (SQ (eq4 xv xv)))))
   g8)
  (a8 (g9 (qT (sM BO.i Z.bI Z.U4 Hf xv))
   (aR (dG (HJ (sM BO.i Z.bI Z.U4 Hf xv) (HJ (yb (sM BO.b Z.bI Z.B7 Be xv)) (SQ (eq4 xv xv))))))
   g8)
  (aR (dG (HJ (sM BO.s Z.bI Z.Uw a3U xv) (SQ (eq4 xv xv)))))))))) rfl 6
def Yx{f:ai}{fd:gn}(F:U7 K "law" "law" (top 43) f fd):jE P w K mg ω g7 19 f fd ["_law_script"] (FP K yJ):=by
 have S:dN ["_law_script","_law_order_here","_law_downs_here","_law_rows","_law_d","_law_at","_law_steps","_law_due"] ["_law_script"] (aJ (top 43)):=⟨rfl,rfl,rfl,by decide+kernel,rfl,by decide+kernel,by decide+kernel⟩;have nd:=S.nd;show Di F S rfl rfl (λ_ _ _ _ _ _ a=>(a8 (dZ nd (bJ (Jz p Z).up a y1))
  (a8 (dZ nd (bJ (Ce p Z).up a y1))
  (a8 (dZ nd (bJ (Ki p Z).up a y1))
  (a8 (g9 (PW4.pt (yc (zC (qT (sM BO.t Z.bI Z.cZ uf xv))) (yd (ye (fY Z.dE y1) (fY Z.dE y1)))))
   (aR (dG b4))
   g8)
  (a8 (qW rfl jm (gP (bJ (vh p Z).up a (aE (bJ (vg p Z).up a (aE xv (aE i4 bG))) (aE i4 (aE i4 bG))))) (lX nd)
   (a8 (dZ nd (sL xv (fY Z.dE y1)))
   (a8 (dZ nd (bJ (Ke p Z).up a (aE (bJ (Cd p Z).up a (aE xv (aE (wF xv xv) bG))) bG)))
   (a8 (g9 (zC (qT (bJ (Jy p Z).up a (aE xv (aE (gO (fY Z.dE (aE (wF xv xv) bG)) i4) bG)))))
    (aR (dG b4))
    g8)
   (a8 (dZ nd (qU (aE (wF xv xv) (aE (gO xv (Vo (qU (aE i4 bG)) (HH (fY Z.dE y1) (fY Z.dE (aE (wF xv xv) bG))))) bG))))
   (aR (g9 (zC (qT (bJ (Jx p Z).up a (aE (wF xv xv) y1))))
    (aR (dG b4))
    g8)))))))
  (aR (dG b4))))))))
end
theorem all_mk{l:s_}{w:bg}{K:aq}{mg:Q0d}{d:ai}(a:mg "law"=ae (.ref d)){j h:ai}(Z:Zs K mg j h):
  ∃fd:gn,(∀(s:ao) (v:aj),ud s fd ⟨[v],[]⟩ [("_law_script",v)]) /\∀ω:bh,K.In ω->ω.Ns ie mg->jE l.prog w K mg ω g7 19 d fd ["_law_script"] (FP K yJ):=by
 obtain @⟨_,fd,_,F,m,_⟩:=Z.D35;cases a.symm.trans m;show⟨fd,λs v=>?_,λω _ _=>Yx .mk Z F⟩;obtain⟨_,_,_,_,_,_,_,_,_,e,_⟩:=F.ex;rw[e];show .of_eq rfl
def Yw{K:aq}{H:Hp}{a:ai}{ns:Q0e}(o:Only H)(h:dM K H a (ns.map V.int)):Scr K H a ns:=by
 rcases h with h|h
 .rcases h with h|⟨b,h⟩
  .rcases o a with z|⟨_,_,z⟩|⟨_,z⟩<;>rw[z] at h<;>cases h
  .exact .inl ⟨b,h⟩
 .exact .inr (.inr h)
theorem walk{l:s_}{q:bj}{loose:Q0g}{U:(ak->Option aj)->bh->Prop}{YP:bg->bh->Prop}{d:DefRec}{K:Params->aq}(A:l.most=ae 63)(m:d.params.defaults=[])
  (L:∀(w:bg) (h:bh),YP w h->(K w.params).In h) (y:∀w:bg,TabsOk (K w.params) q) (j:∀w:bg,noTabs (K w.params)=af)
  (F:∀(w:bg) (mg:Q0d) (p:ai) (h:bh),(K w.params).In h->h.Ns ie mg->mg d.name=ae (.ref p) ->
   ∃fd:gn,(∀(s:ao) (u:aj),ud s fd ⟨[u],[]⟩ [("_law_script",u)]) /\∀ω:bh,(K w.params).In ω->ω.Ns ie mg->jE l.prog w (K w.params) mg ω g7 19 p fd ["_law_script"] (FP (K w.params) yJ)):
  Gp q loose U YP l.row.toRowW d [] (λf vs=>Gh f vs) :=
 L2.X4 (n:=63) (k:=19) (x:="_law_script") (CX:=λ_=>g7) (sp:=λw=>FP (K w.params) yJ) A ⋯ m ⟨rfl,⋯,⋯⟩ L y j F
  (λ_ H a ns I o O=>⟨λa=>H a=ag,[.lZ ns],λd=>d=.bl af,λ_ h=>h,⟨_,_,rfl,⟨a,rfl,Yw o O⟩,rfl⟩,⟨_,QS ns I,rfl⟩,λv H' d _ J e=>by subst e;show J⟩) λ_ _ _ _ _ z=>z
end K29
open PySem.W PyProof.Rows
structure PySem.W.Fast:Prop where(tw1801104146133261250 tw10576470886274081174 tw11462433354787758418 tw4038222485288815650 tw6077857596898748888 tw9253426693335499783 tw11771689647346618336 tw13419375851883702614 tw12764881881977326703 tw17232632722018358166 tw16823687672271786211 tw486223166260026573 tw13724924766545578967 tw16135998820655158183 tw5568960211892467677 tw12333871527318911263 tw6695589690821252832 tw10465796422264291423 tw16244261006095455907 tw9165239185154993419 tw14611548428678388949 tw1402604929168205243 tw14349092153157287645 tw2634603923267338599 tw1234041186659951769 tw9441282492797834484 tw7989102798559647809 tw9842804747211877265 tw13402441552301647079 tw8014110977045870915 tw2356328796802889374 tw8839281629399221307 tw4544243912452541802 tw2715271060541998294 tw89443501315799684 tw5348279375342098706 tw6467488418046273724 tw12737867628780913427 tw6307098126329015715 tw5957325850758727351 tw17279677093514464284 tw16884237482406241878 tw11944631600601549900 tw11461638461936347542 tw15823382267016652491 tw9362096324957806529 tw430402697987065347 tw7939029213997195061 tw17907918101007356892 tw2265620814965353530 tw15630805888454266873 tw11837223613234794755 tw9049788218453004260 tw14322319676017885904 tw4981461642009720450 tw13415529543377765723 tw7702512599800152490 tw12797450376442056544 tw904022103951383058 tw15631199807770962019 tw15375566969754712892 tw17816777174615617591 tw2833425816743913613 tw9908179836989805428 tw3268742321466361247 tw9923776137176587554 tw7077205866830728261 tw361976924071568063 tw15038720329921804168 tw8734984252055879515 tw14788761575106170357 tw14905904506502210626 tw10924324333405224845 tw12007669903233269964 tw3126137656215007804 tw4975329805220777121 tw11984170971271321813 tw14319506481989782200 tw17437103794082253750 tw5956071196246935315 tw14703047859480315225 tw5258682293209398498 tw16365734071039392427 tw11809787158960488856 tw18000149333137573292 tw5435801550522850060 tw12592226463988315168 tw11956418383341530722 tw16532679341204691362 tw5184868382359519141 tw8982422349845297021 tw4380427846349372307 tw11963989164931898694 tw888036781506193683 tw16001895952490407086 tw8625428040975198790 tw3489933689625613146 tw1928395810349952841 tw9976223536076699763 tw2793886869587565927 tw3710362380763905301 tw7499014464858545361 tw8555739282087459058 tw7276939372297428746 tw15001175921757808367 tw5685453625585680833 tw9916233420058924185 tw17062860186552414812 tw8790704437478704477 tw4520454254637504904 tw7637069224574102128 tw1067519416481926592 tw12466276289845538816 tw18315756526537909274 tw7949846924670300234 tw9487886667795164908 tw8433881971846860944 tw6296814957793678662 tw8529656539823636015 tw11254843371389037568 tw3189346055509982144 tw2075123289406227612 tw2351697823052095572 tw17244580675680460843 tw7908610905781401272 tw11584573487494862785 tw3663734598324960953 tw18250703990606696857 tw910765375921120502 tw16276373820583562602 tw11947360889275951195 tw8696446600871975661 tw13377991724577053022 tw563485855292805334 tw11878614923316996976 tw5116826552240598428 tw10982736707517879859 tw3876373115223663084 tw11999667953215812615 tw813004161431920958 tw467655773401755048 tw13372460337785014287 tw13847821833424265481 tw5973535304118623913 tw3371497967107593704 tw12890323643406036492 tw13948597579974142344 tw6254362049567003009 tw213811567309921261 tw13719037152272084770 tw16667174274589297924 tw13081885175379008482 tw12820126034808439011 tw7568154440507545495 tw102335425862769111 tw5441599132797926361 tw8991482268345222878 tw11108515165277599068 tw5256630488974802891 tw9896870183746542423 tw10221909280429891141 tw3956637989894383247 tw9587943340664127517 tw17293686542152613818 tw12055283015777491962 tw1213933865944116127 tw11851667943159430293 tw1853915309392627665 tw630024727399104331 tw11526755330772224902 tw9274443620194311845 tw2614749250745622130 tw8705959589671076419 tw9861441042758055704 tw10950803010770155024 tw13878758299993993684 tw816537677456148111 tw9315574971068379495 tw347856712054751597 tw2105320178142376835 tw13059509699661455836 tw11049113916924519386 tw6847879980180564764 tw12011771990693019382 tw14202808020510056288 tw1126252521693310067 tw17898478037252590425 tw5489947798887705036 tw3866427086805796692 tw10324920813594331245 tw12359581449819722601 tw15366676064049462504 tw15778100011197868404 tw9670929800192044874 tw7075447483522486298 tw7534272346675821291 tw12118410053022399466 tw18165543159003304535 tw4426219003578371627 tw9493718493452957721 tw3418645725300640422 tw15571804715758772192 tw6235785802660102869 tw8565894446766728485 tw17216420044061607372 tw13163296602532919965 tw6411430665690465284 tw10747260766315006215 tw10014037570978121377 tw14198495881353524535 tw12020033101609851920 tw5398632608532666038 tw10756694064863284299 tw6761949313422394204 tw6687437523807671456 tw14317581442625768765 tw4703997124207498447 tw5041865014118590329 tw3878875124901833666 tw8818786827556663847 tw14116376984272393582 tw852678093601198524 tw6043467170620275699 tw6200259149683570355 tw15242933635204811843 tw2054818768148289774 tw13361271421775913818 tw6642341013853080253 tw1389372888351477960 tw12476302899820968674:True)
set_option maxRecDepth 100000 in
set_option maxHeartbeats 0 in
theorem PySem.Challenge.cw_risecount_k29_whole_chain_rows_of_parts_holds : PySem.Challenge.rw_risecount_k29_whole_chain_rows_of_parts.Holds := by
 w_on; o_law; k_head; (case hw=>w_witness2)
 k_fill
 show K29.walk (l := PySem.Challenge.rw_risecount_k29_whole_chain_rows_of_parts) rfl rfl (fun w h Y => PySem.W.km_in_of Y) ?hTbs ?hNtb ?F
 case hTbs =>
  intro w
  refine' L4.tabs_ok (L4.N8 ?t1 ?t2 ?t3 ?t4 ?t5) ?nd ?rc
  (case t1=>(refine' L4.pN ?p1; (case p1=>k_is)))
  (case t2=>(refine' L4.pN ?p1; (case p1=>k_is)))
  (case t3=>(refine' L4.pN ?p1; (case p1=>k_is)))
  (case t4=>(refine' L4.E4 ?p1 ?p2 ?p3 ?p4 ?p5; (case p1=>k_is); (case p2=>k_is); (case p3=>show rfl); (case p4=>k_is); (case p5=>show rfl)))
  (case t5=>(refine' L4.pN ?p1; (case p1=>k_is)))
  (case nd=>decide)
  (case rc=>(intro t j; rcases List.mem_cons.1 j with rfl | j<;>first | show ⟨_,rfl⟩ | cases j))
 case hNtb =>
  intro w
  kernel_rfl
 case F =>
  intro w mg n h KX G m
  refine' K29.all_mk m ⟨?ZX,?_,?_,?_,?_,?_,?_,?_,?_,?_,?_,?_,?_,?_,?_,?_,?_,?_,?_,?_,?_,?_,?_,?_,?_,?_,?_,?_,?_,?_,?_,?_,?_,?_,?_,?_,?_,?_,?_,?_,?_,?_,?_,?_,?_,?_,?_,?_,?_,?_,?_⟩
  (case ZX=>(refine' L4.E4 ?p1 ?p2 ?p3 ?p4 ?p5; (case p1=>k_is); (case p2=>k_is); (case p3=>show rfl); (case p4=>k_is); (case p5=>show rfl)))
  all_goals first | show PySem.W.mg_none_of KX G (by k_is) | (refine' L4.aF1 KX G ?b ?a ?l ?c ?k; (case a=>k_is); (case l=>k_is); (case c=>k_is); (case k=>k_is); (case b=>(intro us d; first | (obtain ⟨_,rfl⟩:=L4.ZH us d; rfl) | (obtain ⟨_,_,rfl⟩:=L4.ZI us d; rfl) | (obtain ⟨_,_,_,rfl⟩:=L4.ZJ us d; rfl) | (obtain ⟨_,_,_,_,rfl⟩:=L4.ZK us d; rfl))))
end
