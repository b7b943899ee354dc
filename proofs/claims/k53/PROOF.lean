import PyProof.Rows.All
import PySem.Str
import PySem.Sem
import PyProof.StrBlockL
import PyProof.Rows.Walk
import Wide.All
import OpenK.AllK
import Wide.FinOn
import Lean
import PyProof.EqAt
import PyProof.EqKinds
import PyProof.TupleCall
import PyProof.SeqRoads2
import PyProof.ExcArgs
import KE.KIsAll
import PyProof.DictIter
import PyProof.Rows.CountFlat
import PyProof.NeKinds
import KE.KSortKey
import KE.KMinKey
import KE.KIntText
import PyProof.Rows.FStr
import PyProof.Rows.StrJoin2
import PyProof.DictItems
import PySem.Challenge.RW_risecount_k53_same_counts_known
set_option Elab.async false
set_option linter.all false
set_option maxRecDepth 100000
set_option maxHeartbeats 3999999
open PySem.W (CodeHd OpenLaw codeIn fnOf instObj keepIn kitOne lookIn methodObj noTabs tabObj)
open And renaming intro->Ag
open Array renaming forIn_toList->a3g,getD->Af,getElem?_eq_getElem->kz,getElem?_eq_none->a3f,getElem?_toList->Ae,length_toList->Hk,toList->a3e
open Array.Perm renaming refl->sx
open BEq renaming beq->Hj
open Bool renaming and_eq_true->fz,and_true->Hi,eq_iff_iff->gx,false->ag,false_and->Ad,false_eq_true->sr,false_ne_true->bz,false_or->Ac,not_eq_true->a3d,not_eq_true'->Ab,not_false->Hh,not_true->vz,or_eq_true->vy,or_false->vx,or_true->a3c,true->ae,true_and->ku,true_or->a3b
open Classical renaming byContradiction->Aa,epsilon->a3a,epsilon_spec->a29,propDecidable->Hg
open Decidable renaming decide->Zv
open False renaming elim->jr
open ForInStep renaming done->a28,yield->nh
open Function renaming comp->Hf
open Int renaming add_mul->z_,add_zero->qm,emod_lt_of_pos->oq,emod_nonneg->ml,eq_of_mul_eq_mul_left->a27,eq_of_mul_eq_mul_right->a26,le_of_lt->a25,le_trans->zz,mul_add->a24,mul_assoc->sk,mul_comm->ql,mul_one->He,mul_zero->Hd,natAbs_mul->a23,ne_of_gt->a22,neg_mul->a21,pow_pos->a20,sub_zero->a2Z,toNat_natCast->jf,zero_add->je,zero_mul->qk
open List renaming Nodup->si,all_cons->mj,all_eq_true->gw,all_map->sh,any_cons->jq,any_eq_true->om,any_map->sg,any_toArray->a2X,append_assoc->ng,append_inj'->sd,append_nil->mi,append_of_mem->a2W,cons_append->Hc,contains_cons->a2U,contains_eq_mem->a2T,contains_iff_mem->Hb,drop_drop->a2S,drop_eq_getElem_cons->vw,drop_eq_nil_iff->a2R,drop_eq_nil_of_le->Ha,drop_length->a2Q,drop_zero->r_,eq_nil_of_length_eq_zero->zx,eq_nil_or_concat->G_,eq_of_mem_replicate->a2P,ext_getElem?->nc,filterMap_cons->qh,filterMap_map->Gz,filter_congr->Gy,filter_cons->m_,filter_eq_nil_iff->zw,filter_filter->a2O,filter_map->a2N,find?_cons->ia,findSome?_cons->a2M,flatMap_cons->zv,flatten_cons->qg,foldl->Gx,foldl_cons->mh,forIn_cons->r9,forIn_nil->zu,getD_eq_getElem?_getD->fm,getElem?_append_left->jo,getElem?_append_right->jn,getElem?_cons_succ->r6,getElem?_cons_zero->vv,getElem?_drop->zt,getElem?_dropLast->a2L,getElem?_eq_getElem->bc,getElem?_eq_none->gk,getElem?_eq_some_iff->cq,getElem?_map->ck,getElem?_nil->Gw,getElem?_range->mf,getElem?_replicate->kr,getElem?_set_ne->kc,getElem?_set_self->oj,getElem?_take_of_lt->vt,getElem?_zipIdx->vq,getElem?_zip_eq_some->qf,getElem_drop->a2K,getElem_idxOf->a2J,getElem_inj->zr,getElem_map->a2I,getElem_mem->mz,getElem_of_mem->qe,getElem_toArray->a2H,idxOf_lt_length_iff->a2G,length->my,length_append->fu,length_cons->de,length_drop->qd,length_eq_zero_iff->qc,length_filter_le->me,length_map->a_,length_nil->mx,length_pos_of_mem->a2F,length_range->kq,length_replicate->qa,length_set->jd,length_singleton->vp,length_take->jm,length_zip->a2E,lookup_append->Gv,lookup_cons->rn,map->a2D,map_append->gu,map_congr_left->gq,map_cons->bt,map_id->a2C,map_inj_right->a2B,map_map->cc,map_nil->j_,map_take->a2A,mem_append->h_,mem_append_left->md,mem_append_right->jl,mem_cons->cb,mem_cons_of_mem->dq,mem_cons_self->cn,mem_filter->cj,mem_filterMap->vn,mem_flatMap->oi,mem_iff_getElem?->p_,mem_map->cg,mem_map_of_mem->vm,mem_of_getElem?->jz,mem_of_head?->a2z,mem_range->dm,mem_reverse->a2y,mem_singleton->cp,nil_append->vk,nil_perm->a2x,nodup_append->jy,nodup_cons->gz,nodup_iff_pairwise_ne->a2w,nodup_nil->mw,nodup_range->Gu,not_lt->vh,not_mem_nil->oh,of_mem_zip->vg,pairwise_and_iff->a2v,pairwise_cons->ft,pairwise_flatMap->a2u,pairwise_iff_getElem->rm,pairwise_lt_range->zq,pairwise_map->jw,pairwise_singleton->Gs,perm_ext_iff_of_nodup->vf,perm_nil->Gr,range->bu,range_succ_eq_map->ve,replicate->dh,replicate_succ->jb,replicate_zero->Gq,reverse->a2t,reverse_reverse->Gp,set_cons_succ->Gn,set_cons_zero->Gm,set_nil->Gk,singleton_append->a2s,size_toArray->cu,sum_append->Gj,sum_cons->gy,sum_nil->a2r,take_add_one->Gi,take_length->a2q,take_of_length_le->vd,take_sublist->Gh,take_succ->a2p,toArray->zp,zipIdx_cons->a2o,zip_append->a2n,zip_cons_cons->Gg,zip_map->Gf
open List.Nodup renaming idxOf_getElem->a4G,sublist->a4F
open List.Pairwise renaming filter->oo,imp_of_mem->qj,map->qi,nil->zy
open List.Perm renaming cons_inv->a4E,nil->a4D,of_eq->a2Y,swap->a4C,trans->a4B
open List.cons renaming inj->a4A,injEq->a2V
open Nat renaming add_assoc->a2m,add_zero->Ge,eq_of_testBit_eq->pz,le_add_right->ma,le_of_eq->og,le_of_lt->ko,le_refl->bj,le_succ->mv,le_trans->ie,lt_asymm->a2l,lt_irrefl->ik,lt_log2_self->a2k,lt_of_le_of_lt->pw,lt_of_lt_of_le->gc,lt_or_ge->vc,lt_succ_of_lt->rk,lt_succ_self->rj,lt_trans->a2j,min_le_right->a2i,ne_of_gt->i_,ne_of_lt->fv,pow_add->a2h,pow_le_pow_right->u_,strongRecOn->zo,sub_self->Ga,sub_zero->uz,succ_mul->F_,succ_ne_self->a2g,testBit_and->zm,testBit_or->a2f,testBit_shiftLeft->a2e,testBit_shiftRight->a2d,testBit_two_pow->Fz,testBit_xor->uy,zero_add->ux,zero_le->iz,zero_testBit->pk
open Ne renaming symm->dj
open Option renaming bind_none->Fy,bind_some->dz,getD_none->a2c,isSome_map->zl,join_none->Fx,join_some->Fw,map_eq_some_iff->jk,map_none->Fv,map_some->pj,none->af,some->aa
open Option.some renaming inj->dg
open Or renaming inl->fg,inr->cm
open Prod renaming ext->km,ext_iff->a2b,fst->l_,snd->zk
open Prod.mk renaming inj->a2a
open PyProof.Rows renaming AllBare->mr,Call_->uw,IntsAre->iy,IsTup->g_,Subscript_->Fs,args_list_sort->a17,args_sorted1->a16,args_tuple_getitem->a15,boot_all->a4z,boot_any->a4y,boot_bool->zj,boot_int->Fq,boot_isinstance->a4x,boot_list->a4w,boot_max->a4v,boot_min->a4u,boot_range->Fp,boot_sorted->uv,boot_str->a4t,boot_sum->a4s,boot_tuple->uu,bubble_perm->a14,callWith_builtin1->a4r,callWith_type1->rh,entry_list_sort->a13,entry_sorted->a12,entry_tuple_getitem->a11,kind_sorted->a10,listUpdate_at->a1Z,plain_sorted->a1Y,seqEpoch_at->a1X,slicePart_none->a1W,slot_list_sort->a1V,slot_tuple_getitem->ph,sortedAll_at->Fo,sortedAll_old->Fn,subscriptTail_builtinR->a1U,truthy_tuple->a1T,tupleItemsOf_->a1S
open PyProof.Rows.F renaming entry_set_update_loop->a19,plain_set_update_loop->Fu
open PyProof.Rows.IntsAre renaming length->a18
open PyProof.Rows.IsTup renaming new->Ft
open PySem renaming Addr->ai,Around->bx,BindsTo->rf,DictEntry->rb,Env->fw,Expr->ar,FuncData->gp,Heap->bb,IntMulOk->uq,IsEnum->uo,IsItemIter->Fd,IsItemIterOut->a1j,IsPair->qx,IsPart->lp,IsRangeIter->a1i,Keyword->gd,NameKind->iw,Obj->aw,Paired->gg,PassesOwn->qv,Pos->bh,Program->bf,Scope->gf,Shared->ao,Stmt->df,Str->ak,Tok->ic,Value->aj,Within->a0P,World->ba,assignEach->e_,backTo->d_,boot_len->a0O,cLine->cf,call->Es,call_function_tree->a0N,call_meets->oz,call_meetsIn->a0M,call_range_1->a0L,codeAny->kh,codeAny_builtin->kg,codeAny_call_builtin->a0K,codeAny_mono->uk,concat_meets->Er,eqIsQuiet_byValue->a0J,evalPart_none->a0I,fitsIndex_both->a0H,fits_of_scanBound->a0G,intBits_le_64->a0F,intKind_is->Ep,isSubtype_tuple_tuple->a0E,keywordEach->ke,mainGlobals->ig,mem_of_lookup->k_,model->ay,name_of_addr->a0D,noFill_tuple_add->Eo,plainId_quiet->nq,pushCells_keeps->a0C,rangeSize_one->a0B,seqIndex_neg->En,seqIndex_of->Em,seq_tuple_add->El,sizeLine->bg,sizeLine_eq->gr,slot_list_getitem->a0A,starEach->au,swapsWith->gb,tupleKind_room_in1->a0z,typeIs_int->Ek,wpAny->ax,wpAny_Assign_Subscript->a0y,wpAny_Call_Name_kw->Ej,wpAny_Call_method->a0x,wpAny_Dict_empty->a0w,wpAny_Name->Ei,wpAny_alloc->a0v,wpAny_assign_Name->a0u,wpAny_attempt->a0t,wpAny_bind->av,wpAny_callSpecial?_slot->qp,wpAny_call_entry->jh,wpAny_eqBool_int->a0s,wpAny_execs_cons->a0r,wpAny_execs_nil->yp,wpAny_field->oy,wpAny_getItem_heap->a0q,wpAny_getItem_of->a0p,wpAny_handled->a0o,wpAny_holding->ip,wpAny_isInstance->Eh,wpAny_isTrue_Compare1->a0n,wpAny_letGo->a0m,wpAny_loadPart'->il,wpAny_mono->nk,wpAny_newList->Eg,wpAny_newObj_type->uj,wpAny_passesOwn->ox,wpAny_pure->az,wpAny_pyIter_enum->yo,wpAny_pyIter_list->Ef,wpAny_pyIter_slot->a0l,wpAny_pyIter_tuple->ui,wpAny_pyIter_zip->a0k,wpAny_rule->mq,wpAny_runValue->a0j,wpAny_seqItems->Ee,wpAny_sequenceKey->a0i,wpAny_setField->a0h,wpAny_setItem_heap->a0g,wpAny_setItem_pairs->a0f,wpAny_specialOf->Ed,wpAny_standAt->Ec,wpAny_storeSet_of->a0e,wpAny_throw->a0d,wpAny_truthy_bool->mn,wpAny_truthy_list->a0c,wpAny_tupleItemsOf->a0b,wpAny_typeOf->Eb
open PySem.Around renaming under_plainId->lr
open PySem.AutoListH renaming list___mul___list_int_3->a4q
open PySem.AutoSeq1 renaming list_extend_list_list_0->a4p,sub_list_list->a4o
open PySem.Builtin.Dict_items renaming ownsTuple->a4n
open PySem.Builtin.Frozenset renaming newClass->a4m,updateFrom->a4l
open PySem.Builtin.List renaming listTooLong->zi
open PySem.Builtin.Range renaming rangeSize->a1R
open PySem.Builtin.Slice renaming sliceAdjust->Fm,sliceApplied->a1Q,sliceFields->a4k,slicePartIndex->a4j,slicePlaces->zh
open PySem.Builtin.SmallTypes renaming nextOf->a1P
open PySem.Builtin.Tuple renaming tupleExact->zg,tupleHashOf->a1O,tupleIsExact->a4i,tupleItemsOf->a1N
open PySem.Calls renaming Name_function_global->a1M,callWith_builtin->Fl,call_function_entry->a1L,evalArgs_plain->a1K,spliced_cons->a1J,spliced_nil->a1I
open PySem.DictEntry renaming refKey->a4h
open PySem.EqMixed renaming eq_bool_str->a4g,eq_int_str->a4f,eq_str_bool->a4e,eq_str_int->a4d,ne_bool_str->a4c,ne_int_str->a4b,ne_str_bool->a4a,ne_str_int->a39
open PySem.EqNone renaming eq_bool_none->a38,eq_int_none->a37,eq_none_bool->a36,eq_none_int->a35,eq_none_none->a34,eq_none_str->a33,eq_str_none->a32,ne_bool_none->a31,ne_int_none->a30,ne_none_bool->a3Z,ne_none_int->a3Y,ne_none_none->a3X,ne_none_str->a3W,ne_str_none->a3V
open PySem.F renaming args_dict_get_2->a1H,args_dict_itemiterator_next_1->a1G,args_list_lt_2->a1F,args_tuple_add_2->Fj,args_tuple_iterator_next_1->a1E,called_set->n_,entry_all_loop->a1D,entry_any_loop->a1C,entry_dict_get->a1B,entry_dict_itemiterator_next->a1A,entry_list_lt->a1z,entry_tuple_add->Fi,entry_tuple_iterator_next->a1y,plainAttrs_dict->a1x,plainAttrs_list->a1w,plain_all_loop->zf,plain_any_loop->ze,plain_list_iadd->a1v,slot_dict_get->Fh,slot_dict_getitem->a1u,slot_dict_itemiterator_iter->a1t,slot_dict_itemiterator_next->ra,slot_dict_items->a1s,slot_dict_items_iter->a1r,slot_int_rmul->a1q,slot_list_append->a1p,slot_list_extend->a1o,slot_list_index->a1n,slot_list_lt->Fg,slot_list_pop->a1m,slot_tuple_add->Ff,slot_tuple_eq->a1l,slot_tuple_iterator_next->zd
open PySem.Heap renaming ExtBut->a1k,SameBut->nz,get?_push_of_some->di,get?_push_size->f_,get?_update_other->Fe,get?_update_self->ur,lt_size->b_,size_push->qz,size_update->qy
open PySem.Heap.DictOf renaming new->a3U
open PySem.Heap.IsSliceOf renaming new->a3T
open PySem.Heap.SameBut renaming refl->a3S,update->q_
open PySem.IsL renaming update->a3R
open PySem.Manifest renaming find?->a3Q
open PySem.MeetsSeq renaming list_pop_at->a3O
open PySem.MeetsSeq.EqGives renaming int->a3P
open PySem.MeetsSeq3 renaming entry_eq_loop->a1h,plain_eq_loop->zb
open PySem.NameKind renaming cell->kl,free->jv
open PySem.Obj renaming data_mapFields->a1g,isFreed_of_fields->a1f,mapFields->a1e,mapSeq->ju,putSet->za
open PySem.Paired renaming length->qw,snoc->y_
open PySem.PassesOwn renaming never->gn
open PySem.Pv renaming boot_set->a3N
open PySem.SeqAt renaming EqAt->lj,in_listAt->a09,in_tupleAt->a08,notIn_listAt->a07,notIn_tupleAt->a06
open PySem.SeqAt.EqAt renaming bool_bool->a3M,bool_int->a3L,bool_none->a3K,bool_str->a3J,int_bool->a3I,int_int->a1d,int_none->a3H,int_str->a1c,int_tuple->a3G,none_bool->a3F,none_int->a3E,none_str->a3D,of_refs->Fc,same->qu,str_bool->a3C,str_int->a1b,str_none->a3B,str_str->Fb,str_tuple->a3A,tuple_int->a3z,tuple_str->a3y
open PySem.SeqAt.RcAt renaming lists->a3x,lists_lengths->a3w,tuples->a1a
open PySem.SeqRoads2.EqGives renaming str->a3v
open PySem.SetTable renaming Probe->a3u,advance->a3t,below->gm,fill->a3s,fits->a3r,freeSlot->a3q,fresh->a3p,grown->qt,has->yy,insertAt->yx,laid->a3o,layClean->a3n,orStandIn->a3m,probe->a3l,put->a3k,relaid->a3j,sizeAbove->a3i,slot->a05,standIn->a3h
open PySem.SetTable.below renaming go->yz
open PySem.SetTable.probe renaming go->E_
open PySem.Str renaming ofString->yw
open PySem.Value renaming bool->pf,float->a04,int->jt,isInt->a03,isStrOf->a02,none->lh,ref->c_,str->yu,type->ny
open PySem.W renaming Frag->aq,KasT->pd,OpenLaw->qr,WalkO->Ez,cellsFrom_some->a0W,findIn->a0V,kas_asc->iq,kas_ask->um,kas_bin->yt,kas_count->yr,kas_desc->o_,kas_descPart->yq,kas_place->jj,kas_rev->ij,kas_sort->qq,kas_tail3->Ey,kat_cons->Ex,kat_yes->Ew,kia_one->ji,kitx_dict->a0U,kitx_list->Eu,kitx_tuple->a0T,nsIn->a0S,plainGet->a0R,tabIn->Et
open PySem.W.KasFin renaming intro->a01
open PySem.W.KasT renaming ret->nu
open PySem.W.KatTups renaming cons->a00
open PySem.W.UpdF renaming head->a0Z
open PySem.W.WData renaming int->a0Y
open PySem.W.WShape renaming has->a0X
open PySem.Walks renaming list->a0Q
open Sum renaming inl->cz,inr->jg
open Sum.inl renaming inj->ym,injEq->a0a
open Sum.inr renaming inj->Ea
open True renaming intro->js
open PySem
set_option genSizeOf false
set_option compiler.extract_closed false
set_option bootstrap.genMatcherCode false
noncomputable section
local macro_rules|`(tactic|walk_at "0")=>`(tactic|first|exact .inl rfl|exact .inr rfl)
local macro_rules|`(tactic|walk_at "1")=>`(tactic|first|exact fg rfl|exact cm (fg rfl)|exact cm (cm rfl))
local macro_rules|`(tactic|walk_at "2")=>`(tactic|first|exact .inr rfl|exact .inl rfl)
abbrev Q0a:=List (List Int)
abbrev Q0b:=List (ai×aw)
abbrev Q0c:=aj->ao->Prop
abbrev Q0d:=ak->Option aj
abbrev Q0e:=List Int
abbrev Q0f:=List aj
abbrev Q0g:=List ak
abbrev Z_.{u}:=@if_pos.{u}
abbrev Zz.{u}:=@if_neg.{u}
abbrev Zy:=@decide_eq_false
abbrev Zx:=@decide_eq_true
abbrev Zw.{u}:=@absurd.{u}

namespace L3
inductive D where
 |non
 |bl (b:Bool)
 |int (i:Int)
 |str (x:ak)
 |tup (xs:List D)
 |lst (xs:List D)
 |rY (ns:Q0e)
 |jA (ks:List (Sum Int ak)) (xs:List D)
 |c7 (q:Nat->aw->Prop) (ks:List (Sum (Sum Int ak) (List (Sum (Sum Int ak) (List (Sum Int ak)))))) (xs:List D)
 |exc (c:ak) (a:Nat)
 |rws (xs:Q0a)
mutual
noncomputable def D.EL:D->Bool
 |.non=>ae
 |.bl _=>ae
 |.int _=>ae
 |.str _=>ae
 |.tup ds=>zJ ds
 |.lst _=>ag
 |.rY _=>ae
 |.jA _ _=>ag
 |.c7 _ _ _=>ag
 |.exc _ _=>ae
 |.rws _=>ag
noncomputable def zJ:List D->Bool
 |[]=>ae
 |d::ds=>d.EL&&zJ ds
end
abbrev cN:=List (Option D)
inductive Sv where
 |no
 |ro (d:D)
 |ow (d:D)
abbrev bO:=List Sv
noncomputable def Sv.all:Sv->Option D
 |.no=>af
 |.ro d=>aa d
 |.ow d=>aa d
noncomputable def Sv.rd:Sv->Option D
 |.ro d=>aa d
 |_=>af
def bY(ρ:bO):cN:=ρ.map Sv.all
def jR(ρ:bO):cN:=ρ.map Sv.rd
end L3
namespace L4
open L3
inductive M (α:Type) where
 |no
 |ex (c:ak)
 |ok (a:α)
inductive Out where
 |no
 |nx (ρ:bO)
 |rt (d:D)
 |ex (c:ak)
abbrev EF:=cN->Option D
abbrev TF:=cN->Option Bool
abbrev AF:=cN->Option (List D)
abbrev XF:=bO->Option (bO×D)
abbrev SF:=bO->Out
abbrev iH:=List D->M D
def oH:Nat:=16777216
def aB(i:Nat):EF:=λρ=>(ρ[i]?).join
def eC(d:D):EF:=λ_=>aa d
def aE(g:D->D->Option D)(a b:EF):EF:=λρ=>(a ρ).bind λx=>(b ρ).bind λy=>g x y
noncomputable def l9:D->Option Bool
 |.bl b=>aa b
 |.lst ds=>aa (!ds.isEmpty)
 |.tup ds=>aa (!ds.isEmpty)
 |_=>af
def tV(f:EF):TF:=λρ=>(f ρ).bind l9
def lU(t:TF):TF:=λρ=>(t ρ).map (!·)
def lV(t u:TF):TF:=λρ=>(t ρ).bind λb=>if b=ae then u ρ else aa ag
def z8(t u:TF):TF:=λρ=>(t ρ).bind λb=>if b=ae then aa ae else u ρ
noncomputable def tZ:D->Option Bool
 |.bl b=>aa b
 |_=>af
def pX(a b:EF):EF:=λρ=>(a ρ).bind λx=>(tZ x).bind λc=>if c=ae then b ρ else aa (.bl ag)
def wt(a b:EF):EF:=λρ=>(a ρ).bind λx=>(tZ x).bind λc=>if c=ae then aa (.bl ae) else b ρ
def vS(a:EF):EF:=λρ=>(a ρ).bind λx=>(tZ x).map λc=>.bl (!c)
def KR(t:TF)(a b:EF):EF:=λρ=>(t ρ).bind λc=>if c=ae then a ρ else b ρ
noncomputable def YH:D->Option D
 |.int i=>aa (.int (-i))
 |_=>af
def Q7(a:EF):EF:=λρ=>(a ρ).bind YH
def HI(f g:D->D->Option D)(a b c:EF):EF:=λρ=>(a ρ).bind λx=>(b ρ).bind λy=>(f x y).bind λz=>(tZ z).bind λk=>if k=ae then(c ρ).bind λw=>g y w else aa (.bl ag)
noncomputable def HJ(g:Int->Int->D):D->D->Option D
 |.int i,.int j=>aa (g i j)
 |_,_=>af
noncomputable def oI(c:Int->Int->Bool)(g:Int->Int->D):D->D->Option D
 |.int i,.int j=>if c i j=ae then aa (g i j) else af
 |_,_=>af
noncomputable def dG:D->D->Option D
 |.int i,.int j=>aa (.int (i+j))
 |.lst a,.lst b=>if a.length+b.length<=oH then aa (.lst (a++b)) else af
 |.tup a,.tup b=>if a.length+b.length<=oH then aa (.tup (a++b)) else af
 |.str a,.str b=>if a.length+b.length<=oH then aa (.str (a++b)) else af
 |_,_=>af
def gH:D->D->Option D:=HJ λi j=>.int (i-j)
def vU(i j:Int):Bool:=Zv (i.natAbs<18446744073709551616)||Zv (j.natAbs<18446744073709551616)||Zv (i.natAbs.log2+j.natAbs.log2<=134217700)
def mulM:D->D->Option D:=oI vU λi j=>.int (i*j)
def lW:D->D->Option D:=oI (λ_ j=>Zv (0<j)) λi j=>.int (i%j)
def vV:D->D->Option D:=oI (λ_ j=>Zv (0<j)&&Zv (j.natAbs<1073741824)) λi j=>.int (i/j)
def vW:D->D->Option D:=oI (λi j=>Zv (0<=j)&&Zv (j.natAbs<=1000000)&&Zv (i.natAbs<18446744073709551616)) λi j=>.int (i^j.toNat)
def YI:D->D->Option D:=HJ λi j=>.bl (Zv (i<j))
def leM:D->D->Option D:=HJ λi j=>.bl (Zv (i<=j))
def KS:D->D->Option D:=HJ λi j=>.bl (Zv (j<i))
def geM:D->D->Option D:=HJ λi j=>.bl (Zv (j<=i))
noncomputable def Dv:D->D->Option Bool
 |.int i,.int j=>aa (Zv (i=j))
 |.bl i,.bl j=>aa (Zv (i=j))
 |.str i,.str j=>aa (Zv (i=j))
 |.non,.non=>aa ae
 |_,_=>af
def u5:D->D->Option D:=λx y=>(Dv x y).map .bl
def NH:D->D->Option D:=λx y=>(Dv x y).map λb=>.bl (!b)
noncomputable def pZ:D->Bool
 |.non=>ae
 |_=>ag
def X8:D->D->Option D:=λx y=>if pZ y=ae then aa (.bl (pZ x)) else af
noncomputable def intsOf:List D->Option (List Int)
 |[]=>aa []
 |.int i::ds=>(intsOf ds).map (i :: ·)
 |_::_=>af
def mB(neg:Bool):D->D->Option D
 |.int i,.tup ds=>(intsOf ds).map λns=>.bl (if neg then !ns.contains i else ns.contains i)
 |.int i,.lst ds=>(intsOf ds).map λns=>.bl (if neg then !ns.contains i else ns.contains i)
 |_,_=>af
def Q8(n:Nat)(i:Int):Option Nat:=if 0<=i then(if i<n then aa i.toNat else af) else if -(n:Int)<=i then aa (i+n).toNat else af
def z9{α:Type}(xs:List α)(i:Int):Option α:=(Q8 xs.length i).bind λj=>xs[j]?
noncomputable def dC:D->D->Option D
 |.lst a,.int i=>z9 a i
 |.tup a,.int i=>z9 a i
 |.rY a,.int i=>(z9 a i).map D.int
 |_,_=>af
noncomputable def vX:D->Option (Sum Int ak)
 |.int i=>aa (.inl i)
 |.str x=>aa (.inr x)
 |_=>af
def jF(ks:List (Sum Int ak))(ds:List D)(k:Sum Int ak):Option D:=((ks.zip ds).find? λkv=>Zv (kv.1=k)).map (·.2)
def vY:D->D->Option D
 |.jA ks ds,d=>(vX d).bind λk=>jF ks ds k
 |_,_=>af
def aF:AF:=λ_=>aa []
def aA(a:EF)(t:AF):AF:=λρ=>(a ρ).bind λd=>(t ρ).bind λds=>aa (d::ds)
def dP(t:AF):EF:=λρ=>(t ρ).bind λds=>if ds.length<=oH then aa (.tup ds) else af
def fQ(t:AF):EF:=λρ=>(t ρ).bind λds=>if ds.length<=oH then aa (.lst ds) else af
def bX(g:List D->Option D)(t:AF):EF:=λρ=>(t ρ).bind g
noncomputable def EO:M D->Option D
 |.ok d=>aa d
 |_=>af
def aI(R:iH)(t:AF):EF:=λρ=>(t ρ).bind λds=>EO (R ds)
noncomputable def cM:List D->Option D
 |[.lst a]=>aa (.int a.length)
 |[.tup a]=>aa (.int a.length)
 |[.rY a]=>aa (.int a.length)
 |_=>af
noncomputable def cQ:List D->Option D
 |[.lst a]=>aa (.tup a)
 |[.tup a]=>aa (.tup a)
 |_=>af
noncomputable def Du:List D->Option D
 |[.lst a]=>aa (.lst a)
 |[.tup a]=>aa (.lst a)
 |_=>af
noncomputable def insI(a:Int):List Int->List Int
 |[]=>[a]
 |b::l=>if a<=b then a::b::l else b::insI a l
def sortI:List Int->List Int
 |[]=>[]
 |a::l=>insI a (sortI l)
def eQ:List D->Option D
 |[.lst a]=>(intsOf a).bind λns=>if ns.length<64 then aa (.lst ((sortI ns).map D.int)) else af
 |_=>af
def NI:List D->Option D
 |[.lst a]=>(intsOf a).map λns=>.int ns.sum
 |_=>af
def oU:List D->Option (List Bool)
 |[]=>aa []
 |d::ds=>(l9 d).bind λb=>(oU ds).map (b :: ·)
def allM:List D->Option D
 |[.lst a]=>(oU a).map λbs=>.bl (bs.all id)
 |_=>af
def anyM:List D->Option D
 |[.lst a]=>(oU a).map λbs=>.bl (bs.any id)
 |_=>af
noncomputable def tyM:D->String
 |.non => "NoneType"
 |.bl _ => "bool"
 |.int _ => "int"
 |.str _ => "str"
 |.tup _ => "tuple"
 |.lst _ => "list"
 |.rY _ => "list"
 |.jA _ _ => "dict"
 |.c7 _ _ _ => "dict"
 |.exc _ _ => "NoneType"
 |.rws _ => "NoneType"
def HK(T:String)(d:D):Bool:=tyM d == T||(T == "int"&&tyM d == "bool")
noncomputable def HL:D->Bool
 |.exc _ _=>ag
 |.c7 _ _ _=>ag
 |.rws _=>ag
 |_=>ae
def jB(T:String)(a:EF):EF:=λρ=>(a ρ).bind λd=>if HL d=ae then aa (.bl (HK T d)) else af
def bI(lo:Int)(n:Nat):List Int:=(bu n).map λk:Nat=>lo+(k:Int)
def Rl(hi:Int)(n:Nat):List Int:=(bu n).map λk:Nat=>hi-(k:Int)
noncomputable def HM(t:AF):EF:=λρ=>(t ρ).bind λds=>match ds with
 |[.int j]=>if j.natAbs<=16777216 then aa (.lst ((bI 0 j.toNat).map D.int)) else af
 |_=>af
noncomputable def p4:List D->Option D
 |[.int i,.int j]=>aa (.int (if j>i then j else i))
 |_=>af
noncomputable def ER:List D->Option D
 |[.int i,.int j]=>aa (.int (if j<i then j else i))
 |_=>af
def ES:D->D->Option D:=λx y=>if pZ y=ae then aa (.bl (!pZ x)) else af
noncomputable def repLM:D->D->Option D
 |.lst a,.int n=>if a.length*n.toNat<=oH/\n.natAbs<9223372036854775808 then aa (.lst (dh n.toNat a).flatten) else af
 |_,_=>af
noncomputable def NJ:D->D->Option D
 |.lst a,.lst b=>if a.length+b.length<=oH then aa (.lst (a++b)) else af
 |_,_=>af
noncomputable def ET:D->Option (List D)
 |.lst ds=>aa ds
 |.tup ds=>aa ds
 |_=>af
def bE(f:EF):AF:=λρ=>(f ρ).bind ET
noncomputable def HN:List D->Option (List D)
 |[.int j]=>if j.natAbs<4611686018427387904 then aa ((bI 0 j.toNat).map D.int) else af
 |[.int i,.int j]=>if i.natAbs<4611686018427387904/\j.natAbs<4611686018427387904 then aa ((bI i (j-i).toNat).map D.int) else af
 |[.int i,.int j,.int k]=>if k=-1/\i.natAbs<1000000/\j.natAbs<1000000 then aa ((Rl i (i-j).toNat).map D.int) else af
 |_=>af
def bA(t:AF):AF:=λρ=>(t ρ).bind HN
noncomputable def AA:List D->Option (List D)
 |[.lst ds]=>aa (ds.zipIdx.map λp=>.tup [.int (p.2:Int),p.1])
 |[.tup ds]=>aa (ds.zipIdx.map λp=>.tup [.int (p.2:Int),p.1])
 |_=>af
def jG(t:AF):AF:=λρ=>(t ρ).bind AA
def Rk:List D->Option (List D)
 |[a,b]=>(ET a).bind λxs=>(ET b).map λys=>(xs.zip ys).map λp=>.tup [p.1,p.2]
 |_=>af
def yl(t:AF):AF:=λρ=>(t ρ).bind Rk
noncomputable def yj:List D->Option (List D)
 |[.lst ds]=>aa ds.reverse
 |[.tup ds]=>aa ds.reverse
 |_=>af
def yi(t:AF):AF:=λρ=>(t ρ).bind yj
abbrev YJ:=D->cN->Option cN
def g1(i:Nat):YJ:=λd ρ=>aa (ρ.set i (aa d))
noncomputable def AB:D->Option (D×D)
 |.tup [x,y]=>aa (x,y)
 |_=>af
def g2(i j:Nat):YJ:=λd ρ=>(AB d).map λp=>(ρ.set i (aa p.1)).set j (aa p.2)
def bP:TF:=λ_=>aa ae
def benv(nl:Nat)(fr:List Nat)(ρ:cN):cN:=dh nl af++fr.map λj=>(ρ[j]?).join
noncomputable def gY(g:YJ)(t:TF)(e:EF)(ρ:cN):List D->Option (List D)
 |[]=>aa []
 |d::ds=>(g d ρ).bind λρ1=>(t ρ1).bind λb=>if b=ae then(e ρ1).bind λy=>(gY g t e ρ ds).map (y :: ·) else gY g t e ρ ds
def a9(nl:Nat)(fr:List Nat)(it:AF)(g:YJ)(t:TF)(e:EF):EF:=λρ=>(it ρ).bind λds=>if ds.length<=oH then(gY g t e (benv nl fr ρ) ds).map D.lst else af
abbrev OF:=cN->Option (Option Int)
def Q9:OF:=λ_=>aa af
noncomputable def asInt:D->Option Int
 |.int i=>aa i
 |_=>af
def oE(f:EF):OF:=λρ=>(f ρ).bind λd=>(asInt d).map aa
noncomputable def NK(n d:Nat):Option Int->Nat
 |none=>d
 |some i=>if i<0 then(i+n).toNat else min i.toNat n
def EU(xs:List D)(lo hi:Option Int):List D:=(xs.drop (NK xs.length 0 lo)).take (NK xs.length xs.length hi-NK xs.length 0 lo)
def slM(d:D)(lo hi:Option Int):Option D:=match d with
 |.lst ds=>aa (.lst (EU ds lo hi))
 |.tup ds=>aa (.tup (EU ds lo hi))
 |_=>af
def QY(f:EF)(lo hi:OF):EF:=λρ=>(f ρ).bind λd=>(lo ρ).bind λl=>(hi ρ).bind λh=>slM d l h
def RA(f:EF):XF:=λρ=>(f (bY ρ)).bind λd=>if d.EL=ae then aa (ρ,d) else af
def bK(f:EF):XF:=λρ=>(f (jR ρ)).bind λd=>aa (ρ,d)
noncomputable def oV:Option Sv->Option (List D)
 |some (.ow (.lst ds))=>aa ds
 |_=>af
def oX(i:Nat)(m:List D->D->Option (List D×D))(x:XF):XF:=λρ=>(oV ρ[i]?).bind λ_=>(x ρ).bind λp=>(oV p.1[i]?).bind λds=>(m ds p.2).map λq=>(p.1.set i (.ow (.lst q.1)),q.2)
def iN:List D->D->Option (List D×D):=λds d=>if ds.length<oH then aa (ds++[d],.non) else af
noncomputable def YK:List D->D->Option (List D×D)
 |ds,.int k=>if k.natAbs<9223372036854775808 then(Q8 ds.length k).bind λj=>(ds[j]?).map λd=>(ds.eraseIdx j,d) else af
 |_,_=>af
noncomputable def NL:List D->D->Option (List D×D)
 |ds,.lst es=>if ds.length+es.length<=oH then aa (ds++es,.non) else af
 |_,_=>af
def dQ:SF:=λρ=>.nx ρ
noncomputable def aK(f g:SF):SF:=λρ=>match f ρ with
 |.nx ρ'=>g ρ'
 |o=>o
def bF(f:EF):SF:=λρ=>match f (bY ρ) with
 |some d=>.rt d
 |none=>.no
def gI(t:TF)(a b:SF):SF:=λρ=>match t (bY ρ) with
 |some ae=>a ρ
 |some ag=>b ρ
 |none=>.no
def bD(i:Nat)(f:EF):SF:=λρ=>match f (jR ρ) with
 |some d=>.nx (ρ.set i (.ro d))
 |none=>.no
noncomputable def RB(i:Nat)(x:XF):SF:=λρ=>match x ρ with
 |some p=>.nx (p.1.set i (.ro p.2))
 |none=>.no
def lX(i:Nat)(f:EF):SF:=λρ=>match f (jR ρ) with
 |some d=>.nx (ρ.set i (.ow d))
 |none=>.no
def oY:D->Bool
 |.lst ds=>zJ ds
 |_=>ag
def RC(i:Nat)(f:EF):SF:=λρ=>match f (bY ρ) with
 |some d=>if oY d=ae then .nx (ρ.set i (.ow d)) else .no
 |none=>.no
def lP(i:Nat)(f:EF):SF:=λρ=>match f (bY ρ) with
 |some d=>if oY d=ae then .nx (ρ.set i (.ro d)) else .no
 |none=>.no
def EV(i:Nat):SF:=λρ=>.nx (ρ.set i (.ow (.jA [] [])))
noncomputable def sX(x:XF):SF:=λρ=>match x ρ with
 |some p=>.nx p.1
 |none=>.no
def NM(i:Nat)(x:XF)(k:EF):SF:=λρ=>match ((x ρ).bind λp=>(oV p.1[i]?).bind λds=>(k (bY p.1)).bind λkd=>(asInt kd).bind λkk=>(Q8 ds.length kk).map λj=>p.1.set i (.ow (.lst (ds.set j p.2)))) with
 |some ρ'=>.nx ρ'
 |none=>.no
noncomputable def vZ:Option Sv->Option (List (Sum Int ak)×List D)
 |some (.ow (.jA ks ds))=>aa (ks,ds)
 |_=>af
def KU(i:Nat)(x:XF)(k:EF):SF:=λρ=>match ((x ρ).bind λp=>(vZ p.1[i]?).bind λkd=>(k (bY p.1)).bind λkv=>(vX kv).bind λkk =>
  if(jF kd.1 kd.2 kk).isNone=ae/\kd.2.length<oH then aa (p.1.set i (.ow (.jA (kd.1++[kk]) (kd.2++[p.2])))) else af) with
 |some ρ'=>.nx ρ'
 |none=>.no
abbrev GSF:=D->bO->Option bO
def mC(i:Nat):GSF:=λd ρ=>aa (ρ.set i (.ro d))
def NN(i j:Nat):GSF:=λd ρ=>(AB d).map λp=>(ρ.set i (.ro p.1)).set j (.ro p.2)
noncomputable def eR(g:GSF)(b:SF):List D->bO->Out
 |[],ρ=>.nx ρ
 |d::ds,ρ=>match g d ρ with
  |none=>.no
  |some ρ1=>match b ρ1 with
   |.nx ρ2=>eR g b ds ρ2
   |o=>o
def dY(it:AF)(g:GSF)(b:SF):SF:=λρ=>match it (jR ρ) with
 |some ds=>eR g b ds ρ
 |none=>.no
def eB(t:TF)(b:SF):Nat->bO->Out
 |0,_=>.no
 |n+1,ρ=>match t (bY ρ) with
  |none=>.no
  |some ag=>.nx ρ
  |some ae=>match b ρ with
   |.nx ρ'=>eB t b n ρ'
   |o=>o
def HP:Nat:=1000000
def RD(n:Nat)(t:TF)(b:SF):SF:=eB t b n
def dZ(n:Nat)(ds:List D):bO:=ds.map Sv.ro++dh (n-ds.length) Sv.no
noncomputable def c8(n np:Nat)(b:SF):iH:=λds=>if ds.length=np then(match b (dZ n ds) with
 |.rt d=>.ok d
 |.nx _=>.ok .non
 |.ex c=>.ex c
 |.no=>.no) else .no
noncomputable def g7:List Int->List Int->Bool
 |[],[]=>ag
 |[],_::_=>ae
 |_::_,[]=>ag
 |a::as,b::bs=>if a=b then g7 as bs else Zv (a<b)
def NO(t:Q0e):List (List Int)->List (List Int)
 |[]=>[t]
 |u::us=>if g7 u t=ae then u::NO t us else t::u::us
def t6:List (List Int)->List (List Int)
 |[]=>[]
 |t::ts=>NO t (t6 ts)
def p5(t:Q0e):D:=.tup (t.map D.int)
def Dt:D->Option (List Int)
 |.tup ds=>intsOf ds
 |_=>af
def oZ:List D->Option (List (List Int))
 |[]=>aa []
 |d::ds=>(Dt d).bind λt=>(oZ ds).map (t :: ·)
def kU:List D->Option D
 |[.lst a]=>(oZ a).bind λts=>if ts.length<64/\ts.all (λt=>!t.isEmpty)=ae then aa (.lst ((t6 ts).map p5)) else af
 |_=>af
theorem HQ:∀a b:Q0e,g7 a b=ae->g7 b a=ag
 |[],[],h=>by cases h
 |[],_::_,_=>rfl
 |_::_,[],h=>by cases h
 |a::as,b::bs,h=>by
  unfold g7 at h ⊢;by_cases e:a=b
  .rw [Z_ e] at h;rw[Z_ e.symm];exact HQ as bs h
  .rw [Zz e] at h;rw[Zz (dj e)];simp at h ⊢;omega
theorem HR:∀a b c:Q0e,g7 b a=ag->g7 c b=ag->g7 c a=ag
 |[],[],c,h1,h2=>h2
 |[],b::bs,[],h1,h2=>rfl
 |[],b::bs,c::cs,h1,h2=>rfl
 |a::as,[],c,h1,h2=>by cases h1
 |a::as,b::bs,[],h1,h2=>by cases h2
 |a::as,b::bs,c::cs,h1,h2=>by
  unfold g7 at h1 h2 ⊢;by_cases e1:b=a
  .subst e1;rw[Z_ rfl] at h1;by_cases e2:c=b
   .subst e2;rw[Z_ rfl] at h2 ⊢;exact HR as bs cs h1 h2
   .rw [Zz e2] at h2 ⊢;exact h2
  .rw [Zz e1] at h1;by_cases e2:c=b
   .subst e2;rw[Zz e1];exact h1
   .rw [Zz e2] at h2;simp at h1 h2;rw[Zz (by omega)];simp;omega
theorem RE:∀a b:Q0e,g7 a b=ag->g7 b a=ag->a=b
 |[],[],_,_=>rfl
 |[],_::_,h1,_=>by cases h1
 |_::_,[],_,h2=>by cases h2
 |a::as,b::bs,h1,h2=>by
  unfold g7 at h1 h2;by_cases e:a=b
  .subst e;rw[Z_ rfl] at h1 h2;rw[RE as bs h1 h2]
  .rw [Zz e] at h1;rw[Zz (dj e)] at h2;simp at h1 h2;omega
theorem rZ(t:Q0e):∀l,(NO t l).Perm (t::l)
 |[]=>.refl _
 |u::us=>by
  unfold NO;by_cases h:g7 u t=ae
  .rw [Z_ h];exact((rZ t us).cons u).trans (.swap t u us)
  .rw [Zz h]
theorem kW:∀l,(t6 l).Perm l
 |[]=>.refl _
 |t::ts=>(rZ t _).trans ((kW ts).cons t)
def UpT(l:Q0a):Prop:=l.Pairwise λa b=>g7 b a=ag
theorem KW(t:Q0e):∀l,UpT l->UpT (NO t l)
 |[],_=>Gs _ _
 |u::us,h=>by
  have⟨h1,h2⟩:=ft.mp h;unfold NO;by_cases e:g7 u t=ae
  .rw [Z_ e];refine ft.mpr ⟨λx hx=>?_,KW t us h2⟩;rcases cb.mp ((rZ t us).mem_iff.mp hx) with rfl|hx
   .exact HQ _ _ e
   .exact h1 x hx
  .rw [Zz e];have e:g7 u t=ag:=by simpa using e
   refine ft.mpr ⟨λx hx=>?_,h⟩;rcases(cb.mp hx:x=u\/x∈us) with rfl|hx
   .exact e
   .exact HR t u x e (h1 x hx)
theorem EW:∀l,UpT (t6 l)
 |[]=>.nil
 |t::ts=>KW t _ (EW ts)
theorem KY:∀{l m:Q0a},l.Perm m->UpT l->UpT m->l=m
 |[],m,p,_,_=>by rw[a2x.mp p]
 |a::l,[],p,_,_=>by have:=p.length_eq;simp at this
 |a::l,b::m,p,h1,h2=>by
  obtain⟨a1,a2⟩:=ft.mp h1;obtain⟨b1,b2⟩:=ft.mp h2;have e:a=b:=by
   have ha:=cb.mp (p.mem_iff.mp cn);have hb:=cb.mp (p.mem_iff.mpr cn);rcases ha with h|h
   .exact h
   .rcases hb with h' | h'
    .exact h'.symm
    .exact RE _ _ (b1 a h) (a1 b h')
  subst e;rw[KY p.cons_inv a2 b2]
noncomputable def B2(f:D->D->Option Bool):List D->List D->Option Bool
 |d::ds,e::es=>(f d e).bind λx=>(B2 f ds es).map (x && ·)
 |_,_=>aa ae
def eqP:Nat->D->D->Option Bool
 |_,.int i,.int j=>aa (Zv (i=j))
 |_,.bl i,.bl j=>if i=j then aa ae else af
 |_,.str i,.str j=>if i=j then aa ae else af
 |n+1,.tup a,.tup b=>(B2 (eqP n) a b).map λr=>r&&Zv (a.length=b.length)
 |_,_,_=>af
def sA:D->List D->Option Bool
 |_,[]=>aa ag
 |x,d::ds=>(eqP 8 d x).bind λb=>(sA x ds).map (b || ·)
def uO(neg:Bool):D->D->Option D
 |x,.lst ds=>(sA x ds).map λb=>.bl (if neg then !b else b)
 |x,.tup ds=>(sA x ds).map λb=>.bl (if neg then !b else b)
 |_,_=>af
theorem jX:∀{a b:List D} {r:Bool},B2 f a b=aa r ->∃e:Nat->Bool,(∀(j:Nat) (x y:D),a[j]?=aa x->b[j]?=aa y->f x y=aa (e j))/\r=(bu (min a.length b.length)).all e
 |[],b,r,h=>by cases h;exact⟨λ_=>ae,λj x y h1=>by simp at h1,by simp⟩
 |d::ds,[],r,h=>by cases h;exact⟨λ_=>ae,λj x y _ h2=>by simp at h2,by simp⟩
 |d::ds,c::cs,r,h=>by
  unfold B2 at h
  cases q:f d c with
  |none=>rw[q] at h;cases h
  |some x =>
   rw[q] at h
   cases q2:B2 f ds cs with
   |none=>simp[q2] at h
   |some y =>
    simp[q2] at h;obtain⟨e,h1,h2⟩:=jX q2;refine⟨λj=>match j with|0=>x|j+1=>e j,λj u v e1 e2=>?_,?_⟩
    .cases j with
     |zero=>cases e1;cases e2;exact q
     |succ j=>exact h1 j u v (by simpa using e1) (by simpa using e2)
    .rw [<- h,h2,de,de,show min (ds.length+1) (cs.length+1)=min ds.length cs.length+1 by omega,ve,mj,sh];rfl
noncomputable def Rj(ρ:bO)(i:Nat):bO:=match ρ[i]? with
 |some (.ow d)=>ρ.set i (.ro d)
 |_=>ρ
def yh(i:Nat)(f:SF):SF:=λρ=>f (Rj ρ i)
def putN(ns:Q0e)(k:Int):List Int:=if k∈ns then ns else ns++[k]
def RF(ns:Q0e):List Int:=ns.foldl putN []
def mD:List D->Option D
 |[.tup ds]=>(intsOf ds).bind λns=>if ns.length<64 then aa (.lst ((sortI ns).map D.int)) else af
 |_=>af
abbrev p6:Nat->aw->Prop:=λ_ _=>True
def adr(q:Nat->aw->Prop):Nat->aw->Prop:=λa _=>∃o,q a o
abbrev zK:=Sum Int ak
abbrev PN1:=List (Sum zK (List zK))
abbrev u6:=Sum zK PN1
def AD:List D->Option (List zK)
 |[]=>aa []
 |d::ds=>(vX d).bind λk=>(AD ds).map (k :: ·)
def RG:D->Option (Sum zK (List zK))
 |.tup ds=>(AD ds).map .inr
 |d=>(vX d).map .inl
def wB:List D->Option PN1
 |[]=>aa []
 |d::ds=>(RG d).bind λk=>(wB ds).map (k :: ·)
def lY:D->Option u6
 |.tup ds=>(wB ds).map .inr
 |d=>(vX d).map .inl
noncomputable def dK:zK->D
 |.inl i=>.int i
 |.inr x=>.str x
def RH:Sum zK (List zK)->D
 |.inl k=>dK k
 |.inr ks=>.tup (ks.map dK)
def nj:u6->D
 |.inl k=>dK k
 |.inr ks=>.tup (ks.map RH)
def bU(ks:List u6)(ds:List D)(k:u6):Option D:=((ks.zip ds).find? λp=>Zv (p.1=k)).map (·.2)
def kindB(ks:List u6)(k:u6):Bool:=ks.all λq=>q.isLeft == k.isLeft
def Cf:D->D->Option D
 |.c7 _ ks ds,d=>(lY d).bind λk=>if kindB ks k=ae then bU ks ds k else af
 |_,_=>af
def NP(neg:Bool):D->D->Option D
 |d,.c7 _ ks ds=>(lY d).bind λk=>if kindB ks k=ae then aa (.bl (if neg then !(bU ks ds k).isSome else(bU ks ds k).isSome)) else af
 |_,_=>af
def eD(ks:List u6)(ds:List D)(k:u6)(v:D):List u6×List D :=
 if ks.any (λq=>Zv (q=k))=ae then(ks,(ks.zip ds).map λp=>if p.1=k then v else p.2) else(ks++[k],ds++[v])
noncomputable def HS:Option Sv->Option ((Nat->aw->Prop)×List u6×List D)
 |some (.ow (.c7 q ks ds))=>aa (q,ks,ds)
 |_=>af
def RI(i:Nat):SF:=λρ=>.nx (ρ.set i (.ow (.c7 p6 [] [])))
def p7(i:Nat)(x:XF)(k:EF):SF:=λρ=>match ((x ρ).bind λp=>(HS p.1[i]?).bind λkd=>(k (bY p.1)).bind λkv=>(lY kv).bind λkk =>
  if kindB kd.2.1 kk=ae/\kd.2.2.length<oH then aa (p.1.set i (.ow (.c7 (adr kd.1) (eD kd.2.1 kd.2.2 kk p.2).1 (eD kd.2.1 kd.2.2 kk p.2).2))) else af) with
 |some ρ'=>.nx ρ'
 |none=>.no
noncomputable def Ds:List D->Option (List D)
 |[.lst xs,.lst ys]=>aa ((xs.zip ys).map λp=>.tup [p.1,p.2])
 |_=>af
def p8(t:AF):AF:=λρ=>(t ρ).bind Ds
abbrev KD:=List u6×List D
abbrev FnM:=List D->KD->M (D×KD)
def startM(n:Nat)(ds:List D)(q:Nat->aw->Prop)(kd:KD):bO:=ds.map Sv.ro++Sv.ow (.c7 q kd.1 kd.2)::dh (n-(ds.length+1)) Sv.no
def YL(j:Nat)(k:EF)(q:Nat->aw->Prop):bO->Option (D×KD):=λρ=>(HS ρ[j]?).bind λkd=>(k (jR ρ)).bind λkv=>(lY kv).bind λkk=>@ite _ (kindB kd.2.1 kk=ae /\∀a o,kd.1 a o ->∃o2,q a o2) (Hg _) ((bU kd.2.1 kd.2.2 kk).map λd=>(d,kd.2)) af
def wD(n np:Nat)(b:SF)(k:EF)(q:Nat->aw->Prop)(ds:List D)(kd:KD):Option (D×KD):=if ds.length+1=np then(match b (startM n ds q kd) with
 |.nx ρ=>YL (np-1) k q ρ
 |_=>af) else af
def runM(n np:Nat)(b:SF)(k:EF):FnM:=λds kd=>@dite _ (∃r,∀q,wD n np b k q ds kd=aa r) (Hg _) (λh=>.ok h.choose) λ_=>.no
def KZ(h:runM n np b k ds kd=.ok r)(q:Nat->aw->Prop):wD n np b k q ds kd=aa r:=by
 unfold runM at h;split at h
 .rename_i hx;cases h;exact hx.choose_spec q
 .cases h
theorem YM(h:∀q,wD n np b k q ds kd=aa r):runM n np b k ds kd=.ok r:=by have hx:∃r,∀q,wD n np b k q ds kd=aa r:=⟨r,h⟩;unfold runM;rw[dif_pos hx];have e:=hx.choose_spec p6;rw[h p6] at e;rw[dg e]
def stepM(R:FnM)(t:AF)(j:Nat)(ρ:bO):Option ((Nat->aw->Prop)×D×KD):=(t (jR ρ)).bind λds=>(HS ρ[j]?).bind λkd=>match R ds kd.2 with
 |.ok r=>aa (kd.1,r)
 |_=>af
def sC(i:Nat)(R:FnM)(t:AF)(j:Nat):SF:=λρ=>match stepM R t j ρ with
 |some r=>.nx ((ρ.set j (.ow (.c7 (adr r.1) r.2.2.1 r.2.2.2))).set i (.ro r.2.1))
 |none=>.no
def YN(R:FnM)(t:AF)(j:Nat):SF:=λρ=>match stepM R t j ρ with
 |some r=>.nx (ρ.set j (.ow (.c7 (adr r.1) r.2.2.1 r.2.2.2)))
 |none=>.no
noncomputable def aM3:List D->Option D
 |[.int i]=>if i.natAbs<1900 then aa (.str (yw (toString i))) else af
 |_=>af
noncomputable def aLh:List D->Option D
 |[.str x]=>if x.length<=oH then aa (.int x.length) else af
 |_=>af
noncomputable def oJ:List D->Option (List ak)
 |[]=>aa []
 |.str x::r=>(oJ r).map (x :: ·)
 |_::_=>af
def p9:List D->Option D
 |[.tup ds]=>(intsOf ds).bind λns=>if ns.length<64 then aa (.int ((RF ns).length:Nat)) else af
 |_=>af
def fU:D->D->Option D
 |.c7 _ ks ds,d=>(lY d).bind λk=>if kindB ks k=ae then aa ((bU ks ds k).getD .non) else af
 |_,_=>af
noncomputable def Ce:D->D->Option Bool
 |.non,.non=>aa ae
 |.str x,.str y=>aa (Zv (x=y))
 |.non,.str _=>aa ag
 |.str _,.non=>aa ag
 |_,_=>af
def wF:D->D->Option D:=λx y=>(Ce x y).map λb=>.bl (!b)
def K0:D->Option (List D)
 |.c7 _ ks ds=>aa ((ks.zip ds).map λp=>.tup [nj p.1,p.2])
 |_=>af
def qA(f:EF):AF:=λρ=>(f ρ).bind K0
structure TO {α:Type} (lt:α->α->Bool):Prop where
 as:∀x y,lt x y=ae->lt y x=ag
 tr:∀x y z,lt x y=ag->lt y z=ag->lt x z=ag
 one:∀x y,lt x y=ag->lt y x=ag->x=y
theorem TO.HF{α:Type}{lt:α->α->Bool}(O:TO lt)(x:α):lt x x=ag:=by
 cases h:lt x x with
 |false=>rfl
 |true=>rw[O.as x x h] at h;cases h
noncomputable def NQ{α:Type}(lt:α->α->Bool)(a:α):List α->List α
 |[]=>[a]
 |b::l=>if lt b a=ae then b::NQ lt a l else a::b::l
def jC{α:Type}(lt:α->α->Bool):List α->List α
 |[]=>[]
 |a::l=>NQ lt a (jC lt l)
section
variable{α:Type}{lt:α->α->Bool}
theorem sD(a:α):∀l:List α,(NQ lt a l).Perm (a::l)
 |[]=>.refl _
 |b::l=>by
  unfold NQ;split
  .exact ((sD a l).cons b).trans (.swap a b l)
  .exact .refl _
theorem gJ:∀l:List α,(jC lt l).Perm l
 |[]=>.refl _
 |a::l=>(sD a _).trans ((gJ l).cons a)
def UpB(lt:α->α->Bool)(l:List α):Prop:=l.Pairwise λa b=>lt b a=ag
theorem K1(O:TO lt)(a:α):∀l:List α,UpB lt l->UpB lt (NQ lt a l)
 |[],_=>Gs ..
 |b::l,h=>by
  obtain⟨h1,h2⟩:=ft.1 h;unfold NQ;split
  .rename_i c;refine ft.2 ⟨λx hx=>?_,K1 O a l h2⟩;rcases cb.1 ((sD a l).mem_iff.1 hx) with rfl|hx
   .exact O.as _ _ c
   .exact h1 x hx
  .rename_i c;have c:lt b a=ag:=by simpa using c
   refine ft.2 ⟨λx hx=>?_,h⟩;rcases cb.1 hx with rfl|hx
   .exact c
   .exact O.tr x b a (h1 x hx) c
theorem qB(O:TO lt):∀l:List α,UpB lt (jC lt l)
 |[]=>.nil
 |a::l=>K1 O a _ (qB O l)
theorem u7(O:TO lt):∀{l m:List α},l.Perm m->UpB lt l->UpB lt m->l=m
 |[],m,p,_,_=>(a2x.1 p).symm
 |a::l,[],p,_,_=>by cases (Gr.1 p)
 |a::l,b::m,p,h,k=>by
  obtain⟨h1,h2⟩:=ft.1 h;obtain⟨k1,k2⟩:=ft.1 k;have e:a=b:=by
   rcases cb.1 (p.mem_iff.1 (cn (a:=a) (l:=l))) with e|ha
   .exact e
   rcases cb.1 (p.mem_iff.2 (cn (a:=b) (l:=m))) with e|hb
   .exact e.symm
   exact O.one a b (k1 a ha) (h1 b hb)
  subst e;rw[u7 O (a4E p) h2 k2]
theorem vA(O:TO lt)(p:l.Perm m):jC lt l=jC lt m:=u7 O (((gJ l).trans p).trans (gJ m).symm) (qB O l) (qB O m)
noncomputable def sE[DecidableEq α](lt:α->α->Bool):List α->List α->Bool
 |[],[]=>ag
 |[],_::_=>ae
 |_::_,[]=>ag
 |a::l,b::m=>if a=b then sE lt l m else lt a b
theorem B3[DecidableEq α](O:TO lt):TO (sE lt) where
 as:=λx=>by
  induction x with
  |nil=>intro y h;cases y with
   |nil=>cases h
   |cons b m=>rfl
  |cons a l ih=>intro y h;cases y with
   |nil=>cases h
   |cons b m =>
    unfold sE at h ⊢;by_cases e:a=b
    .rw [Z_ e] at h;rw[Z_ e.symm];exact ih m h
    .rw [Zz e] at h;rw[Zz (dj e)];exact O.as a b h
 one:=λx=>by
  induction x with
  |nil=>intro y h k;cases y with
   |nil=>rfl
   |cons b m=>cases h
  |cons a l ih=>intro y h k;cases y with
   |nil=>cases k
   |cons b m =>
    unfold sE at h k;by_cases e:a=b
    .rw [Z_ e] at h;rw[Z_ e.symm] at k;rw[e,ih m h k]
    .rw [Zz e] at h;rw[Zz (dj e)] at k;exact Zw (O.one a b h k) e
 tr:=λx=>by
  induction x with
  |nil=>intro y z h k;cases y with
   |nil=>exact k
   |cons b m=>cases h
  |cons a l ih=>intro y z h k;cases y with
   |nil=>cases z with
    |nil=>rfl
    |cons c n=>cases k
   |cons b m=>cases z with
    |nil=>rfl
    |cons c n =>
     unfold sE at h k ⊢;by_cases e:a=b
     .subst e;rw[Z_ rfl] at h;by_cases f:a=c
      .rw [Z_ f] at k ⊢;exact ih m n h k
      .rw [Zz f] at k ⊢;exact k
     .rw [Zz e] at h;by_cases f:b=c
      .subst f;rw[Zz e];exact h
      .rw [Zz f] at k;by_cases g:a=c
       .subst g;exact Zw (O.one a b h k) e
       .rw [Zz g];exact O.tr a b c h k
def AE{β:Type}[DecidableEq α](lt:α->α->Bool)(lt2:β->β->Bool)(x y:α×β):Bool:=if x.1=y.1 then lt2 x.2 y.2 else lt x.1 y.1
theorem RJ{β:Type}[DecidableEq α]{lt2:β->β->Bool}(O:TO lt)(P:TO lt2):TO (AE lt lt2) where
 as:=λx y h=>by
  unfold AE at h ⊢;by_cases e:x.1=y.1
  .rw [Z_ e] at h;rw[Z_ e.symm];exact P.as _ _ h
  .rw [Zz e] at h;rw[Zz (dj e)];exact O.as _ _ h
 one:=λx y h k=>by
  unfold AE at h k;by_cases e:x.1=y.1
  .rw [Z_ e] at h;rw[Z_ e.symm] at k;exact km e (P.one _ _ h k)
  .rw [Zz e] at h;rw[Zz (dj e)] at k;exact Zw (O.one _ _ h k) e
 tr:=λx y z h k=>by
  unfold AE at h k ⊢;by_cases e:x.1=y.1
  .rw [Z_ e] at h;by_cases f:x.1=z.1
   .rw [Z_ f];rw[Z_ (e.symm.trans f)] at k;exact P.tr _ _ _ h k
   .rw [Zz f];rw[Zz (λg=>f (e.trans g))] at k;rw[e];exact k
  .rw [Zz e] at h;by_cases f:y.1=z.1
   .rw [Zz (λg=>e (g.trans f.symm)),<- f];exact h
   .rw [Zz f] at k;by_cases g:x.1=z.1
    .rw [<- g] at k;exact Zw (O.one _ _ h k) e
    .rw [Zz g];exact O.tr _ _ _ h k
end
def zE(a b:ak):Bool:=Zv (a.cps.toList<b.cps.toList)
def str_inj{a b:ak}(h:a.cps.toList=b.cps.toList):a=b:=by cases a;cases b;congr;exact Array.toList_inj.1 h
theorem kX:TO zE where
 as:=λx y h=>by unfold zE at *;rw[decide_eq_true_eq] at h;rw[decide_eq_false_iff_not];exact λk=>List.lt_irrefl _ (List.lt_trans h k)
 one:=λx y h k=>by unfold zE at *;rw[decide_eq_false_iff_not] at h k;exact str_inj (List.le_antisymm (vh.1 k) (vh.1 h))
 tr:=λx y z h k=>by unfold zE at *;rw[decide_eq_false_iff_not] at h k ⊢;exact vh.2 (List.le_trans (vh.1 k) (vh.1 h))
abbrev Lk:=List ak×List ak
def HG:Lk->Lk->Bool:=AE (sE zE) (sE zE)
theorem wH:TO HG:=RJ (B3 kX) (B3 kX)
def NR:D->Option Lk
 |.tup [.lst a,.lst b]=>(oJ a).bind λx=>(oJ b).map λy=>(x,y)
 |_=>af
def l8(x:Lk):D:=.tup [.lst (x.1.map D.str),.lst (x.2.map D.str)]
def oK:List D->Option (List Lk)
 |[]=>aa []
 |d::ds=>(NR d).bind λx=>(oK ds).map (x :: ·)
def pA:List D->Option D
 |[.lst ds]=>(oJ ds).bind λss=>if ss.length<64 then aa (.lst ((jC zE ss).map D.str)) else af
 |_=>af
def mE:List D->Option D
 |[.lst ds]=>(oK ds).bind λss=>if ss.length<64 then aa (.lst ((jC HG ss).map l8)) else af
 |_=>af
def AG:D->D->Option D:=λx y=>(NR x).bind λa=>(NR y).map λb=>.bl (Zv (a=b))
def pB:D->D->Option D
 |.lst a,.lst b=>(oK a).bind λx=>(oK b).map λy=>.bl (!Zv (x=y))
 |_,_=>af
def RK:D->D->Option D
 |.lst ds,.int i=>(intsOf ds).bind λns=>if ns.contains i=ae then aa (.int ((ns.idxOf i:Nat):Int)) else af
 |_,_=>af
end L4
namespace Ord
structure Rows (rows:Q0a):Prop where
 up:∀(b:Nat) (r:Q0e),rows[b]?=aa r->r.Pairwise (·<·)
 rng:∀(b:Nat) (r:Q0e),rows[b]?=aa r ->∀a∈r,0<=a/\a<(rows.length:Int)
 tr:∀(b a:Nat) (r v:Q0e),rows[b]?=aa r->(a:Int)∈r->rows[a]?=aa v ->∀c∈v,c∈r
 HF:∀(b:Nat) (r:Q0e),rows[b]?=aa r->(b:Int)∉r
theorem wJ{α:Type}:∀(l:List α) (j:Nat) (x:α),l[j]?=aa x->(x::l.eraseIdx j).Perm l
 |[],j,x,h=>by simp at h
 |a::l,0,x,h=>by simp at h;subst h;simp
 |a::l,j+1,x,h=>by have ih:=wJ l j x (by simpa using h);rw[List.eraseIdx_cons_succ];exact(a4C a x _).trans (ih.cons a)
def B4{l:Q0e}(p:Int->Bool)(h:l.Nodup):(l.filter p).Nodup:=oo p h
def Under(word:Q0e)(us:Q0a)(t:Nat)(u:Q0e):Prop :=
 u.Nodup /\∀a∈u,∃(s:Nat) (v:Q0e),s<t/\word[s]?=aa a/\us[s]?=aa v /\∀c∈v,c∈u
def Good(word:Q0e)(us:Q0a):Prop:=∀(t:Nat) (u:Q0e),us[t]?=aa u->Under word us t u
def Under.mono(h:Under word us t u)(ht:t<=t'):Under word us t' u :=
 ⟨h.1,λa ha=>by obtain⟨s,v,h1,h2,h3,h4⟩:=h.2 a ha;exact⟨s,v,by omega,h2,h3,h4⟩⟩
def wK{word:Q0e}(h:word.Nodup){i j:Nat}{a:Int}(hi:word[i]?=aa a)(hj:word[j]?=aa a):i=j:=by obtain⟨h1,e1⟩:=cq.mp hi;obtain⟨h2,e2⟩:=cq.mp hj;exact(zr h).mp (e1.trans e2.symm)
theorem Under.step{word:Q0e}{us:Q0a}{i:Nat}{u v:Q0e}{x:Int}(hw:word.Nodup)(g:Good word us)(h:Under word us i u)(hx:word[i]?=aa x)(hv:us[i]?=aa v):
  Under word us (i+1) (u++(v++[x]).filter λa=>!u.contains a):=by
 have gv:=g i v hv;have mem:∀c,c∈v++[x]->c∈u++(v++[x]).filter λa=>!u.contains a:=λc hc=>by
  by_cases hu:c∈u
  .exact md _ hu
  .exact jl _ (cj.mpr ⟨hc,by simpa using hu⟩)
 have nv:(v++[x]).Nodup:=by refine jy.mpr ⟨gv.1,by simp,λa ha b hb e=>?_⟩;have hb:=cp.mp hb;subst hb;subst e;obtain⟨s,_,h1,h2,_⟩:=gv.2 a ha;have:=wK hw h2 hx;omega
 refine⟨jy.mpr ⟨h.1,B4 _ nv,λa ha b hb e=>?_⟩,λa ha=>?_⟩
 .subst e;have:=(cj.mp hb).2;simp at this;exact this ha
 .rcases h_.mp ha with h1|h1
  .obtain ⟨s,z,a1,a2,a3,a4⟩:=h.2 a h1;exact⟨s,z,by omega,a2,a3,λc hc=>md _ (a4 c hc)⟩
  .rcases h_.mp (cj.mp h1).1 with h2|h2
   .obtain ⟨s,z,a1,a2,a3,a4⟩:=gv.2 a h2;exact⟨s,z,by omega,a2,a3,λc hc=>mem c (md _ (a4 c hc))⟩
   .have e:=cp.mp h2;subst e;exact⟨i,v,by omega,hx,hv,λc hc=>mem c (md _ hc)⟩
def Good.snoc(g:Good word us)(h:Under word us us.length u):Good word (us++[u]):=λt z e=>by
 have old:∀{s:Nat} {v:Q0e},us[s]?=aa v->(us++[u])[s]?=aa v:=λ{s v} e=>by rw[jo (cq.mp e).1];exact e
 have up:∀{t:Nat} {z:Q0e},Under word us t z->Under word (us++[u]) t z:=λ{t z} q=>⟨q.1,λa ha=>by obtain⟨s,v,a1,a2,a3,a4⟩:=q.2 a ha;exact⟨s,v,a1,a2,old a3,a4⟩⟩;by_cases ht:t<us.length
 .rw [jo ht] at e;exact up (g t z e)
 .have et:t=us.length:=by have:=(cq.mp e).1;simp at this;omega
  subst et;rw[jn (bj _),Ga] at e;have e:u=z:=by simpa using e
  subst e;exact up h
theorem Good.rows{word:Q0e}{us rows:Q0a}{n:Nat}(g:Good word us)(hu:us.length=n)(hw:word.Perm ((bu n).map λk:Nat=>(k:Int)))(hr:rows.length=n)
  (h:∀(b t:Nat) (r u:Q0e),rows[b]?=aa r->word[t]?=aa (b:Int)->us[t]?=aa u->r.Perm u/\r.Pairwise (· <= ·)):Rows rows:=by
 have nd:word.Nodup:=hw.nodup_iff.mpr (by
  refine qi _ (λa b hab=>?_) Gu;intro e;exact hab (by omega))
 have find:∀(b:Nat),b<n ->∃t u,word[t]?=aa (b:Int)/\us[t]?=aa u:=λb hb=>by
  have hm:(b:Int)∈word:=hw.mem_iff.mpr (cg.mpr ⟨b,dm.mpr hb,rfl⟩);obtain⟨t,ht⟩:=p_.mp hm;have hl:word.length=n:=by rw[hw.length_eq,a_,kq]
  have:=(cq.mp ht).1;exact⟨t,us[t]'(by omega),ht,bc (by omega)⟩
 have row:∀(b:Nat) (r:Q0e),rows[b]?=aa r ->∃t u,word[t]?=aa (b:Int)/\us[t]?=aa u/\r.Perm u/\r.Pairwise (· <= ·):=λb r e=>by have hb:=(cq.mp e).1;obtain⟨t,u,h1,h2⟩:=find b (by omega);exact⟨t,u,h1,h2,h b t r u e h1 h2⟩
 refine⟨λb r e=>?_,λb r e a ha=>?_,λb a r v e ha ev c hc=>?_,λb r e hb=>?_⟩
 .obtain ⟨t,u,h1,h2,h3,h4⟩:=row b r e;have n1:r.Nodup:=h3.nodup_iff.mpr (g t u h2).1;exact(a2v.mpr ⟨h4,n1⟩).imp λq=>by have:=q.1;have:=q.2;omega
 .obtain ⟨t,u,h1,h2,h3,h4⟩:=row b r e;obtain⟨s,z,_,a2,_⟩:=(g t u h2).2 a (h3.mem_iff.mp ha);have hm:=hw.mem_iff.mp (jz a2);obtain⟨k,hk,rfl⟩:=cg.mp hm;have:=dm.mp hk;omega
 .obtain ⟨t,u,h1,h2,h3,h4⟩:=row b r e;obtain⟨t2,u2,k1,k2,k3,k4⟩:=row a v ev;obtain⟨s,z,_,a2,a3,a4⟩:=(g t u h2).2 _ (h3.mem_iff.mp ha);have es:=wK nd a2 k1;subst es;rw[k2] at a3;cases a3;exact h3.mem_iff.mpr (a4 c (k3.mem_iff.mp hc))
 .obtain ⟨t,u,h1,h2,h3,h4⟩:=row b r e;obtain⟨s,z,a1,a2,_⟩:=(g t u h2).2 _ (h3.mem_iff.mp hb);have:=wK nd a2 h1;omega
noncomputable def tri:Nat->Nat
 |0=>0
 |j+1=>tri j+j
theorem RL(h:i<=j):tri i<=tri j:=by
 induction h with
 |refl=>exact bj _
 |step _ ih=>exact ie ih (ma _ _)
def aCA(hj:j<n)(hi:i<j):tri j+i<tri n:=by have:=RL (show j+1<=n by omega);show tri j+i<tri n;have e:tri (j+1)=tri j+j:=rfl;omega
theorem c9:∀(l m:Q0e),l.Nodup->(∀a∈l,a∈m)->l.length<=m.length
 |[],m,_,_=>iz _
 |a::l,m,h,hs=>by
  obtain⟨h1,h2⟩:=gz.mp h;have ha:=hs a cn;have ih:=c9 l (m.erase a) h2 λb hb=>by have:b≠a:=λe=>h1 (e▸hb);exact(List.mem_erase_of_ne this).mpr (hs b (dq _ hb))
  rw[List.length_erase_of_mem ha] at ih;have:0<m.length:=a2F ha;rw[de];omega
end Ord
namespace LL
open L3 L4
def fD:iH:=c8 2 2
  (aK (gI (tV (aE u5 (bX cM (aA (aB 0) aF)) (eC (.int 0))))
   (bF (eC (.int 0)))
   dQ)
  (bF (aE dC (aB 0) (aE lW (aB 1) (bX cM (aA (aB 0) aF))))))
def eM:iH:=c8 5 3
  (aK (bD 3 (aE lW (aE mulM (aE dG (aE dG (aE dG (aB 0) (aE mulM (aE mulM (eC (.int 11)) (aB 1)) (aB 1))) (aE mulM (eC (.int 17)) (aB 1))) (aB 2)) (eC (.int 48271))) (eC (.int 2147483647))))
  (aK (bD 4 (aE lW (aE dG (aE dG (aE mulM (aB 3) (aE dG (aE vV (aB 3) (eC (.int 4096))) (eC (.int 5)))) (aE mulM (eC (.int 29)) (aB 1))) (aB 2)) (eC (.int 2147483629))))
  (bF (aE lW (aE mulM (aB 4) (eC (.int 39373))) (eC (.int 1000000007))))))
def fM:iH:=c8 6 3
  (aK (lX 3 (fQ aF))
  (aK (bD 4 (eC (.int 0)))
  (aK (gI (tV (aE geM (aB 0) (aE vW (eC (.int 10)) (eC (.int 18)))))
   (bD 4 (aB 0))
   dQ)
  (aK (dY (bA (aA (aB 1) aF)) (mC 5)
   (gI (tV (aE KS (aB 4) (eC (.int 0))))
    (aK (sX (oX 3 iN (bK (aE lW (aB 4) (eC (.int 64))))))
    (bD 4 (aE vV (aB 4) (eC (.int 64)))))
    (sX (oX 3 iN (bK (aI LL.eM (aA (aB 0) (aA (aB 5) (aA (aB 2) aF)))))))))
  (bF (aB 3))))))
def cR:Nat->iH
 |0=>λ_=>.no
 |n+1=>c8 2 2
  (aK (gI (tV (jB "tuple" (aB 1)))
   (aK (gI (z8 (lU (tV (jB "tuple" (aB 0)))) (tV (aE NH (bX cM (aA (aB 0) aF)) (bX cM (aA (aB 1) aF)))))
    (bF (eC (.bl ag)))
    dQ)
   (bF (bX allM (aA (a9 1 [0,1] (bA (aA (bX cM (aA (aB 1) aF)) aF)) (g1 0) bP (aI (cR n) (aA (aE dC (aB 1) (aB 0)) (aA (aE dC (aB 2) (aB 0)) aF)))) aF))))
   dQ)
  (aK (gI (tV (aE X8 (aB 1) (eC .non)))
   (bF (aE X8 (aB 0) (eC .non)))
   dQ)
  (aK (gI (tV (jB "bool" (aB 1)))
   (bF (pX (jB "bool" (aB 0)) (aE u5 (aB 0) (aB 1))))
   dQ)
  (aK (gI (tV (jB "int" (aB 1)))
   (bF (pX (jB "int" (aB 0)) (pX (vS (jB "bool" (aB 0))) (aE u5 (aB 0) (aB 1)))))
   dQ)
  (bF (pX (jB "str" (aB 0)) (aE u5 (aB 0) (aB 1))))))))
def jY:iH:=c8 11 3
  (aK (lX 3 (HM (aA (aB 1) aF)))
  (aK (lX 4 (fQ aF))
  (aK (dY (bA (aA (aB 1) aF)) (mC 5)
   (sX (oX 4 iN (oX 3 YK (RA (aE lW (aE dC (aB 0) (aB 5)) (bX cM (aA (aB 3) aF))))))))
  (aK (EV 6)
  (aK (bD 7 (aB 1))
  (aK (dY (bA (aA (aB 1) aF)) (mC 8)
   (aK (bD 9 (fQ aF))
   (aK (dY (bA (aA (aB 8) aF)) (mC 10)
    (aK (gI (tV (aE YI (aE lW (aE dC (aB 0) (aB 7)) (eC (.int 4))) (aB 2)))
     (lP 9 (aE NJ (aB 9) (a9 1 [9] (bE (aE dG (aE vY (aB 6) (aE dC (aB 4) (aB 10))) (fQ (aA (aE dC (aB 4) (aB 10)) aF)))) (g1 0) (tV (aE (mB ae) (aB 0) (aB 1))) (aB 0))))
     dQ)
    (bD 7 (aE dG (aB 7) (eC (.int 1))))))
   (KU 6 (bK (aB 9)) (aE dC (aB 4) (aB 8))))))
  (bF (bX cQ (aA (a9 1 [6] (bA (aA (aB 1) aF)) (g1 0) bP (bX cQ (aA (bX eQ (aA (aE vY (aB 1) (aB 0)) aF)) aF))) aF)))))))))
def jZ:iH:=c8 7 4
  (aK (bD 4 (aI LL.fM (aA (aI LL.fD (aA (aB 0) (aA (aB 1) aF))) (aA (eC (.int 4)) (aA (aB 3) aF)))))
  (aK (bD 5 (aE lW (aE dC (aB 4) (eC (.int 0))) (aE dG (aB 2) (eC (.int 1)))))
  (aK (bD 6 (aI LL.fM (aA (aI LL.fD (aA (aB 0) (aA (aE dG (aB 1) (eC (.int 1))) aF))) (aA (aE dG (aB 5) (aE vV (aE mulM (aB 5) (aE gH (aB 5) (eC (.int 1)))) (eC (.int 2)))) (aA (aE dG (aB 3) (eC (.int 10007))) aF)))))
  (bF (aI LL.jY (aA (aB 6) (aA (aB 5) (aA (aE dC (fQ (aA (eC (.int 1)) (aA (eC (.int 1)) (aA (eC (.int 2)) (aA (eC (.int 2)) (aA (eC (.int 3)) (aA (eC (.int 1)) (aA (eC (.int 0)) (aA (eC (.int 4)) aF))))))))) (aE lW (aE dC (aB 4) (eC (.int 1))) (eC (.int 8)))) aF))))))))
def tupI(xs:Q0e):D:=.tup (xs.map D.int)
def aG(xs:Q0e):D:=.lst (xs.map D.int)
def aJ(rows:Q0a):D:=.tup (rows.map tupI)
def iO:dG (.int i) (.int j)=aa (.int (i+j)):=rfl
def j3:gH (.int i) (.int j)=aa (.int (i-j)):=rfl
def eJ(h:0<j):lW (.int i) (.int j)=aa (.int (i%j)):=by simp[lW,oI,h]
def mF(h:0<j)(h2:j<1073741824):vV (.int i) (.int j)=aa (.int (i/j)):=by simp[vV,oI,h,show j.natAbs<1073741824 by omega]
def nI:YI (.int i) (.int j)=aa (.bl (Zv (i<j))):=rfl
def B5:leM (.int i) (.int j)=aa (.bl (Zv (i<=j))):=rfl
def qC:KS (.int i) (.int j)=aa (.bl (Zv (j<i))):=rfl
def nJ:geM (.int i) (.int j)=aa (.bl (Zv (j<=i))):=rfl
def fH:u5 (.int i) (.int j)=aa (.bl (Zv (i=j))):=rfl
def nK:NH (.int i) (.int j)=aa (.bl (!Zv (i=j))):=rfl
def sF:u5 (.bl i) (.bl j)=aa (.bl (Zv (i=j))):=rfl
def nL:u5 (.str i) (.str j)=aa (.bl (Zv (i=j))):=rfl
def B6:X8 d .non=aa (.bl (pZ d)):=rfl
def jH:dC (.lst a) (.int i)=z9 a i:=rfl
def kZ:dC (.tup a) (.int i)=z9 a i:=rfl
def B7:dC (.rY a) (.int i)=(z9 a i).map D.int:=rfl
def j4:cM [.lst a]=aa (.int a.length):=rfl
def fV:cM [.tup a]=aa (.int a.length):=rfl
def wL:cM [.rY a]=aa (.int a.length):=rfl
def k5:cQ [.lst a]=aa (.tup a):=rfl
def pC:cQ [.tup a]=aa (.tup a):=rfl
def sG:Du [.lst a]=aa (.lst a):=rfl
def sH:Du [.tup a]=aa (.lst a):=rfl
def sI:ET (.lst a)=aa a:=rfl
def sJ:ET (.tup a)=aa a:=rfl
def gK:l9 (.bl b)=aa b:=rfl
def pD:l9 (.lst b)=aa (!b.isEmpty):=rfl
def pE:l9 (.tup b)=aa (!b.isEmpty):=rfl
def wM:tZ (.bl b)=aa b:=rfl
def k6(h:ds.length<16777216):iN ds d=aa (ds++[d],.non):=Z_ h
def YO(h:ds.length+es.length<=16777216):NL ds (.lst es)=aa (ds++es,.non):=Z_ h
def nM:AA [.tup ds]=aa (ds.zipIdx.map λp=>.tup [.int (p.2:Int),p.1]):=rfl
def nN:AA [.lst ds]=aa (ds.zipIdx.map λp=>.tup [.int (p.2:Int),p.1]):=rfl
def wN:yj [.tup ds]=aa ds.reverse:=rfl
def wQ:yj [.lst ds]=aa ds.reverse:=rfl
def d9(hl:ds.length=np)(h:b (dZ n ds)=.rt d):c8 n np b ds=.ok d:=by unfold c8;rw[Z_ hl,h]
def bL(ρ':bO)(h1:f ρ=.nx ρ')(h2:g ρ'=o):aK f g ρ=o:=by unfold aK;rw[h1];exact h2
def oA(h1:f ρ=.rt d):aK f g ρ=.rt d:=by unfold aK;rw[h1]
def dR(h:f (bY ρ)=aa d):bF f ρ=.rt d:=by unfold bF;rw[h]
def dH(d:D)(h:f (jR ρ)=aa d)(hr:ρ.set i (.ro d)=ρ'):bD i f ρ=.nx ρ':=by unfold bD;rw[h,<- hr]
def zF(h:t (bY ρ)=aa ae)(h2:a ρ=o):gI t a b ρ=o:=by unfold gI;rw[h];exact h2
def lZ(h:t (bY ρ)=aa ag)(h2:b ρ=o):gI t a b ρ=o:=by unfold gI;rw[h];exact h2
def wR(ds:List D)(h:it (jR ρ)=aa ds)(h2:eR g b ds ρ=o):dY it g b ρ=o:=by unfold dY;rw[h];exact h2
def dU(ds:List D)(h:it ρ=aa ds)(hl:ds.length<=16777216)(h2:gY g t e (benv nl fr ρ) ds=aa ys):a9 nl fr it g t e ρ=aa (.lst ys):=by unfold a9;rw[h];show(if ds.length<=oH then _ else _)=_;rw[Z_ (show ds.length<=oH from hl),h2];rfl
def qD(h:a.length+b.length<=16777216):dG (.lst a) (.lst b)=aa (.lst (a++b)):=Z_ h
def EX(h:a.length+b.length<=16777216):dG (.tup a) (.tup b)=aa (.tup (a++b)):=Z_ h
def RM(h:a.length+b.length<=16777216):NJ (.lst a) (.lst b)=aa (.lst (a++b)):=Z_ h
def mG(h:i.natAbs<18446744073709551616):mulM (.int i) (.int j)=aa (.int (i*j)):=by simp[mulM,oI,vU,h]
def B8(h:j.natAbs<18446744073709551616):mulM (.int i) (.int j)=aa (.int (i*j)):=by simp[mulM,oI,vU,h]
def EY(h:j.natAbs<4611686018427387904):HN [.int j]=aa ((bI 0 j.toNat).map D.int):=Z_ h
def qE{n:Nat}(h:n<4611686018427387904):HN [.int (n:Int)]=aa ((bI 0 n).map D.int):=by rw[EY (by omega)];rfl
theorem dI:∀ns:Q0e,intsOf (ns.map D.int)=aa ns
 |[]=>rfl
 |n::ns=>by simp[intsOf,dI ns]
def qF{neg:Bool}{i:Int}{ns:Q0e}:mB neg (.int i) (.tup (ns.map D.int))=aa (.bl (if neg then !ns.contains i else ns.contains i)):=by simp[mB,dI]
def qG{neg:Bool}{i:Int}{ns:Q0e}:mB neg (.int i) (.lst (ns.map D.int))=aa (.bl (if neg then !ns.contains i else ns.contains i)):=by simp[mB,dI]
def sorted_ints(h:ns.length<64):eQ [.lst (ns.map D.int)]=aa (.lst ((sortI ns).map D.int)):=by simp[eQ,dI,h]
def sum_ints{ns:Q0e}:NI [.lst (ns.map D.int)]=aa (.int ns.sum):=by simp[NI,dI]
theorem sL:∀bs:List Bool,oU (bs.map D.bl)=aa bs
 |[]=>rfl
 |b::bs=>by simp[oU,l9,sL bs]
def vB{bs:List Bool}:allM [.lst (bs.map D.bl)]=aa (.bl (bs.all id)):=by simp[allM,sL]
def K2{bs:List Bool}:anyM [.lst (bs.map D.bl)]=aa (.bl (bs.any id)):=by simp[anyM,sL]
def wU{n:Nat}{i:Int}(h0:0<=i)(h1:i<n):Q8 n i=aa i.toNat:=by unfold Q8;rw[Z_ h0,Z_ h1]
def YQ(h:k<n):Q8 n (k:Int)=aa k:=by rw[wU (by omega) (by omega)];rfl
def qH{α:Type}{xs:List α}{k:Nat}(h:k<xs.length):z9 xs (k:Int)=xs[k]?:=by unfold z9;rw[YQ h];rfl
def B9{α:Type}{xs:List α}{i:Int}(h0:0<=i)(h1:i<xs.length):∃x∈xs,z9 xs i=aa x/\xs[i.toNat]?=aa x:=by
 have hl:i.toNat<xs.length:=by omega
 refine⟨xs[i.toNat],mz hl,?_,by simp[hl]⟩;unfold z9;rw[wU h0 h1];simp[hl]
theorem iB{α β:Type}(f:α->β)(xs:List α)(i:Int):z9 (xs.map f) i=(z9 xs i).map f:=by
 unfold z9;rw[a_]
 cases Q8 xs.length i with
 |none=>rfl
 |some j=>simp
def CA{α:Type}{xs:List α}{k:Nat}{x:α}(h:xs[k]?=aa x):z9 xs (k:Int)=aa x:=by rw[qH (cq.mp h).1,h]
def aS(lo:Int)(n:Nat):(bI lo n).length=n:=by simp[bI]
def j5(h:i<n):(bI lo n)[i]?=aa (lo+(i:Int)):=by simp[bI,h]
def AH(lo:Int)(n:Nat):bI lo (n+1)=bI lo n++[lo+(n:Int)]:=by simp[bI,List.range_succ]
def b7:x∈bI lo n↔lo<=x/\x<lo+n:=by
 unfold bI;rw[cg];simp only[dm]
 constructor
 .rintro ⟨k,hk,rfl⟩;omega
 .rintro ⟨h1,h2⟩;exact⟨(x-lo).toNat,by omega,by omega⟩
theorem EZ(P:Nat->bO->Prop)(ds:List D)(h0:P 0 ρ)(step:∀(i:Nat) (d:D) (ρ:bO),ds[i]?=aa d->P i ρ ->∃ρ1 ρ2,g d ρ=aa ρ1/\b ρ1=.nx ρ2/\P (i+1) ρ2):
  ∃ρ',eR g b ds ρ=.nx ρ'/\P ds.length ρ':=by
 suffices H:∀(l:List D) (k:Nat) (ρ:bO),ds.drop k=l->k<=ds.length->P k ρ ->∃ρ',eR g b l ρ=.nx ρ'/\P ds.length ρ' from H ds 0 ρ (by simp) (iz _) h0
 intro l
 induction l with
 |nil =>
  intro k ρ hl hk hp;have:ds.length<=k:=by simpa using hl
  exact⟨ρ,rfl,by rwa [show ds.length=k by omega]⟩
 |cons d l ih =>
  intro k ρ hl hk hp;have hk':k<ds.length:=by apply Aa;intro h;rw[Ha (by omega)] at hl;cases hl
  have hd:ds[k]?=aa d:=by have:=congrArg (λx=>x[0]?) hl;simpa using this
  obtain⟨ρ1,ρ2,e1,e2,p2⟩:=step k d ρ hd hp;have hl2:ds.drop (k+1)=l:=by rw[vw hk'] at hl;exact(a4A hl).2
  obtain⟨ρ',e3,p3⟩:=ih (k+1) ρ2 hl2 hk' p2;exact⟨ρ',by simp only[eR,e1,e2,e3],p3⟩
theorem RN(P:Nat->bO->Prop)(lo:Int)(n:Nat)(h0:P 0 ρ)(step:∀(i:Nat) (ρ:bO),i<n->P i ρ ->∃ρ1 ρ2,g (.int (lo+(i:Int))) ρ=aa ρ1/\b ρ1=.nx ρ2/\P (i+1) ρ2):
  ∃ρ',eR g b ((bI lo n).map D.int) ρ=.nx ρ'/\P n ρ':=by
 have:=EZ (g:=g) (b:=b) P ((bI lo n).map D.int) h0 λi d ρ hd hp=>by
  have hi:i<n:=by have:=(cq.mp hd).1;simpa[aS] using this
  rw[ck,j5 hi] at hd;cases hd;exact step i ρ hi hp
 simpa[aS] using this
theorem AI{α:Type}(mk:α->D)(f:α->D)(l:List α)(h:∀a∈l,(g (mk a) ρ).bind e=aa (f a)):gY g bP e ρ (l.map mk)=aa (l.map f):=by
 induction l with
 |nil=>rfl
 |cons a l ih =>
  have h1:=h a (by simp);have h2:=ih λx hx=>h x (by simp[hx])
  cases hg:g (mk a) ρ with
  |none=>rw[hg] at h1;cases h1
  |some ρ1 =>
   rw[hg] at h1;have h1':e ρ1=aa (f a):=h1;simp only[bt,gY,hg,dz,bP,if_true,h1',h2,pj]
def bZ{α:Type}(mk:α->D)(f:α->D)(l:List α)(h:∀a∈l,∃ρ1,g (mk a) ρ=aa ρ1/\e ρ1=aa (f a)):gY g bP e ρ (l.map mk)=aa (l.map f) :=
 AI mk f l λa ha=>by obtain⟨ρ1,h1,h2⟩:=h a ha;rw[h1];exact h2
theorem eA{α:Type}(mk:α->D)(p:α->Bool)(f:α->D)(l:List α)(h:∀a∈l,∃ρ1,g (mk a) ρ=aa ρ1/\t ρ1=aa (p a)/\(p a=ae->e ρ1=aa (f a))):
  gY g t e ρ (l.map mk)=aa ((l.filter p).map f):=by
 induction l with
 |nil=>rfl
 |cons a l ih =>
  obtain⟨ρ1,h1,h2,h3⟩:=h a (by simp);have ih:=ih λx hx=>h x (by simp[hx])
  cases hp:p a with
  |false=>simp[gY,h1,h2,hp,ih]
  |true=>simp[gY,h1,h2,hp,h3 hp,ih]
theorem RO{α β:Type}(mk:α->D)(out:β->D)(R:α->β->Prop)(l:List α)(h:∀a∈l,∃ρ1 b,g (mk a) ρ=aa ρ1/\e ρ1=aa (out b)/\R a b):
  ∃bs:List β,bs.length=l.length/\(∀(i:Nat) (a:α) (b:β),l[i]?=aa a->bs[i]?=aa b->R a b)/\gY g bP e ρ (l.map mk)=aa (bs.map out):=by
 induction l with
 |nil=>exact⟨[],rfl,λi a b h=>by simp at h,rfl⟩
 |cons a l ih =>
  obtain⟨ρ1,b,h1,h2,h3⟩:=h a (by simp);obtain⟨bs,hl,hr,hc⟩:=ih λx hx=>h x (by simp[hx]);refine⟨b::bs,by simp[hl],λi x y hx hy=>?_,by simp[gY,h1,h2,hc,bP]⟩
  cases i with
  |zero=>simp at hx hy;subst hx hy;exact h3
  |succ i=>exact hr i x y (by simpa using hx) (by simpa using hy)
def Rt(o:Out)(Q:D->Prop):Prop:=∃d,o=.rt d/\Q d
def Nx(o:Out)(Q:bO->Prop):Prop:=∃ρ,o=.nx ρ/\Q ρ
def mH(M:bO->Prop)(h1:Nx (f ρ) M)(h2:∀ρ',M ρ'->Rt (g ρ') Q):Rt (aK f g ρ) Q:=by obtain⟨ρ',e,m⟩:=h1;unfold aK;rw[e];exact h2 ρ' m
def RP(M:bO->Prop)(h1:Nx (f ρ) M)(h2:∀ρ',M ρ'->Nx (g ρ') Q):Nx (aK f g ρ) Q:=by obtain⟨ρ',e,m⟩:=h1;unfold aK;rw[e];exact h2 ρ' m
def bM(ρ':bO)(h1:f ρ=.nx ρ')(h2:Rt (g ρ') Q):Rt (aK f g ρ) Q:=by unfold aK;rw[h1];exact h2
def K3(ρ':bO)(h1:f ρ=.nx ρ')(h2:Nx (g ρ') Q):Nx (aK f g ρ) Q:=by unfold aK;rw[h1];exact h2
def CB(h1:Rt (f ρ) Q):Rt (aK f g ρ) Q:=by obtain⟨d,e,m⟩:=h1;unfold aK;rw[e];exact⟨d,rfl,m⟩
def RQ(c:Bool)(h:t (bY ρ)=aa c)(h1:c=ae->Rt (a ρ) Q)(h2:c=ag->Rt (b ρ) Q):Rt (gI t a b ρ) Q:=by unfold gI;rw[h];cases c;exact h2 rfl;exact h1 rfl
def Wj(c:Bool)(h:t (bY ρ)=aa c)(h1:c=ae->Nx (a ρ) Q)(h2:c=ag->Nx (b ρ) Q):Nx (gI t a b ρ) Q:=by unfold gI;rw[h];cases c;exact h2 rfl;exact h1 rfl
def fW(d:D)(h:f (bY ρ)=aa d)(q:Q d):Rt (bF f ρ) Q:=⟨d,dR h,q⟩
def RR(d:D)(h:f (jR ρ)=aa d)(q:Q (ρ.set i (.ro d))):Nx (bD i f ρ) Q:=⟨_,dH d h rfl,q⟩
def aCB(q:Q ρ):Nx (dQ ρ) Q:=⟨ρ,rfl,q⟩
theorem sM(ds:List D)(P:Nat->bO->Prop)(h:it (jR ρ)=aa ds)(h0:P 0 ρ)(step:∀(i:Nat) (d:D) (ρ:bO),ds[i]?=aa d->P i ρ ->∃ρ1,g d ρ=aa ρ1/\Nx (b ρ1) (P (i+1)))
  (fin:∀ρ',P ds.length ρ'->Q ρ'):Nx (dY it g b ρ) Q:=by
 obtain⟨ρ',e,p⟩:=EZ (g:=g) (b:=b) P ds h0 λi d ρ hd hp=>by obtain⟨ρ1,e1,ρ2,e2,p2⟩:=step i d ρ hd hp;exact⟨ρ1,ρ2,e1,e2,p2⟩
 exact⟨ρ',wR ds h e,fin ρ' p⟩
theorem k7{t:AF}{g:GSF}{b:SF}{ρ:bO}{Q:bO->Prop}(n:Nat)(P:Nat->bO->Prop)(h:t (jR ρ)=aa [.int (n:Int)])(hn:n<4611686018427387904)(h0:P 0 ρ)(step:∀(i:Nat) (ρ:bO),i<n->P i ρ ->∃ρ1,g (.int (i:Int)) ρ=aa ρ1/\Nx (b ρ1) (P (i+1)))
  (fin:∀ρ',P n ρ'->Q ρ'):Nx (dY (bA t) g b ρ) Q:=by
 refine sM ((bI 0 n).map D.int) P (by unfold bA;rw[h,dz,qE hn]) h0 (λi d ρ hd hp=>?_) (λρ' p=>fin ρ' (by simpa[aS] using p));have hi:i<n:=by have:=(cq.mp hd).1;simpa[aS] using this
 rw[ck,j5 hi] at hd;have hd:D.int (0+(i:Int))=d:=by simpa using hd
 subst hd;obtain⟨ρ1,e,q⟩:=step i ρ hi hp;exact⟨ρ1,by rw[je];exact e,q⟩
def iP(hl:ds.length=np)(h:Rt (b (dZ n ds)) Q):∃d,c8 n np b ds=.ok d/\Q d:=by obtain⟨d,e,q⟩:=h;exact⟨d,d9 hl e,q⟩
theorem AJ:∀(l:Q0e) (j:Nat),(l.map D.int).eraseIdx j=(l.eraseIdx j).map D.int
 |[],j=>by simp
 |a::l,0=>by simp
 |a::l,j+1=>by simp[AJ l j]
def aY(ha:a ρ=aa x)(hb:b ρ=aa y)(h:g x y=z):aE g a b ρ=z:=by unfold aE;rw[ha,hb];exact h
def cV(ha:a ρ=aa x)(h:g [x]=z):bX g (aA a aF) ρ=z:=by unfold bX aA aF;rw[ha];exact h
def YR(ha:a ρ=aa x)(hb:b ρ=aa y)(h:g [x,y]=z):bX g (aA a (aA b aF)) ρ=z:=by unfold bX aA aF;rw[ha,hb];exact h
def eU(ha:a ρ=aa x)(h:f [x]=.ok d):aI f (aA a aF) ρ=aa d:=by unfold aI aA aF;rw[ha];show EO (f [x])=_;rw[h];rfl
def bQ(ha:a ρ=aa x)(hb:b ρ=aa y)(h:f [x,y]=.ok d):aI f (aA a (aA b aF)) ρ=aa d:=by unfold aI aA aF;rw[ha,hb];show EO (f [x,y])=_;rw[h];rfl
def jS(ha:a ρ=aa x)(hb:b ρ=aa y)(hc:c ρ=aa z)(h:f [x,y,z]=.ok d):aI f (aA a (aA b (aA c aF))) ρ=aa d:=by unfold aI aA aF;rw[ha,hb,hc];show EO (f [x,y,z])=_;rw[h];rfl
def wV(ha:a ρ=aa x)(hb:b ρ=aa y)(hc:c ρ=aa z)(he:e ρ=aa w)(h:f [x,y,z,w]=.ok d):aI f (aA a (aA b (aA c (aA e aF)))) ρ=aa d:=by unfold aI aA aF;rw[ha,hb,hc,he];show EO (f [x,y,z,w])=_;rw[h];rfl
def args1(ha:a ρ=aa x):aA a aF ρ=aa [x]:=by unfold aA aF;rw[ha];rfl
def args2(ha:a ρ=aa x)(hb:b ρ=aa y):aA a (aA b aF) ρ=aa [x,y]:=by unfold aA aF;rw[ha,hb];rfl
def qI{a:EF}{ρ:cN}{n:Nat}(ha:a ρ=aa (.int (n:Int)))(hn:n<4611686018427387904):bA (aA a aF) ρ=aa ((bI 0 n).map D.int):=by unfold bA;rw[args1 ha,dz,qE hn]
def Wi(ha:a ρ=aa (.int i))(hb:b ρ=aa (.int j))(hi:i.natAbs<4611686018427387904)(hj:j.natAbs<4611686018427387904):bA (aA a (aA b aF)) ρ=aa ((bI i (j-i).toNat).map D.int):=by unfold bA;rw[args2 ha hb,dz];exact Z_ ⟨hi,hj⟩
def g8(h:f ρ=aa d)(ht:l9 d=aa b):tV f ρ=aa b:=by unfold tV;rw[h];exact ht
def X9(h:t ρ=aa b)(hc:(!b)=c):lU t ρ=aa c:=by unfold lU;rw[h,<- hc];rfl
def K4(h:t ρ=aa b)(h2:b=ae->u ρ=aa c)(h3:b=ag->c=ag):lV t u ρ=aa c:=by
 unfold lV;rw[h];cases b
 .rw [h3 rfl];rfl
 .exact h2 rfl
def CC(h:t ρ=aa b)(h2:b=ag->u ρ=aa c)(h3:b=ae->c=ae):z8 t u ρ=aa c:=by
 unfold z8;rw[h];cases b
 .exact h2 rfl
 .rw [h3 rfl];rfl
def YS{l:Q0e}{i:Int}{y:Int}(h0:0<=i)(h1:i<l.length)(h2:l.length<=16777216)(hy:l[i.toNat]?=aa y):YK (l.map D.int) (.int i)=aa ((l.eraseIdx i.toNat).map D.int,.int y):=by show(if i.natAbs<9223372036854775808 then _ else _)=_;rw[Z_ (by omega),a_,wU h0 h1,dz,ck,hy,AJ];rfl
def jI{ws:Q0e}{j:Nat}{x:Int}(h:ws[j]?=aa x):z9 (ws.map D.int) (j:Int)=aa (.int x):=by rw[iB,CA h];rfl
def RS{α:Type}{l:List α}{i j:Nat}{x:α}(h:l[i]?=aa x)(hij:i<j):(l.take j)[i]?=aa x:=by rw[vt hij];exact h
theorem sN:∀ns:Q0e,zJ (ns.map D.int)=ae
 |[]=>rfl
 |n::ns=>by rw[bt,zJ,sN ns];rfl
def pF:jF (q::ks) (d::ds) k=if q=k then aa d else jF ks ds k:=by
 by_cases e:q=k
 .simp [jF,e]
 .simp [jF,e]
theorem sO:∀{word:Q0e} {us:Q0a} {i:Nat} {x:Int} {v:Q0e},word.Nodup->word[i]?=aa x->us[i]?=aa v->jF (word.map cz) (us.map aG) (cz x)=aa (aG v)
 |[],us,i,x,v,_,h,_=>by simp at h
 |w::ws,[],i,x,v,_,_,h=>by simp at h
 |w::ws,u::us,0,x,v,_,h1,h2=>by simp at h1 h2;subst h1 h2;rw[bt,bt,pF,Z_ rfl]
 |w::ws,u::us,i+1,x,v,hn,h1,h2=>by
  obtain⟨n1,n2⟩:=gz.mp hn;have h1':ws[i]?=aa x:=by simpa using h1
  have ne:(cz w:Sum Int ak)≠cz x:=λe=>n1 (by cases e;exact jz h1');rw[bt,bt,pF,Zz ne];exact sO n2 h1' (by simpa using h2)
theorem AK:∀{word:Q0e} {us:Q0a} {x:Int},x∉word->jF (word.map cz) (us.map aG) (cz x)=af
 |[],us,x,_=>by simp[jF]
 |w::ws,[],x,_=>by simp[jF]
 |w::ws,u::us,x,h=>by have ne:(cz w:Sum Int ak)≠cz x:=λe=>h (by cases e;exact cn);rw[bt,bt,pF,Zz ne];exact AK λz=>h (dq _ z)
theorem insI_perm(a:Int):∀l:Q0e,(insI a l).Perm (a::l)
 |[]=>.refl _
 |b::l=>by
  unfold insI;split
  .exact .refl _
  .exact ((insI_perm a l).cons b).trans (.swap a b l)
theorem sortI_perm:∀l:Q0e,(sortI l).Perm l
 |[]=>.refl _
 |a::l=>(insI_perm a (sortI l)).trans ((sortI_perm l).cons a)
theorem t7(a:Int):∀l:Q0e,l.Pairwise (· <= ·)->(insI a l).Pairwise (· <= ·)
 |[],_=>by simp[insI]
 |b::l,h=>by
  unfold insI;split
  .rename_i hab;refine ft.mpr ⟨λc hc=>?_,h⟩;rcases cb.mp hc with e|e
   .subst e;exact hab
   .exact zz hab ((ft.mp h).1 c e)
  .rename_i hab;refine ft.mpr ⟨λc hc=>?_,t7 a l (ft.mp h).2⟩;rcases cb.mp ((insI_perm a l).mem_iff.mp hc) with e|e
   .subst e;omega
   .exact (ft.mp h).1 c e
theorem iC:∀l:Q0e,(sortI l).Pairwise (· <= ·)
 |[]=>zy
 |a::l=>t7 a _ (iC l)
local macro_rules | `(tactic| walk_at "ev") => `(tactic| simp only[dZ,aK,gI,bF,bD,RB,lX,RC,lP,EV,sX,dY,dQ,aB,eC,aE,tV,lU,lV,z8,pX,wt,vS,KR,Q7,HI,aF,aA,bX,aI,EO,jB,bE,bA,jG,yl,yi,g1,g2,mC,NN,AB,bP,benv,QY,Q9,oE,asInt,bK,oX,oV,bY,jR,Sv.all,Sv.rd,bt,j_,vv,r6,Gw,Fw,Fx,dz,Fy,pj,Fv,Gm,Gn,Gk,de,mx,a_,Hc,vk,jb,Gq,Nat.reduceSub,Nat.reduceAdd,Nat.reduceEqDiff,gK,pD,pE,wM,YH,iO,j3,nI,B5,qC,nJ,fH,nK,sF,nL,B6,pZ,jH,kZ,B7,j4,fV,wL,k5,pC,sG,sH,sI,sJ,nM,nN,wN,wQ,if_true,if_false,ite_true,ite_false,reduceIte,decide_true,decide_false,decide_eq_true_eq,sr,vz,Hh,qF,qG])
def vC(ns:Q0e)(k:Int):∃c,fD [.rY ns,.int k]=.ok (.int c):=by
 unfold fD;by_cases h:(ns.length:Int)=0
 .exact ⟨0,d9 rfl (oA (zF (by walk_at "ev";rw[Zx h]) rfl))⟩
 .obtain ⟨x,_,e,_⟩:=B9 (xs:=ns) (i:=k%(ns.length:Int)) (ml _ (by omega)) (oq _ (by omega));refine⟨x,d9 rfl (bL _ (lZ (by walk_at "ev";rw[Zy h]) rfl) (dR ?_))⟩
  walk_at "ev"
  rw[eJ (by omega)]
  walk_at "ev"
  rw[e];rfl
def RT(c k s:Int):Int:=(c+11*k*k+17*k+s)*48271%2147483647
def Cd(c k s:Int):Int:=(RT c k s*(RT c k s/4096+5)+29*k+s)%2147483629
def E1(c k s:Int)(h0:0<=k)(h1:k<1000000):∃r,0<=r/\eM [.int c,.int k,.int s]=.ok (.int r):=by
 unfold eM;have ha:0<=RT c k s:=ml ((c+11*k*k+17*k+s)*48271) (b:=2147483647) (by decide);have hb:RT c k s<2147483647:=oq ((c+11*k*k+17*k+s)*48271) (b:=2147483647) (by decide);refine⟨Cd c k s*39373%1000000007,ml _ (b:=1000000007) (by decide),d9 rfl (bL _ (dH (.int (RT c k s)) ?_ rfl) (bL _ (dH (.int (Cd c k s)) ?_ rfl) (dR ?_)))⟩
 .walk_at "ev"
  rw[mG (by decide)]
  walk_at "ev"
  rw[B8 (by omega),mG (i:=17) (by decide)]
  walk_at "ev"
  rw[B8 (j:=48271) (by decide)]
  walk_at "ev"
  rw[eJ (by decide)];rfl
 .walk_at "ev"
  rw[mF (by decide) (by decide)]
  walk_at "ev"
  rw[mG (by omega),mG (i:=29) (by decide)]
  walk_at "ev"
  rw[eJ (by decide)];rfl
 .walk_at "ev"
  rw[B8 (j:=39373) (by decide)]
  walk_at "ev"
  rw[eJ (by decide)]
def sP(xs:Q0e)(x:Int):D.lst (xs.map D.int++[.int x])=aG (xs++[x]):=by simp[aG]
def wW(c many s:Int)(h0:0<=many)(h1:many<1000000):∃xs:Q0e,xs.length=many.toNat/\(∀x∈xs,0<=x)/\fM [.int c,.int many,.int s]=.ok (aG xs):=by
 unfold fM;have key:∀left:Int,∃ρ',eR (mC 5) (gI (tV (aE KS (aB 4) (eC (.int 0))))
    (aK (sX (oX 3 iN (bK (aE lW (aB 4) (eC (.int 64))))))
    (bD 4 (aE vV (aB 4) (eC (.int 64)))))
    (sX (oX 3 iN (bK (aI LL.eM (aA (aB 0) (aA (aB 5) (aA (aB 2) aF))))))))
    ((bI 0 many.toNat).map D.int) [Sv.ro (.int c),Sv.ro (.int many),Sv.ro (.int s),Sv.ow (.lst []),Sv.ro (.int left),Sv.no]=.nx ρ' /\
    ∃(xs:Q0e) (l:Int) (v:Sv),xs.length=many.toNat/\(∀x∈xs,0<=x)/\ρ'=[Sv.ro (.int c),Sv.ro (.int many),Sv.ro (.int s),Sv.ow (aG xs),Sv.ro (.int l),v]:=by
  intro left;refine RN (λi ρ'=>∃(xs:Q0e) (l:Int) (v:Sv),xs.length=i/\(∀x∈xs,0<=x)/\ρ'=[Sv.ro (.int c),Sv.ro (.int many),Sv.ro (.int s),Sv.ow (aG xs),Sv.ro (.int l),v]) 0 _ ⟨[],left,_,rfl,by simp,rfl⟩ ?_;rintro i _ hi ⟨xs,l,v,hx,hn,rfl⟩;have hlen:(xs.map D.int).length<16777216:=by rw[a_];omega
  by_cases hl:0<l
  .refine ⟨_,_,rfl,zF (by walk_at "ev";rw[Zx hl]) (bL [Sv.ro (.int c),Sv.ro (.int many),Sv.ro (.int s),Sv.ow (aG (xs++[l%64])),Sv.ro (.int l),Sv.ro (.int (0+(i:Int)))] ?_ (dH (.int (l/64)) ?_ rfl)),xs++[l%64],l/64,_,by simp[hx],?_,rfl⟩
   .walk_at "ev"
    rw[eJ (by decide)]
    walk_at "ev"
    simp only[aG,oV]
    walk_at "ev"
    rw[k6 hlen]
    walk_at "ev"
    rw[sP];rfl
   .walk_at "ev"
    rw[mF (by decide) (by decide)]
   .intro x hx;rcases h_.mp hx with h|h
    .exact hn x h
    .rw [cp.mp h];exact ml _ (by decide)
  .obtain ⟨r,hr,e⟩:=E1 c (0+(i:Int)) s (by omega) (by omega);refine⟨_,[Sv.ro (.int c),Sv.ro (.int many),Sv.ro (.int s),Sv.ow (aG (xs++[r])),Sv.ro (.int l),Sv.ro (.int (0+(i:Int)))],rfl,lZ (by walk_at "ev";rw[Zy hl]) ?_,xs++[r],l,_,by simp[hx],?_,rfl⟩
   .walk_at "ev"
    rw[e];simp only[aG,oV]
    walk_at "ev"
    rw[k6 hlen]
    walk_at "ev"
    rw[sP];rfl
   .intro x hx;rcases h_.mp hx with h|h
    .exact hn x h
    .rw [cp.mp h];exact hr
 have hp:vW (.int 10) (.int 18)=aa (.int 1000000000000000000):=rfl;have fin:∀left:Int,(0=0) ->∃xs:Q0e,xs.length=many.toNat/\(∀x∈xs,0<=x)/\aK (dY (bA (aA (aB 1) aF)) (mC 5) (gI (tV (aE KS (aB 4) (eC (.int 0))))
    (aK (sX (oX 3 iN (bK (aE lW (aB 4) (eC (.int 64))))))
    (bD 4 (aE vV (aB 4) (eC (.int 64)))))
    (sX (oX 3 iN (bK (aI LL.eM (aA (aB 0) (aA (aB 5) (aA (aB 2) aF))))))))) (bF (aB 3)) [Sv.ro (.int c),Sv.ro (.int many),Sv.ro (.int s),Sv.ow (.lst []),Sv.ro (.int left),Sv.no]=.rt (aG xs):=by
  intro left _;obtain⟨ρ',e,xs,l,v,h1',h2',rfl⟩:=key left;refine⟨xs,h1',h2',bL _ (wR _ ?_ e) (dR rfl)⟩
  walk_at "ev"
  exact EY (by omega)
 by_cases hc:1000000000000000000<=c
 .obtain ⟨xs,a,b,e⟩:=fin c rfl;refine⟨xs,a,b,d9 rfl (bL _ rfl (bL _ rfl (bL _ (zF ?_ rfl) e)))⟩
  walk_at "ev"
  rw[hp]
  walk_at "ev"
  rw[Zx hc]
 .obtain ⟨xs,a,b,e⟩:=fin 0 rfl;refine⟨xs,a,b,d9 rfl (bL _ rfl (bL _ rfl (bL _ (lZ ?_ rfl) e)))⟩
  walk_at "ev"
  rw[hp]
  walk_at "ev"
  rw[Zy hc]
theorem RU(dr:Q0e)(n:Nat)(th:Int)(hn:n<=9)(hl:n+Ord.tri n<=dr.length):
  ∃d,jY [aG dr,.int n,.int th]=.ok d /\∃rows:Q0a,rows.length=n/\Ord.Rows rows/\d=aJ rows:=by
 unfold jY;refine iP rfl ?_;rw[show dZ 11 [aG dr,.int n,.int th]=[Sv.ro (aG dr),Sv.ro (.int n),Sv.ro (.int th),Sv.no,Sv.no,Sv.no,Sv.no,Sv.no,Sv.no,Sv.no,Sv.no] from rfl];refine bM [Sv.ro (aG dr),Sv.ro (.int n),Sv.ro (.int th),Sv.ow (.lst ((bI 0 n).map D.int)),Sv.no,Sv.no,Sv.no,Sv.no,Sv.no,Sv.no,Sv.no] ?_ ?_
 .walk_at "ev"
  simp only[HM]
  walk_at "ev"
  rw[Z_ (by omega)];rfl
 refine bM [Sv.ro (aG dr),Sv.ro (.int n),Sv.ro (.int th),Sv.ow (.lst ((bI 0 n).map D.int)),Sv.ow (.lst []),Sv.no,Sv.no,Sv.no,Sv.no,Sv.no,Sv.no] rfl ?_;refine mH (λρ=>∃(word:Q0e) (kv v3:Sv),word.Perm (bI 0 n)/\ρ=[Sv.ro (aG dr),Sv.ro (.int n),Sv.ro (.int th),v3,Sv.ow (aG word),kv,Sv.no,Sv.no,Sv.no,Sv.no,Sv.no]) ?_ ?_
 .refine k7 n (λi ρ=>∃(rest word:Q0e) (kv:Sv),word.length=i/\(word++rest).Perm (bI 0 n)/\ρ=[Sv.ro (aG dr),Sv.ro (.int n),Sv.ro (.int th),Sv.ow (aG rest),Sv.ow (aG word),kv,Sv.no,Sv.no,Sv.no,Sv.no,Sv.no])
   rfl (by omega) ⟨bI 0 n,[],Sv.no,rfl,.refl _,rfl⟩ ?_ ?_
  .rintro i _ hi ⟨rest,word,kv,hw,hp,rfl⟩;have hlr:word.length+rest.length=n:=by have:=hp.length_eq;rw[fu,aS] at this;exact this
   obtain⟨x,hx⟩:∃x,dr[i]?=aa x:=⟨_,bc (by omega)⟩;have hr0:(0:Int)<rest.length:=by omega
   have h0:=ml x (show(rest.length:Int)≠0 by omega);have h1:=oq x hr0;obtain⟨y,hy⟩:∃y,rest[(x%(rest.length:Int)).toNat]?=aa y:=⟨_,bc (by omega)⟩;refine⟨_,rfl,[Sv.ro (aG dr),Sv.ro (.int n),Sv.ro (.int th),Sv.ow (aG (rest.eraseIdx (x%(rest.length:Int)).toNat)),Sv.ow (aG (word++[y])),Sv.ro (.int i),Sv.no,Sv.no,Sv.no,Sv.no,Sv.no],?_,rest.eraseIdx (x%(rest.length:Int)).toNat,word++[y],Sv.ro (.int i),by simp[hw],?_,rfl⟩
   .have e1:=YS h0 h1 (by omega) hy;simp only[aG]
    walk_at "ev"
    simp only[RA]
    walk_at "ev"
    rw[jI hx]
    walk_at "ev"
    rw[eJ hr0]
    walk_at "ev"
    simp only[D.EL,ite_true,dz]
    walk_at "ev"
    rw[e1]
    walk_at "ev"
    rw[k6 (by rw[a_];omega)]
    walk_at "ev"
    rw[gu];rfl
   .rw [ng];exact((Ord.wJ rest _ y hy).append_left word).trans hp
  .rintro _ ⟨rest,word,kv,hw,hp,rfl⟩;have hlr:word.length+rest.length=n:=by have:=hp.length_eq;rw[fu,aS] at this;exact this
   have e:rest=[]:=qc.mp (by omega);subst e;rw[mi] at hp;exact⟨word,kv,_,hp,rfl⟩
 rintro _ ⟨word,kv,v3,hp,rfl⟩;have hpw:word.Perm ((bu n).map λk:Nat=>(k:Int)):=by
  have e:bI 0 n=(bu n).map λk:Nat=>(k:Int):=gq λk _=>by show 0+(k:Int)=k;omega
  rw[<- e];exact hp
 have hlw:word.length=n:=by rw[hpw.length_eq,a_,kq]
 have ndw:word.Nodup:=hpw.nodup_iff.mpr (qi _ (λa b hab e=>hab (by omega)) Gu);have yg:∀{us:Q0a} (t:Nat) (u:Q0e),Ord.Under word us t u->u.length<=n:=λ{us} t u h=>by rw[<- hlw];exact Ord.c9 u word h.1 λa ha=>by obtain⟨s,_,_,h2,_⟩:=h.2 a ha;exact jz h2
 refine bM [Sv.ro (aG dr),Sv.ro (.int n),Sv.ro (.int th),v3,Sv.ow (aG word),kv,Sv.ow (.jA [] []),Sv.no,Sv.no,Sv.no,Sv.no] rfl ?_;refine bM [Sv.ro (aG dr),Sv.ro (.int n),Sv.ro (.int th),v3,Sv.ow (aG word),kv,Sv.ow (.jA [] []),Sv.ro (.int n),Sv.no,Sv.no,Sv.no] rfl ?_;refine mH (λρ=>∃(us:Q0a) (v7 v8 v9 v10:Sv),us.length=n/\Ord.Good word us/\ρ=[Sv.ro (aG dr),Sv.ro (.int n),Sv.ro (.int th),v3,Sv.ow (aG word),kv,Sv.ow (.jA (word.map cz) (us.map aG)),v7,v8,v9,v10]) ?_ ?_
 .refine k7 n (λj ρ=>∃(us:Q0a) (v8 v9 v10:Sv),us.length=j/\Ord.Good word us/\ρ=[Sv.ro (aG dr),Sv.ro (.int n),Sv.ro (.int th),v3,Sv.ow (aG word),kv,Sv.ow (.jA ((word.take j).map cz) (us.map aG)),Sv.ro (.int ((n+Ord.tri j:Nat):Int)),v8,v9,v10])
   rfl (by omega) ⟨[],Sv.no,Sv.no,Sv.no,rfl,(λt u e=>by simp at e),rfl⟩ ?_ ?_
  .rintro j _ hj ⟨us,v8,v9,v10,hul,hg,rfl⟩;refine⟨_,rfl,?_⟩;refine K3 [Sv.ro (aG dr),Sv.ro (.int n),Sv.ro (.int th),v3,Sv.ow (aG word),kv,Sv.ow (.jA ((word.take j).map cz) (us.map aG)),Sv.ro (.int ((n+Ord.tri j:Nat):Int)),Sv.ro (.int j),Sv.ro (.lst []),v10] rfl ?_;refine RP (λρ=>∃(u:Q0e) (v10:Sv),Ord.Under word us j u/\ρ=[Sv.ro (aG dr),Sv.ro (.int n),Sv.ro (.int th),v3,Sv.ow (aG word),kv,Sv.ow (.jA ((word.take j).map cz) (us.map aG)),Sv.ro (.int ((n+Ord.tri (j+1):Nat):Int)),Sv.ro (.int j),Sv.ro (aG u),v10]) ?_ ?_
   .refine k7 j (λi ρ=>∃(u:Q0e) (v10:Sv),Ord.Under word us i u/\ρ=[Sv.ro (aG dr),Sv.ro (.int n),Sv.ro (.int th),v3,Sv.ow (aG word),kv,Sv.ow (.jA ((word.take j).map cz) (us.map aG)),Sv.ro (.int ((n+Ord.tri j+i:Nat):Int)),Sv.ro (.int j),Sv.ro (aG u),v10])
     rfl (by omega) ⟨[],_,⟨mw,λa ha=>(nomatch ha)⟩,rfl⟩ ?_ ?_
    .rintro i _ hi ⟨u,v10,hU,rfl⟩;have tl:=Ord.aCA hj hi;obtain⟨y,hy⟩:∃y,dr[n+Ord.tri j+i]?=aa y:=⟨_,bc (by omega)⟩;obtain⟨x,hx⟩:∃x,word[i]?=aa x:=⟨_,bc (by omega)⟩;obtain⟨v,hv⟩:∃v,us[i]?=aa v:=⟨_,bc (by omega)⟩;have lv:=yg _ _ (hg i v hv);have lu:=yg _ _ hU;refine⟨_,rfl,?_⟩;refine RP (λρ=>∃u':Q0e,Ord.Under word us (i+1) u'/\ρ=[Sv.ro (aG dr),Sv.ro (.int n),Sv.ro (.int th),v3,Sv.ow (aG word),kv,Sv.ow (.jA ((word.take j).map cz) (us.map aG)),Sv.ro (.int ((n+Ord.tri j+i:Nat):Int)),Sv.ro (.int j),Sv.ro (aG u'),Sv.ro (.int i)]) ?_ ?_
     .refine Wj (Zv (y%4<th)) ?_ (λ_=>?_) (λ_=>aCB ⟨u,hU.mono (by omega),rfl⟩)
      .simp only[aG]
       walk_at "ev"
       rw[jI hy]
       walk_at "ev"
       rw[eJ (by decide)]
       walk_at "ev"
      .refine ⟨_,?_,_,hU.step ndw hg hx hv,rfl⟩;have hf:=me (λa=>!u.contains a) (v++[x]);have e1:gY (g1 0) (tV (aE (mB ae) (aB 0) (aB 1))) (aB 0) [af,aa (.lst (u.map D.int))] ((v++[x]).map D.int)=aa (((v++[x]).filter λa=>!u.contains a).map D.int) :=
        eA D.int _ D.int (v++[x]) λa _=>⟨_,rfl,by walk_at "ev",λ_=>rfl⟩
       have e2:aE dG (aE vY (aB 6) (aE dC (aB 4) (aB 10))) (fQ (aA (aE dC (aB 4) (aB 10)) aF)) [aa (aG dr),aa (.int n),aa (.int th),v3.all,aa (aG word),kv.all,aa (.jA ((word.take j).map cz) (us.map aG)),aa (.int ((n+Ord.tri j+i:Nat):Int)),aa (.int j),aa (aG u),aa (.int i)]=aa (.lst ((v++[x]).map D.int)):=by
        simp only[aG]
        walk_at "ev"
        rw[jI hx]
        walk_at "ev"
        simp only[vY,vX,dz];have:=sO (a4F (Gh j word) ndw) (RS hx hi) hv;simp only[aG] at this;rw[this];simp only[fQ]
        walk_at "ev"
        rw[jI hx]
        walk_at "ev"
        rw[Z_ (by decide),dz,qD (by simp;omega)];simp
       have e3:a9 1 [9] (bE (aE dG (aE vY (aB 6) (aE dC (aB 4) (aB 10))) (fQ (aA (aE dC (aB 4) (aB 10)) aF)))) (g1 0) (tV (aE (mB ae) (aB 0) (aB 1))) (aB 0) [aa (aG dr),aa (.int n),aa (.int th),v3.all,aa (aG word),kv.all,aa (.jA ((word.take j).map cz) (us.map aG)),aa (.int ((n+Ord.tri j+i:Nat):Int)),aa (.int j),aa (aG u),aa (.int i)]=aa (.lst (((v++[x]).filter λa=>!u.contains a).map D.int)) :=
        dU ((v++[x]).map D.int) (by unfold bE;rw[e2];rfl) (by simp;omega) e1
       unfold lP;have e4:aE NJ (aB 9) (a9 1 [9] (bE (aE dG (aE vY (aB 6) (aE dC (aB 4) (aB 10))) (fQ (aA (aE dC (aB 4) (aB 10)) aF)))) (g1 0) (tV (aE (mB ae) (aB 0) (aB 1))) (aB 0)) [aa (aG dr),aa (.int n),aa (.int th),v3.all,aa (aG word),kv.all,aa (.jA ((word.take j).map cz) (us.map aG)),aa (.int ((n+Ord.tri j+i:Nat):Int)),aa (.int j),aa (aG u),aa (.int i)]=aa (aG (u++(v++[x]).filter λa=>!u.contains a)):=by refine aY (x:=aG u) rfl e3 ?_;show NJ (.lst (u.map D.int)) _=_;rw[RM (by simp only[a_,fu,de,mx] at hf ⊢;omega),<- gu];rfl
       rw[show bY _=[aa (aG dr),aa (.int n),aa (.int th),v3.all,aa (aG word),kv.all,aa (.jA ((word.take j).map cz) (us.map aG)),aa (.int ((n+Ord.tri j+i:Nat):Int)),aa (.int j),aa (aG u),aa (.int i)] from rfl,e4];show(if oY (aG _)=ae then _ else _)=_;rw[Z_ (show oY (aG _)=ae from sN _)];rfl
     rintro _ ⟨u',hU',rfl⟩;exact⟨_,rfl,u',_,hU',rfl⟩
    .rintro _ ⟨u,v10,hU,rfl⟩;exact⟨u,v10,hU,by rw[a2m];rfl⟩
   rintro _ ⟨u,v10,hU,rfl⟩;obtain⟨x,hx⟩:∃x,word[j]?=aa x:=⟨_,bc (by omega)⟩;refine⟨[Sv.ro (aG dr),Sv.ro (.int n),Sv.ro (.int th),v3,Sv.ow (aG word),kv,Sv.ow (.jA ((word.take (j+1)).map cz) ((us++[u]).map aG)),Sv.ro (.int ((n+Ord.tri (j+1):Nat):Int)),Sv.ro (.int j),Sv.ro (aG u),v10],?_,us++[u],Sv.ro (.int j),Sv.ro (aG u),v10,by simp[hul],hg.snoc (by rw[hul];exact hU),rfl⟩;have hno:jF ((word.take j).map cz) (us.map aG) (cz x)=af:=AK λhm=>by
    obtain⟨t,ht⟩:=p_.mp hm;have htl:t<j:=by have:=(cq.mp ht).1;rw[jm] at this;omega
    rw[vt htl] at ht;have:=Ord.wK ndw ht hx;omega
   unfold KU
   walk_at "ev"
   simp only[vZ,dz];have e5:dC (aG word) (.int (j:Int))=aa (.int x):=jI hx;rw[e5];simp only[dz,vX,hno,Option.isNone_none,true_and];rw[Z_ (by rw[a_];show us.length<16777216;omega),a2p,hx,gu,gu];rfl
  .rintro _ ⟨us,v8,v9,v10,hul,hg,rfl⟩;refine⟨us,Sv.ro (.int ((n+Ord.tri n:Nat):Int)),v8,v9,v10,hul,hg,?_⟩;rw[vd (by omega)]
 rintro _ ⟨us,v7,v8,v9,v10,hul,hg,rfl⟩;have ec:∃rows:Q0a,rows.length=(bu n).length/\(∀(i:Nat) (b:Nat) (r:Q0e),(bu n)[i]?=aa b->rows[i]?=aa r ->∀(t:Nat) (u:Q0e),word[t]?=aa (b:Int)->us[t]?=aa u->r.Perm u/\r.Pairwise (· <= ·)) /\
   gY (g1 0) bP (bX cQ (aA (bX eQ (aA (aE vY (aB 1) (aB 0)) aF)) aF)) [af,aa (.jA (word.map cz) (us.map aG))] ((bu n).map λb:Nat=>D.int (b:Int))=aa (rows.map tupI):=by
  refine RO (λb:Nat=>D.int (b:Int)) tupI _ (bu n) λb hb=>?_;have hb2:=dm.mp hb;have hm:(b:Int)∈word:=hpw.mem_iff.mpr (cg.mpr ⟨b,hb,rfl⟩);obtain⟨t,ht⟩:=p_.mp hm;obtain⟨u,hu2⟩:∃u,us[t]?=aa u:=⟨_,bc (by have:=(cq.mp ht).1;omega)⟩;have lu:=yg _ _ (hg t u hu2);refine⟨_,sortI u,rfl,?_,λt' u' e1 e2=>?_⟩
  .walk_at "ev"
   simp only[vY,vX,dz];rw[sO ndw ht hu2];simp only[aG]
   walk_at "ev"
   rw[sorted_ints (by omega)];rfl
  .have e:=Ord.wK ndw e1 ht;subst e;rw[hu2] at e2;cases e2;exact⟨sortI_perm u,iC u⟩
 obtain⟨rows,hr1,hr2,ec⟩:=ec;rw[kq] at hr1;refine fW (aJ rows) ?_ ⟨rows,hr1,hg.rows hul hpw hr1 λb t r u e1 e2 e3=>hr2 b b r (by rw[mf (by have:=(cq.mp e1).1;omega)]) e1 t u e2 e3,rfl⟩;have e6:(bI 0 n).map D.int=(bu n).map λb:Nat=>D.int (b:Int):=by unfold bI;rw[cc];exact gq λb _=>by show D.int (0+(b:Int))=_;rw[je]
 have e7:=dU (nl:=1) (fr:=[6]) (it:=bA (aA (aB 1) aF)) (g:=g1 0) (t:=bP) (e:=bX cQ (aA (bX eQ (aA (aE vY (aB 1) (aB 0)) aF)) aF)) (ρ:=bY [Sv.ro (aG dr),Sv.ro (.int n),Sv.ro (.int th),v3,Sv.ow (aG word),kv,Sv.ow (.jA (word.map cz) (us.map aG)),v7,v8,v9,v10]) ((bI 0 n).map D.int)
  (by walk_at "ev";exact qE (by omega)) (by rw[a_,aS];omega) (by rw[e6];exact ec)
 exact cV e7 rfl
theorem YT(n:Nat):2*Ord.tri n+n=n*n:=by
 induction n with
 |zero=>rfl
 |succ n ih =>
  show 2*(Ord.tri n+n)+(n+1)=(n+1)*(n+1);have:(n+1)*(n+1)=n*n+2*n+1:=by rw[Nat.add_mul,Nat.mul_add];omega
  omega
theorem RV(ns:Q0e)(k m s:Int)(h0:0<=m)(h1:m<=9):
  ∃d,jZ [.rY ns,.int k,.int m,.int s]=.ok d /\∃rows:Q0a,(rows.length:Int)<=m/\Ord.Rows rows/\d=aJ rows:=by
 unfold jZ;refine iP rfl ?_;obtain⟨c1,ec1⟩:=vC ns k;obtain⟨xs,hx,hxn,ex⟩:=wW c1 4 s (by decide) (by decide);obtain⟨c2,ec2⟩:=vC ns (k+1);obtain⟨a,b,r,rfl⟩:∃a b r,xs=a::b::r:=by
  match xs,hx with
  |a::b::r,_=>exact⟨a,b,r,rfl⟩
 have hm0:=ml a (show m+1≠0 by omega);have hm1:=oq a (show 0<m+1 by omega);obtain⟨n,hn⟩:∃n:Nat,a%(m+1)=(n:Int):=⟨(a%(m+1)).toNat,by omega⟩;have hn9:n<=9:=by omega
 have et:=YT n;have hq:(n:Int)*((n:Int)-1)/2=(Ord.tri n:Int):=by
  have:(n:Int)*((n:Int)-1)=2*(Ord.tri n:Int):=by
   have e2:((n*n:Nat):Int)=(n:Int)*n:=by simp
   rw[Int.mul_sub,He];omega
  rw[this,Int.mul_ediv_cancel_left _ (by decide)]
 have aM6:Ord.tri n<=36:=Ord.RL hn9;obtain⟨ys,hy,hyn,ey⟩:=wW c2 ((n:Int)+Ord.tri n) (s+10007) (by omega) (by omega);refine bM _ (dH (aG (a::b::r)) (jS (bQ rfl rfl ec1) rfl rfl ex) rfl) ?_;refine bM _ (dH (.int n) ?_ rfl) ?_
 .simp only[aG]
  walk_at "ev"
  rw[show z9 (D.int a::D.int b::r.map D.int) 0=aa (D.int a) from CA (k:=0) rfl]
  walk_at "ev"
  rw[eJ (by omega),hn]
 refine bM _ (dH (aG ys) (jS (bQ rfl rfl ec2) ?_ rfl ey) rfl) ?_
 .walk_at "ev"
  rw[mG (by omega)]
  walk_at "ev"
  rw[mF (by decide) (by decide),hq]
  walk_at "ev"
 have hb0:=ml b (show(8:Int)≠0 by decide);have hb1:=oq b (show(0:Int)<8 by decide);have hth:∃th:Int,aE dC (fQ (aA (eC (.int 1)) (aA (eC (.int 1)) (aA (eC (.int 2)) (aA (eC (.int 2)) (aA (eC (.int 3)) (aA (eC (.int 1)) (aA (eC (.int 0)) (aA (eC (.int 4)) aF))))))))) (aE lW (aE dC (aB 4) (eC (.int 1))) (eC (.int 8))) [aa (.rY ns),aa (.int k),aa (.int m),aa (.int s),aa (aG (a::b::r)),aa (.int n),aa (aG ys)]=aa (.int th):=by
  obtain⟨x,hx,e,_⟩:=B9 (xs:=[(1:Int),1,2,2,3,1,0,4]) (i:=b%8) hb0 hb1;refine⟨x,aY (x:=.lst ([(1:Int),1,2,2,3,1,0,4].map D.int)) rfl (y:=.int (b%8)) ?_ ?_⟩
  .refine aY (x:=.int b) (y:=.int 8) ?_ rfl (eJ (by decide));simp only[aG]
   walk_at "ev"
   exact CA (k:=1) rfl
  .rw [jH,iB,e];rfl
 obtain⟨th,eth⟩:=hth;obtain⟨d,ed,rows,hr1,hr2,rfl⟩:=RU ys n th hn9 (by omega);exact fW (aJ rows) (jS rfl rfl eth ed) ⟨rows,by omega,hr2,rfl⟩
noncomputable def CD:Nat->D->Prop
 |0,_=>False
 |n+1,.tup ds=>ds.length<=1000000 /\∀d∈ds,CD n d
 |_+1,.int _=>True
 |_+1,.bl _=>True
 |_+1,.non=>True
 |_+1,.str _=>True
 |_+1,_=>False
def isi(h:f ρ=aa d)(hn:HL d=ae:=by rfl):jB T f ρ=aa (.bl (HK T d)):=by unfold jB;rw[h];exact Z_ hn
theorem same_refl:∀(n:Nat) (d:D),CD n d->cR n [d,d]=.ok (.bl ae)
 |0,_,h=>h.elim
 |n+1,.tup ds,h=>by
  have hl:=h.1;unfold cR;refine d9 rfl (oA (zF (by unfold tV;rw[isi rfl];rfl) (bL _ (lZ ?_ rfl) (dR ?_))))
  .simp only[dZ,aK,gI,bF,bD,RB,lX,RC,lP,EV,sX,dY,dQ,aB,eC,aE,tV,lU,lV,z8,pX,wt,vS,KR,Q7,HI,aF,aA,bX,aI,EO,jB,bE,bA,jG,yl,yi,g1,g2,mC,NN,AB,bP,benv,QY,Q9,oE,asInt,bK,oX,oV,bY,jR,Sv.all,Sv.rd,bt,j_,vv,r6,Gw,Fw,Fx,dz,Fy,pj,Fv,Gm,Gn,Gk,de,mx,a_,Hc,vk,jb,Gq,Nat.reduceSub,Nat.reduceAdd,Nat.reduceEqDiff,gK,pD,pE,wM,YH,iO,j3,nI,B5,qC,nJ,fH,nK,sF,nL,B6,pZ,jH,kZ,B7,j4,fV,wL,k5,pC,sG,sH,sI,sJ,nM,nN,wN,wQ,if_true,if_false,ite_true,ite_false,reduceIte,decide_true,decide_false,decide_eq_true_eq,sr,vz,Hh,qF,qG];simp[HK,tyM,dZ,bY,jB,HL,aB,Sv.all,l9]
  .have e1:=dU (nl:=1) (fr:=[0,1]) (it:=bA (aA (bX cM (aA (aB 1) aF)) aF)) (g:=g1 0) (t:=bP) (e:=aI (cR n) (aA (aE dC (aB 1) (aB 0)) (aA (aE dC (aB 2) (aB 0)) aF))) (ρ:=[aa (.tup ds),aa (.tup ds)]) ((bI 0 ds.length).map D.int) (ys:=(bI 0 ds.length).map λ_=>D.bl ae)
    (by simp only[dZ,aK,gI,bF,bD,RB,lX,RC,lP,EV,sX,dY,dQ,aB,eC,aE,tV,lU,lV,z8,pX,wt,vS,KR,Q7,HI,aF,aA,bX,aI,EO,jB,bE,bA,jG,yl,yi,g1,g2,mC,NN,AB,bP,benv,QY,Q9,oE,asInt,bK,oX,oV,bY,jR,Sv.all,Sv.rd,bt,j_,vv,r6,Gw,Fw,Fx,dz,Fy,pj,Fv,Gm,Gn,Gk,de,mx,a_,Hc,vk,jb,Gq,Nat.reduceSub,Nat.reduceAdd,Nat.reduceEqDiff,gK,pD,pE,wM,YH,iO,j3,nI,B5,qC,nJ,fH,nK,sF,nL,B6,pZ,jH,kZ,B7,j4,fV,wL,k5,pC,sG,sH,sI,sJ,nM,nN,wN,wQ,if_true,if_false,ite_true,ite_false,reduceIte,decide_true,decide_false,decide_eq_true_eq,sr,vz,Hh,qF,qG];exact qE (by omega)) (by rw[a_,aS];omega) (AI D.int (λ_=>D.bl ae) (bI 0 ds.length) λk hk=>by have hk:=b7.mp hk;obtain⟨x,hx,e,_⟩:=B9 (xs:=ds) (i:=k) (by omega) (by omega);show aI (cR n) _ _=_;exact bQ (aY rfl rfl e) (aY rfl rfl e) (same_refl n x (h.2 x hx)))
   refine cV e1 ?_;have:(bI 0 ds.length).map (λ_=>D.bl ae)=((bI 0 ds.length).map λ_=>ae).map D.bl:=by rw[cc];rfl
   rw[this,vB];congr 2;simp
 |n+1,.int i,_=>by unfold cR;refine d9 rfl (bL _ (lZ rfl rfl) (bL _ (lZ rfl rfl) (bL _ (lZ rfl rfl) (oA (zF rfl (dR ?_))))));show pX _ _ _=_;simp[pX,vS,jB,HL,aB,HK,tyM,tZ,aE,fH,sF,nL,dZ,bY,Sv.all]
 |n+1,.bl b,_=>by unfold cR;refine d9 rfl (bL _ (lZ rfl rfl) (bL _ (lZ rfl rfl) (oA (zF rfl (dR ?_)))));simp[pX,vS,jB,HL,aB,HK,tyM,tZ,aE,fH,sF,nL,dZ,bY,Sv.all]
 |n+1,.non,_=>by unfold cR;exact d9 rfl (bL _ (lZ rfl rfl) (oA (zF rfl (dR rfl))))
 |n+1,.str x,_=>by unfold cR;refine d9 rfl (bL _ (lZ rfl rfl) (bL _ (lZ rfl rfl) (bL _ (lZ rfl rfl) (bL _ (lZ rfl rfl) (dR ?_)))));simp[pX,vS,jB,HL,aB,HK,tyM,tZ,aE,fH,sF,nL,dZ,bY,Sv.all]
 |n+1,.lst _,h=>h.elim
 |n+1,.rY _,h=>h.elim
 |n+1,.jA _ _,h=>h.elim
 |n+1,.c7 _ _ _,h=>h.elim
 |n+1,.exc _ _,h=>h.elim
 |n+1,.rws _,h=>h.elim
def pG(h:xs.length<=1000000):CD (n+2) (tupI xs):=⟨by rw[a_];exact h,λd hd=>by obtain⟨i,_,rfl⟩:=cg.mp hd;trivial⟩
theorem sQ{α:Type}(P:bO->Prop)(mk:α->D)(ok:α->Bool):∀(l:List α) (ρ:bO),P ρ->(∀a∈l,∀ρ,P ρ ->∃ρ1,g (mk a) ρ=aa ρ1/\(ok a=ae->Nx (b ρ1) P)/\(ok a=ag->b ρ1=.rt z)) ->
  (l.all ok=ae->Nx (eR g b (l.map mk) ρ) P)/\(l.all ok=ag->eR g b (l.map mk) ρ=.rt z)
 |[],ρ,h,_=>⟨λ_=>⟨ρ,rfl,h⟩,λe=>by cases e⟩
 |a::l,ρ,h,step=>by
  obtain⟨ρ1,e1,h1,h2⟩:=step a (by simp) ρ h
  cases hd:ok a with
  |true =>
   obtain⟨ρ2,e2,p2⟩:=h1 hd;have ih:=sQ P mk ok l ρ2 p2 λd' hd'=>step d' (by simp[hd']);simp only[bt,eR,e1,e2,mj,hd,ku];exact ih
  |false =>
   have e2:=h2 hd;simp only[bt,eR,e1,e2,mj,hd,Ad];exact⟨λe=>(by cases e),λ_=>trivial⟩
def row(rows:Q0a)(b:Int):List Int:=(rows[b.toNat]?).getD []
def iQ(h0:0<=i)(h1:i<rows.length):dC (aJ rows) (.int i)=aa (tupI (row rows i)):=by
 have hl:i.toNat<rows.length:=by omega
 rw[show aJ rows=.tup (rows.map tupI) from rfl,kZ,iB];unfold z9 row;rw[wU h0 h1];simp[hl]
def pH:mB ag (.int i) (tupI xs)=aa (.bl (xs.contains i)):=by unfold tupI;rw[qF];rfl
def K5:mB ae (.int i) (tupI xs)=aa (.bl (!xs.contains i)):=by unfold tupI;rw[qF];rfl
def eE:cM [aJ rows]=aa (.int rows.length):=by unfold aJ;rw[fV,a_]
def j6:cM [tupI xs]=aa (.int xs.length):=by unfold tupI;rw[fV,a_]
theorem zipIdx_map{α β:Type}(f:α->β)(l:List α)(m:Nat):(l.map f).zipIdx m=(l.zipIdx m).map λp=>(f p.1,p.2):=by
 induction l generalizing m with
 |nil=>rfl
 |cons a l ih=>simp[a2o,ih]
def pairD(p:Int×Int):D:=.tup [.int p.1,.int p.2]
noncomputable def exts(cand:List Int->List Int):Nat->List Int->List (List Int)
 |0,w=>[w]
 |k+1,w=>(cand w).flatMap λt=>exts cand k (w++[t])
noncomputable def YA(cand:List Int->List Int):Nat->List Int->Option (List Int)
 |0,w=>aa w
 |k+1,w=>(cand w).findSome? λt=>YA cand k (w++[t])
theorem RW(cand:List Int->List Int):∀k w,YA cand k w=(exts cand k w).head?
 |0,w=>rfl
 |k+1,w=>by
  rw[YA,exts];generalize cand w=l
  induction l with
  |nil=>rfl
  |cons t l ih =>
   rw[a2M,zv,RW cand k,List.head?_append,<- ih];cases (exts cand k (w++[t])).head?<;>rfl
theorem qJ:∀{k w v},v∈exts cand k w ->∃u,v=w++u/\u.length=k
 |0,w,v,h=>⟨[],by simpa[exts] using h,rfl⟩
 |k+1,w,v,h=>by obtain⟨t,ht,h⟩:=oi.1 (show v∈(cand w).flatMap λt=>exts cand k (w++[t]) from h);obtain⟨u,rfl,hu⟩:=qJ h;exact⟨t::u,by rw[ng];rfl,by rw[de,hu]⟩
def RX(ok:List Int->Int->Bool)(m:Nat)(v:Q0e):Bool:=(bu v.length).all λi=>Zv (i<m)||ok (v.take i) (v.getD i 0)
def nO:RX ok m v=ae ↔ ∀i,m<=i->i<v.length->ok (v.take i) (v.getD i 0)=ae:=by
 unfold RX;rw[gw]
 constructor
 .intro h i h1 h2;have:=h i (dm.2 h2);rw[vy,decide_eq_true_eq] at this;rcases this with z|z
  .omega
  .exact z
 .intro h i hi;rw[vy,decide_eq_true_eq];by_cases z:i<m
  .exact .inl z
  .exact .inr (h i (by omega) (dm.1 hi))
def E2:RX ok w.length (w++t::u)=(ok w t&&RX ok (w++[t]).length (w++t::u)):=by
 have e1:(w++t::u).take w.length=w:=by simp
 have e2:(w++t::u).getD w.length 0=t:=by simp
 rw[gx,fz,nO,nO]
 constructor
 .intro h;refine⟨by have:=h w.length (bj _) (by simp);rwa [e1,e2] at this,λi h1 h2=>h i (by rw[fu] at h1;omega) h2⟩
 .rintro ⟨h1,h2⟩ i h3 h4;by_cases z:i=w.length
  .subst z;rw[e1,e2];exact h1
  .exact h2 i (by rw[fu,vp];omega) h4
theorem mI:∀k w,exts (λw=>(base w).filter (ok w)) k w=(exts base k w).filter (RX ok w.length)
 |0,w=>by
  have:RX ok w.length w=ae:=nO.2 λi h1 h2=>by omega
  simp[exts,this]
 |k+1,w=>by
  rw[exts,exts,List.filter_flatMap];generalize base w=l
  induction l with
  |nil=>rfl
  |cons t l ih =>
   rw[zv,<- ih];have hv:(exts base k (w++[t])).filter (RX ok w.length)=if ok w t=ae then(exts base k (w++[t])).filter (RX ok (w++[t]).length) else[]:=by
    split
    .rename_i h;refine Gy λv hv=>?_;obtain⟨u,rfl,_⟩:=qJ hv;rw[ng,a2s,E2,h,ku]
    .rename_i h;refine zw.2 λv hv=>?_;obtain⟨u,rfl,_⟩:=qJ hv;rw[ng,a2s,E2];simp[h]
   rw[hv,m_];split
   .rw [zv,mI k]
   .rfl
def rg(n:Nat):List Int:=(bu n).map λk:Nat=>(k:Int)
def dJ:a∈rg n↔0<=a/\a<(n:Int):=by
 unfold rg;rw[cg]
 constructor
 .rintro ⟨k,hk,rfl⟩;have:=dm.1 hk;omega
 .rintro ⟨h1,h2⟩;exact⟨a.toNat,dm.2 (by omega),by omega⟩
def left(n:Nat)(w:Q0e):List Int:=(rg n).filter λt=>!w.contains t
theorem AL:∀{k w v},w.Nodup->(∀a∈w,a∈rg n)->v∈exts (left n) k w->v.Nodup /\∀a∈v,a∈rg n
 |0,w,v,h1,h2,h=>by
  have e:v=w:=by simpa[exts] using h
  subst e;exact⟨h1,h2⟩
 |k+1,w,v,h1,h2,h=>by
  obtain⟨t,ht,h⟩:=oi.1 (show v∈(left n w).flatMap λt=>exts (left n) k (w++[t]) from h);obtain⟨t1,t2⟩:=cj.1 ht;have t2:t∉w:=by simpa using t2
  refine AL (jy.2 ⟨h1,by simp,λa ha b hb e=>?_⟩) (λa ha=>?_) h
  .rw [cp] at hb;subst hb;subst e;exact t2 ha
  .rcases h_.1 ha with ha|ha
   .exact h2 a ha
   .rw [cp] at ha;subst ha;exact t1
theorem E3:∀{u w},(w++u).Nodup->(∀a∈u,a∈rg n)->w++u∈exts (left n) u.length w
 |[],w,_,_=>by simp[exts]
 |t::u,w,h1,h2=>by
  have e:w++t::u=(w++[t])++u:=by rw[ng];rfl
  rw[de,exts];refine oi.2 ⟨t,cj.2 ⟨h2 t cn,?_⟩,?_⟩
  .have:=(jy.1 h1).2.2;simp only[Ab,a2T,decide_eq_false_iff_not];exact λz=>this t z t cn rfl
  .rw [e] at h1 ⊢;exact E3 h1 λa ha=>h2 a (dq _ ha)
structure Full (n:Nat) (v:Q0e):Prop where
 len:v.length=n
 nd:v.Nodup
 rng:∀a∈v,a∈rg n
def vD(h:v∈exts (left n) n []):Full n v:=by obtain⟨u,e,hu⟩:=qJ h;obtain⟨h1,h2⟩:=AL mw (λa ha=>nomatch ha) h;exact⟨by rw[e];exact hu,h1,h2⟩
def YU(h:Full n v):v∈exts (left n) n []:=by have:=E3 (n:=n) (u:=v) (w:=[]) (by simpa using h.nd) h.rng;rw[h.len] at this;simpa using this
abbrev at1(v:Q0e)(i:Nat):Int:=v.getD i 0
def vE(h:Full n v)(hi:i<n):at1 v i∈v:=by
 have hl:i<v.length:=by rw[h.len];exact hi
 unfold at1;rw[fm,bc hl];exact mz hl
def Full.at(h:Full n v){i:Nat}(hi:i<n):0<=at1 v i/\at1 v i<(n:Int):=dJ.1 (h.rng _ (vE h hi))
def Full.inj(h:Full n v)(hi:i<n)(hj:j<n)(e:at1 v i=at1 v j):i=j:=by
 have hl:i<v.length:=by rw[h.len];exact hi
 have hm:j<v.length:=by rw[h.len];exact hj
 unfold at1 at e;rw[fm,fm,bc hl,bc hm] at e;exact(zr h.nd).1 e
def Full.QZ(h:Full n v)(ha:a∈rg n):∃i,i<n/\at1 v i=a:=by
 have hv:a∈v:=by
  refine Aa λz=>?_;have:=Ord.c9 (a::v) (rg n) (gz.2 ⟨z,h.nd⟩) λb hb=>by
   rcases cb.1 hb with rfl|hb
   .exact ha
   .exact h.rng b hb
  rw[de,h.len] at this;unfold rg at this;rw[a_,kq] at this;omega
 obtain⟨i,hi,e⟩:=qe hv;refine⟨i,by rw[<- h.len];exact hi,?_⟩;unfold at1;rw[fm,bc hi];exact e
def vF(n:Nat):Full n (rg n):=by refine⟨by unfold rg;simp,?_,λa h=>h⟩;unfold rg;refine qi _ (λa b h=>?_) Gu;exact λe=>h (by omega)
def qK(h:j<i):at1 (v.take i) j=at1 v j:=by unfold at1;rw[fm,fm,vt h]
def tyB(x:Q0a)(a b:Int):Bool:=(row x b).contains a
def b8(x:Q0a)(a b:Int):Bool:=tyB x a b && !(row x b).any λc=>tyB x a c
def kdS(x:Q0a)(a b:Int):Option ak:=if tyB x a b=ae then aa (if b8 x a b=ae then(if b<a then "strict" else "plain") else "not bare") else af
def k8(h0:0<=b)(h1:b<(x.length:Int)):x[b.toNat]?=aa (row x b):=by unfold row;rw[bc (by omega)];rfl
def jJ(hx:Ord.Rows x)(h0:0<=b)(h1:b<(x.length:Int))(h:a∈row x b):a∈rg x.length:=dJ.2 (hx.rng _ _ (k8 h0 h1) a h)
def iD(hx:Ord.Rows x)(h0:0<=b)(h1:b<(x.length:Int)):tyB x b b=ag:=by unfold tyB;have:=hx.HF _ _ (k8 h0 h1);rw[show((b.toNat:Nat):Int)=b by omega] at this;simpa using this
def KT(n:Nat)(x y:Q0a)(v:Q0e):Prop:=∀i j:Nat,i<n->j<n->i≠j->tyB x i j=tyB y (at1 v i) (at1 v j)
def KA(n:Nat)(x y:Q0a)(v:Q0e):Prop:=∀i j:Nat,i<n->j<n->i≠j->kdS x i j=kdS y (at1 v i) (at1 v j)
def KB(n:Nat)(x y:Q0a)(v:Q0e):Prop:=KT n x y v /\∀i j:Nat,i<n->j<n->i≠j->b8 x i j=ae->(i<j->¬ at1 v j<at1 v i)/\(j<i->¬ at1 v i<at1 v j)
section
variable{n:Nat}{x y:Q0a}{v:Q0e}
def sR(hx:Ord.Rows x)(hy:Ord.Rows y)(lx:x.length=n)(ly:y.length=n)(hv:Full n v)(h:KT n x y v)(hi:i<n)(hj:j<n)(hij:i≠j):b8 x i j=b8 y (at1 v i) (at1 v j):=by
 have vi:=hv.at hi;have vj:=hv.at hj;unfold b8;rw[h i j hi hj hij];congr 2;rw[gx,om,om]
 constructor
 .rintro ⟨c,c1,c2⟩;have cr:=jJ hx (by omega) (by omega) c1;rw[lx] at cr;obtain⟨h0,h1⟩:=dJ.1 cr;obtain⟨k,rfl⟩:∃k:Nat,c=(k:Int):=⟨c.toNat,by omega⟩;have hk:k<n:=by omega
  have kj:k≠j:=λe=>by subst e;have:=iD hx (b:=(k:Int)) (by omega) (by omega);unfold tyB at this;simp at this;exact this c1
  have ki:i≠k:=λe=>by subst e;rw[iD hx (b:=(i:Int)) (by omega) (by omega)] at c2;cases c2
  refine⟨at1 v k,?_,?_⟩
  .have:=h k j hk hj kj;unfold tyB at this;rw[show(row x (j:Int)).contains (k:Int)=ae by simpa using c1] at this;simpa using this.symm
  .rw [<- h i k hi hk ki];exact c2
 .rintro ⟨c,c1,c2⟩;have cr:=jJ hy (by omega) (by omega) c1;rw[ly] at cr;obtain⟨k,hk,rfl⟩:=hv.QZ cr;have kj:k≠j:=λe=>by subst e;have:=iD hy (b:=at1 v k) (by omega) (by omega);unfold tyB at this;simp at this;exact this c1
  have ki:i≠k:=λe=>by subst e;rw[iD hy (b:=at1 v i) (by omega) (by omega)] at c2;cases c2
  refine⟨(k:Int),?_,?_⟩
  .have:=h k j hk hj kj;unfold tyB at this;rw[show(row y (at1 v j)).contains (at1 v k)=ae by simpa using c1] at this;simpa using this
  .rw [h i k hi hk ki];exact c2
def K6{a b:Int}:(kdS x a b).isSome=tyB x a b:=by unfold kdS;cases tyB x a b<;>rfl
def E4(h:b8 x a b=ae):tyB x a b=ae:=by unfold b8 at h;exact(fz _ _▸h).1
def YV{a b:Int}(h:b8 x a b=ae):kdS x a b=aa (if b<a then("strict":ak) else("plain":ak)):=by unfold kdS;rw[Z_ (E4 h),Z_ h]
def YW{a b:Int}{c:Int}{d:Int}(h:kdS x a b=aa (if d<c then("strict":ak) else("plain":ak))):(b<a↔d<c):=by
 unfold kdS at h;split at h
 .have h:=dg h;by_cases hb:b8 x a b=ae
  .rw [Z_ hb] at h;by_cases h1:b<a<;>by_cases h2:d<c<;>simp only[h1,h2,if_true,if_false] at h ⊢
   .exact Zw h (by decide)
   .exact Zw h (by decide)
  .rw [Zz hb] at h;by_cases h2:d<c
   .rw [Z_ h2] at h;exact Zw h (by decide)
   .rw [Zz h2] at h;exact Zw h (by decide)
 .cases h
def Dr(hv:Full n v)(h:KA n x y v):KB n x y v:=by
 refine⟨λi j hi hj hij=>by rw[<- K6,<- K6,h i j hi hj hij],λi j hi hj hij hb=>?_⟩;have e:=h i j hi hj hij;rw[YV hb] at e;have:=YW e.symm
 constructor
 .intro z w;have:=this.1 w;omega
 .intro z w;have:=this.2 (by omega);omega
def RY(hx:Ord.Rows x)(hy:Ord.Rows y)(lx:x.length=n)(ly:y.length=n)(hv:Full n v)(h:KB n x y v):KA n x y v:=by
 intro i j hi hj hij;have hb:=sR hx hy lx ly hv h.1 hi hj hij;unfold kdS;rw[<- h.1 i j hi hj hij,<- hb];split
 .by_cases b:b8 x i j=ae
  .rw [Z_ b,Z_ b];obtain⟨h1,h2⟩:=h.2 i j hi hj hij b;have ne:at1 v i≠at1 v j:=λe=>hij (hv.inj hi hj e);by_cases z:(j:Int)<(i:Int)
   .rw [Z_ z,Z_ (by have:=h2 (by omega);omega)]
   .rw [Zz z,Zz (h1 (by omega))]
  .rw [Zz b,Zz b]
 .rfl
def aCE(hx:Ord.Rows x)(hy:Ord.Rows y)(lx:x.length=n)(ly:y.length=n)(hv:Full n v):KA n x y v↔KB n x y v:=⟨Dr hv,RY hx hy lx ly hv⟩
def HU(hv:Full n v)(ha:a<n):v.idxOf (a:Int)<n/\at1 v (v.idxOf (a:Int))=(a:Int):=by
 obtain⟨i,hi,e⟩:=hv.QZ (dJ.2 ⟨by omega,by omega⟩:(a:Int)∈rg n);have hm:(a:Int)∈v:=by rw[<- e];exact vE hv hi
 have hl:=a2G.2 hm;refine⟨by rw[<- hv.len];exact hl,?_⟩;unfold at1;rw[fm,bc hl];exact a2J hl
def abv(n:Nat)(x:Q0a)(c:Int):List ak:=(rg n).filterMap λb=>kdS x c b
def blw(n:Nat)(x:Q0a)(c:Int):List ak:=(rg n).filterMap λa=>kdS x a c
def lk(n:Nat)(x:Q0a)(c:Int):Lk:=(jC zE (abv n x c),jC zE (blw n x c))
def E5(hv:Full n v):v=(bu n).map λj=>at1 v j:=by
 refine nc λj=>?_;rw[ck];by_cases h:j<n
 .have hl:j<v.length:=by rw[hv.len];exact h
  rw[mf h,bc hl];show _=aa (at1 v j);unfold at1;rw[fm,bc hl];rfl
 .rw [gk (by rw[hv.len];omega),gk (by simpa using h)];rfl
def AM(hv:Full n v):v.Perm (rg n):=(vf hv.nd (vF n).nd).2 λa=>⟨hv.rng a,λha=>by obtain⟨i,hi,e⟩:=hv.QZ ha;rw[<- e];exact vE hv hi⟩
theorem E6{α β:Type}{f g:α->Option β}:∀{l:List α},(∀a∈l,f a=g a)->l.filterMap f=l.filterMap g
 |[],_=>rfl
 |a::l,h=>by rw[qh,qh,h a cn,E6 λb hb=>h b (dq _ hb)]
def K7{g h:Int->Option ak}(hv:Full n v)(e:∀j:Nat,j<n->h j=g (at1 v j)):((rg n).filterMap g).Perm ((rg n).filterMap h):=by
 refine((AM hv).symm.filterMap g).trans ?_;have e1:v.filterMap g=(bu n).filterMap λj=>g (at1 v j):=by have:=congrArg (List.filterMap g) (E5 hv);rw[Gz] at this;exact this
 have e2:(rg n).filterMap h=(bu n).filterMap λj:Nat=>h (j:Int):=by unfold rg;rw[Gz];rfl
 rw[e1,e2];refine a2Y (E6 λj hj=>?_);exact(e j (dm.1 hj)).symm
def RZ(hx:Ord.Rows x)(h0:0<=b)(h1:b<(x.length:Int)):kdS x b b=af:=by unfold kdS;rw[iD hx h0 h1];rfl
def K8(hx:Ord.Rows x)(hy:Ord.Rows y)(lx:x.length=n)(ly:y.length=n)(hv:Full n v)(h:KA n x y v)(hi:i<n):lk n x i=lk n y (at1 v i):=by
 have vi:=hv.at hi;have e0:kdS x i i=kdS y (at1 v i) (at1 v i):=by rw[RZ hx (by omega) (by omega),RZ hy (by omega) (by omega)]
 unfold lk;refine km ?_ ?_
 .refine (vA kX (K7 hv λj hj=>?_)).symm;by_cases e:i=j
  .subst e;exact e0
  .exact h i j hi hj e
 .refine (vA kX (K7 hv λj hj=>?_)).symm;by_cases e:j=i
  .subst e;exact e0
  .exact h j i hj hi e
def hV(x y:Q0a)(w:Q0e)(t:Int):Bool:=(bu w.length).all λj=>Zv (kdS x j w.length=kdS y (at1 w j) t)&&Zv (kdS x w.length j=kdS y t (at1 w j))
def t8(x y:Q0a)(w:Q0e)(t:Int):Bool:=(bu w.length).all λj=>(tyB x j w.length == tyB y (at1 w j) t)&&(tyB x w.length j == tyB y t (at1 w j))&&(!(b8 x j w.length&&Zv (t<at1 w j)) && !(b8 x w.length j&&Zv (t<at1 w j)))
def okD(n:Nat)(x y:Q0a)(w:Q0e)(t:Int):Bool:=Zv (lk n y t=lk n x w.length)&&hV x y w t
def j7(hv:Full n v)(hi:i<n):(v.take i).length=i:=by rw[jm,hv.len];omega
def YX(hx:Ord.Rows x)(hy:Ord.Rows y)(lx:x.length=n)(ly:y.length=n)(hv:Full n v):RX (okD n x y) 0 v=ae↔KA n x y v:=by
 rw[nO]
 constructor
 .intro h i j hi hj hij;have go:∀a b:Nat,b<n->a<b->kdS x a b=kdS y (at1 v a) (at1 v b)/\kdS x b a=kdS y (at1 v b) (at1 v a):=λa b hb hab=>by have:=h b (iz _) (by rw[hv.len];exact hb);unfold okD hV at this;rw[fz,gw] at this;have:=this.2 a (dm.2 (by rw[j7 hv hb];exact hab));rw[fz,decide_eq_true_eq,decide_eq_true_eq,j7 hv hb,qK hab] at this;exact this
  by_cases z:i<j
  .exact (go i j hj z).1
  .exact (go j i hi (by omega)).2
 .intro h b _ hb;rw[hv.len] at hb;unfold okD hV;rw[fz,decide_eq_true_eq,gw,j7 hv hb];refine⟨(K8 hx hy lx ly hv h hb).symm,λa ha=>?_⟩;have hab:=dm.1 ha;rw[fz,decide_eq_true_eq,decide_eq_true_eq,qK hab];exact⟨h a b (by omega) hb (by omega),h b a hb (by omega) (by omega)⟩
def CF(hv:Full n v):RX (t8 x y) 0 v=ae↔KB n x y v:=by
 have one:∀a b:Nat,b<n->a<b->(((tyB x a b == tyB y (at1 v a) (at1 v b))&&(tyB x b a == tyB y (at1 v b) (at1 v a))&&(!(b8 x a b&&Zv (at1 v b<at1 v a)) && !(b8 x b a&&Zv (at1 v b<at1 v a))))=ae ↔
   (tyB x a b=tyB y (at1 v a) (at1 v b)/\tyB x b a=tyB y (at1 v b) (at1 v a))/\(b8 x a b=ae->¬ at1 v b<at1 v a)/\(b8 x b a=ae->¬ at1 v b<at1 v a)):=λa b hb hab=>by
  rw[fz,fz,fz,beq_iff_eq,beq_iff_eq];simp only[Ab,Bool.and_eq_false_imp,decide_eq_false_iff_not]
 rw[nO]
 constructor
 .intro h;have go:∀a b:Nat,b<n->a<b->(tyB x a b=tyB y (at1 v a) (at1 v b)/\tyB x b a=tyB y (at1 v b) (at1 v a))/\(b8 x a b=ae->¬ at1 v b<at1 v a)/\(b8 x b a=ae->¬ at1 v b<at1 v a):=λa b hb hab=>by have:=h b (iz _) (by rw[hv.len];exact hb);unfold t8 at this;rw[gw] at this;have:=this a (dm.2 (by rw[j7 hv hb];exact hab));rw[j7 hv hb,qK hab] at this;exact(one a b hb hab).1 this
  refine⟨λi j hi hj hij=>?_,λi j hi hj hij hb=>?_⟩
  .by_cases z:i<j
   .exact (go i j hj z).1.1
   .exact (go j i hi (by omega)).1.2
  .by_cases z:i<j
   .exact ⟨λ_=>(go i j hj z).2.1 hb,λw=>by omega⟩
   .exact ⟨λw=>by omega,λw=>(go j i hi w).2.2 hb⟩
 .intro h b _ hb;rw[hv.len] at hb;unfold t8;rw[gw,j7 hv hb];intro a ha;have hab:=dm.1 ha;rw[qK hab];exact(one a b hb hab).2 ⟨⟨h.1 a b (by omega) hb (by omega),h.1 b a hb (by omega) (by omega)⟩,λz=>(h.2 a b (by omega) hb (by omega) z).1 hab,λz=>(h.2 b a hb (by omega) (by omega) z).2 hab⟩
def HV(n:Nat)(x y:Q0a):Option (List Int):=(exts (λw=>(left n w).filter (t8 x y w)) n []).head?
def jK:HV n x y=((exts (left n) n []).filter (RX (t8 x y) 0)).head?:=by unfold HV;rw[mI];rfl
def NS:(HV n x y=af) ↔ ∀v,Full n v->¬ KB n x y v:=by
 rw[jK,List.head?_eq_none_iff,zw]
 constructor
 .intro h v hv k;exact h v (YU hv) ((CF hv).2 k)
 .intro h v hv k;exact h v (vD hv) ((CF (vD hv)).1 k)
def YY(hx:Ord.Rows x)(hy:Ord.Rows y)(lx:x.length=n)(ly:y.length=n):YA (λw=>((rg n).filter λt=>Zv (lk n y t=lk n x w.length)).filter λt=>!w.contains t&&hV x y w t) n []=HV n x y:=by
 rw[RW];have e:(λw=>((rg n).filter λt=>Zv (lk n y t=lk n x w.length)).filter λt=>!w.contains t&&hV x y w t)=λw=>(left n w).filter (okD n x y w):=by
  funext w
  unfold left;rw[a2O,a2O];congr 1
  funext t
  unfold okD;cases (!w.contains t)<;>cases Zv (lk n y t=lk n x w.length)<;>cases hV x y w t<;>rfl
 rw[e,mI,jK];congr 1;refine Gy λv hv=>?_;have hv:=vD hv;rw[gx];exact(YX hx hy lx ly hv).trans ((aCE hx hy lx ly hv).trans (CF hv).symm)
def NT(hx:Ord.Rows x)(hy:Ord.Rows y)(lx:x.length=n)(ly:y.length=n)(h:jC HG ((rg n).map (lk n x))≠jC HG ((rg n).map (lk n y))):HV n x y=af:=by rw[NS];intro v hv k;have k:=RY hx hy lx ly hv k;refine h (vA wH ?_);refine a4B ?_ ((AM hv).map (lk n y));have e:=congrArg (a2D (lk n y)) (E5 hv);rw[e];unfold rg;rw[cc,cc];refine a2Y (gq λi hi=>?_);exact K8 hx hy lx ly hv k (dm.1 hi)
def E7(h:HV n x y=aa w):Full n w:=by rw[jK] at h;have:=a2z h;exact vD (cj.1 this).1
end
end LL
namespace Ord
def can(n:Nat)(R:Nat->Nat->Bool):List (List Int):=(bu n).map λb=>((bu n).filter λa=>R a b).map λa:Nat=>(a:Int)
def rel(rows:Q0a)(a b:Nat):Bool:=(rows.getD b []).contains (a:Int)
def iR(n:Nat)(R:Nat->Nat->Bool):(can n R).length=n:=by simp[can]
def CG(hb:b<n):(can n R)[b]?=aa (((bu n).filter λa=>R a b).map λa:Nat=>(a:Int)):=by unfold can;rw[ck,mf hb];rfl
def qL{n:Nat}{R:Nat->Nat->Bool}{a b:Nat}:(a:Int)∈(((bu n).filter λa=>R a b).map λa:Nat=>(a:Int))↔a<n/\R a b=ae:=by
 constructor
 .intro h;obtain⟨c,hc,e⟩:=cg.mp h;have e2:c=a:=by omega
  subst e2;obtain⟨h1,h2⟩:=cj.mp hc;exact⟨dm.mp h1,h2⟩
 .rintro ⟨h1,h2⟩;exact cg.mpr ⟨a,cj.mpr ⟨dm.mpr h1,h2⟩,rfl⟩
def K9(ha:a<n)(hb:b<n):rel (can n R) a b=R a b:=by
 unfold rel;rw[fm,CG hb];cases h:R a b
 .have:¬ (a:Int)∈(((bu n).filter λa=>R a b).map λa:Nat=>(a:Int)):=λz=>by have:=(qL.mp z).2;rw[h] at this;cases this
  simpa using this
 .have:(a:Int)∈(((bu n).filter λa=>R a b).map λa:Nat=>(a:Int)):=qL.mpr ⟨ha,h⟩;simpa using this
def NU(hn:n=m)(h:∀a b,a<n->b<n->R a b=S a b):can n R=can m S:=by subst hn;unfold can;refine gq λb hb=>?_;congr 1;exact Gy λa ha=>h a b (dm.mp ha) (dm.mp hb)
theorem up_eq:∀(l m:Q0e),l.Pairwise (·<·)->m.Pairwise (·<·)->(∀x,x∈l↔x∈m)->l=m
 |[],[],_,_,_=>rfl
 |[],b::m,_,_,h=>by have:=(h b).mpr cn;cases this
 |a::l,[],_,_,h=>by have:=(h a).mp cn;cases this
 |a::l,b::m,hl,hm,h=>by
  obtain⟨l1,l2⟩:=ft.mp hl;obtain⟨m1,m2⟩:=ft.mp hm;have e:a=b:=by
   have h1:=cb.mp ((h a).mp cn);have h2:=cb.mp ((h b).mpr cn);rcases h1 with h1|h1
   .exact h1
   .rcases h2 with h2|h2
    .exact h2.symm
    .have:=m1 a h1;have:=l1 b h2;omega
  subst e;congr 1;refine up_eq l m l2 m2 λx=>⟨λhx=>?_,λhx=>?_⟩
  .rcases cb.mp ((h x).mp (dq _ hx)) with h1|h1
   .have:=l1 x hx;omega
   .exact h1
  .rcases cb.mp ((h x).mpr (dq _ hx)) with h1|h1
   .have:=m1 x hx;omega
   .exact h1
def R1{n:Nat}{R:Nat->Nat->Bool}{b:Nat}:(((bu n).filter λa=>R a b).map λa:Nat=>(a:Int)).Pairwise (·<·):=by refine qi _ (λa b h=>?_) (oo _ zq);show(a:Int)<(b:Int);omega
def E8(HF:∀a,a<n->R a a=ag)(tr:∀a b c,a<n->b<n->c<n->R a b=ae->R b c=ae->R a c=ae):Rows (Ord.can n R):=by
 have row:∀{b:Nat} {r:Q0e},(Ord.can n R)[b]?=aa r->b<n/\r=(((bu n).filter λa=>R a b).map λa:Nat=>(a:Int)):=λ{b r} e=>by
  have hb:b<n:=by have:=(cq.mp e).1;rw[iR] at this;exact this
  rw[CG hb] at e;exact⟨hb,(dg e).symm⟩
 refine⟨λb r e=>?_,λb r e x hx=>?_,λb a r v e ha ev c hc=>?_,λb r e hb=>?_⟩
 .rw [(row e).2];exact R1
 .rw [(row e).2] at hx;obtain⟨a,ha,rfl⟩:=cg.mp hx;have:=dm.mp (cj.mp ha).1;rw[iR];omega
 .obtain ⟨hb,er⟩:=row e;obtain⟨hav,ev2⟩:=row ev;rw[er] at ha ⊢;rw[ev2] at hc;obtain⟨c',hc',rfl⟩:=cg.mp hc;obtain⟨c1,c2⟩:=cj.mp hc';have c1:=dm.mp c1;obtain⟨_,a2⟩:=qL.mp ha;exact qL.mpr ⟨c1,tr _ _ _ c1 hav hb c2 a2⟩
 .obtain ⟨hb',er⟩:=row e;rw[er] at hb;have:=(qL.mp hb).2;rw[HF b hb'] at this;cases this
def Rows.yf(h:Rows rows)(ha:a<rows.length):rel rows a a=ag:=by unfold rel;rw[fm,bc ha];have:=h.HF a _ (bc ha);simpa using this
def Rows.tr'(h:Rows rows)(hb:b<rows.length)(hc:c<rows.length)(h1:rel rows a b=ae)(h2:rel rows b c=ae):rel rows a c=ae:=by
 unfold rel at *;rw[fm,bc hb] at h1;rw[fm,bc hc] at h2 ⊢;have h1:(a:Int)∈rows[b]:=by simpa using h1
 have h2:(b:Int)∈rows[c]:=by simpa using h2
 have:=h.tr c b _ _ (bc hc) h2 (bc hb) _ h1;simpa using this
def turn(x:Q0a):List (List Int):=can x.length λa b=>rel x (x.length-1-a) (x.length-1-b)
def flip(x:Q0a):List (List Int):=can x.length λa b=>rel x b a
def jL(x):(turn x).length=x.length:=iR _ _
def gZ(x):(flip x).length=x.length:=iR _ _
def R3(ha:a<x.length)(hb:b<x.length):rel (turn x) a b=rel x (x.length-1-a) (x.length-1-b):=K9 ha hb
def E9(ha:a<x.length)(hb:b<x.length):rel (flip x) a b=rel x b a:=K9 ha hb
def Rows.turn(h:Rows x):Rows (turn x):=E8 (λa ha=>h.yf (by omega)) λa b c ha hb hc h1 h2=>h.tr' (by omega) (by omega) h1 h2
def Rows.flip(h:Rows x):Rows (flip x):=E8 (λa ha=>h.yf ha) λa b c ha hb hc h1 h2=>h.tr' hb ha h2 h1
def CH(h:x[b]?=aa r):rel x a b=ae↔(a:Int)∈r:=by unfold rel;rw[fm,h];simp
theorem aCG(hl:L.length=n)(hup:∀(b:Nat) (r:Q0e),L[b]?=aa r->r.Pairwise (·<·))
  (hm:∀(b:Nat) (r:Q0e),L[b]?=aa r ->∀z:Int,z∈r ↔ ∃a:Nat,z=(a:Int)/\a<n/\R a b=ae):L=can n R:=by
 refine nc λb=>?_;by_cases hb:b<n
 .have e:L[b]?=aa (L[b]'(by omega)):=bc (by omega);rw[CG hb,e];congr 1;refine up_eq _ _ (hup b _ e) R1 λz=>?_;rw[hm b _ e z,cg]
  constructor
  .rintro ⟨a,rfl,h1,h2⟩;exact⟨a,cj.mpr ⟨dm.mpr h1,h2⟩,rfl⟩
  .rintro ⟨a,h,rfl⟩;obtain⟨h1,h2⟩:=cj.mp h;exact⟨a,rfl,dm.mp h1,h2⟩
 .rw [gk (by omega),gk (by rw[iR];omega)]
def R4(h:Rows y)(hv:y[b]?=aa v):z∈v ↔ ∃a:Nat,z=(a:Int)/\a<y.length/\rel y a b=ae:=by
 constructor
 .intro hz;obtain⟨q1,q2⟩:=h.rng _ _ hv _ hz;refine⟨z.toNat,by omega,by omega,?_⟩;rw[CH hv,show((z.toNat:Nat):Int)=z by omega];exact hz
 .rintro ⟨a,rfl,h1,h2⟩
  rwa [CH hv] at h2
def aCH(lo:Int)(n:Nat):(L4.bI lo n).Pairwise (·<·):=qi _ (λa b (h:a<b)=>by omega) zq
def Rows.short(h:Rows x)(hr:r∈x):r.length<=x.length:=by
 obtain⟨b,hb⟩:=p_.mp hr;have nd:r.Nodup:=(h.up b r hb).imp λq=>by omega
 have:=c9 r (L4.bI 0 x.length) nd λa ha=>LL.b7.mpr (by have:=h.rng b r hb a ha;omega)
 rwa [LL.aS] at this
end Ord
namespace uP
open L3 L4
def fE:iH:=c8 3 1
  (aK (bD 1 (fQ aF))
  (aK (dY (bA (aA (bX cM (aA (aB 0) aF)) aF)) (mC 2)
   (bD 1 (aE dG (aB 1) (a9 1 [2] (bE (aE dC (aB 0) (aB 2))) (g1 0) bP (dP (aA (aB 0) (aA (aB 1) aF)))))))
  (bF (bX kU (aA (aB 1) aF)))))
open LL
def pr(p:Int×Int):List Int:=[p.1,p.2]
def dM(x:Q0a)(k:Nat):List (Int×Int):=(bI 0 k).flatMap λb=>(row x b).map λa=>(a,b)
def iS(x:Q0a)(k:Nat):dM x (k+1)=dM x k++(row x (k:Int)).map λa=>(a,(k:Int)):=by unfold dM;rw[AH,List.flatMap_append];simp
def iT{x:Q0a}{p:Int×Int}:p∈dM x x.length↔0<=p.2/\p.2<(x.length:Int)/\p.1∈row x p.2:=by
 unfold dM;rw[oi]
 constructor
 .rintro ⟨b,hb,hp⟩;obtain⟨a,ha,rfl⟩:=cg.mp hp;have:=b7.mp hb;exact⟨by omega,by omega,ha⟩
 .rintro ⟨h0,h1,h2⟩;exact⟨p.2,b7.mpr (by omega),cg.mpr ⟨p.1,h2,rfl⟩⟩
def gU{x:Q0a}{b:Int}(h0:0<=b)(h1:b<(x.length:Int)):x[b.toNat]?=aa (row x b):=by
 have:b.toNat<x.length:=by omega
 unfold row;rw[bc this];rfl
def qM{x:Q0a}{a b:Nat}(hb:b<x.length):(((a:Int),(b:Int))∈dM x x.length)↔Ord.rel x a b=ae:=by
 rw[iT];have e:=gU (x:=x) (b:=(b:Int)) (by omega) (by omega);rw[jf] at e;rw[Ord.CH e]
 constructor
 .rintro ⟨_,_,h⟩;exact h
 .intro h;exact⟨by show(0:Int)<=(b:Int);omega,by show(b:Int)<_;omega,h⟩
def pI{x:Q0a}(hx:Ord.Rows x):(dM x x.length).Nodup:=by
 unfold dM;rw[si,a2u]
 constructor
 .intro b hb;have hb:=b7.mp hb;have nd:(row x b).Nodup:=(hx.up _ _ (gU (by omega) (by omega))).imp λq=>by omega
  exact qi _ (λa c h e=>h (congrArg l_ e)) nd
 .refine (Ord.aCH 0 x.length).imp λ{b c} h p hp q hq e=>?_;obtain⟨a,_,rfl⟩:=cg.mp hp;obtain⟨a2,_,rfl⟩:=cg.mp hq;have:=congrArg zk e;simp at this;omega
theorem qN(hx:Ord.Rows x)(hn:x.length<=9):∀k,k<=x.length->(dM x k).length<=k*8:=by
 intro k
 induction k with
 |zero=>intro _;simp[dM,bI]
 |succ k ih =>
  intro hk;rw[iS,fu,a_];have h1:=ih (by omega);have e:=gU (x:=x) (b:=(k:Int)) (by omega) (by omega);rw[jf] at e;have nd:(row x (k:Int)).Nodup:=(hx.up _ _ e).imp λq=>by omega
  have h2:((k:Int)::row x (k:Int)).length<=(bI 0 x.length).length:=Ord.c9 _ _ (gz.mpr ⟨hx.HF _ _ e,nd⟩) λa ha=>by
   rcases cb.1 ha with rfl|ha
   .exact b7.mpr (by omega)
   .have:=hx.rng _ _ e a ha;exact b7.mpr (by omega)
  rw[aS,de] at h2;omega
def un(t:Q0e):Int×Int:=(t.getD 0 0,t.getD 1 0)
def srt(l:List (Int×Int)):List (Int×Int):=(t6 (l.map pr)).map un
def mJ(l:List (Int×Int)):(srt l).Perm l:=by have:=(kW (l.map pr)).map un;rw[cc] at this;have e:(un∘pr)=id:=funext λp=>rfl;rw[e,a2C] at this;exact this
def YZ(l:List (Int×Int)):(t6 (l.map pr)).map p5=(srt l).map pairD:=by unfold srt;rw[cc];refine gq λt ht=>?_;obtain⟨p,_,rfl⟩:=cg.mp ((kW (l.map pr)).mem_iff.mp ht);rfl
theorem wZ:∀l:List (Int×Int),oZ (l.map pairD)=aa (l.map pr)
 |[]=>rfl
 |p::l=>by rw[bt,oZ,wZ l];rfl
def w8(h:l.length<64):kU [.lst (l.map pairD)]=aa (.lst ((srt l).map pairD)):=by unfold kU;simp only[wZ,dz];rw[Z_ ⟨by simpa using h,gw.mpr λt ht=>by obtain⟨p,_,rfl⟩:=cg.mp ht;rfl⟩,YZ]
def Y0{x:Q0a}(hx:Ord.Rows x)(hn:x.length<=9)(fq:(dM x x.length).length<64):fE [aJ x]=.ok (.lst ((srt (dM x x.length)).map pairD)):=by
 unfold fE;refine d9 rfl (bL _ (dH (.lst []) rfl rfl) ?_);obtain⟨ρ',e,v2,rfl⟩:Nx (dY (bA (aA (bX cM (aA (aB 0) aF)) aF)) (mC 2)
   (bD 1 (aE dG (aB 1) (a9 1 [2] (bE (aE dC (aB 0) (aB 2))) (g1 0) bP (dP (aA (aB 0) (aA (aB 1) aF))))))
   [Sv.ro (aJ x),Sv.ro (.lst []),Sv.no]) (λρ=>∃v2,ρ=[Sv.ro (aJ x),Sv.ro (.lst ((dM x x.length).map pairD)),v2]):=by
  refine k7 x.length (λi ρ=>∃v2,ρ=[Sv.ro (aJ x),Sv.ro (.lst ((dM x i).map pairD)),v2]) (args1 (cV rfl eE)) (by omega) ⟨_,rfl⟩ ?_ λρ h=>h;rintro i _ hi ⟨v2,rfl⟩;have hl:=qN hx hn i (by omega);have hl2:=qN hx hn (i+1) (by omega);rw[iS,fu] at hl2;refine⟨_,rfl,_,dH (.lst ((dM x (i+1)).map pairD)) (aY (x:=.lst ((dM x i).map pairD)) (y:=.lst (((row x (i:Int)).map λa=>(a,(i:Int))).map pairD)) rfl (dU ((row x (i:Int)).map D.int) ?_ (by simp at hl2 ⊢;omega) ?_) ?_) rfl,_,rfl⟩
  .unfold bE;rw[aY (x:=aJ x) (y:=.int (i:Int)) rfl rfl (iQ (by omega) (by omega))];rfl
  .rw [cc];exact bZ D.int _ (row x (i:Int)) λa _=>⟨_,rfl,rfl⟩
  .rw [qD (by simp at hl2 ⊢;omega),iS,gu]
 exact bL _ e (dR (cV rfl (w8 fq)))
def CI{P:List (Int×Int)}(h:P.Nodup)(c:Int):((P.filter λp=>Zv (p.2=c)).map l_).Nodup:=by rw[si,jw];refine qj (λ{a b} ha hb hab e=>?_) (oo _ h);have h1:=(cj.mp ha).2;have h2:=(cj.mp hb).2;simp at h1 h2;exact hab (km e (h1.trans h2.symm))
def Y1(h:l.Nodup):(sortI l).Pairwise (·<·):=by have p:=sortI_perm l;have nd:(sortI l).Nodup:=p.nodup_iff.mpr h;exact(a2v.mpr ⟨iC l,nd⟩).imp λq=>by have:=q.1;have:=q.2;omega
def w9(n:Nat)(P:List (Int×Int)):List (List Int):=(bI 0 n).map λc=>sortI ((P.filter λp=>Zv (p.2=c)).map l_)
def R5{n:Nat}{P:List (Int×Int)}(nd:P.Nodup)(hr:∀p∈P,0<=p.1/\p.1<(n:Int)){R:Nat->Nat->Bool}(h:∀a c:Nat,a<n->c<n->(((a:Int),(c:Int))∈P↔R a c=ae)):w9 n P=Ord.can n R:=by
 refine Ord.aCG (by simp[w9,aS]) (λc r e=>?_) λc r e z=>?_
 all_goals
  unfold w9 at e;rw[ck] at e;have hc:c<n:=by
   cases q:(bI 0 n)[c]? with
   |none=>rw[q] at e;cases e
   |some v=>have:=(cq.mp q).1;rw[aS] at this;exact this
  rw[j5 hc] at e;have e:=dg e;rw[je] at e;subst e
 .exact Y1 (CI nd _)
 .rw [(sortI_perm _).mem_iff,cg]
  constructor
  .rintro ⟨p,hp,rfl⟩;obtain⟨hp,h2⟩:=cj.mp hp;have h2:p.2=(c:Int):=by simpa using h2
   obtain⟨q1,q2⟩:=hr p hp;refine⟨p.1.toNat,by omega,by omega,(h _ c (by omega) hc).mp ?_⟩;rw[show((p.1.toNat:Nat):Int)=p.1 by omega,<- h2];exact hp
  .rintro ⟨a,rfl,h1,h2⟩;exact⟨((a:Int),(c:Int)),cj.mpr ⟨(h a c h1 hc).mpr h2,by simp⟩,rfl⟩
def code(p:Int×Int):Int:=if p.1<p.2 then p.1*9+p.2 else p.2*9+p.1
def codes:List Int:=(bI 0 9).flatMap λi=>(bI (i+1) (8-i).toNat).map λj=>i*9+j
def xA{x:Q0a}(hx:Ord.Rows x){a b:Int}(h1:(a,b)∈dM x x.length)(h2:(b,a)∈dM x x.length):False:=by obtain⟨b0,b1,h1'⟩:=iT.mp h1;obtain⟨a0,a1,h2'⟩:=iT.mp h2;simp only at b0 b1 a0 a1 h1' h2';obtain⟨m,rfl⟩:∃m:Nat,a=(m:Int):=⟨a.toNat,by omega⟩;obtain⟨k,rfl⟩:∃k:Nat,b=(k:Int):=⟨b.toNat,by omega⟩;have:=hx.tr' (by omega) (by omega) ((qM (by omega)).mp h1) ((qM (by omega)).mp h2);rw[hx.yf (by omega)] at this;cases this
def qO{a b c d:Int}(hb:0<=b/\b<9)(hd:0<=d/\d<9)(e:a*9+b=c*9+d):a=c/\b=d:=by omega
def Y2{x:Q0a}(hx:Ord.Rows x)(hn:x.length<=9):(dM x x.length).length<=36:=by
 have rg:∀p∈dM x x.length,0<=p.1/\p.1<9/\0<=p.2/\p.2<9/\p.1≠p.2:=λp hp=>by obtain⟨h0,h1,h2⟩:=iT.mp hp;have e:=gU h0 h1;obtain⟨q1,q2⟩:=hx.rng _ _ e _ h2;refine⟨q1,by omega,h0,by omega,λz=>?_⟩;obtain⟨a,b⟩:=p;simp only at z;subst z;exact xA hx hp hp
 have nd:((dM x x.length).map code).Nodup:=by
  rw[si,jw];refine qj (λ{p q} hp hq hpq e=>?_) (pI hx);have rp:=rg p hp;have rq:=rg q hq;obtain⟨a,b⟩:=p;obtain⟨c,d⟩:=q;simp only at rp rq;unfold code at e;simp only at e;by_cases h1:a<b<;>by_cases h2:c<d
  .rw [Z_ h1,Z_ h2] at e;obtain⟨rfl,rfl⟩:=qO ⟨rp.2.2.1,rp.2.2.2.1⟩ ⟨rq.2.2.1,rq.2.2.2.1⟩ e;exact hpq rfl
  .rw [Z_ h1,Zz h2] at e;obtain⟨rfl,rfl⟩:=qO ⟨rp.2.2.1,rp.2.2.2.1⟩ ⟨rq.1,rq.2.1⟩ e;exact xA hx hp hq
  .rw [Zz h1,Z_ h2] at e;obtain⟨rfl,rfl⟩:=qO ⟨rp.1,rp.2.1⟩ ⟨rq.2.2.1,rq.2.2.2.1⟩ e;exact xA hx hp hq
  .rw [Zz h1,Zz h2] at e;obtain⟨rfl,rfl⟩:=qO ⟨rp.1,rp.2.1⟩ ⟨rq.1,rq.2.1⟩ e;exact hpq rfl
 have:=Ord.c9 _ codes nd λz hz=>by
  obtain⟨p,hp,rfl⟩:=cg.mp hz;have:=rg p hp;unfold code codes;by_cases h:p.1<p.2
  .rw [Z_ h,oi];exact⟨p.1,b7.mpr (by omega),cg.mpr ⟨p.2,b7.mpr (by omega),rfl⟩⟩
  .rw [Zz h,oi];exact⟨p.2,b7.mpr (by omega),cg.mpr ⟨p.1,b7.mpr (by omega),rfl⟩⟩
 rw[a_] at this;have e:codes.length=36:=by decide+kernel
 omega
def xB{x:Q0a}(hx:Ord.Rows x)(hn:x.length<=9):(dM x x.length).length<64:=by have:=Y2 hx hn;omega
theorem Wh{l:List (Int×Int)}{fr:List Nat}{e:EF}{ρ:cN}{it:AF}(f:Int×Int->Int×Int)(hl:l.length<=1000)(hit:it ρ=aa (l.map pairD))(he:∀p∈l,e (((benv 2 fr ρ).set 0 (aa (.int p.1))).set 1 (aa (.int p.2)))=aa (pairD (f p))):
  a9 2 fr it (g2 0 1) bP e ρ=aa (.lst ((l.map f).map pairD)):=by
 rw[cc];exact dU (l.map pairD) hit (by rw[a_];omega) (bZ pairD _ l λp hp=>⟨_,rfl,he p hp⟩)
end uP
namespace eI
open L3 L4
def gL:iH:=c8 4 1
  (aK (lX 1 (fQ aF))
  (aK (dY (jG (aA (aB 0) aF)) (NN 2 3)
   (sX (oX 1 NL (bK (a9 1 [2] (bE (aB 3)) (g1 0) bP (dP (aA (aB 0) (aA (aB 1) aF))))))))
  (bF (bX cQ (aA (bX kU (aA (aB 1) aF)) aF)))))
def gM:iH:=c8 4 2
  (aK (bD 2 (aE dC (aB 1) (eC (.int 0))))
  (aK (bD 3 (aE dC (aB 1) (eC (.int 1))))
  (bF (vS (bX anyM (aA (a9 1 [2,0] (bE (aE dC (aB 0) (aB 3))) (g1 0) bP (aE (mB ag) (aB 1) (aE dC (aB 2) (aB 0)))) aF))))))
open LL uP
def s_(h:x ρ=aa (ρ',d)):sX x ρ=.nx ρ':=by unfold sX;rw[h]
theorem Y3(h0:oV ρ[i]?=aa ds0)(hx:x ρ=aa (ρ1,d))(h1:oV ρ1[i]?=aa ds)(hm:m ds d=aa q):
  oX i m x ρ=aa (ρ1.set i (.ow (.lst q.1)),q.2):=by
 unfold oX;rw[h0,dz,hx,dz,h1,dz,hm];rfl
section
variable{x:Q0a}(hx:Ord.Rows x)
include hx
def LA(h0:0<=c)(h1:c<(x.length:Int))(h:a∈row x c):0<=a/\a<(x.length:Int):=hx.rng _ _ (gU h0 h1) a h
def Ri(h0:0<=c)(h1:c<(x.length:Int))(hb:b∈row x c)(ha:a∈row x b):a∈row x c:=by obtain⟨b0,b1⟩:=LA hx h0 h1 hb;exact hx.tr c.toNat b.toNat _ _ (gU h0 h1) (by rw[show((b.toNat:Nat):Int)=b by omega];exact hb) (gU b0 b1) a ha
def Rh(h0:0<=c)(h1:c<(x.length:Int)):(row x c).Nodup:=(hx.up _ _ (gU h0 h1)).imp λq=>by omega
def R6(h0:0<=c)(h1:c<(x.length:Int)):(row x c).length<=x.length:=by
 have:=Ord.c9 (row x c) (bI 0 x.length) (Rh hx h0 h1) λa ha=>b7.mpr (by have:=LA hx h0 h1 ha;omega)
 rwa [aS] at this
end
def dS(x:Q0a)(p:Int×Int):Bool:=!(row x p.2).any λc=>(row x c).contains p.1
structure Cl (x:Q0a) (P:List (Int×Int)) (b:Int) (u f:Q0e):Prop where
 nd:u.Nodup
 sub:∀a∈u,a∈row x b
 fr:∀a∈f,a=b\/a∈u
 cl:∀c,(c=b\/c∈u)->c∉f ->∀a,(a,c)∈P->a∈u
abbrev T(x:Q0a):List (Int×Int):=srt (dM x x.length)
def pJ(hx:Ord.Rows x)(hn:x.length<=9):gL [aJ x]=.ok (.tup ((T x).map pairD)):=by
 have fq:=xB hx hn;unfold gL;refine d9 rfl (bL [.ro (aJ x),.ow (.lst []),.no,.no] rfl ?_);obtain⟨ρ',e,v2,v3,rfl⟩:Nx (dY (jG (aA (aB 0) aF)) (NN 2 3)
   (sX (oX 1 NL (bK (a9 1 [2] (bE (aB 3)) (g1 0) bP (dP (aA (aB 0) (aA (aB 1) aF))))))) [.ro (aJ x),.ow (.lst []),.no,.no])
   (λρ=>∃v2 v3,ρ=[Sv.ro (aJ x),Sv.ow (.lst ((dM x x.length).map pairD)),v2,v3]):=by
  refine sM ((x.map tupI).zipIdx.map λp=>.tup [.int (p.2:Int),p.1]) (λi ρ=>∃v2 v3,ρ=[Sv.ro (aJ x),Sv.ow (.lst ((dM x i).map pairD)),v2,v3]) rfl ⟨_,_,rfl⟩ ?_ λρ h=>by simpa using h
  rintro i d _ hd ⟨v2,v3,rfl⟩;rw[ck,vq,ck] at hd
  cases q:x[i]? with
  |none=>rw[q] at hd;cases hd
  |some r =>
   have hi:i<x.length:=(cq.mp q).1;rw[q] at hd;have hd:=dg hd;subst hd;have er:row x (i:Int)=r:=by unfold row;rw[jf,q];rfl
   have hl:=qN hx hn i (by omega);have hl2:=qN hx hn (i+1) (by omega);rw[iS,fu,er] at hl2;refine⟨[.ro (aJ x),.ow (.lst ((dM x i).map pairD)),.ro (.int (i:Int)),.ro (tupI r)],by show aa [_,_,_,_]=_;rw[ux],_,s_ (Y3 (ρ1:=[.ro (aJ x),.ow (.lst ((dM x i).map pairD)),.ro (.int (i:Int)),.ro (tupI r)]) (ds0:=(dM x i).map pairD) (ds:=(dM x i).map pairD) (d:=.lst ((r.map λa=>(a,(i:Int))).map pairD)) rfl ?_ rfl (YO (by simp at hl2 ⊢;omega))),.ro (.int (i:Int)),.ro (tupI r),?_⟩
   .unfold bK;rw[dU (r.map D.int) rfl (by simp at hl2 ⊢;omega) (bZ D.int (λa=>pairD (a,(i:Int))) r λa _=>⟨_,rfl,rfl⟩),cc];rfl
   .rw [iS,gu,er];rfl
 exact bL _ e (dR (cV (cV rfl (w8 fq)) rfl))
def pK(hx:Ord.Rows x)(hn:x.length<=9)(h0:0<=p.2)(h1:p.2<(x.length:Int)):gM [aJ x,pairD p]=.ok (.bl (dS x p)):=by
 unfold gM;have rl:=R6 hx h0 h1;refine d9 rfl (bL _ (dH (.int p.1) rfl rfl) (bL _ (dH (.int p.2) rfl rfl) (dR ?_)));unfold vS;rw[cV (x:=.lst ((row x p.2).map λc=>D.bl ((row x c).contains p.1))) (dU ((row x p.2).map D.int) ?_ (by simp;omega) (bZ D.int (λc=>D.bl ((row x c).contains p.1)) (row x p.2) λc hc=>⟨_,rfl,?_⟩)) (z:=aa (.bl ((row x p.2).any λc=>(row x c).contains p.1))) ?_]
 .rfl
 .unfold bE;rw[aY (x:=aJ x) (y:=.int p.2) rfl rfl (iQ h0 h1)];rfl
 .have:=K2 (bs:=(row x p.2).map λc=>(row x c).contains p.1);rw[cc] at this;rw[show((row x p.2).map λc=>D.bl ((row x c).contains p.1))=(row x p.2).map (D.bl∘λc=>(row x c).contains p.1) from rfl,this,sg];rfl
 .have hr:=LA hx h0 h1 hc;exact aY (x:=.int p.1) (y:=tupI (row x c)) rfl (aY (x:=aJ x) (y:=.int c) rfl rfl (iQ hr.1 hr.2)) pH
def AN:p∈T x↔0<=p.2/\p.2<(x.length:Int)/\p.1∈row x p.2:=by rw[(mJ _).mem_iff,iT]
def FA(hx:Ord.Rows x)(hn:x.length<=9):(T x).length<64:=by rw[(mJ _).length_eq];exact xB hx hn
abbrev B(x:Q0a):List (Int×Int):=(T x).filter (dS x)
end eI
namespace LL
open L3 L4
def iI:iH:=c8 5 3
  (aK (gI (tV (aE geM (aB 0) (aE vW (eC (.int 10)) (eC (.int 18)))))
   (bF (aE lW (aE vV (aB 0) (eC (.int 64))) (aB 1)))
   dQ)
  (aK (bD 3 (eC (.int 0)))
  (aK (dY (bA (aA (eC (.int 20)) aF)) (mC 4)
   (bD 3 (aE dG (aE mulM (aB 3) (eC (.int 1000000007))) (aI LL.eM (aA (aB 0) (aA (aB 4) (aA (aB 2) aF)))))))
  (bF (aE lW (aB 3) (aB 1))))))
def gL:iH:=c8 4 1
  (aK (lX 1 (fQ aF))
  (aK (dY (jG (aA (aB 0) aF)) (NN 2 3)
   (sX (oX 1 NL (bK (a9 1 [2] (bE (aB 3)) (g1 0) bP (dP (aA (aB 0) (aA (aB 1) aF))))))))
  (bF (bX cQ (aA (bX kU (aA (aB 1) aF)) aF)))))
def fE:iH:=c8 3 1
  (aK (bD 1 (fQ aF))
  (aK (dY (bA (aA (bX cM (aA (aB 0) aF)) aF)) (mC 2)
   (bD 1 (aE dG (aB 1) (a9 1 [2] (bE (aE dC (aB 0) (aB 2))) (g1 0) bP (dP (aA (aB 0) (aA (aB 1) aF)))))))
  (bF (bX kU (aA (aB 1) aF)))))
def Y4(hp:p<=4000)(hq:q<=4000)(hi:i.natAbs<2^p)(hj:j.natAbs<2^q):mulM (.int i) (.int j)=aa (.int (i*j)):=by
 have lg:∀m r:Nat,m<2^r->m.log2<r+1:=by
  intro m r hm;by_cases z:m=0
  .rw [z];exact Nat.succ_pos r
  .exact rk ((Nat.log2_lt z).mpr hm)
 have a:=lg _ _ hi;have b:=lg _ _ hj;have e:vU i j=ae:=by unfold vU;rw[Zx (show i.natAbs.log2+j.natAbs.log2<=134217700 by omega),a3c]
 unfold mulM oI;exact Z_ e
def R7(ρ:cN)(h:(Zv ((0:Int)<=j)&&Zv (j.natAbs<=1000000)&&Zv (i.natAbs<18446744073709551616))=ae):aE vW (eC (.int i)) (eC (.int j)) ρ=aa (.int (i^j.toNat)) :=
 aY rfl rfl (Z_ h)
def R8(c s:Int)(hm:0<most):∃r,0<=r/\r<most/\iI [.int c,.int most,.int s]=.ok (.int r):=by
 have Ax:∀ρ,aE vW (eC (.int 10)) (eC (.int 18)) ρ=aa (.int 1000000000000000000):=λρ=>by rw[R7 ρ (by decide+kernel)];rfl
 unfold iI;by_cases h:(1000000000000000000:Int)<=c
 .refine ⟨c/64%most,ml _ (by omega),oq _ hm,d9 rfl (oA (zF (g8 (aY (x:=.int c) (y:=.int 1000000000000000000) rfl (Ax _) nJ) (by rw[Zx h];rfl)) (dR (aY (x:=.int (c/64)) (y:=.int most) (aY (x:=.int c) (y:=.int 64) rfl rfl (mF (by decide) (by decide))) rfl (eJ hm)))))⟩
 .obtain ⟨_,e,x,v4,rfl⟩:Nx (dY (bA (aA (eC (.int 20)) aF)) (mC 4)
   (bD 3 (aE dG (aE mulM (aB 3) (eC (.int 1000000007))) (aI LL.eM (aA (aB 0) (aA (aB 4) (aA (aB 2) aF)))))) [.ro (.int c),.ro (.int most),.ro (.int s),.ro (.int 0),.no])
   (λρ=>∃x v4,ρ=[.ro (.int c),.ro (.int most),.ro (.int s),.ro (.int x),v4]):=by
   refine k7 20 (λi ρ=>∃x v4,ρ=[.ro (.int c),.ro (.int most),.ro (.int s),.ro (.int x),v4]) rfl (by decide) ⟨0,.no,rfl⟩ ?_ λρ h=>h;rintro i _ hi ⟨x,v4,rfl⟩;obtain⟨r,_,er⟩:=E1 c (i:Int) s (by omega) (by omega);exact⟨_,rfl,_,dH (.int (x*1000000007+r)) (aY (x:=.int (x*1000000007)) (y:=.int r) (aY (x:=.int x) (y:=.int 1000000007) rfl rfl (B8 (by decide))) (jS rfl rfl rfl er) iO) rfl,_,_,rfl⟩
  exact⟨x%most,ml _ (by omega),oq _ hm,d9 rfl (bL _ (lZ (g8 (aY (x:=.int c) (y:=.int 1000000000000000000) rfl (Ax _) nJ) (by rw[Zy h];rfl)) rfl) (bL _ (dH (.int 0) rfl rfl) (bL _ e (dR (aY (x:=.int x) (y:=.int most) rfl rfl (eJ hm))))))⟩
def pJ(hx:Ord.Rows x)(hn:x.length<=9):LL.gL [aJ x]=.ok (.tup ((eI.T x).map pairD)):=eI.pJ hx hn
def AO(hx:Ord.Rows x)(hn:x.length<=9):LL.fE [aJ x]=.ok (.lst ((eI.T x).map pairD)):=uP.Y0 hx hn (uP.xB hx hn)
def at0(fl:Q0e)(a:Int):Int:=(fl[a.toNat]?).getD 0
def fF:iH:=c8 2 2
  (bF (bX cQ (aA (bX mD (aA (aE dG (aB 0) (dP (aA (aB 1) aF))) aF)) aF)))
def d6:iH:=c8 3 2
  (aK (bD 2 (a9 1 [1] (bA (aA (bX cM (aA (aB 0) aF)) aF)) (g1 0) (tV (aE (mB ae) (aB 0) (aB 1))) (aB 0)))
  (bF (a9 1 [1,0] (bE (aB 2)) (g1 0) (tV (bX allM (aA (a9 1 [1] (bE (aE dC (aB 2) (aB 0))) (g1 0) bP (aE (mB ag) (aB 0) (aB 1))) aF))) (aB 0))))
def aT(x:Q0a)(a:Q0e):List Int:=((bI 0 x.length).filter λt=>!a.contains t).filter λt=>(row x t).all λl=>a.contains l
def aN(a:Q0e)(t:Int):List Int:=sortI (a++[t])
def rdI(x:Q0a)(a:Q0e):List (List Int):=(aT x a).map (aN a)
def okI(x:Q0a)(a:Q0e):Prop:=a.Nodup /\∀t∈a,0<=t/\t<(x.length:Int)
def CJ(h:ns.length<64):mD [.tup (ns.map D.int)]=aa (.lst ((sortI ns).map D.int)):=by simp[mD,dI,h]
def NV(h:a.length<=9):fF [tupI a,.int t]=.ok (tupI (aN a t)):=by
 unfold fF;refine d9 rfl (dR (cV (x:=aG (aN a t)) (cV (x:=tupI (a++[t])) (aY (x:=tupI a) (y:=tupI [t]) rfl rfl ?_) ?_) rfl))
 .unfold tupI;rw[EX (by simp;omega),gu]
 .have:=CJ (ns:=a++[t]) (by simp;omega);exact this
def FC(hx:x.length<=9)(hr:∀r∈x,r.length<=9):d6 [aJ x,tupI a]=.ok (aG (aT x a)):=by
 unfold d6 aT;have e1:a9 1 [1] (bA (aA (bX cM (aA (aB 0) aF)) aF)) (g1 0) (tV (aE (mB ae) (aB 0) (aB 1))) (aB 0) (jR (dZ 3 [aJ x,tupI a]))=aa (aG ((bI 0 x.length).filter λt=>!a.contains t)):=by refine dU ((bI 0 x.length).map D.int) (qI (cV rfl eE) (by omega)) (by rw[a_,aS];omega) ?_;exact eA D.int _ D.int (bI 0 x.length) λt _=>⟨[aa (.int t),aa (tupI a)],rfl,g8 (aY (x:=.int t) (y:=tupI a) rfl rfl K5) rfl,λ_=>rfl⟩
 generalize hL:((bI 0 x.length).filter λt=>!a.contains t)=L at e1;have Lr:∀t∈L,0<=t/\t<(x.length:Int):=λt ht=>by rw[<- hL] at ht;have:=b7.mp (cj.mp ht).1;omega
 have Ll:L.length<=9:=by rw[<- hL];have:=me (λt=>!a.contains t) (bI 0 x.length);rw[aS] at this;omega
 refine d9 rfl (bL _ (dH (aG L) e1 rfl) (dR ?_));refine dU (L.map D.int) rfl (by rw[a_];omega) ?_;refine eA D.int _ D.int L λt ht=>⟨[aa (.int t),aa (tupI a),aa (aJ x)],rfl,?_,λ_=>rfl⟩;obtain⟨t0,t1⟩:=Lr t ht;have rl:(row x t).length<=9:=by unfold row;rw[bc (by omega)];exact hr _ (mz _)
 refine g8 (d:=.bl ((row x t).all λl=>a.contains l)) (cV (x:=.lst (((row x t).map λl=>a.contains l).map D.bl)) ?_ ?_) rfl
 .refine Eq.trans (dU ((row x t).map D.int) ?_ (by rw[a_];omega) (bZ D.int (λl=>.bl (a.contains l)) (row x t) λl _=>⟨[aa (.int l),aa (tupI a)],rfl,aY (x:=.int l) (y:=tupI a) rfl rfl pH⟩)) (by rw[cc];rfl);unfold bE;rw[aY (x:=aJ x) (y:=.int t) (z:=aa (tupI (row x t))) rfl rfl (iQ t0 t1)];rfl
 .rw [vB,sh];rfl
def fN(h:t∈aT x a):(0<=t/\t<(x.length:Int))/\t∉a:=by unfold aT at h;have h1:=(cj.mp h).1;have h2:=cj.mp h1;have:=b7.mp h2.1;exact⟨by omega,by simpa using h2.2⟩
def HW(n:Nat):(bI 0 n).Nodup:=by refine rm.mpr λi j hi hj hij=>?_;have e1:=j5 (lo:=0) (n:=n) (i:=i) (by simpa[aS] using hi);have e2:=j5 (lo:=0) (n:=n) (i:=j) (by simpa[aS] using hj);rw[bc hi] at e1;rw[bc hj] at e2;have e1:=dg e1;have e2:=dg e2;omega
def j8(h:okI x a):(aT x a).length+a.length<=x.length:=by
 have nd:(aT x a++a).Nodup:=by refine jy.mpr ⟨?_,h.1,λu hu v hv e=>(fN hu).2 (e▸hv)⟩;unfold aT;exact oo _ (oo _ (HW x.length))
 have:=Ord.c9 _ (bI 0 x.length) nd λt ht=>b7.mpr (by
  rcases h_.1 ht with z|z
  .have:=(fN z).1;omega
  .have:=h.2 t z;omega)
 rwa [fu,aS] at this
def Dq(h:okI x a):(∀b∈rdI x a,okI x b/\b.length=a.length+1)/\(rdI x a).length+a.length<=x.length:=by
 refine⟨λb hb=>?_,by unfold rdI;rw[a_];exact j8 h⟩;unfold rdI at hb;obtain⟨t,ht,rfl⟩:=cg.mp hb;obtain⟨hr,hn⟩:=fN ht;have p:=sortI_perm (a++[t]);refine⟨⟨?_,λu hu=>?_⟩,?_⟩
 .unfold aN;refine p.nodup_iff.mpr (jy.mpr ⟨h.1,by simp,λu hu v hv e=>?_⟩);rw[cp] at hv;subst hv;subst e;exact hn hu
 .unfold aN at hu;rcases h_.1 (p.mem_iff.mp hu) with z|z
  .exact h.2 u z
  .rw [cp] at z;subst z;exact hr
 .unfold aN;rw[p.length_eq];simp
def Y5(h:okI x a):a.length<=x.length:=by have:=j8 h;omega
def Y6:okI x []:=⟨mw,λt ht=>by cases ht⟩
end LL
namespace K24
noncomputable def fact:Nat->Int
 |0=>1
 |k+1=>fact k*(k+1)
noncomputable def ff(x:Int):Nat->Int
 |0=>1
 |k+1=>ff x k*(x-k)
theorem qP:∀k,0<fact k
 |0=>by decide
 |k+1=>Int.mul_pos (qP k) (by omega)
theorem LB(x:Int):∀k,ff (x+1) (k+1)=(x+1)*ff x k
 |0=>by simp[ff]
 |k+1=>by rw[show ff (x+1) (k+1+1)=ff (x+1) (k+1)*(x+1-((k+1:Nat):Int)) from rfl,LB x k,show ff x (k+1)=ff x k*(x-k) from rfl,sk];congr 2;omega
def CK(x:Int)(k:Nat):ff (x+1) (k+1)=ff x (k+1)+(k+1)*ff x k:=by rw[LB,show ff x (k+1)=ff x k*(x-k) from rfl,ql (ff x k),<- z_];congr 1;omega
theorem LC:∀k,ff 0 (k+1)=0
 |0=>by simp[ff]
 |k+1=>by rw[show ff 0 (k+1+1)=ff 0 (k+1)*_ from rfl,LC k,qk]
theorem R9:∀(k:Nat) (x:Int),fact k ∣ ff x k
 |0,x=>by simp[fact,ff]
 |k+1,x=>by
  have st:∀y:Int,fact (k+1) ∣ (k+1)*ff y k:=λy=>by obtain⟨c,e⟩:=R9 k y;exact⟨c,by rw[e,show fact (k+1)=fact k*(k+1) from rfl,<- sk,ql (k+1:Int)]⟩
  have up:∀y:Int,fact (k+1) ∣ ff y (k+1)->fact (k+1) ∣ ff (y+1) (k+1):=λy h=>by rw[CK];exact Int.dvd_add h (st y)
  have dn:∀y:Int,fact (k+1) ∣ ff (y+1) (k+1)->fact (k+1) ∣ ff y (k+1):=λy h=>by rw[CK] at h;exact(Int.dvd_add_left (st y)).mp h
  have h0:fact (k+1) ∣ ff 0 (k+1):=by rw[LC];exact Int.dvd_zero _
  have pos:∀n:Nat,fact (k+1) ∣ ff (n:Int) (k+1):=λn=>by
   induction n with
   |zero=>exact h0
   |succ n ih=>exact up _ ih
  have neg:∀n:Nat,fact (k+1) ∣ ff (-(n:Int)) (k+1):=λn=>by
   induction n with
   |zero=>exact h0
   |succ n ih=>exact dn _ (by rw[show -((n+1:Nat):Int)+1=-(n:Int) by omega];exact ih)
  rcases Int.le_total 0 x with hx|hx
  .have:=pos x.toNat;rwa [show((x.toNat:Nat):Int)=x by omega] at this
  .have:=neg (-x).toNat;rwa [show -(((-x).toNat:Nat):Int)=x by omega] at this
--CUT
def C(x:Int)(m:Nat):Int:=ff x m/fact m
def xC(x:Int)(m:Nat):C x m*fact m=ff x m:=Int.ediv_mul_cancel (R9 m x)
def ye(h:c*fact m=ff x m):c=C x m:=a26 (a22 (qP m)) (h.trans (xC x m).symm)
def SA(x:Int):C x 0=1:=rfl
def SD(x:Int)(m:Nat):C (x+1) (m+1)=C x (m+1)+C x m:=by refine(ye ?_).symm;rw[z_,xC,show fact (m+1)=fact m*(m+1) from rfl,<- sk,xC,CK,ql (ff x m)]
theorem LD:∀{m:Nat},x<m->ff (x:Int) m=0
 |m+1,h=>by
  show ff (x:Int) m*((x:Int)-(m:Int))=0;by_cases e:x=m
  .subst e;rw[Int.sub_self,Hd]
  .rw [LD (by omega),qk]
def HX{x:Int}{m:Nat}(h0:0<=x)(h:x<m):C x m=0:=by refine(ye ?_).symm;obtain⟨n,rfl⟩:∃n:Nat,x=(n:Int):=⟨x.toNat,by omega⟩;rw[LD (by omega),qk]
theorem Dp:∀n:Nat,C (n:Int) n=1
 |0=>rfl
 |n+1=>by rw[show((n+1:Nat):Int)=(n:Int)+1 from rfl,SD,HX (m:=n+1) (by omega) (by omega),Dp n];rfl
noncomputable def diffs:List Int->List Int
 |a::b::l=>(b-a)::diffs (b::l)
 |_=>[]
theorem iE:∀l:Q0e,(diffs l).length=l.length-1
 |[]=>rfl
 |[_]=>rfl
 |a::b::l=>by rw[diffs,de,iE (b::l)];simp
def fd(l:Q0e):List Int:=match l with
 |[]=>[]
 |a::r=>a::fd (diffs (a::r))
termination_by l.length
decreasing_by rw[iE];simp
def SE:fd []=[]:=by rw[fd]
theorem LF(a:Int)(r:Q0e):fd (a::r)=a::fd (diffs (a::r)):=by rw[fd]
noncomputable def vals(f:Int->Int):Nat->Int->List Int
 |0,_=>[]
 |n+1,x=>f x::vals f n (x+1)
def DV(n:Nat)(d:Int):List Int->Int->Int
 |[],_=>0
 |w::l,k=>w*C (k+n-1-d) n+DV n (d+1) l k
theorem AQ:∀(a b:Q0e) (d:Int),DV n d (a++b) k=DV n d a k+DV n (d+a.length) b k
 |[],b,d=>by simp[DV]
 |w::a,b,d=>by show w*C (k+n-1-d) n+DV n (d+1) (a++b) k=w*C (k+n-1-d) n+DV n (d+1) a k+DV n (d+(a.length+1:Nat)) b k;rw[AQ a b (d+1),show d+1+(a.length:Int)=d+(a.length+1:Nat) by omega];omega
theorem AR:∀(n:Nat) (l:Q0e),l.length=n->(fd l).length=n
 |0,l,h=>by rw[qc.mp h,SE];rfl
 |n+1,[],h=>by simp at h
 |n+1,a::r,h=>by rw[LF,de,AR n _ (by rw[iE,h];rfl)]
theorem mK(f:Int->Int):∀n x,(vals f n x).length=n
 |0,_=>rfl
 |n+1,x=>by rw[vals,de,mK f n]
def Bg(b:Nat)(x:Int):Prop:=x.natAbs<2^b
def Bg.mono(h:Bg a x)(hab:a<=b):Bg b x:=gc h (u_ (by omega) hab)
def Bg.mul(h:Bg a x)(g:Bg b y):Bg (a+b) (x*y):=by unfold Bg at *;rw[a2h,a23];exact Nat.mul_lt_mul_of_lt_of_lt h g
def Bg.sub(h:Bg a x)(g:Bg a y):Bg (a+1) (x-y):=by unfold Bg at *;rw[Nat.pow_succ];generalize 2^a=z at *;omega
end K24
namespace LL
open L3 L4
def fX:iH:=c8 2 2
  (bF (a9 2 [] (p8 (aA (aB 0) (aA (aB 1) aF))) (g2 0 1) bP (aE dG (aB 0) (aB 1))))
def bR:iH:=c8 1 1
  (bF (aE dG (fQ (aA (eC (.int 0)) aF)) (QY (aB 0) Q9 (oE (Q7 (eC (.int 1)))))))
def bC:Nat->FnM
 |0=>λ_ _=>.no
 |n+1=>runM 8 4
  ((aK (bD 4 (dP (aA (aB 1) (aA (aB 2) aF))))
  (gI (tV (aE (NP ae) (aB 4) (aB 3)))
   (aK (lX 5 (aE repLM (fQ (aA (eC (.int 0)) aF)) (bX p4 (aA (bX cM (aA (aB 0) aF)) (aA (eC (.int 1)) aF)))))
   (aK (gI (tV (aE u5 (bX cM (aA (aB 1) aF)) (bX cM (aA (aB 0) aF))))
    (NM 5 (bK (eC (.int 1))) (eC (.int 0)))
    dQ)
   (aK (yh 5 (dY (bE (aI LL.d6 (aA (aB 0) (aA (aB 1) aF)))) (mC 6)
    (aK (sC 7 (bC n) (aA (aB 0) (aA (aI LL.fF (aA (aB 1) (aA (aB 6) aF))) (aA (aB 6) aF))) 3)
    (bD 5 (aI LL.fX (aA (aB 5) (aA (KR (tV (aE KS (aB 2) (aB 6))) (aI LL.bR (aA (aB 7) aF)) (aB 7)) aF)))))))
   (p7 3 (bK (aB 5)) (aB 4)))))
   dQ)))
  (aB 4)
def g4:iH:=c8 2 1
  (aK (RI 1)
  (aK (YN (LL.bC 11) (aA (aB 0) (aA (dP aF) (aA (eC (.int 0)) aF))) 1)
  (bF (aB 1))))
def bB:iH:=c8 1 1
  (bF (bX cQ (aA (aE Cf (aI LL.g4 (aA (aB 0) aF)) (dP (aA (dP aF) (aA (eC (.int 0)) aF)))) aF)))
def mL:iH:=c8 4 2
  (aK (bD 2 (eC (.int 1)))
  (aK (dY (bA (aA (aB 1) aF)) (mC 3)
   (bD 2 (aE vV (aE mulM (aB 2) (aE gH (aB 0) (aB 3))) (aE dG (aB 3) (eC (.int 1))))))
  (bF (aB 2))))
def bW:iH:=c8 3 3
  (bF (bX NI (aA (a9 2 [1,2] (jG (aA (aB 0) aF)) (g2 0 1) bP (aE mulM (aB 1) (aI LL.mL (aA (aE gH (aE gH (aE dG (aB 3) (aB 2)) (eC (.int 1))) (aB 0)) (aA (aB 2) aF))))) aF)))
def gO:iH:=c8 2 2
  (bF (aI LL.bW (aA (aI LL.bB (aA (aB 0) aF)) (aA (bX cM (aA (aB 0) aF)) (aA (aB 1) aF)))))
def eO:iH:=c8 2 2
  (bF (a9 2 [1] (p8 (aA (aE dG (aB 0) (fQ (aA (eC (.int 0)) aF))) (aA (aE dG (fQ (aA (eC (.int 0)) aF)) (aB 0)) aF))) (g2 0 1) bP (aE dG (aE mulM (aB 2) (aB 0)) (aB 1))))
def cC:iH:=c8 5 3
  (aK (bD 3 (fQ (aA (aB 0) aF)))
  (aK (dY (bA (aA (aB 2) aF)) (mC 4)
   (bD 3 (aI LL.eO (aA (aB 3) (aA (aE gH (aB 1) (aB 4)) aF)))))
  (bF (aB 3))))
def eZ:iH:=c8 5 1
  (aK (bD 1 (bX cM (aA (aB 0) aF)))
  (aK (bD 2 (aE repLM (fQ (aA (eC (.int 0)) aF)) (aE dG (aB 1) (eC (.int 1)))))
  (aK (dY (jG (aA (aI LL.bB (aA (aB 0) aF)) aF)) (NN 3 4)
   (bD 2 (aI LL.fX (aA (aB 2) (aA (aI LL.cC (aA (aB 4) (aA (aE gH (aE gH (aB 1) (eC (.int 1))) (aB 3)) (aA (aB 1) aF)))) aF)))))
  (bF (bX cQ (aA (aB 2) aF))))))
def dD:iH:=c8 3 1
  (aK (lX 1 (fQ aF))
  (aK (bD 2 (aB 0))
  (aK (RD HP (tV (aB 2))
   (aK (sX (oX 1 iN (bK (aE dC (aB 2) (eC (.int 0))))))
   (bD 2 (a9 2 [] (p8 (aA (aB 2) (aA (QY (aB 2) (oE (eC (.int 1))) Q9) aF))) (g2 0 1) bP (aE gH (aB 1) (aB 0))))))
  (bF (bX cQ (aA (aB 1) aF))))))
def cZ:iH:=c8 3 1
  (aK (bD 1 (bX cM (aA (aB 0) aF)))
  (aK (bD 2 (aI LL.bB (aA (aB 0) aF)))
  (bF (aI LL.dD (aA (a9 1 [2,1] (bA (aA (aE dG (aB 1) (eC (.int 1))) aF)) (g1 0) bP (aI LL.bW (aA (aB 1) (aA (aB 2) (aA (aB 0) aF))))) aF)))))
def FD{ks:List u6}{k k':u6}{v:D}:∀{ks:List u6} {ds:List D},ks.length=ds.length->bU (eD ks ds k v).1 (eD ks ds k v).2 k'=if k'=k then aa v else bU ks ds k':=by
 intro ks ds hl;unfold eD;split
 .rename_i hc;have go:∀(ks:List u6) (ds:List D),ks.length=ds.length->bU ks ((ks.zip ds).map λp=>if p.1=k then v else p.2) k'=if k'=k then(bU ks ds k').map (λ_=>v) else bU ks ds k':=by
   intro ks
   induction ks with
   |nil=>intro ds _;simp[bU]
   |cons q ks ih =>
    intro ds hl
    cases ds with
    |nil=>simp at hl
    |cons d ds =>
     have:=ih ds (by simpa using hl);unfold bU at this ⊢;by_cases h1:q=k'
     .subst h1;by_cases h2:q=k
      .simp [h2]
      .simp [h2]
     .simpa [h1] using this
  have hin:k∈ks:=by rw[om] at hc;obtain⟨q,hq,e⟩:=hc;rw[<- of_decide_eq_true e];exact hq
  have some_of:∀(ks:List u6) (ds:List D),ks.length=ds.length->k∈ks ->∃d,bU ks ds k=aa d:=by
   intro ks
   induction ks with
   |nil=>intro ds _ h;cases h
   |cons q ks ih =>
    intro ds hl h
    cases ds with
    |nil=>simp at hl
    |cons d ds =>
     by_cases h1:q=k
     .exact ⟨d,by simp[bU,h1]⟩
     .obtain ⟨d',e⟩:=ih ds (by simpa using hl) ((cb.1 h).resolve_left (dj h1));exact⟨d',by unfold bU at e ⊢;simpa[h1] using e⟩
  rw[go ks ds hl];by_cases h:k'=k
  .subst h;obtain⟨d,e⟩:=some_of ks ds hl hin;rw[e];simp
  .rw [Zz h,Zz h]
 .rename_i hc;have hn:k∉ks:=λh=>hc (om.2 ⟨k,h,by simp⟩);unfold bU;dsimp only;rw[a2n hl,List.find?_append];by_cases h:k'=k
  .subst h;have:((ks.zip ds).find? λp=>Zv (p.1=k'))=af:=by rw[List.find?_eq_none];intro p hp;have:=vg hp;simp only[decide_eq_true_eq];exact λe=>hn (e▸this.1)
   rw[this];simp
  .rw [Zz h];have:([k].zip [v]).find? (λp=>Zv (p.1=k'))=af:=by simp[dj h]
   rw[this,Option.or_none]
def LG{ks:List u6}{ds:List D}{k:u6}{v:D}(h:ks.length=ds.length):(eD ks ds k v).1.length=(eD ks ds k v).2.length/\(eD ks ds k v).1.length<=ks.length+1:=by
 unfold eD;split
 .simp [h]
 .simp [h]
def NW{ks:List u6}{ds:List D}{k:u6}{v:D}(h:∀q∈ks,q.isLeft=ag)(hk:k.isLeft=ag):∀q∈(eD ks ds k v).1,q.isLeft=ag:=by
 unfold eD;split
 .exact h
 .intro q hq;rcases h_.1 hq with z|z
  .exact h q z
  .rw [cp.1 z];exact hk
def k9(h:∀q∈ks,q.isLeft=ag)(hk:k.isLeft=ag):kindB ks k=ae:=by unfold kindB;rw[gw];intro q hq;rw[h q hq,hk];rfl
theorem AS:∀a:Q0e,AD (a.map D.int)=aa (a.map cz)
 |[]=>rfl
 |x::a=>by rw[bt,AD,AS a];rfl
def kS(a:Q0e)(l:Int):u6:=.inr [.inr (a.map cz),.inl (.inl l)]
def LH(a:Q0e)(l:Int):lY (.tup [tupI a,.int l])=aa (kS a l):=by
 have e:RG (tupI a)=aa (.inr (a.map cz)):=by show(AD (a.map D.int)).map jg=_;rw[AS];rfl
 show(wB [tupI a,.int l]).map jg=_;unfold wB;rw[e];rfl
theorem LI:∀{a b:Q0e},a.map (cz:Int->zK)=b.map cz->a=b
 |[],[],_=>rfl
 |[],_::_,h=>by simp at h
 |_::_,[],h=>by simp at h
 |x::a,y::b,h=>by simp only[bt,a2V,a0a] at h;rw[h.1,LI h.2]
theorem aCM{a b:Q0e}{l m:Int}(h:kS a l=kS b m):a=b/\l=m:=by unfold kS at h;simp only[Sum.inr.injEq,a2V,a0a,and_true] at h;exact⟨LI h.1,h.2⟩
def iU(a b:Q0e):List Int:=(a.zip b).map λp=>p.1+p.2
def iV(l:Q0e):List Int:=0::l.dropLast
def xD(n:Nat):List Int:=1::dh (max n 1-1) 0
def xE(n:Nat):List Int:=dh (max n 1) 0
section
variable(x:Q0a)
def Sh:Nat->List Int->Int->List Int
 |0,_,_=>xD x.length
 |m+1,a,l=>(aT x a).foldl (λacc t=>iU acc (if t<l then iV (Sh m (aN a t) t) else Sh m (aN a t) t)) (xE x.length)
end
def FE(h:a.length<=1000):fX [aG a,aG b]=.ok (aG (iU a b)):=by
 unfold fX iU;refine d9 rfl (dR (dU ((a.zip b).map λp=>D.tup [.int p.1,.int p.2]) ?_ ?_ ?_))
 .unfold p8;rw[args2 (x:=aG a) (y:=aG b) rfl rfl];show aa (((a.map D.int).zip (b.map D.int)).map _)=_;rw[Gf,cc];rfl
 .rw [a_,a2E];omega
 .rw [bZ (λp:Int×Int=>D.tup [.int p.1,.int p.2]) (λp=>.int (p.1+p.2)) (a.zip b) λp _=>⟨[aa (.int p.1),aa (.int p.2)],rfl,rfl⟩,cc];rfl
def Y7(h0:1<=a.length)(h:a.length<=1000):bR [aG a]=.ok (aG (iV a)):=by
 unfold bR;refine d9 rfl (dR (aY (x:=aG [0]) (y:=aG a.dropLast) rfl ?_ ?_))
 .show aa (D.lst (EU (a.map D.int) af (aa (-1))))=_;unfold aG EU NK;rw[a_];simp only[uz,r_];rw[Z_ (by decide),show((-1:Int)+(a.length:Int)).toNat=a.length-1 by omega,<- a2A,List.dropLast_eq_take]
 .show (if _ then _ else _)=_;rw[Z_ (by simp[oH];omega)];rfl
def eV(h:a.length=b.length):(iU a b).length=a.length:=by unfold iU;simp[h]
def jM(h:1<=a.length):(iV a).length=a.length:=by unfold iV;simp;omega
def iW(n:Nat):(xE n).length=max n 1:=by simp[xE]
def FF(n:Nat):(xD n).length=max n 1:=by simp[xD];omega
theorem e8(x:Q0a):∀(m:Nat) (a:Q0e) (l:Int),(Sh x m a l).length=max x.length 1
 |0,a,l=>FF _
 |m+1,a,l=>by
  unfold Sh;have go:∀(ts:Q0e) (acc:Q0e),acc.length=max x.length 1->(ts.foldl (λacc t=>iU acc (if t<l then iV (Sh x m (aN a t) t) else Sh x m (aN a t) t)) acc).length=max x.length 1:=by
   intro ts
   induction ts with
   |nil=>intro acc h;exact h
   |cons t ts ih =>
    intro acc h;rw[mh];refine ih _ ?_;rw[eV]
    .exact h
    .rw [h];have:=e8 x m (aN a t) t;split
     .rw [jM (by omega)];exact this.symm
     .exact this.symm
  exact go _ _ (iW _)
noncomputable def most:Nat->Nat
 |0=>1
 |m+1=>1+(m+1)*most m
def hW(x:Q0a)(kd:KD):Prop:=kd.1.length=kd.2.length/\(∀q∈kd.1,q.isLeft=ag) /\∀a l d,bU kd.1 kd.2 (kS a l)=aa d->d=aG (Sh x (x.length-a.length) a l)
def hW.put{x:Q0a}{kd:KD}(h:hW x kd)(a:Q0e)(l:Int):hW x (eD kd.1 kd.2 (kS a l) (aG (Sh x (x.length-a.length) a l))):=by
 refine⟨(LG h.1).1,NW h.2.1 rfl,λb m d e=>?_⟩;rw[FD (ks:=[]) h.1] at e;split at e
 .rename_i hk;obtain⟨rfl,rfl⟩:=aCM hk;exact(dg e).symm
 .exact h.2.2 b m d e
def oM(x:Q0a)(a:Q0e)(l:Int)(q:Nat->aw->Prop)(kd:KD)(s v6 v7:Sv):bO:=[.ro (aJ x),.ro (tupI a),.ro (.int l),.ow (.c7 q kd.1 kd.2),.ro (.tup [tupI a,.int l]),s,v6,v7]
def yd(h:hW x kd):tV (aE (NP ae) (aB 4) (aB 3)) (bY (oM x a l q kd s v6 v7))=aa (!(bU kd.1 kd.2 (kS a l)).isSome):=by refine g8 (d:=.bl (!(bU kd.1 kd.2 (kS a l)).isSome)) (aY (x:=.tup [tupI a,.int l]) (y:=.c7 q kd.1 kd.2) rfl rfl ?_) rfl;show((lY (.tup [tupI a,.int l])).bind _)=_;rw[LH];show(if _ then _ else _)=_;rw[Z_ (k9 h.2.1 rfl)];rfl
def Dm(h:hW x kd)(hq:∀b o,q b o ->∃o2,q0 b o2)(hl:bU kd.1 kd.2 (kS a l)=aa d):YL 3 (aB 4) q0 (oM x a l q kd s v6 v7)=aa (d,kd):=by have e:YL 3 (aB 4) q0 (oM x a l q kd s v6 v7)=(lY (.tup [tupI a,.int l])).bind λkk=>@ite _ (kindB kd.1 kk=ae /\∀b o,q b o ->∃o2,q0 b o2) (Hg _) ((bU kd.1 kd.2 kk).map λd=>(d,kd)) af:=rfl;rw[e,LH];exact(Z_ ⟨k9 h.2.1 rfl,hq⟩).trans (by rw[hl];rfl)
theorem rep0(n:Nat)(h:n<=1000):repLM (.lst [.int 0]) (.int (n:Int))=aa (aG (dh n 0)):=by
 show(if _ then _ else _)=_;rw[Z_ ⟨by simp[oH];omega,by omega⟩];unfold aG;congr 2;simp only[jf]
 induction n with
 |zero=>rfl
 |succ n ih=>rw[jb,qg,ih (by omega),jb];rfl
def HY(h:okI x a)(hl:a.length=x.length):aT x a=[]:=by have:=j8 h;exact zx (by omega)
def LJ(hx:x.length<=9)(h:ρ[0]?=aa (aa (aJ x))):aE repLM (fQ (aA (eC (.int 0)) aF)) (bX p4 (aA (bX cM (aA (aB 0) aF)) (aA (eC (.int 1)) aF))) ρ=aa (aG (xE x.length)):=by
 have e0:aB 0 ρ=aa (aJ x):=by unfold aB;rw[h];rfl
 refine aY (x:=.lst [.int 0]) (y:=.int ((max x.length 1:Nat):Int)) rfl (YR (x:=.int x.length) (y:=.int 1) (cV e0 eE) rfl ?_) (rep0 _ (by omega));show aa (D.int (if _ then _ else _))=_;split<;>congr 2<;>omega
def FG(h0:ρ[0]?=aa (aa (aJ x)))(h1:ρ[1]?=aa (aa (tupI a))):tV (aE u5 (bX cM (aA (aB 1) aF)) (bX cM (aA (aB 0) aF))) ρ=aa (Zv (a.length=x.length)):=by
 have e0:aB 0 ρ=aa (aJ x):=by unfold aB;rw[h0];rfl
 have e1:aB 1 ρ=aa (tupI a):=by unfold aB;rw[h1];rfl
 refine g8 (d:=.bl (Zv ((a.length:Int)=x.length))) (aY (cV e1 j6) (cV e0 eE) fH) ?_;rw[gK];congr 1;exact decide_eq_decide.2 (by omega)
def zL(x:Q0a)(kd:KD)(a:Q0e)(l:Int):KD:=eD kd.1 kd.2 (kS a l) (aG (Sh x (x.length-a.length) a l))
def LK{x:Q0a}{kd:KD}{a:Q0e}{l:Int}(h:hW x kd):hW x (zL x kd a l)/\(zL x kd a l).1.length<=kd.1.length+1/\bU (zL x kd a l).1 (zL x kd a l).2 (kS a l)=aa (aG (Sh x (x.length-a.length) a l)) :=
 ⟨h.put a l,(LG h.1).2,by unfold zL;rw[FD (ks:=[]) h.1,Z_ rfl]⟩
theorem Dl(h:hW x kd)(hc:kd.1.length<16000000):
  p7 3 (bK (aB 5)) (aB 4) (oM x a l q kd (.ro (aG (Sh x (x.length-a.length) a l))) v6 v7)=.nx (oM x a l (adr q) (zL x kd a l) (.ro (aG (Sh x (x.length-a.length) a l))) v6 v7):=by
 have e0:p7 3 (bK (aB 5)) (aB 4) (oM x a l q kd (.ro (aG (Sh x (x.length-a.length) a l))) v6 v7)=(match ((lY (.tup [tupI a,.int l])).bind λkk=>if kindB kd.1 kk=ae/\kd.2.length<oH then aa ((oM x a l q kd (.ro (aG (Sh x (x.length-a.length) a l))) v6 v7).set 3 (.ow (.c7 (adr q) (eD kd.1 kd.2 kk (aG (Sh x (x.length-a.length) a l))).1 (eD kd.1 kd.2 kk (aG (Sh x (x.length-a.length) a l))).2))) else af) with
  |some ρ'=>.nx ρ'
  |none=>.no):=rfl
 rw[e0,LH,dz,Z_ ⟨k9 h.2.1 rfl,by rw[<- h.1];unfold oH;omega⟩];rfl
def Rf(h:ρ[5]?=aa (.ow (aG (0::r)))):NM 5 (bK (eC (.int 1))) (eC (.int 0)) ρ=.nx (ρ.set 5 (.ow (aG (1::r)))):=by
 have e:NM 5 (bK (eC (.int 1))) (eC (.int 0)) ρ=(match ((oV ρ[5]?).bind λds=>(Q8 ds.length 0).map λj=>ρ.set 5 (.ow (.lst (ds.set j (.int 1))))) with
  |some ρ'=>.nx ρ'
  |none=>.no):=rfl
 rw[e,h]
 show(match ((Q8 ((0::r).map D.int).length 0).map λj=>ρ.set 5 (.ow (.lst (((0::r).map D.int).set j (.int 1))))) with
  |some ρ'=>Out.nx ρ'
  |none=>.no)=_
 rw[wU (by decide) (by simp)];rfl
abbrev bS(n:Nat):SF:=(aK (bD 4 (dP (aA (aB 1) (aA (aB 2) aF))))
  (gI (tV (aE (NP ae) (aB 4) (aB 3)))
   (aK (lX 5 (aE repLM (fQ (aA (eC (.int 0)) aF)) (bX p4 (aA (bX cM (aA (aB 0) aF)) (aA (eC (.int 1)) aF)))))
   (aK (gI (tV (aE u5 (bX cM (aA (aB 1) aF)) (bX cM (aA (aB 0) aF))))
    (NM 5 (bK (eC (.int 1))) (eC (.int 0)))
    dQ)
   (aK (yh 5 (dY (bE (aI LL.d6 (aA (aB 0) (aA (aB 1) aF)))) (mC 6)
    (aK (sC 7 (bC n) (aA (aB 0) (aA (aI LL.fF (aA (aB 1) (aA (aB 6) aF))) (aA (aB 6) aF))) 3)
    (bD 5 (aI fX (aA (aB 5) (aA (KR (tV (aE KS (aB 2) (aB 6))) (aI bR (aA (aB 7) aF)) (aB 7)) aF)))))))
   (p7 3 (bK (aB 5)) (aB 4)))))
   dQ))
theorem vG(h:hW x kd)
  (there:∀d',bU kd.1 kd.2 (kS a l)=aa d'->d'=d/\zM=kd)
  (new:bU kd.1 kd.2 (kS a l)=af ->∀q,∃q2 kd2 v5 v6 v7,(∀b o,q2 b o ->∃o2,q b o2)/\bS n (startM 8 [aJ x,tupI a,.int l] q kd)=.nx (oM x a l q2 kd2 v5 v6 v7)/\hW x kd2/\bU kd2.1 kd2.2 (kS a l)=aa d/\kd2=zM):
  bC (n+1) [aJ x,tupI a,.int l] kd=.ok (d,zM):=by
 unfold bC;refine YM λq=>?_
 have e1:wD 8 4 (bS n) (aB 4) q [aJ x,tupI a,.int l] kd=(match bS n (startM 8 [aJ x,tupI a,.int l] q kd) with
  |.nx ρ=>YL 3 (aB 4) q ρ
  |_=>af):=rfl
 refine e1.trans ?_
 cases hl:bU kd.1 kd.2 (kS a l) with
 |some d' =>
  obtain⟨rfl,rfl⟩:=there d' hl;have e2:bS n (startM 8 [aJ x,tupI a,.int l] q zM)=.nx (oM x a l q zM .no .no .no):=by refine bL (oM x a l q zM .no .no .no) (dH (.tup [tupI a,.int l]) rfl rfl) ?_;refine lZ ?_ rfl;rw[yd h,hl];rfl
  rw[e2];exact Dm h (λb o ho=>⟨o,ho⟩) hl
 |none =>
  obtain⟨q2,kd2,v5,v6,v7,hq,eb,hM,hl2,rfl⟩:=new hl q;rw[eb];exact Dm hM hq hl2
def Dk(ha:a ρ=aa x)(hb:b ρ=aa y)(hc:c ρ=aa z):aA a (aA b (aA c aF)) ρ=aa [x,y,z]:=by have:=args2 hb hc;unfold aA at this ⊢;rw[ha,this];rfl
abbrev lS(n:Nat):SF:=aK (sC 7 (bC n) (aA (aB 0) (aA (aI LL.fF (aA (aB 1) (aA (aB 6) aF))) (aA (aB 6) aF))) 3)
    (bD 5 (aI fX (aA (aB 5) (aA (KR (tV (aE KS (aB 2) (aB 6))) (aI bR (aA (aB 7) aF)) (aB 7)) aF))))
def gF(x:Q0a)(m:Nat)(a:Q0e)(l:Int)(acc:Q0e)(t:Int):List Int:=iU acc (if t<l then iV (Sh x m (aN a t) t) else Sh x m (aN a t) t)
theorem aCO(ha:a.length<=9)(hx:x.length<=9)(hacc:acc.length=max x.length 1)
  (hR:bC n [aJ x,tupI (aN a t),.int t] kd=.ok (aG (Sh x m (aN a t) t),zM)):
  lS n (oM x a l q kd (.ro (aG acc)) (.ro (.int t)) v7)=.nx (oM x a l (adr q) zM (.ro (aG (gF x m a l acc t))) (.ro (.int t)) (.ro (aG (Sh x m (aN a t) t)))):=by
 have hS:=e8 x m (aN a t) t;refine bL (oM x a l (adr q) zM (.ro (aG acc)) (.ro (.int t)) (.ro (aG (Sh x m (aN a t) t)))) ?_ ?_
 .have e:stepM (bC n) (aA (aB 0) (aA (aI LL.fF (aA (aB 1) (aA (aB 6) aF))) (aA (aB 6) aF))) 3 (oM x a l q kd (.ro (aG acc)) (.ro (.int t)) v7)=aa (q,aG (Sh x m (aN a t) t),zM):=by
   unfold stepM;have e1:aA (aB 0) (aA (aI LL.fF (aA (aB 1) (aA (aB 6) aF))) (aA (aB 6) aF)) (jR (oM x a l q kd (.ro (aG acc)) (.ro (.int t)) v7))=aa [aJ x,tupI (aN a t),.int t]:=by have e2:aI LL.fF (aA (aB 1) (aA (aB 6) aF)) (jR (oM x a l q kd (.ro (aG acc)) (.ro (.int t)) v7))=aa (tupI (aN a t)):=bQ rfl rfl (NV ha);exact Dk rfl e2 rfl
   rw[e1,dz]
   show(match bC n [aJ x,tupI (aN a t),.int t] kd with
    |.ok r=>aa (q,r)
    |_=>af)=_
   rw[hR]
  unfold sC;rw[e];rfl
 .refine dH (aG (gF x m a l acc t)) ?_ rfl;have e3:KR (tV (aE KS (aB 2) (aB 6))) (aI bR (aA (aB 7) aF)) (aB 7) (jR (oM x a l (adr q) zM (.ro (aG acc)) (.ro (.int t)) (.ro (aG (Sh x m (aN a t) t)))))=aa (aG (if t<l then iV (Sh x m (aN a t) t) else Sh x m (aN a t) t)):=by
   have et:tV (aE KS (aB 2) (aB 6)) (jR (oM x a l (adr q) zM (.ro (aG acc)) (.ro (.int t)) (.ro (aG (Sh x m (aN a t) t)))))=aa (Zv (t<l)):=rfl;unfold KR;rw[et,dz];by_cases h:t<l
   .rw [Zx h,Z_ rfl,Z_ h];exact eU rfl (Y7 (by omega) (by omega))
   .rw [Zy h,Zz (by decide),Zz h];rfl
  exact bQ rfl e3 (FE (by omega))
theorem SG(ha:a.length<=9)(hx:x.length<=9):∀(ts:Q0e) (acc:Q0e) (kd:KD),acc.length=max x.length 1->hW x kd ->
  (∀t∈ts,∀kd,hW x kd->kd.1.length+most m<=10000000 ->∃zM,bC n [aJ x,tupI (aN a t),.int t] kd=.ok (aG (Sh x m (aN a t) t),zM)/\hW x zM/\zM.1.length<=kd.1.length+most m) ->
  kd.1.length+ts.length*most m<=10000000 ->
  ∃kd2,hW x kd2/\kd2.1.length<=kd.1.length+ts.length*most m /\∀(q0 q:Nat->aw->Prop) (v6 v7:Sv),(∀b o,q b o ->∃o2,q0 b o2) ->∃(q2:Nat->aw->Prop) (w6 w7:Sv),(∀b o,q2 b o ->∃o2,q0 b o2) /\
   eR (mC 6) (lS n) (ts.map D.int) (oM x a l q kd (.ro (aG acc)) v6 v7)=.nx (oM x a l q2 kd2 (.ro (aG (ts.foldl (gF x m a l) acc))) w6 w7)
 |[],acc,kd,hacc,hM,_,_=>⟨kd,hM,by simp,λq0 q v6 v7 hq=>⟨q,v6,v7,hq,rfl⟩⟩
 |t::ts,acc,kd,hacc,hM,hR,hc=>by
  rw[de,F_] at hc;obtain⟨kd1,e1,tq,hc1⟩:=hR t cn kd hM (by omega);have hS:=e8 x m (aN a t) t;have Wg:(gF x m a l acc t).length=max x.length 1:=by
   unfold gF;rw[eV]
   .exact hacc
   .rw [hacc];split
    .rw [jM (by omega)];exact hS.symm
    .exact hS.symm
  obtain⟨kd2,Je,hc2,go⟩:=SG ha hx ts (gF x m a l acc t) kd1 Wg tq (λu hu=>hR u (dq _ hu)) (by omega);refine⟨kd2,Je,by rw[de,F_];omega,λq0 q v6 v7 hq=>?_⟩;obtain⟨q2,w6,w7,hq2,e2⟩:=go q0 (adr q) (.ro (.int t)) (.ro (aG (Sh x m (aN a t) t))) λb o ⟨o1,h1⟩=>hq b o1 h1;refine⟨q2,w6,w7,hq2,?_⟩;rw[bt,mh]
  have e3:eR (mC 6) (lS n) (D.int t::ts.map D.int) (oM x a l q kd (.ro (aG acc)) v6 v7)=(match lS n (oM x a l q kd (.ro (aG acc)) (.ro (.int t)) v7) with
   |.nx ρ2=>eR (mC 6) (lS n) (ts.map D.int) ρ2
   |o=>o):=rfl
  rw[e3,aCO ha hx hacc e1];exact e2
theorem Y8(hx:x.length<=9)(hr:∀r∈x,r.length<=9):∀(m e:Nat) (a:Q0e) (l:Int) (kd:KD),okI x a->a.length+m=x.length->hW x kd->kd.1.length+most m<=10000000 ->
  ∃zM,bC (m+1+e) [aJ x,tupI a,.int l] kd=.ok (aG (Sh x m a l),zM)/\hW x zM/\zM.1.length<=kd.1.length+most m/\bU zM.1 zM.2 (kS a l)=aa (aG (Sh x m a l)):=by
 intro m
 induction m with
 |zero =>
  intro e a l kd ok hl hM hc;have hl:a.length=x.length:=hl;have m0:most 0=1:=rfl;have e0:x.length-a.length=0:=by omega
  rw[show 0+1+e=e+1 by omega]
  cases hk:bU kd.1 kd.2 (kS a l) with
  |some d =>
   have ed:=hM.2.2 a l d hk;rw[e0] at ed;subst ed;exact⟨kd,vG hM (λd' h'=>by rw[hk] at h';exact⟨(dg h').symm,rfl⟩) (λh'=>by rw[hk] at h';cases h'),hM,by omega,hk⟩
  |none =>
   obtain⟨p1,p2,p3⟩:=LK (a:=a) (l:=l) hM;rw[e0] at p3;refine⟨zL x kd a l,vG hM (λd' h'=>by rw[hk] at h';cases h') λ_ q=>⟨adr q,zL x kd a l,.ro (aG (Sh x 0 a l)),.no,.no,λb o h=>h,?_,p1,p3,rfl⟩,p1,by omega,p3⟩
   .refine bL (oM x a l q kd .no .no .no) (dH (.tup [tupI a,.int l]) rfl rfl) (zF ?_ ?_)
    .rw [yd hM,hk];rfl
    .have ez:xE x.length=0::dh (max x.length 1-1) 0:=by unfold xE;rw[<- jb];congr 1;omega
     refine bL (oM x a l q kd (.ow (aG (xE x.length))) .no .no) (by unfold lX;rw[LJ hx rfl];rfl) ?_;refine bL (oM x a l q kd (.ow (aG (xD x.length))) .no .no) (zF ((FG rfl rfl).trans (by rw[Zx hl])) ?_) ?_
     .rw [ez];exact Rf rfl
     refine bL (oM x a l q kd (.ro (aG (xD x.length))) .no .no) ?_ ?_
     .show dY _ _ _ (oM x a l q kd (.ro (aG (xD x.length))) .no .no)=_;refine wR [] ?_ rfl;unfold bE;rw[bQ (x:=aJ x) (y:=tupI a) rfl rfl (FC hx hr),HY ok hl];rfl
     .have:=Dl (x:=x) (a:=a) (l:=l) (q:=q) (kd:=kd) (v6:=.no) (v7:=.no) hM (by omega);rw[e0] at this;exact this
 |succ m ih =>
  intro e a l kd ok hl hM hc;have mm:most (m+1)=1+(m+1)*most m:=rfl;have e0:x.length-a.length=m+1:=by omega
  have hfew:=j8 ok;have ha:=Y5 ok;rw[show m+1+1+e=(m+1+e)+1 by omega]
  cases hk:bU kd.1 kd.2 (kS a l) with
  |some d =>
   have ed:=hM.2.2 a l d hk;rw[e0] at ed;subst ed;exact⟨kd,vG hM (λd' h'=>by rw[hk] at h';exact⟨(dg h').symm,rfl⟩) (λh'=>by rw[hk] at h';cases h'),hM,by omega,hk⟩
  |none =>
   have hlen:(aT x a).length*most m<=(m+1)*most m:=Nat.mul_le_mul_right _ (by omega);obtain⟨kd1,tq,hc1,go⟩:=SG (n:=m+1+e) (m:=m) (l:=l) (by omega:a.length<=9) hx (aT x a) (xE x.length) kd (iW _) hM (λt ht kd hM' hc'=>(ih e (aN a t) t kd ((Dq ok).1 _ (vm ht)).1 (by have:=((Dq ok).1 _ (vm ht)).2;omega) hM' hc').imp λ_ h=>⟨h.1,h.2.1,h.2.2.1⟩) (by omega);obtain⟨p1,p2,p3⟩:=LK (a:=a) (l:=l) tq;rw[e0] at p3;refine⟨zL x kd1 a l,vG hM (λd' h'=>by rw[hk] at h';cases h') λ_ q=>?_,p1,by omega,p3⟩;obtain⟨q2,w6,w7,hq2,el⟩:=go q q .no .no λb o h=>⟨o,h⟩;refine⟨adr q2,zL x kd1 a l,.ro (aG (Sh x (m+1) a l)),w6,w7,λb o ⟨o1,h1⟩=>hq2 b o1 h1,?_,p1,p3,rfl⟩;refine bL (oM x a l q kd .no .no .no) (dH (.tup [tupI a,.int l]) rfl rfl) (zF ?_ ?_)
   .rw [yd hM,hk];rfl
   .refine bL (oM x a l q kd (.ow (aG (xE x.length))) .no .no) (by unfold lX;rw[LJ hx rfl];rfl) ?_;refine bL (oM x a l q kd (.ow (aG (xE x.length))) .no .no) (lZ ((FG rfl rfl).trans (by rw[Zy (by omega)])) rfl) ?_;refine bL (oM x a l q2 kd1 (.ro (aG (Sh x (m+1) a l))) w6 w7) ?_ ?_
    .show dY _ _ _ (oM x a l q kd (.ro (aG (xE x.length))) .no .no)=_;refine wR ((aT x a).map D.int) ?_ el;unfold bE;rw[bQ (x:=aJ x) (y:=tupI a) rfl rfl (FC hx hr)];rfl
    .have:=Dl (x:=x) (a:=a) (l:=l) (q:=q2) (kd:=kd1) (v6:=w6) (v7:=w7) tq (by omega);rw[e0] at this;exact this
def aCP:∀{n:Nat},n<=9->most n<=1000000:=by
 intro n h;have:∀n,n<=9->most n<=1000000:=by decide
 exact this n h
def shares(x:Q0a):List Int:=Sh x x.length [] 0
def sS(hx:x.length<=9)(hr:∀r∈x,r.length<=9):bB [aJ x]=.ok (tupI (shares x)):=by
 obtain⟨kd,e,hM,hc,hl⟩:=Y8 hx hr x.length (10-x.length) [] 0 ([],[]) Y6 (by simp) ⟨rfl,λq hq=>(by cases hq),λa l d h=>(by simp[bU] at h)⟩ (by have:=aCP hx;simp;omega);rw[show x.length+1+(10-x.length)=11 by omega] at e;have e1:g4 [aJ x]=.ok (.c7 (adr p6) kd.1 kd.2):=by
  unfold g4;refine d9 rfl (bL [.ro (aJ x),.ow (.c7 p6 [] [])] rfl (bL [.ro (aJ x),.ow (.c7 (adr p6) kd.1 kd.2)] ?_ (dR rfl)));have e2:stepM (bC 11) (aA (aB 0) (aA (dP aF) (aA (eC (.int 0)) aF))) 1 [.ro (aJ x),.ow (.c7 p6 [] [])]=aa (p6,aG (Sh x x.length [] 0),kd):=by
   unfold stepM;rw[Dk (x:=aJ x) (y:=tupI []) (z:=.int 0) rfl rfl rfl,dz]
   show(match bC 11 [aJ x,tupI [],.int 0] ([],[]) with
    |.ok r=>aa (p6,r)
    |_=>af)=_
   rw[e]
  unfold YN;rw[e2];rfl
 unfold bB;refine d9 rfl (dR (cV (x:=aG (shares x)) (aY (x:=.c7 (adr p6) kd.1 kd.2) (y:=.tup [tupI [],.int 0]) (eU rfl e1) rfl ?_) rfl));show((lY (.tup [tupI [],.int 0])).bind λk=>if kindB kd.1 k=ae then bU kd.1 kd.2 k else af)=_;rw[LH,dz,Z_ (k9 hM.2.1 rfl)];exact hl
open K24
theorem SH(hx:Bg 210 x):∀m:Nat,m<=1000->Bg (211*m+1) (ff x m)
 |0,_=>by unfold Bg ff;decide
 |m+1,h=>by
  have h1:=SH hx m (by omega);have h2:Bg 211 (x-m):=by
   have:Bg 210 (m:Int):=by
    unfold Bg;have:(m:Int).natAbs<2^10:=by omega
    exact gc this (u_ (by decide) (by decide))
   exact hx.sub this
  exact(h1.mul h2).mono (by omega)
def Wf(hx:Bg 210 x)(hm:m<=1000):Bg (211*m+1) (C x m):=by
 have h:=SH hx m hm;have e:=xC x m;unfold Bg at h ⊢;rw[<- e,a23] at h;have:1<=(fact m).natAbs:=by have:=qP m;omega
 exact pw (Nat.le_mul_of_pos_right _ this) h
def aCQ(x:Int)(i:Nat):C x i*(x-i)/((i:Int)+1)=C x (i+1):=by
 have h1:=xC x i;have h2:=xC x (i+1);have e:C x i*(x-i)=C x (i+1)*((i:Int)+1):=by
  refine a26 (a22 (qP i)) ?_;rw[show fact (i+1)=fact i*(i+1) from rfl,show ff x (i+1)=ff x i*(x-i) from rfl,<- h1] at h2
  calc C x i*(x - ↑i)*fact i=C x i*fact i*(x - ↑i):=by rw[Int.mul_right_comm]
   _=C x (i+1)*(fact i*(↑i+1)):=h2.symm
   _=C x (i+1)*(↑i+1)*fact i:=by rw[ql (fact i),sk]
 rw[e,Int.mul_ediv_cancel _ (by omega)]
def NX{x:Int}{m:Nat}(hx:Bg 210 x)(hm:m<=12):mL [.int x,.int m]=.ok (.int (C x m)):=by
 unfold mL;have h:Rt (aK (bD 2 (eC (.int 1))) (aK (dY (bA (aA (aB 1) aF)) (mC 3) (bD 2 (aE vV (aE mulM (aB 2) (aE gH (aB 0) (aB 3))) (aE dG (aB 3) (eC (.int 1)))))) (bF (aB 2))) (dZ 4 [.int x,.int m])) λd=>d=.int (C x m):=by
  refine bM [.ro (.int x),.ro (.int m),.ro (.int 1),.no] rfl ?_;refine mH (λρ=>∃v,ρ=[.ro (.int x),.ro (.int m),.ro (.int (C x m)),v]) ?_ λρ ⟨v,e⟩=>by subst e;exact fW _ rfl rfl
  refine k7 m (λi ρ=>∃v,ρ=[.ro (.int x),.ro (.int m),.ro (.int (C x i)),v]) rfl (by omega) ⟨_,rfl⟩ (λi ρ hi ⟨v,e⟩=>?_) λρ h=>h;subst e;refine⟨_,rfl,RR (.int (C x (i+1))) (aY (x:=.int (C x i*(x-i))) (y:=.int ((i:Int)+1)) (aY (x:=.int (C x i)) (y:=.int (x-i)) rfl rfl (Y4 (p:=211*i+1) (q:=211) (by omega) (by omega) (Wf hx (by omega)) ?_)) rfl ?_) ⟨_,rfl⟩⟩
  .have:Bg 210 (i:Int):=by
    unfold Bg;have:(i:Int).natAbs<2^10:=by omega
    exact gc this (u_ (by decide) (by decide))
   exact hx.sub this
  .rw [mF (by omega) (by omega),aCQ]
 obtain⟨d,e,rfl⟩:=iP rfl h;exact e
def dvL(n:Nat)(k:Int)(w:Q0e)(d:Nat):List Int:=(w.zipIdx d).map λp=>p.1*C (k+n-1-p.2) n
theorem CL(n:Nat)(k:Int):∀(w:Q0e) (d:Nat),(dvL n k w d).sum=DV n d w k
 |[],d=>rfl
 |a::w,d=>by have ih:=CL n k w (d+1);show a*C (k+n-1-d) n+(dvL n k w (d+1)).sum=a*C (k+n-1-d) n+DV n ((d:Int)+1) w k;rw[ih];rfl
def SI{k:Int}(hk:Bg 208 k){a b:Nat}(ha:a<=1000)(hb:b<=1000):Bg 210 (k+a-1-b):=by
 unfold Bg at hk ⊢;have:(2:Nat)^210=4*2^208:=by rw[show 210=2+208 from rfl,a2h]
 have h2:2000<2^208:=gc (by decide:2000<2^11) (u_ (by decide) (by decide));rw[this];generalize 2^208=z at *;omega
def t9{w:Q0e}{n:Nat}{k:Int}(hw:w.length<=20)(hs:∀y∈w,y.natAbs<18446744073709551616)(hn:n<=12)(hk:Bg 208 k):bW [tupI w,.int n,.int k]=.ok (.int (DV n 0 w k)):=by
 unfold bW;have e:=CL n k w 0;rw[show((0:Nat):Int)=0 from rfl] at e;rw[<- e];refine d9 rfl (dR (cV (x:=aG (dvL n k w 0)) ?_ sum_ints));refine dU ((w.zipIdx).map λp=>D.tup [.int (p.2:Int),.int p.1]) ?_ (by simp;omega) ?_
 .unfold jG;rw[args1 (x:=tupI w) rfl];show aa (((w.map D.int).zipIdx).map _)=_;rw[zipIdx_map,cc];rfl
 .unfold dvL;rw[cc];refine bZ (λp:Int×Nat=>D.tup [.int (p.2:Int),.int p.1]) (λp=>.int (p.1*C (k+n-1-p.2) n)) w.zipIdx λp hp=>⟨[aa (.int p.2),aa (.int p.1),aa (.int n),aa (.int k)],rfl,?_⟩;have hm:=List.mem_zipIdx hp;have h1:p.1∈w:=by have:=hm.2.2;rw[this];exact mz _
  exact aY (x:=.int p.1) (y:=.int (C (k+n-1-p.2) n)) rfl (bQ (x:=.int (k+n-1-p.2)) (y:=.int n) rfl rfl (NX (SI hk (by omega) (by omega)) hn)) (mG (hs _ h1))
def Rc(h1:f (jR ρ)=aa d)(h2:ρ[i]?=aa (.ow (.lst ds)))(hl:ds.length<16777216):sX (oX i iN (bK f)) ρ=.nx (ρ.set i (.ow (.lst (ds++[d])))):=by
 have e:oX i iN (bK f) ρ=aa (ρ.set i (.ow (.lst (ds++[d]))),.non):=by unfold oX bK;rw[h2,h1];show((oV ρ[i]?).bind λds=>(iN ds d).map _)=_;rw[h2];show((iN ds d).map _)=_;rw[k6 hl];rfl
 unfold sX;rw[e]
theorem AU:∀r:Q0e,diffs r=(r.zip (r.drop 1)).map λp=>p.2-p.1
 |[]=>rfl
 |[a]=>rfl
 |a::b::l=>by have ih:=AU (b::l);show(b-a)::diffs (b::l)=_;rw[ih];rfl
theorem SJ(hv:v.length<=1000):dD [aG v]=.ok (tupI (fd v)):=by
 unfold dD;have step:∀(n:Nat) (r f:Q0e) (m:Nat),r.length=n->n<m->f.length+n<=1000->eB (tV (aB 2)) (aK (sX (oX 1 iN (bK (aE dC (aB 2) (eC (.int 0)))))) (bD 2 (a9 2 [] (p8 (aA (aB 2) (aA (QY (aB 2) (oE (eC (.int 1))) Q9) aF))) (g2 0 1) bP (aE gH (aB 1) (aB 0))))) m [.ro (aG v),.ow (aG f),.ro (aG r)]=.nx [.ro (aG v),.ow (aG (f++fd r)),.ro (aG [])]:=by
  intro n
  induction n with
  |zero =>
   intro r f m hr hm hf;rw[qc] at hr;subst hr
   cases m with
   |zero=>omega
   |succ m =>
    unfold eB;rw[SE,mi];rfl
  |succ n ih =>
   intro r f m hr hm hf
   cases m with
   |zero=>omega
   |succ m =>
    cases r with
    |nil=>cases hr
    |cons a r =>
     have e1:(aK (sX (oX 1 iN (bK (aE dC (aB 2) (eC (.int 0)))))) (bD 2 (a9 2 [] (p8 (aA (aB 2) (aA (QY (aB 2) (oE (eC (.int 1))) Q9) aF))) (g2 0 1) bP (aE gH (aB 1) (aB 0))))) [.ro (aG v),.ow (aG f),.ro (aG (a::r))]=.nx [.ro (aG v),.ow (aG (f++[a])),.ro (aG (diffs (a::r)))]:=by
      refine bL [.ro (aG v),.ow (aG (f++[a])),.ro (aG (a::r))] ?_ (dH (aG (diffs (a::r))) ?_ rfl)
      .rw [Rc (d:=.int a) (ds:=f.map D.int) (aY (x:=aG (a::r)) (y:=.int 0) rfl rfl (jI (ws:=a::r) (j:=0) rfl)) rfl (by rw[a_];omega)];show Out.nx [Sv.ro (aG v),.ow (.lst (f.map D.int++[D.int a])),.ro (aG (a::r))]=_;rw[sP]
      .have e5:aG (diffs (a::r))=.lst (((a::r).zip ((a::r).drop 1)).map λp=>.int (p.2-p.1)):=by rw[AU];unfold aG;rw[cc];rfl
       rw[e5];refine dU (((a::r).zip ((a::r).drop 1)).map λp=>D.tup [.int p.1,.int p.2]) ?_ (by simp at hr ⊢;omega) ?_
       .unfold p8;have e3:QY (aB 2) (oE (eC (.int 1))) Q9 (jR [Sv.ro (aG v),.ow (aG (f++[a])),.ro (aG (a::r))])=aa (aG r):=by show aa (D.lst (EU ((a::r).map D.int) (aa 1) af))=_;unfold EU NK;simp[aG];exact vd (i:=r.length) (by simp)
        rw[args2 (x:=aG (a::r)) (y:=aG r) rfl e3];show aa ((((a::r).map D.int).zip (r.map D.int)).map _)=_;rw[Gf,cc];rfl
       .exact bZ (λp:Int×Int=>D.tup [.int p.1,.int p.2]) (λp=>.int (p.2-p.1)) _ λp _=>⟨[aa (.int p.1),aa (.int p.2)],rfl,rfl⟩
     unfold eB
     show(match (aK _ _) [Sv.ro (aG v),.ow (aG f),.ro (aG (a::r))] with
      |.nx ρ'=>eB _ _ m ρ'
      |o=>o)=_
     rw[e1];show eB _ _ m _=_;rw[ih (diffs (a::r)) (f++[a]) m (by rw[iE,hr];rfl) (by omega) (by simp;omega),LF,ng];rfl
 refine d9 rfl (bL [.ro (aG v),.ow (aG []),.no] rfl (bL [.ro (aG v),.ow (aG []),.ro (aG v)] rfl (bL [.ro (aG v),.ow (aG (fd v)),.ro (aG [])] ?_ (dR rfl))));exact step v.length v [] HP rfl (by unfold HP;omega) (by simp;omega)
noncomputable def ev(k:Int):List Int->Int
 |[]=>0
 |a::l=>a+k*ev k l
def sU(s:Int)(l:Q0e):List Int:=((l++[0]).zip (0::l)).map λp:Int×Int=>s*p.1+p.2
theorem CM(s:Int)(l:Q0e):(sU s l).length=l.length+1:=by unfold sU;simp
noncomputable def h8(s t:Int):Nat->List Int
 |0=>[s]
 |n+1=>sU (t-n) (h8 s t n)
theorem jN(s t:Int):∀n:Nat,(h8 s t n).length=n+1
 |0=>rfl
 |n+1=>by rw[show h8 s t (n+1)=sU (t-n) (h8 s t n) from rfl,CM,jN s t n]
def SK(hl:l.length<=1000)(hs:s.natAbs<18446744073709551616):eO [aG l,.int s]=.ok (aG (sU s l)):=by
 unfold eO sU;refine d9 rfl (dR ?_);have e5:aG (((l++[0]).zip (0::l)).map λp:Int×Int=>s*p.1+p.2)=.lst (((l++[0]).zip (0::l)).map λp:Int×Int=>D.int (s*p.1+p.2)):=by unfold aG;rw[cc];rfl
 rw[e5];refine dU (((l++[0]).zip (0::l)).map λp:Int×Int=>D.tup [.int p.1,.int p.2]) ?_ (by simp;omega) ?_
 .unfold p8;have a1:aE dG (aB 0) (fQ (aA (eC (.int 0)) aF)) (bY (dZ 2 [aG l,.int s]))=aa (aG (l++[0])):=by refine aY (x:=aG l) (y:=.lst [.int 0]) rfl rfl ?_;unfold aG;rw[qD (by simp;omega),gu];rfl
  have a2:aE dG (fQ (aA (eC (.int 0)) aF)) (aB 0) (bY (dZ 2 [aG l,.int s]))=aa (aG (0::l)):=by refine aY (x:=.lst [.int 0]) (y:=aG l) rfl rfl ?_;unfold aG;rw[qD (by simp;omega)];rfl
  rw[args2 a1 a2];show aa ((((l++[0]).map D.int).zip ((0::l).map D.int)).map _)=_;rw[Gf,cc];rfl
 .exact bZ (λp:Int×Int=>D.tup [.int p.1,.int p.2]) (λp:Int×Int=>D.int (s*p.1+p.2)) _ λp _=>⟨[aa (.int p.1),aa (.int p.2),aa (.int s)],rfl,aY (g:=dG) (x:=.int (s*p.1)) (y:=.int p.2) (aY (g:=mulM) (x:=.int s) (y:=.int p.1) rfl rfl (mG hs)) rfl iO⟩
theorem HZ{s t:Int}{n:Nat}(hn:n<=20)(ht:t.natAbs<=1000):cC [.int s,.int t,.int n]=.ok (aG (h8 s t n)):=by
 unfold cC;have h:Rt ((aK (bD 3 (fQ (aA (aB 0) aF))) (aK (dY (bA (aA (aB 2) aF)) (mC 4) (bD 3 (aI eO (aA (aB 3) (aA (aE gH (aB 1) (aB 4)) aF))))) (bF (aB 3)))) (dZ 5 [.int s,.int t,.int n])) λd=>d=aG (h8 s t n):=by
  refine bM [.ro (.int s),.ro (.int t),.ro (.int n),.ro (aG [s]),.no] rfl ?_;refine mH (λρ=>∃v,ρ=[.ro (.int s),.ro (.int t),.ro (.int n),.ro (aG (h8 s t n)),v]) ?_ λρ ⟨v,e⟩=>by subst e;exact fW _ rfl rfl
  refine k7 n (λi ρ=>∃v,ρ=[.ro (.int s),.ro (.int t),.ro (.int n),.ro (aG (h8 s t i)),v]) rfl (by omega) ⟨_,rfl⟩ (λi ρ hi ⟨v,e⟩=>?_) λρ h=>h;subst e;exact⟨_,rfl,RR (aG (h8 s t (i+1))) (bQ (x:=aG (h8 s t i)) (y:=.int (t-i)) rfl rfl (SK (by rw[jN];omega) (by omega))) ⟨_,rfl⟩⟩
 obtain⟨d,e,rfl⟩:=iP rfl h;exact e
def FH(n:Nat):List Int->Nat->List Int->List Int
 |[],_,acc=>acc
 |s::w,d,acc=>FH n w (d+1) (iU acc (h8 s ((n:Int)-1-d) n))
theorem uA(n:Nat):∀(w:Q0e) (d:Nat) (acc:Q0e),acc.length=n+1->(FH n w d acc).length=n+1
 |[],d,acc,h=>h
 |s::w,d,acc,h=>uA n w (d+1) _ (by rw[eV (by rw[h,jN]),h])
def SM(x:Q0a)(a:Q0e):(aT x a).length<=x.length:=by unfold aT;have h1:=me (λt=>(row x t).all λl=>a.contains l) ((bI 0 x.length).filter λt=>!a.contains t);have h2:=me (λt=>!a.contains t) (bI 0 x.length);rw[aS] at h2;omega
theorem SN(hx:x.length<=9):∀(m:Nat) (a:Q0e) (l:Int),∀y∈Sh x m a l,0<=y/\y<=9^m
 |0,a,l,y,hy=>by
  unfold Sh xD at hy;rcases cb.1 hy with e|e
  .subst e;decide
  .rw [a2P e];decide
 |m+1,a,l,y,hy=>by
  have ih:=SN hx m;have go:∀(ts:Q0e) (acc:Q0e) (c:Int),0<=c->(∀y∈acc,0<=y/\y<=c*9^m) ->∀y∈ts.foldl (λacc t=>iU acc (if t<l then iV (Sh x m (aN a t) t) else Sh x m (aN a t) t)) acc,0<=y/\y<=(c+ts.length)*9^m:=by
   intro ts
   induction ts with
   |nil=>intro acc c hc h;simpa using h
   |cons t ts iht =>
    intro acc c hc h;rw[mh];have:=iht (iU acc (if t<l then iV (Sh x m (aN a t) t) else Sh x m (aN a t) t)) (c+1) (by omega) ?_
    .rw [de];rw[show c+((ts.length+1:Nat):Int)=c+1+ts.length by omega];exact this
    .intro y hy;unfold iU at hy;obtain⟨p,hp,rfl⟩:=cg.1 hy;obtain⟨m1,m2⟩:=vg hp;have g1:=h _ m1;have g2:0<=p.2/\p.2<=9^m:=by
      split at m2
      .unfold iV at m2;rcases cb.1 m2 with e|e
       .rw [e];exact⟨by decide,a25 (a20 (by decide))⟩
       .exact ih _ _ _ (List.dropLast_subset _ e)
      .exact ih _ _ _ m2
     rw[z_,Int.one_mul];omega
  unfold Sh at hy;have:=go (aT x a) (xE x.length) 0 (by decide) (λy hy=>by rw[a2P hy];simp) y hy
  refine⟨this.1,zz this.2 ?_⟩;rw[je,Int.pow_succ,ql];have h1:=SM x a;exact Int.mul_le_mul_of_nonneg_left (by omega) (a25 (a20 (by decide)))
def xF(hx:x.length<=9):∀y∈shares x,0<=y/\y<=387420489:=λy hy=>by
 have h:=SN hx x.length [] 0 y hy;refine⟨h.1,zz h.2 ?_⟩;have:∀n,n<=9->(9:Int)^n<=387420489:=by decide
 exact this _ hx
def gW(x:Q0a):(shares x).length=max x.length 1:=e8 x _ _ _
def qQ(hx:x.length<=9)(hr:∀r∈x,r.length<=9)(hk:Bg 208 k):gO [aJ x,.int k]=.ok (.int (DV x.length 0 (shares x) k)):=by unfold gO;refine d9 rfl (dR (jS (eU rfl (sS hx hr)) (cV rfl eE) rfl (t9 (by rw[gW];omega) (λy hy=>?_) (by omega) hk)));have:=xF hx y hy;omega
def oN(hx:x.length<=9)(hr:∀r∈x,r.length<=9):eZ [aJ x]=.ok (tupI (FH x.length (shares x) 0 (dh (x.length+1) 0))):=by
 unfold eZ;have step:∀(w:Q0e) (d:Nat) (acc:Q0e) (v3 v4:Sv),acc.length=x.length+1->d+w.length<=20 ->∃w3 w4,eR (NN 3 4) (bD 2 (aI fX (aA (aB 2) (aA (aI cC (aA (aB 4) (aA (aE gH (aE gH (aB 1) (eC (.int 1))) (aB 3)) (aA (aB 1) aF)))) aF)))) ((w.zipIdx d).map λp=>D.tup [.int (p.2:Int),.int p.1]) [.ro (aJ x),.ro (.int x.length),.ro (aG acc),v3,v4]=.nx [.ro (aJ x),.ro (.int x.length),.ro (aG (FH x.length w d acc)),w3,w4]:=by
  intro w
  induction w with
  |nil=>intro d acc v3 v4 _ _;exact⟨v3,v4,rfl⟩
  |cons s w ih =>
   intro d acc v3 v4 hacc hd;rw[de] at hd;have hl:acc.length=(h8 s ((x.length:Int)-1-d) x.length).length:=by rw[hacc,jN]
   obtain⟨w3,w4,e⟩:=ih (d+1) (iU acc (h8 s ((x.length:Int)-1-d) x.length)) (.ro (.int d)) (.ro (.int s)) (by rw[eV hl,hacc]) (by omega);refine⟨w3,w4,?_⟩;rw[a2o,bt];have e1:(bD 2 (aI fX (aA (aB 2) (aA (aI cC (aA (aB 4) (aA (aE gH (aE gH (aB 1) (eC (.int 1))) (aB 3)) (aA (aB 1) aF)))) aF)))) [.ro (aJ x),.ro (.int x.length),.ro (aG acc),.ro (.int d),.ro (.int s)]=.nx [.ro (aJ x),.ro (.int x.length),.ro (aG (iU acc (h8 s ((x.length:Int)-1-d) x.length))),.ro (.int d),.ro (.int s)] :=
    dH (aG (iU acc (h8 s ((x.length:Int)-1-d) x.length))) (bQ (x:=aG acc) (y:=aG (h8 s ((x.length:Int)-1-d) x.length)) rfl (jS (x:=.int s) (y:=.int ((x.length:Int)-1-d)) (z:=.int x.length) rfl rfl rfl (HZ (by omega) (by omega))) (FE (by omega))) rfl
   show(match (bD 2 _) [Sv.ro (aJ x),.ro (.int x.length),.ro (aG acc),.ro (.int d),.ro (.int s)] with
    |.nx ρ2=>eR _ _ _ ρ2
    |o=>o)=_
   rw[e1];exact e
 obtain⟨w3,w4,e⟩:=step (shares x) 0 (dh (x.length+1) 0) .no .no (by simp) (by rw[gW];omega);refine d9 rfl (bL [.ro (aJ x),.ro (.int x.length),.no,.no,.no] (dH (.int x.length) (cV rfl eE) rfl) (bL [.ro (aJ x),.ro (.int x.length),.ro (aG (dh (x.length+1) 0)),.no,.no] (dH _ (aY (x:=.lst [.int 0]) (y:=.int ((x.length+1:Nat):Int)) rfl rfl (rep0 _ (by omega))) rfl) (bL _ (wR (((shares x).zipIdx).map λp=>D.tup [.int (p.2:Int),.int p.1]) ?_ e) (dR rfl))));unfold jG;rw[args1 (eU (x:=aJ x) rfl (sS hx hr))];show aa ((((shares x).map D.int).zipIdx).map _)=_;rw[zipIdx_map,cc];rfl
theorem qR(f:Int->Int):∀(n:Nat) (x:Int),vals f n x=(bI x n).map f
 |0,x=>rfl
 |n+1,x=>by have ih:=qR f n (x+1);show f x::vals f n (x+1)=_;rw[ih];unfold bI;rw[ve,bt,bt,cc,cc,cc];simp only[Int.ofNat_zero,qm];congr 1;refine gq λj _=>?_;simp only[Hf];congr 1;omega
def sV(x:Q0a):List Int:=fd (vals (DV x.length 0 (shares x)) (x.length+1) 0)
def FI(hx:x.length<=9)(hr:∀r∈x,r.length<=9):cZ [aJ x]=.ok (tupI (sV x)):=by
 unfold cZ sV;refine d9 rfl (bL [.ro (aJ x),.ro (.int x.length),.no] (dH (.int x.length) (cV rfl eE) rfl) (bL [.ro (aJ x),.ro (.int x.length),.ro (tupI (shares x))] (dH _ (eU rfl (sS hx hr)) rfl) (dR (eU (x:=aG (vals (DV x.length 0 (shares x)) (x.length+1) 0)) ?_ (SJ (by rw[mK];omega))))));rw[qR];have e5:aG ((bI 0 (x.length+1)).map (DV x.length 0 (shares x)))=.lst ((bI 0 (x.length+1)).map λk=>D.int (DV x.length 0 (shares x) k)):=by unfold aG;rw[cc];rfl
 rw[e5];refine dU ((bI 0 (x.length+1)).map D.int) (qI (n:=x.length+1) rfl (by omega)) (by rw[a_,aS];omega) ?_;refine bZ D.int (λk=>.int (DV x.length 0 (shares x) k)) _ λk hk=>⟨[aa (.int k),aa (tupI (shares x)),aa (.int x.length)],rfl,jS rfl rfl rfl (t9 (by rw[gW];omega) (λy hy=>?_) (by omega) ?_)⟩
 .have:=xF hx y hy;omega
 .have:=b7.1 hk;have h:k.natAbs<2^10:=by omega
  exact gc h (u_ (by decide) (by decide))
theorem SQ{a b:Q0e}{j:Nat}{y z:Int}(h1:a[j]?=aa y)(h2:b[j]?=aa z):(iU a b)[j]?=aa (y+z):=by unfold iU;rw[ck,qf (z:=(y,z)) |>.2 ⟨h1,h2⟩];rfl
section
variable(x:Q0a)
def Nj(f:List Int->Int->Nat->Int):Nat->List Int->Int->Int
 |0,_,_=>0
 |j+1,a,l=>Nj f j a (-1)+(((aT x a).filter λt=>Zv (l<t)).map λt=>f (aN a t) t (j+1)).sum
def Nn:Nat->List Int->Int->Nat->Int
 |0,_,_,_=>1
 |m+1,a,l,j=>Nj x (Nn m) j a l
end
def Zr(w:Q0e)(m:Nat):Prop:=∀(d:Nat) (y:Int),w[d]?=aa y->m<d->y=0
def Zr.mono(h:Zr w m)(hk:m<=k):Zr w k:=λd y e hd=>h d y e (by omega)
def Zr.add{a b:Q0e}{m:Nat}(ha:Zr a m)(hb:Zr b m):Zr (iU a b) m:=λd y e hd=>by unfold iU at e;rw[ck] at e;obtain⟨p,ep,rfl⟩:=jk.1 e;obtain⟨e1,e2⟩:=qf.1 ep;rw[ha d _ e1 hd,hb d _ e2 hd];rfl
theorem Zr.shl(h:Zr w m):Zr (iV w) (m+1):=λd y e hd=>by
 cases d with
 |zero=>omega
 |succ d =>
  have e:w.dropLast[d]?=aa y:=e;rw[a2L] at e;split at e
  .exact h d y e (by omega)
  .cases e
def Zr.xE(n m:Nat):Zr (xE n) m:=λd y e _=>by
 unfold LL.xE at e;rw[kr] at e;split at e
 .cases e;rfl
 .cases e
theorem Zr.fold(h:∀t,Zr (if t<l then iV (Sh x m (aN a t) t) else Sh x m (aN a t) t) k):∀(ts acc:Q0e),Zr acc k->Zr (ts.foldl (gF x m a l) acc) k
 |[],acc,hz=>hz
 |t::ts,acc,hz=>Zr.fold h ts _ (hz.add (h t))
def lA(x:Q0a)(m:Nat)(a:Q0e)(l:Int):Sh x (m+1) a l=(aT x a).foldl (gF x m a l) (xE x.length):=rfl
theorem LM(x:Q0a):∀(m:Nat) (a:Q0e) (l:Int),Zr (Sh x m a l) m
 |0,a,l=>λd y e hd=>by
  cases d with
  |zero=>omega
  |succ d =>
   have e:(dh (max x.length 1-1) (0:Int))[d]?=aa y:=e;rw[kr] at e;split at e
   .cases e;rfl
   .cases e
 |m+1,a,l=>by
  rw[lA];refine Zr.fold (λt=>?_) _ _ (Zr.xE _ _);split
  .exact (LM x m _ _).shl
  .exact (LM x m _ _).mono (by omega)
def qS{x:Q0a}{a:Q0e}{t:Int}(h:t∈aT x a):0<=t:=(fN h).1.1
theorem fold_congr{α β:Type}{f g:β->α->β}:∀(l:List α) (b:β),(∀b,∀t∈l,f b t=g b t)->l.foldl f b=l.foldl g b
 |[],b,_=>rfl
 |t::l,b,h=>by rw[mh,mh,h b t cn];exact fold_congr l _ λb u hu=>h b u (dq _ hu)
theorem SR(x:Q0a)(m:Nat)(a:Q0e){l l':Int}(h:l<=0)(h':l'<=0):Sh x m a l=Sh x m a l':=by
 cases m with
 |zero=>rfl
 |succ m =>
  rw[lA,lA];refine fold_congr _ _ λacc t ht=>?_;have:=qS ht;unfold gF;rw[Zz (by omega),Zz (by omega)]
def aCR(x:Q0a)(m:Nat)(a:Q0e):Zr (Sh x (m+1) a (-1)) m:=by
 rw[lA];have e:(aT x a).foldl (gF x m a (-1)) (xE x.length)=(aT x a).foldl (λacc t=>iU acc (Sh x m (aN a t) t)) (xE x.length):=fold_congr _ _ λacc t ht=>by have:=qS ht;unfold gF;rw[Zz (by omega)]
 rw[e];have go:∀(ts acc:Q0e),Zr acc m->Zr (ts.foldl (λacc t=>iU acc (Sh x m (aN a t) t)) acc) m:=by
  intro ts
  induction ts with
  |nil=>intro acc h;exact h
  |cons t ts ih=>intro acc h;exact ih _ (h.add (LM x m _ _))
 exact go _ _ (Zr.xE _ _)
theorem SS:∀{a b:Q0e} {d:Int},a.length=b.length->DV n d (iU a b) k=DV n d a k+DV n d b k
 |[],[],d,_=>rfl
 |[],_::_,d,h=>by simp at h
 |_::_,[],d,h=>by simp at h
 |y::a,z::b,d,h=>by have ih:=SS (n:=n) (k:=k) (a:=a) (b:=b) (d:=d+1) (by simpa using h);show(y+z)*C (k+n-1-d) n+DV n (d+1) (iU a b) k=y*C (k+n-1-d) n+DV n (d+1) a k+(z*C (k+n-1-d) n+DV n (d+1) b k);rw[ih,z_];omega
theorem CN:∀(m:Nat) (d:Int),DV n d (dh m 0) k=0
 |0,d=>rfl
 |m+1,d=>by rw[jb];show 0*_+DV n (d+1) (dh m 0) k=0;rw[CN m (d+1),qk];rfl
theorem Dj:∀(w:Q0e) (d:Int),DV (m+1) d w (j+1)=DV (m+1) d w j+DV m d w (j+1)
 |[],d=>rfl
 |y::w,d=>by have ih:=Dj (m:=m) (j:=j) w (d+1);show y*C (j+1+((m+1:Nat):Int)-1-d) (m+1)+DV (m+1) (d+1) w (j+1)=y*C (j+((m+1:Nat):Int)-1-d) (m+1)+DV (m+1) (d+1) w j+(y*C (j+1+(m:Int)-1-d) m+DV m (d+1) w (j+1));rw[ih,show j+1+((m+1:Nat):Int)-1-d=(j+m-d)+1 by omega,SD,show j+((m+1:Nat):Int)-1-d=j+m-d by omega,show j+1+(m:Int)-1-d=j+m-d by omega,a24];omega
theorem LN:∀(w:Q0e) (d:Int),DV n (d+1) w (k+1)=DV n d w k
 |[],d=>rfl
 |y::w,d=>by have ih:=LN (n:=n) (k:=k) w (d+1);show y*C (k+1+n-1-(d+1)) n+DV n (d+1+1) w (k+1)=y*C (k+n-1-d) n+DV n (d+1) w k;rw[ih,show k+1+n-1-(d+1)=k+n-1-d by omega]
def aCS(h:w.getLast?=aa 0):DV n 0 (iV w) (k+1)=DV n 0 w k:=by
 show 0*_+DV n (0+1) w.dropLast (k+1)=_;rw[LN,qk,je];have e:w=w.dropLast++[0]:=by obtain⟨l,hl⟩:=List.getLast?_eq_some_iff.1 h;rw[hl];simp
 conv=>rhs;rw[e]
 rw[AQ];show _=_+(0*_+0);rw[qk];omega
theorem Cc:∀(w:Q0e) (d:Nat),(∀(i:Nat) (y:Int),w[i]?=aa y->m<d+i->y=0)->DV (m+1) d w 0=0
 |[],d,_=>rfl
 |y::w,d,h=>by
  have ih:=Cc (m:=m) w (d+1) λi z e hi=>h (i+1) z (by simpa using e) (by omega);show y*C (0+((m+1:Nat):Int)-1-d) (m+1)+DV (m+1) ((d:Int)+1) w 0=0;rw[show((d:Int)+1)=((d+1:Nat):Int) from rfl,ih,qm];by_cases hd:m<d
  .rw [h 0 y rfl (by omega),qk]
  .rw [HX (by omega) (by omega),Hd]
theorem CO:∀(ts acc:Q0e),acc.length=max x.length 1->DV n 0 (ts.foldl (gF x m a l) acc) k=DV n 0 acc k+(ts.map λt=>DV n 0 (if t<l then iV (Sh x m (aN a t) t) else Sh x m (aN a t) t) k).sum
 |[],acc,_=>by simp
 |t::ts,acc,h=>by
  have hS:=e8 x m (aN a t) t;have hl:acc.length=(if t<l then iV (Sh x m (aN a t) t) else Sh x m (aN a t) t).length:=by
   rw[h];split
   .rw [jM (by omega)];exact hS.symm
   .exact hS.symm
  have ih:=CO (x:=x) (n:=n) (m:=m) (a:=a) (l:=l) (k:=k) ts (gF x m a l acc t) (by unfold gF;rw[eV hl,h]);rw[mh,ih,bt,gy];unfold gF;rw[SS hl];omega
theorem LO{α:Type}{f g h:α->Int}{p:α->Bool}:∀l:List α,(∀t∈l,f t=g t+if p t=ae then h t else 0)->(l.map f).sum=(l.map g).sum+((l.filter p).map h).sum
 |[],_=>rfl
 |t::l,e=>by
  have ih:=LO l λu hu=>e u (dq _ hu);have e0:=e t cn;rw[bt,gy,bt,gy,ih,e0,m_]
  cases p t with
  |true=>simp;omega
  |false=>simp;omega
def iX:u∈aN a t↔u∈a\/u=t:=by unfold aN;rw[(sortI_perm (a++[t])).mem_iff];simp
def FJ(a:Q0e)(t:Int):(aN a t).length=a.length+1:=by unfold aN;rw[(sortI_perm (a++[t])).length_eq];simp
def aCT{x:Q0a}{j:Int}:DV 0 0 (xD x.length) j=1:=by unfold xD;show 1*C _ 0+DV 0 (0+1) (dh _ 0) j=1;rw[CN,SA];rfl
theorem CP{x:Q0a}:∀(m j:Nat) (a:Q0e) (l:Int),a.length+m=x.length->(l=-1\/l∈a)->(1<=j\/l=-1)->Nn x m a l j=DV m 0 (Sh x m a l) j
 |0,j,a,l,_,_,_=>aCT.symm
 |m+1,0,a,l,hl,hm,hj=>by
  have:l=-1:=by omega
  subst this;show 0=_;exact(Cc (m:=m) (Sh x (m+1) a (-1)) 0 λi y e hi=>aCR x m a i y e (by omega)).symm
 |m+1,j+1,a,l,hl,hm,hj=>by
  have ihj:=CP (x:=x) (m+1) j a (-1) hl (.inl rfl) (.inr rfl);have ihm:∀t,Nn x m (aN a t) t (j+1)=DV m 0 (Sh x m (aN a t) t) ((j:Int)+1):=λt=>CP (x:=x) m (j+1) (aN a t) t (by rw[FJ];omega) (.inr (iX.2 (.inr rfl))) (.inl (by omega));show Nj x (Nn x m) j a (-1)+(((aT x a).filter λt=>Zv (l<t)).map λt=>Nn x m (aN a t) t (j+1)).sum=_;have e1:Nj x (Nn x m) j a (-1)=Nn x (m+1) a (-1) j:=rfl;rw[e1,ihj,lA,lA,CO _ _ (iW _),CO _ _ (iW _)];unfold xE;rw[CN,CN,je,je];have key:∀t∈aT x a,DV (m+1) 0 (if t<l then iV (Sh x m (aN a t) t) else Sh x m (aN a t) t) (((j+1:Nat):Int))=DV (m+1) 0 (if t < -1 then iV (Sh x m (aN a t) t) else Sh x m (aN a t) t) j+if Zv (l<t)=ae then Nn x m (aN a t) t (j+1) else 0:=λt ht=>by
   have t0:=qS ht;have tn:=(fN ht).2;rw[Zz (show ¬ t < -1 by omega),ihm,show(((j+1:Nat):Int))=(j:Int)+1 from rfl];by_cases h:t<l
   .rw [Z_ h,Zz (by simp;omega),qm];refine aCS ?_;have la:l∈a:=hm.resolve_left (by omega)
    have a1:1<=a.length:=by cases a with
     |nil=>cases la
     |cons _ _=>simp
    have hS:=e8 x m (aN a t) t;have hz:=LM x m (aN a t) t;rw[List.getLast?_eq_getElem?,hS];have hlt:max x.length 1-1<(Sh x m (aN a t) t).length:=by omega
    rw[bc hlt];congr 1;exact hz _ _ (bc hlt) (by omega)
   .have ne:t≠l:=λz=>by
     rcases hm with q|q
     .omega
     .exact tn (z▸q)
    rw[Zz h,Z_ (by simp;omega)];exact Dj _ _
  rw[LO (f:=λt=>DV (m+1) 0 (if t<l then iV (Sh x m (aN a t) t) else Sh x m (aN a t) t) (((j+1:Nat):Int))) (g:=λt=>DV (m+1) 0 (if t < -1 then iV (Sh x m (aN a t) t) else Sh x m (aN a t) t) j) (h:=λt=>Nn x m (aN a t) t (j+1)) (p:=λt=>Zv (l<t)) _ key]
def AV(x:Q0a)(k:Nat):Nn x x.length [] (-1) k=DV x.length 0 (shares x) k:=by rw[CP x.length k [] (-1) (by simp) (.inl rfl) (.inr rfl)];unfold shares;rw[SR x x.length [] (l:=-1) (l':=0) (by decide) (by decide)]
def fI(S b i:Nat):(S ||| 2^b).testBit i=(S.testBit i||Zv (b=i)):=by rw[a2f,Fz]
theorem vH{M S:Nat}:(M &&& S=M) ↔ ∀i,M.testBit i=ae->S.testBit i=ae:=by
 constructor
 .intro h i hi;have:=congrArg (λz=>z.testBit i) h;simp only[zm,hi,ku] at this;exact this
 .intro h;apply pz;intro i;rw[zm]
  cases e:M.testBit i with
  |false=>rfl
  |true=>rw[h i e];rfl
noncomputable def Y9:List Int->Nat
 |[]=>0
 |a::r=>2^a.toNat ||| Y9 r
theorem vI:∀{r:Q0e},(∀a∈r,0<=a)->((Y9 r).testBit i=ae↔(i:Int)∈r)
 |[],_=>by simp[Y9]
 |a::r,h=>by
  have ih:=vI (i:=i) (r:=r) λb hb=>h b (dq _ hb);have h0:=h a cn;rw[Y9,a2f,Fz,vy,ih,cb,decide_eq_true_eq]
  constructor
  .rintro (e|e)
   .exact .inl (by omega)
   .exact .inr e
  .rintro (e|e)
   .exact .inl (by omega)
   .exact .inr e
section
variable(x:Q0a)
def things(S:Nat):List Int:=(bI 0 x.length).filter λt=>S.testBit t.toNat
def Mk(b:Nat):Nat:=Y9 (row x b)
def NY(b S:Nat):Bool:=!S.testBit b&&Zv (Mk x b &&& S=Mk x b)
end
section
variable{x:Q0a}
def cP{S:Nat}{t:Int}:t∈things x S↔(0<=t/\t<(x.length:Int))/\S.testBit t.toNat=ae:=by
 unfold things;rw[cj,b7]
 constructor
 .rintro ⟨h1,h2⟩;exact⟨by omega,h2⟩
 .rintro ⟨h1,h2⟩;exact⟨by omega,h2⟩
def uB(h:∀t,t∈a↔t∈b):aT x a=aT x b:=by
 have hc:∀t,a.contains t=b.contains t:=λt=>by rw[gx];simp[h t]
 unfold aT;simp only[hc]
theorem xG:∀(m j:Nat) {a b:Q0e} (l:Int),(∀t,t∈a↔t∈b)->Nn x m a l j=Nn x m b l j
 |0,j,a,b,l,h=>rfl
 |m+1,0,a,b,l,h=>rfl
 |m+1,j+1,a,b,l,h=>by show Nn x (m+1) a (-1) j+(((aT x a).filter λt=>Zv (l<t)).map λt=>Nn x m (aN a t) t (j+1)).sum=Nn x (m+1) b (-1) j+(((aT x b).filter λt=>Zv (l<t)).map λt=>Nn x m (aN b t) t (j+1)).sum;rw[xG (m+1) j (-1) h,uB h];congr 2;refine gq λt _=>xG m (j+1) t λu=>?_;rw[iX,iX,h u]
def xH(hx:Ord.Rows x)(hb:b<x.length):(Mk x b).testBit i=ae↔(i:Int)∈row x b:=by
 refine vI λa ha=>?_;have e:row x b=x[b]:=by unfold row;simp[hb]
 rw[e] at ha;obtain⟨c,rfl,_⟩:=(Ord.R4 hx (bc hb)).1 ha;omega
def xI(hx:Ord.Rows x)(hb:b<x.length)(h:a∈row x b):0<=a/\a<(x.length:Int):=by
 have e:row x b=x[b]:=by unfold row;simp[hb]
 rw[e] at h;exact hx.rng b _ (bc hb) a h
def We(hx:Ord.Rows x)(hb:b<x.length)(h:(Mk x b).testBit i=ae):i<x.length:=by have:=xI hx hb ((xH hx hb).1 h);omega
def iJ:t∈aT x a↔(0<=t/\t<(x.length:Int))/\t∉a /\∀l∈row x t,l∈a:=by
 unfold aT;rw[cj,cj,b7,gw];simp only[Ab,a2T,decide_eq_false_iff_not,decide_eq_true_eq]
 constructor
 .rintro ⟨⟨h1,h2⟩,h3⟩;exact⟨by omega,h2,h3⟩
 .rintro ⟨h1,h2,h3⟩;exact⟨⟨by omega,h2⟩,h3⟩
def CQ(hx:Ord.Rows x){b S:Nat}(hb:b<x.length):NY x b S=ae↔(b:Int)∈aT x (things x S):=by
 unfold NY;rw[fz,decide_eq_true_eq,vH,iJ]
 constructor
 .rintro ⟨h1,h2⟩;refine⟨by omega,λh=>?_,λl hl=>?_⟩
  .have:=(cP.1 h).2;rw[jf] at this;rw[this] at h1;cases h1
  .have r:=xI hx hb hl;refine cP.2 ⟨r,h2 _ ((xH hx hb).2 ?_)⟩;rw[show((l.toNat:Nat):Int)=l by omega];exact hl
 .rintro ⟨_,h1,h2⟩;refine⟨?_,λi hi=>?_⟩
  .cases e:S.testBit b with
   |false=>rfl
   |true=>exact Zw (cP.2 ⟨by omega,by rw[jf];exact e⟩) h1
  .have:=(cP.1 (h2 i ((xH hx hb).1 hi))).2
   rwa [jf] at this
def j9(S:Nat):(things x S).Nodup:=oo _ (HW x.length)
def len_eq{a b:Q0e}(ha:a.Nodup)(hb:b.Nodup)(h:∀t,t∈a↔t∈b):a.length=b.length :=
 Nat.le_antisymm (Ord.c9 a b ha λt ht=>(h t).1 ht) (Ord.c9 b a hb λt ht=>(h t).2 ht)
def AW{S b:Nat}(hb:b<x.length)(t:Int):t∈things x (S ||| 2^b)↔t∈aN (things x S) b:=by
 rw[iX,cP,cP,fI,vy,decide_eq_true_eq]
 constructor
 .rintro ⟨h1,h2|h2⟩
  .exact .inl ⟨h1,h2⟩
  .exact .inr (by omega)
 .rintro (⟨h1,h2⟩|h)
  .exact ⟨h1,.inl h2⟩
  .subst h;exact⟨by omega,.inr (by omega)⟩
theorem FK{S b:Nat}(hb:b<x.length)(h:S.testBit b=ag):(things x (S ||| 2^b)).length=(things x S).length+1:=by rw[<- FJ (things x S) b];refine len_eq (j9 _) ?_ (AW hb);unfold aN;refine(sortI_perm _).nodup_iff.2 (jy.2 ⟨j9 S,by simp,λu hu v hv e=>?_⟩);rw[cp] at hv;subst hv;subst e;have:=(cP.1 hu).2;rw[jf,h] at this;cases this
def Vj(x:Q0a)(j S:Nat):Int:=Nn x (x.length-(things x S).length) (things x S) (-1) j
def Pb(x:Q0a)(V:Nat->Int):Nat->Nat->Nat->Int
 |0,_,S=>V S
 |r+1,b,S=>Pb x V r (b+1) S+if NY x b S=ae then Pb x V r (b+1) (S ||| 2^b) else 0
theorem AX{f:Int->Int}{b:Int}:∀{l:Q0e},l.Nodup->((l.filter λt=>Zv (b-1<t)).map f).sum=((l.filter λt=>Zv (b<t)).map f).sum+if b∈l then f b else 0
 |[],_=>rfl
 |t::l,nd=>by
  have ih:=AX (f:=f) (b:=b) (gz.1 nd).2;have nt:=(gz.1 nd).1;rw[m_,m_];by_cases e:t=b
  .subst e;rw[Z_ (by simp;omega),Zz (by simp),bt,gy,ih,Zz nt,Z_ cn];omega
  .by_cases h:b<t
   .rw [Z_ (by simp;omega),Z_ (by simpa using h),bt,gy,bt,gy,ih];have:(b∈t::l)↔b∈l:=by simp[dj e]
    simp only[this];omega
   .rw [Zz (by simp;omega),Zz (by simpa using h),ih];have:(b∈t::l)↔b∈l:=by simp[dj e]
    simp only[this]
def FL(a:Q0e):(aT x a).Nodup:=oo _ (oo _ (HW x.length))
theorem yc(hx:Ord.Rows x)(j:Nat):∀(r b S:Nat),b+r=x.length->Pb x (Vj x j) r b S=Nn x (x.length-(things x S).length) (things x S) ((b:Int)-1) (j+1)
 |0,b,S,h=>by
  show Vj x j S=_;unfold Vj
  cases hm:x.length-(things x S).length with
  |zero=>rfl
  |succ m =>
   show Nn x (m+1) (things x S) (-1) j=Nn x (m+1) (things x S) (-1) j+(((aT x (things x S)).filter λt=>Zv ((b:Int)-1<t)).map λt=>Nn x m (aN (things x S) t) t (j+1)).sum;have e:(aT x (things x S)).filter (λt=>Zv ((b:Int)-1<t))=[]:=by rw[zw];intro t ht;have:=(fN ht).1;simp;omega
   rw[e];simp
 |r+1,b,S,h=>by
  have hb:b<x.length:=by omega
  have ih1:=yc hx j r (b+1) S (by omega);have ih2:=yc hx j r (b+1) (S ||| 2^b) (by omega);rw[show(((b+1:Nat):Int)-1)=(b:Int) by omega] at ih1 ih2;show Pb x (Vj x j) r (b+1) S+(if NY x b S=ae then Pb x (Vj x j) r (b+1) (S ||| 2^b) else 0)=_;rw[ih1,ih2]
  cases hm:x.length-(things x S).length with
  |zero =>
   have hn:¬ NY x b S=ae:=λz=>by have h1:=(CQ hx hb).1 z;have h2:=j8 (x:=x) (a:=things x S) ⟨j9 S,λt ht=>(cP.1 ht).1⟩;have h3:0<(aT x (things x S)).length:=a2F h1;omega
   rw[Zz hn];rfl
  |succ m =>
   show Nn x (m+1) (things x S) (-1) j+(((aT x (things x S)).filter λt=>Zv ((b:Int)<t)).map λt=>Nn x m (aN (things x S) t) t (j+1)).sum+_=Nn x (m+1) (things x S) (-1) j+(((aT x (things x S)).filter λt=>Zv ((b:Int)-1<t)).map λt=>Nn x m (aN (things x S) t) t (j+1)).sum;rw[AX (FL _)];by_cases hr:NY x b S=ae
   .have hb0:S.testBit b=ag:=by
     unfold NY at hr
     cases e:S.testBit b with
     |false=>rfl
     |true=>rw[e] at hr;cases hr
    have e2:x.length-(things x (S ||| 2^b)).length=m:=by rw[FK hb hb0];omega
    rw[Z_ hr,Z_ ((CQ hx hb).1 hr),e2,xG m (j+1) (b:Int) (AW hb)];omega
   .rw [Zz hr,Zz λz=>hr ((CQ hx hb).2 z)];omega
noncomputable def Gb(g:Nat->Int):Nat->Nat->Nat->Int
 |0,_,S=>g S
 |r+1,b,S=>Gb g r (b+1) S+if S.testBit b=ae then 0 else Gb g r (b+1) (S ||| 2^b)
def SU(x:Q0a)(h s:Nat):Prop:=∀b,b<x.length->(h ^^^ s).testBit b=ae->(Mk x b &&& h=Mk x b) /\∀i,b<=i->(Mk x b).testBit i=ae->(h ^^^ s).testBit i=ag
def gB(x:Q0a)(b S s:Nat):Prop:=∀c,c<b->S.testBit c=ae->s.testBit c=ag ->∀i,(Mk x c).testBit i=ae->s.testBit i=ae\/(S.testBit i=ae/\i<c)
def CS(hx:Ord.Rows x){S s:Nat}(hs:∀i,s.testBit i=ae->S.testBit i=ae):SU x S s↔gB x x.length S s:=by
 constructor
 .intro h c hc h1 h2 i hi;obtain⟨g1,g2⟩:=h c hc (by rw[uy,h1,h2];rfl);have g1:=vH.1 g1 i hi;by_cases hic:i<c
  .exact .inr ⟨g1,hic⟩
  .have:=g2 i (by omega) hi;rw[uy,g1] at this
   left
   cases e:s.testBit i with
   |true=>rfl
   |false=>rw[e] at this;cases this
 .intro h b hb hm;rw[uy] at hm;have h1:S.testBit b=ae:=by
   cases e:S.testBit b with
   |true=>rfl
   |false =>
    cases e2:s.testBit b with
    |true=>rw[hs b e2] at e;cases e
    |false=>rw[e,e2] at hm;cases hm
  have h2:s.testBit b=ag:=by
   cases e2:s.testBit b with
   |false=>rfl
   |true=>rw[h1,e2] at hm;cases hm
  have k:=h b hb h1 h2;refine⟨vH.2 λi hi=>?_,λi hbi hi=>?_⟩
  .rcases k i hi with z|z
   .exact hs i z
   .exact z.1
  .rcases k i hi with z|z
   .rw [uy,z,hs i z];rfl
   .omega
def gG(x:Q0a)(h s:Nat):Bool:=(bu x.length).all λb=>!(h ^^^ s).testBit b||(Zv (Mk x b &&& h=Mk x b)&&Zv (((Mk x b >>> b) <<< b) &&& (h ^^^ s)=0))
def FN{M m b:Nat}:(((M >>> b) <<< b) &&& m=0) ↔ ∀i,b<=i->M.testBit i=ae->m.testBit i=ag:=by
 constructor
 .intro h i hi hM;have:=congrArg (λz=>z.testBit i) h;simp only[zm,a2e,a2d,pk] at this;rw[show b+(i-b)=i by omega,hM,Zx (by omega)] at this;simpa using this
 .intro h;apply pz;intro i;simp only[zm,a2e,a2d,pk];by_cases hi:b<=i
  .rw [show b+(i-b)=i by omega,Zx (by omega)]
   cases e:M.testBit i with
   |false=>rfl
   |true=>rw[h i hi e];rfl
  .rw [Zy (by omega)];rfl
def sW{h s:Nat}:gG x h s=ae↔SU x h s:=by
 unfold gG SU;rw[gw]
 constructor
 .intro g b hb hm;have:=g b (dm.2 hb);rw[hm] at this;simp only[vz,Ac,fz,decide_eq_true_eq] at this;exact⟨this.1,FN.1 this.2⟩
 .intro g b hb;have hb:=dm.1 hb
  cases e:(h ^^^ s).testBit b with
  |false=>rfl
  |true =>
   obtain⟨g1,g2⟩:=g b hb e;simp only[vz,Ac,fz,decide_eq_true_eq];exact⟨g1,FN.2 g2⟩
theorem yb(hx:Ord.Rows x){V:Nat->Int}{s:Nat}:∀(r b S:Nat),b+r=x.length->(∀i,s.testBit i=ae->S.testBit i=ae)->(∀i,b<=i->S.testBit i=ae->s.testBit i=ae) ->
  (gB x b S s->Gb (λh=>if gG x h s=ae then V h else 0) r b S=Pb x V r b S)/\(¬ gB x b S s->Gb (λh=>if gG x h s=ae then V h else 0) r b S=0)
 |0,b,S,h,hs,hf=>by
  have hb:b=x.length:=by omega
  subst hb;refine⟨λg=>?_,λg=>?_⟩
  .show (if gG x S s=ae then V S else 0)=V S;exact Z_ (sW.2 ((CS hx hs).2 g))
  .show (if gG x S s=ae then V S else 0)=0;exact Zz λz=>g ((CS hx hs).1 (sW.1 z))
 |r+1,b,S,h,hs,hf=>by
  have hb:b<x.length:=by omega
  have ih1:=yb hx (V:=V) (s:=s) r (b+1) S (by omega) hs λi hi=>hf i (by omega);show(gB x b S s->Gb _ r (b+1) S+(if S.testBit b=ae then 0 else Gb _ r (b+1) (S ||| 2^b))=Pb x V r (b+1) S+(if NY x b S=ae then Pb x V r (b+1) (S ||| 2^b) else 0))/\(¬ gB x b S s->Gb _ r (b+1) S+(if S.testBit b=ae then 0 else Gb _ r (b+1) (S ||| 2^b))=0);by_cases hS:S.testBit b=ae
  .have e1:gB x (b+1) S s↔gB x b S s:=by
    constructor
    .exact λg c hc=>g c (by omega)
    .intro g c hc h1 h2;rcases vc c b with z|z
     .exact g c z h1 h2
     .have:c=b:=by omega
      subst this;rw[hf c (bj _) hS] at h2;cases h2
   have e2:NY x b S=ag:=by unfold NY;rw[hS];rfl
   rw[Z_ hS,e2];rw[e1] at ih1;refine⟨λg=>?_,λg=>?_⟩
   .rw [ih1.1 g];simp
   .rw [ih1.2 g];rfl
  .have tm:S.testBit b=ag:=by simpa using hS
   have ih2:=yb hx (V:=V) (s:=s) r (b+1) (S ||| 2^b) (by omega) (λi hi=>by rw[fI,hs i hi];rfl) λi hi h2=>by rw[fI] at h2;have:Zv (b=i)=ag:=Zy (by omega);rw[this,vx] at h2;exact hf i (by omega) h2
   rw[Zz hS];have e1:gB x (b+1) S s↔gB x b S s:=by
    constructor
    .exact λg c hc=>g c (by omega)
    .intro g c hc h1 h2;rcases vc c b with z|z
     .exact g c z h1 h2
     .have:c=b:=by omega
      subst this;rw[tm] at h1;cases h1
   have sb0:s.testBit b=ag:=by
    cases e:s.testBit b with
    |false=>rfl
    |true=>rw[hs b e] at tm;cases tm
   have e2:gB x (b+1) (S ||| 2^b) s↔gB x b S s/\NY x b S=ae:=by
    unfold NY;rw[fz,decide_eq_true_eq,vH,tm]
    constructor
    .intro g;refine⟨λc hc h1 h2 i hi=>?_,rfl,λi hi=>?_⟩
     .rcases g c (by omega) (by rw[fI,h1];rfl) h2 i hi with z|⟨z,z2⟩
      .exact .inl z
      .rw [fI] at z;have:Zv (b=i)=ag:=Zy (by omega);rw[this,vx] at z;exact .inr ⟨z,z2⟩
     .rcases g b (by omega) (by rw[fI];simp) sb0 i hi with z|⟨z,z2⟩
      .exact hs i z
      .rw [fI] at z;have:Zv (b=i)=ag:=Zy (by omega);rw[this,vx] at z;exact z
    .rintro ⟨g,_,k⟩ c hc h1 h2 i hi;rcases vc c b with z|z
     .rw [fI] at h1;have:Zv (b=c)=ag:=Zy (by omega);rw[this,vx] at h1;rcases g c z h1 h2 i hi with q|⟨q,q2⟩
      .exact .inl q
      .exact .inr ⟨by rw[fI,q];rfl,q2⟩
     .have:c=b:=by omega
      subst this;have ki:=k i hi;rcases vc i c with q|q
      .exact .inr ⟨by rw[fI,ki];rfl,q⟩
      .exact .inl (hf i q ki)
   rw[e1] at ih1;rw[e2] at ih2;refine⟨λg=>?_,λg=>?_⟩
   .rw [ih1.1 g];by_cases k:NY x b S=ae
    .rw [ih2.1 ⟨g,k⟩,Z_ k]
    .rw [ih2.2 λz=>k z.2,Zz k]
   .rw [ih1.2 g,ih2.2 λz=>g z.1];rfl
theorem Rb(hx:Ord.Rows x)(j s:Nat):Gb (λh=>if gG x h s=ae then Vj x j h else 0) x.length 0 s=Vj x (j+1) s:=by
 have h:=(yb hx (V:=Vj x j) (s:=s) x.length 0 s (by omega) (λ_ h=>h) (λ_ _ h=>h)).1 λc hc=>by omega
 rw[h,yc hx j x.length 0 s (by omega)];rfl
noncomputable def states:Nat->Nat->List Nat
 |0,s=>[s]
 |b+1,s=>states b s++((states b s).filter λh:Nat=>!h.testBit b).map λh:Nat=>h ||| 2^b
theorem FO(g:Nat->Int)(s:Nat):∀(b r:Nat),((states b s).map (Gb g r b)).sum=Gb g (b+r) 0 s
 |0,r=>by simp[states]
 |b+1,r=>by
  have ih:=FO g s b (r+1);rw[show b+1+r=b+(r+1) by omega,<- ih];have go:∀L:List Nat,((L++(L.filter λh:Nat=>!h.testBit b).map λh:Nat=>h ||| 2^b).map (Gb g r (b+1))).sum=(L.map (Gb g (r+1) b)).sum:=by
   intro L;rw[gu,Gj,cc]
   induction L with
   |nil=>rfl
   |cons h L ih =>
    rw[bt,gy,bt,gy,m_,<- ih];show _=Gb g r (b+1) h+(if h.testBit b=ae then 0 else Gb g r (b+1) (h ||| 2^b))+_
    cases e:h.testBit b with
    |true=>simp;omega
    |false=>simp;omega
  exact go _
def xJ(hx:Ord.Rows x)(j s:Nat):(((states x.length s).filter λh=>gG x h s).map (Vj x j)).sum=Vj x (j+1) s:=by
 have h:=FO (λh=>if gG x h s=ae then Vj x j h else 0) s x.length 0;rw[Ge,Rb hx] at h;rw[<- h];have go:∀L:List Nat,((L.filter λh=>gG x h s).map (Vj x j)).sum=(L.map (Gb (λh=>if gG x h s=ae then Vj x j h else 0) 0 x.length)).sum:=by
  intro L
  induction L with
  |nil=>rfl
  |cons h L ih =>
   rw[m_,bt,gy,<- ih];show _=(if gG x h s=ae then Vj x j h else 0)+_
   cases e:gG x h s with
   |true=>simp
   |false=>simp
 exact go _
def uC:things x 0=[]:=by unfold things;rw[zw];intro t _;simp
end
end LL
namespace K25
open L3 L4 K24 LL
def ZA{α:Type}(g:Int->Int->α)(w:Q0e):w.zipIdx.map (λp=>g p.1 p.2)=(bI 0 w.length).map λd=>g (at0 w d) d:=by
 apply nc;intro j;rw[ck,ck,vq];by_cases h:j<w.length
 .rw [j5 h,bc h];simp[at0,h]
 .rw [gk (by omega),gk (by rw[aS];omega)];rfl
end K25
namespace LL
open L3 L4 K24
section
variable(x:Q0a)
def gls:Nat->List (List Int)
 |0=>[[]]
 |i+1=>(gls i).flatMap λw=>(aT x w).map λt=>w++[t]
end
theorem sum_map_add{α:Type}(f g:α->Int):∀L:List α,(L.map λa=>f a+g a).sum=(L.map f).sum+(L.map g).sum
 |[]=>rfl
 |a::L=>by have ih:=sum_map_add f g L;simp only[bt,gy,ih];omega
theorem lB{α:Type}:∀L:List α,(L.map λ_=>(0:Int)).sum=0
 |[]=>rfl
 |a::L=>by rw[bt,gy,lB L];rfl
theorem AZ{α β:Type}(f:α->β->Int)(M:List β):∀L:List α,(L.map λa=>(M.map λb=>f a b).sum).sum=(M.map λb=>(L.map λa=>f a b).sum).sum
 |[]=>by simp only[j_,a2r];rw[lB]
 |a::L=>by have ih:=AZ f M L;simp only[bt,gy,ih];rw[<- sum_map_add]
theorem sY{α:Type}(c:Int)(f:α->Int):∀L:List α,(L.map λa=>c*f a).sum=c*(L.map f).sum
 |[]=>by simp
 |a::L=>by have ih:=sY c f L;simp only[bt,gy,ih,a24]
section
variable(x:Q0a)
def SF:Nat->List Int->Int->Int->Int
 |0,_,_,j=>if j=0 then 1 else 0
 |m+1,a,l,j=>((aT x a).map λt=>SF m (aN a t) t (j-if t<l then 1 else 0)).sum
end
section
variable{x:Q0a}
theorem SV:∀(m:Nat) (a:Q0e) (l j:Int),j<0->SF x m a l j=0
 |0,a,l,j,h=>Zz (by omega)
 |m+1,a,l,j,h=>by have e:(λt=>SF x m (aN a t) t (j-if t<l then 1 else 0))=λ_=>0:=funext λt=>SV m _ _ _ (by split<;>omega);show((aT x a).map _).sum=0;rw[e,lB]
theorem FP:∀(m:Nat) {a b:Q0e} (l j:Int),(∀t,t∈a↔t∈b)->SF x m a l j=SF x m b l j
 |0,a,b,l,j,_=>rfl
 |m+1,a,b,l,j,h=>by show((aT x a).map λt=>SF x m (aN a t) t (j-if t<l then 1 else 0)).sum=((aT x b).map λt=>SF x m (aN b t) t (j-if t<l then 1 else 0)).sum;rw[uB h];congr 1;refine gq λt _=>FP m _ _ λu=>?_;rw[iX,iX,h u]
def SW(h:a.length=b.length):at0 (iU a b) j=at0 a j+at0 b j:=by
 unfold at0;by_cases hj:j.toNat<a.length
 .rw [SQ (bc hj) (bc (by omega)),bc hj,bc (by omega)];rfl
 .rw [gk (by rw[eV h];omega),gk (by omega),gk (by omega)];rfl
def ZC(h0:0<=j)(hj:j<w.length):at0 (iV w) j=if j=0 then 0 else at0 w (j-1):=by
 unfold at0 iV;split
 .rename_i z;subst z;rfl
 .obtain ⟨k,hk⟩:∃k:Nat,j.toNat=k+1:=⟨j.toNat-1,by omega⟩;rw[hk,r6,a2L,Z_ (by omega),show(j-1).toNat=k by omega]
def ZD(n:Nat)(j:Int):at0 (xE n) j=0:=by unfold at0 xE;rw[kr];split<;>rfl
theorem SX:∀(m:Nat) (a:Q0e) (l j:Int),0<=j->j<(max x.length 1:Nat)->at0 (Sh x m a l) j=SF x m a l j
 |0,a,l,j,h0,h1=>by
  show at0 (xD x.length) j=if j=0 then 1 else 0
  unfold at0 xD;split
  .rename_i z;subst z;rfl
  .obtain ⟨k,hk⟩:∃k:Nat,j.toNat=k+1:=⟨j.toNat-1,by omega⟩;rw[hk,r6,kr];split<;>rfl
 |m+1,a,l,j,h0,h1=>by
  rw[lA];have go:∀(ts acc:Q0e),acc.length=max x.length 1->at0 (ts.foldl (gF x m a l) acc) j=at0 acc j+(ts.map λt=>SF x m (aN a t) t (j-if t<l then 1 else 0)).sum:=by
   intro ts
   induction ts with
   |nil=>intro acc _;simp
   |cons t ts ih =>
    intro acc h;have hS:=e8 x m (aN a t) t;have hlen:acc.length=(if t<l then iV (Sh x m (aN a t) t) else Sh x m (aN a t) t).length:=by
     rw[h];split
     .rw [jM (by omega)];exact hS.symm
     .exact hS.symm
    have ev:at0 (if t<l then iV (Sh x m (aN a t) t) else Sh x m (aN a t) t) j=SF x m (aN a t) t (j-if t<l then 1 else 0):=by
     split
     .rw [ZC h0 (by rw[hS];exact h1)];split
      .rename_i z;subst z;rw[SV _ _ _ _ (by omega)]
      .exact SX m _ _ _ (by omega) (by omega)
     .rw [a2Z];exact SX m _ _ _ h0 h1
    rw[mh,ih _ (by unfold gF;rw[eV hlen,h]),bt,gy];unfold gF;rw[SW hlen,ev];omega
  rw[go _ _ (iW _),ZD,je];rfl
end
noncomputable def dl:Int->List Int->Int
 |_,[]=>0
 |l,t::w=>(if t<l then 1 else 0)+dl t w
def A1(w:Q0e):Int:=w.getLast?.getD (-1)
theorem CT:∀(l:Int) (w:Q0e) (t:Int),dl l (w++[t])=dl l w+if t<(w.getLast?.getD l) then 1 else 0
 |l,[],t=>by
  show(if t<l then 1 else 0)+0=0+if t<l then 1 else 0
  rw[qm,je]
 |l,a::w,t=>by
  show(if a<l then 1 else 0)+dl a (w++[t])=(if a<l then 1 else 0)+dl a w+_;rw[CT a w t];have e:(a::w).getLast?.getD l=w.getLast?.getD a:=by
   cases w with
   |nil=>rfl
   |cons b w=>rw[List.getLast?_cons_cons];rw[List.getLast?_eq_getLast (List.cons_ne_nil b w)];rfl
  rw[e];omega
section
variable{x:Q0a}
theorem SY(d:Int):∀i r:Nat,((gls x i).map λw=>SF x r w (A1 w) (d-dl (-1) w)).sum=SF x (i+r) [] (-1) d
 |0,r=>by show SF x r [] (-1) (d-0)+0=_;rw[qm,a2Z,ux]
 |i+1,r=>by
  have ih:=SY d i (r+1);rw[show i+1+r=i+(r+1) by omega,<- ih];have go:∀L:Q0a,((L.flatMap λw=>(aT x w).map λt=>w++[t]).map λw=>SF x r w (A1 w) (d-dl (-1) w)).sum=(L.map λw=>SF x (r+1) w (A1 w) (d-dl (-1) w)).sum:=by
   intro L
   induction L with
   |nil=>rfl
   |cons w L ihL =>
    rw[zv,gu,Gj,ihL,bt,gy,cc];congr 1;show _=((aT x w).map λt=>SF x r (aN w t) t (d-dl (-1) w-if t<A1 w then 1 else 0)).sum;congr 1;refine gq λt _=>?_;simp only[Hf];have e1:A1 (w++[t])=t:=by unfold A1;simp
    rw[e1,CT,Int.sub_sub];exact FP r _ _ λu=>by rw[iX];simp
  exact go _
def CU(hd:d<max x.length 1):at0 (shares x) d=((gls x x.length).map λw=>if dl (-1) w=(d:Int) then 1 else 0).sum:=by
 have h:=SY (x:=x) d x.length 0;rw[Ge,<- SX x.length [] (-1) d (by omega) (by omega),SR x x.length [] (l:=-1) (l':=0) (by decide) (by decide)] at h;show at0 (Sh x x.length [] 0) d=_;rw[<- h];congr 1;refine gq λw _=>?_;show(if(d:Int)-dl (-1) w=0 then(1:Int) else 0)=_;by_cases e:dl (-1) w=(d:Int)
 .rw [Z_ e,Z_ (by omega)]
 .rw [Zz e,Zz (by omega)]
theorem IA:∀(l:Int) (w:Q0e),0<=dl l w/\dl l w<=w.length
 |_,[]=>⟨Int.le_refl 0,by simp[dl]⟩
 |l,t::w=>by have ih:=IA t w;show 0<=(if t<l then 1 else 0)+dl t w/\(if t<l then 1 else 0)+dl t w<=((t::w).length:Int);rw[de];split<;>omega
theorem iK:∀{i:Nat} {w:Q0e},w∈gls x i->w.length=i /\∀u t v,w=u++t::v->t∈aT x u
 |0,w,h=>by
  have:w=[]:=by simpa[gls] using h
  subst this;exact⟨rfl,λu t v e=>by simp at e⟩
 |i+1,w,h=>by
  obtain⟨w',hw',hm⟩:=oi.1 (show w∈(gls x i).flatMap λw=>(aT x w).map λt=>w++[t] from h);obtain⟨t,ht,rfl⟩:=cg.1 hm;have ih:=iK hw';refine⟨by rw[fu,ih.1];rfl,λu s v e=>?_⟩;rcases G_ v with rfl|⟨v',b,rfl⟩
  .have h1:=sd e rfl;have:t=s:=by simpa using h1.2
   rw[<- this,<- h1.1];exact ht
  .have e2:w'++[t]=(u++s::v')++[b]:=by rw[e];simp
   have h1:=sd e2 rfl;exact ih.2 u s v' h1.1
theorem sZ:∀{i:Nat} {w:Q0e},w.length=i->(∀u t v,w=u++t::v->t∈aT x u)->w∈gls x i
 |0,w,h,_=>by have:w=[]:=qc.1 h;subst this;exact cp.2 rfl
 |i+1,w,h,hp=>by
  rcases G_ w with rfl|⟨w',b,rfl⟩
  .cases h
  .refine oi.2 ⟨w',sZ (by simpa using h) λu t v e=>hp u t (v++[b]) (by rw[e];simp),cg.2 ⟨b,hp w' b [] (by simp),by simp⟩⟩
def xK(k:Int):DV x.length 0 (shares x) k=((gls x x.length).map λw=>C (k+x.length-1-dl (-1) w) x.length).sum:=by
 have hl:=gW x;have e:DV x.length 0 (shares x) k=((bI 0 (shares x).length).map λd=>at0 (shares x) d*C (k+x.length-1-d) x.length).sum:=by rw[<- K25.ZA (λa d=>a*C (k+x.length-1-d) x.length),show(0:Int)=((0:Nat):Int) from rfl,<- CL];rfl
 rw[e,hl];have e2:((bI 0 (max x.length 1)).map λd=>at0 (shares x) d*C (k+x.length-1-d) x.length)=(bI 0 (max x.length 1)).map λd=>((gls x x.length).map λw=>(if dl (-1) w=d then C (k+x.length-1-d) x.length else 0)).sum:=by
  refine gq λd hd=>?_;have hr:=b7.1 hd;obtain⟨m,rfl⟩:∃m:Nat,d=(m:Int):=⟨d.toNat,by omega⟩;rw[CU (by omega),ql,<- sY];congr 1;refine gq λw _=>?_;split
  .rw [He]
  .rw [Hd]
 rw[e2,AZ];congr 1;refine gq λw hw=>?_;have hg:=iK hw;have Ra:0<=dl (-1) w/\dl (-1) w<(max x.length 1:Nat):=by
  have h0:=IA (-1) w;refine⟨h0.1,?_⟩
  cases w with
  |nil=>show(0:Int)<_;omega
  |cons t w =>
   have ht:=qS (hg.2 [] t w rfl);have h1:=IA t w;have e:dl (-1) (t::w)=dl t w:=by show(if t < -1 then 1 else 0)+dl t w=_;rw[Zz (by omega),je]
   have h2:=hg.1;rw[de] at h2;rw[e];omega
 have pick:∀m:Nat,((bI 0 m).map λd=>if dl (-1) w=d then C (k+x.length-1-d) x.length else 0).sum=if dl (-1) w<m then C (k+x.length-1-dl (-1) w) x.length else 0:=by
  intro m
  induction m with
  |zero=>show(0:Int)=_;rw[Zz (by omega)]
  |succ m ih =>
   rw[AH,gu,Gj,ih,je,bt,j_,gy,a2r,qm];by_cases h1:dl (-1) w=(m:Int)
   .rw [Z_ h1,Zz (by omega),Z_ (by omega),je,h1]
   .rw [Zz h1,qm];by_cases h2:dl (-1) w<(m:Int)
    .rw [Z_ h2,Z_ (by omega)]
    .rw [Zz h2,Zz (by omega)]
 rw[pick,Z_ Ra.2]
end
theorem FQ{a b:Q0e}(h:a.Perm b):a.sum=b.sum:=by
 induction h with
 |nil=>rfl
 |cons x _ ih=>rw[gy,gy,ih]
 |swap x y l=>simp only[gy];omega
 |trans _ _ h1 h2=>rw[h1,h2]
section
variable{x y:Q0a}
theorem IB:∀i:Nat,(gls x i).Nodup
 |0=>by simp[gls]
 |i+1=>by
  show((gls x i).flatMap λw=>(aT x w).map λt=>w++[t]).Nodup;unfold si;rw[a2u];refine⟨λw _=>?_,(IB i).imp λ{a b} hab u hu v hv e=>?_⟩
  .exact jw.2 ((FL w).imp λ{a b} hab e=>hab (by have:=(sd e rfl).2;simpa using this))
  .obtain ⟨t,_,rfl⟩:=cg.1 hu;obtain⟨s,_,rfl⟩:=cg.1 hv;exact hab (sd e rfl).1
def ZE{n:Nat}{T:List Int->List Int}(h1:∀w∈gls x n,T w∈gls y n/\T (T w)=w)(h2:∀w∈gls y n,T w∈gls x n/\T (T w)=w)(f:List Int->Int):((gls y n).map f).sum=((gls x n).map λw=>f (T w)).sum:=by
 have hp:(gls y n).Perm ((gls x n).map T):=by
  refine(vf (IB n) ?_).2 λw=>?_
  .unfold si;refine jw.2 (qj (λ{a b} ha hb hab e=>hab ?_) (IB n));rw[<- (h1 a ha).2,<- (h1 b hb).2,e]
  .rw [cg];exact⟨λh=>⟨T w,(h2 w h).1,(h2 w h).2⟩,λ⟨u,hu,e⟩=>by rw[<- e];exact(h1 u hu).1⟩
 rw[FQ (hp.map f),cc];rfl
def qT{w:Q0e}(h:∀u t v,w=u++t::v->t∈aT x u):w.Nodup /\∀t∈w,0<=t/\t<(x.length:Int):=by
 have key:∀(r u:Q0e),(∀p t v,u++r=p++t::v->t∈aT x p)->u.Nodup->(u++r).Nodup:=by
  intro r
  induction r with
  |nil=>intro u _ hu;rw[mi];exact hu
  |cons t r ih =>
   intro u hp hu;have ht:=(fN (hp u t r rfl)).2;have e:u++t::r=(u++[t])++r:=by simp
   rw[e];refine ih (u++[t]) (λp s v e2=>hp p s v (by rw[e,e2])) ?_;rw[jy];exact⟨hu,by simp,λa ha b hb e=>ht (by rw[cp] at hb;rw[<- hb,<- e];exact ha)⟩
 refine⟨key w [] h mw,λt ht=>?_⟩;obtain⟨u,v,rfl⟩:=a2W ht;exact(fN (h u t v rfl)).1
def NZ(hl:w.length=x.length)(h:∀u t v,w=u++t::v->t∈aT x u)(h0:0<=b)(h1:b<(x.length:Int)):b∈w:=by
 obtain⟨nd,hr⟩:=qT h;refine Aa λhb=>?_;have:=Ord.c9 (b::w) (bI 0 x.length) (gz.2 ⟨hb,nd⟩) λt ht=>by
  rcases cb.1 ht with z|z
  .rw [z];exact b7.2 ⟨h0,by omega⟩
  .have:=hr t z;exact b7.2 ⟨this.1,by omega⟩
 rw[de,aS] at this;omega
def lC(ht:0<=t):dl (-1) (t::w)=dl t w:=by show(if t < -1 then 1 else 0)+dl t w=_;rw[Zz (by omega),je]
theorem LP(n:Int):∀{w:Q0e},w≠[]->w.Nodup->(∀t∈w,0<=t/\t<n)->dl (-1) (w.map λa=>n-1-a)+dl (-1) w=(w.length:Int)-1
 |[],h,_,_=>Zw rfl h
 |[t],_,_,hr=>by have:=hr t cn;rw[bt,j_,lC (by omega),lC (by omega)];rfl
 |t::a::w,_,nd,hr=>by
  have ht:=hr t cn;have ha:=hr a (dq _ cn);have ih:=LP n (w:=a::w) (by simp) (gz.1 nd).2 λs hs=>hr s (dq _ hs);have hne:t≠a:=λe=>(gz.1 nd).1 (by rw[e];exact cn);rw[bt,lC (by omega),lC (w:=w) (by omega)] at ih;rw[bt,bt,lC (by omega),lC (by omega)];show(if n-1-a<n-1-t then 1 else 0)+dl (n-1-a) (w.map λa=>n-1-a)+((if a<t then 1 else 0)+dl a w)=_;simp only[de] at ih ⊢;by_cases h:a<t
  .rw [Z_ h,Zz (by omega)];omega
  .rw [Zz h,Z_ (by omega)];omega
theorem LQ:∀{w:Q0e},w≠[]->w.Nodup->(∀t∈w,0<=t)->dl (-1) w.reverse+dl (-1) w=(w.length:Int)-1
 |[],h,_,_=>Zw rfl h
 |[t],_,_,hr=>by have:=hr t cn;show dl (-1) [t]+dl (-1) [t]=_;rw[lC (by omega)];rfl
 |t::a::w,_,nd,hr=>by
  have ht:=hr t cn;have ha:=hr a (dq _ cn);have ih:=LQ (w:=a::w) (by simp) (gz.1 nd).2 λs hs=>hr s (dq _ hs);have hne:t≠a:=λe=>(gz.1 nd).1 (by rw[e];exact cn);have e1:(a::w).reverse.getLast?.getD (-1)=a:=by rw[List.getLast?_reverse];rfl
  rw[List.reverse_cons,CT,e1,lC (w:=a::w) ht];rw[lC (w:=w) ha] at ih;show dl (-1) (a::w).reverse+(if t<a then 1 else 0)+((if a<t then 1 else 0)+dl a w)=_;simp only[de] at ih ⊢;by_cases h:a<t
  .rw [Z_ h,Zz (by omega)];omega
  .rw [Zz h,Z_ (by omega)];omega
def Turned(x y:Q0a):Prop:=y.length=x.length /\∀a b:Int,0<=b->b<(x.length:Int)->(a∈row y ((x.length:Int)-1-b)↔(x.length:Int)-1-a∈row x b)
def Turned.symm(h:Turned x y):Turned y x:=by refine⟨h.1.symm,λa b h0 h1=>?_⟩;rw[h.1] at h1 ⊢;have e:=h.2 ((x.length:Int)-1-a) ((x.length:Int)-1-b) (by omega) (by omega);rw[show(x.length:Int)-1-((x.length:Int)-1-b)=b by omega,show(x.length:Int)-1-((x.length:Int)-1-a)=a by omega] at e;exact e.symm
def xM(h:Turned x y){w:Q0e}(hw:w∈gls x x.length):w.map (λa=>(x.length:Int)-1-a)∈gls y x.length:=by
 have hg:=iK hw;refine sZ (by rw[a_,hg.1]) λu t v e=>?_;obtain⟨u',r',e1,e2,e3⟩:=List.map_eq_append_iff.1 e;obtain⟨t',v',e4,e5,e6⟩:=List.map_eq_cons_iff.1 e3;subst e4 e2 e5;have hr:=iJ.1 (hg.2 u' t' v' e1);refine iJ.2 ⟨by rw[h.1];omega,λhm=>?_,λl hl=>?_⟩
 .obtain ⟨s,hs,e⟩:=cg.1 hm;exact hr.2.1 (by rw[show t'=s by omega];exact hs)
 .have:=hr.2.2 _ ((h.2 l t' hr.1.1 hr.1.2).1 hl);exact cg.2 ⟨_,this,by omega⟩
def tE(x z:Q0a):Prop:=z.length=x.length /\∀a b:Int,0<=a->a<(x.length:Int)->0<=b->b<(x.length:Int)->(a∈row x b↔b∈row z a)
def tE.symm(h:tE x y):tE y x:=⟨h.1.symm,λa b h0 h1 h2 h3=>by rw[h.1] at h1 h3;exact(h.2 b a h2 h3 h0 h1).symm⟩
def xN(h:tE x y)(HF:∀b:Int,0<=b->b<(x.length:Int)->b∉row x b)(rng:∀b:Int,0<=b->b<(x.length:Int) ->∀a∈row y b,0<=a/\a<(x.length:Int)){w:Q0e}(hw:w∈gls x x.length):w.reverse∈gls y x.length:=by
 have hg:=iK hw;have nd:=qT hg.2;refine sZ (by rw[List.length_reverse,hg.1]) λu t v e=>?_;have e1:w=v.reverse++t::u.reverse:=by have:=congrArg a2t e;rw[Gp] at this;rw[this];simp
 have hr:=iJ.1 (hg.2 _ _ _ e1);have hn:=nd.1;rw[e1] at hn;have hn2:=jy.1 hn;refine iJ.2 ⟨by rw[h.1];exact hr.1,λhm=>?_,λb hb=>?_⟩
 .exact (gz.1 hn2.2.1).1 (a2y.2 hm)
 .have hbr:=rng t hr.1.1 hr.1.2 b hb;have htb:=(h.2 t b hr.1.1 hr.1.2 hbr.1 hbr.2).2 hb;have hbw:=NZ hg.1 hg.2 hbr.1 hbr.2;rw[e1] at hbw;rcases h_.1 hbw with z|z
  .obtain ⟨p,q,ep⟩:=a2W z;have e2:w=p++b::(q++t::u.reverse):=by rw[e1,ep];simp
   have:=(iJ.1 (hg.2 _ _ _ e2)).2.2 t htb;exact Zw (by rw[ep];exact md _ this) hr.2.1
  .rcases cb.1 z with z|z
   .exact Zw (by rw[z] at htb;exact htb) (HF t hr.1.1 hr.1.2)
   .exact a2y.1 z
theorem aCW(a:Int):∀n:Nat,ff (-a+n-1) n=(1-2*((n:Int)%2))*ff a n:=by
 have step:∀(n:Nat) (b:Int),ff b (n+1)=b*ff (b-1) n:=by
  intro n
  induction n with
  |zero=>intro b;show 1*(b-((0:Nat):Int))=b*1;simp
  |succ n ih =>
   intro b;show ff b (n+1)*(b-((n+1:Nat):Int))=b*(ff (b-1) n*(b-1-(n:Int)));rw[ih,show b-((n+1:Nat):Int)=b-1-(n:Int) by omega,sk]
 intro n
 induction n with
 |zero=>rfl
 |succ n ih =>
  rw[step,show -a+((n+1:Nat):Int)-1-1=-a+(n:Int)-1 by omega,ih];show _=_*(ff a n*(a-(n:Int)));have e:(1:Int)-2*(((n+1:Nat):Int)%2)=-(1-2*((n:Int)%2)):=by omega
  rw[e,show -a+((n+1:Nat):Int)-1=-(a-(n:Int)) by omega,a21,a21,Int.mul_left_comm,ql (a-(n:Int))]
def Wd(a:Int)(n:Nat):C (-a+n-1) n=(1-2*((n:Int)%2))*C a n:=by refine(ye ?_).symm;rw[sk,xC,aCW]
def FR(h:x.length=0)(k:Int):DV x.length 0 (shares x) k=1:=by rw[xK,h];show C _ 0+0=1;rw[SA];rfl
def S3{T:List Int->List Int}(hl:y.length=x.length)(h1:∀w∈gls x x.length,T w∈gls y x.length/\T (T w)=w)(h2:∀w∈gls y x.length,T w∈gls x x.length/\T (T w)=w)(hd:∀w∈gls x x.length,x.length≠0->dl (-1) (T w)+dl (-1) w=(x.length:Int)-1)(k:Int):DV x.length 0 (shares x) (-k)=(1-2*((x.length:Int)%2))*DV y.length 0 (shares y) k:=by
 by_cases h0:x.length=0
 .rw [FR h0,FR (by omega),h0];rfl
 .rw [xK,xK,hl,ZE h1 h2,<- sY];congr 1;refine gq λw hw=>?_;have:=hd w hw h0;rw[<- Wd];congr 1;omega
def A2(h:Turned x y)(k:Int):DV x.length 0 (shares x) (-k)=(1-2*((x.length:Int)%2))*DV y.length 0 (shares y) k:=by
 have inv:∀w:Q0e,(w.map λa=>(x.length:Int)-1-a).map (λa=>(x.length:Int)-1-a)=w:=λw=>by
  rw[cc]
  conv=>rhs;rw[<- a2C w]
  exact gq λa _=>by show(x.length:Int)-1-((x.length:Int)-1-a)=a;omega
 refine S3 (T:=λw=>w.map λa=>(x.length:Int)-1-a) h.1 (λw hw=>⟨xM h hw,inv w⟩) (λw hw=>⟨?_,inv w⟩) (λw hw h0=>?_) k
 .have:=xM h.symm (w:=w) (by rw[h.1];exact hw);rw[h.1] at this;exact this
 .have hg:=iK hw;have nd:=qT hg.2;have:=LP (x.length:Int) (w:=w) (λe=>h0 (by rw[<- hg.1,e];rfl)) nd.1 nd.2;rw[hg.1] at this;exact this
def N0(h:tE x y)(ix:∀b:Int,0<=b->b<(x.length:Int)->b∉row x b)(rx:∀b:Int,0<=b->b<(x.length:Int) ->∀a∈row x b,0<=a/\a<(x.length:Int))(ry:∀b:Int,0<=b->b<(x.length:Int) ->∀a∈row y b,0<=a/\a<(x.length:Int))(k:Int):DV x.length 0 (shares x) (-k)=(1-2*((x.length:Int)%2))*DV y.length 0 (shares y) k:=by
 refine S3 (T:=a2t) h.1 (λw hw=>⟨xN h ix ry hw,Gp w⟩) (λw hw=>⟨?_,Gp w⟩) (λw hw h0=>?_) k
 .have:=xN h.symm (λb h0 h1 hb=>by rw[h.1] at h1;exact ix b h0 h1 ((h.2 b b h0 h1 h0 h1).2 hb)) (λb h0 h1 a ha=>by rw[h.1] at h1 ⊢;exact rx b h0 h1 a ha) (w:=w) (by rw[h.1];exact hw);rw[h.1] at this;exact this
 .have hg:=iK hw;have nd:=qT hg.2;have:=LQ (w:=w) (λe=>h0 (by rw[<- hg.1,e];rfl)) nd.1 λt ht=>(nd.2 t ht).1;rw[hg.1] at this;exact this
end
end LL
namespace lQ
open L3 L4
def gM:iH:=c8 4 2
  (aK (bD 2 (aE dC (aB 1) (eC (.int 0))))
  (aK (bD 3 (aE dC (aB 1) (eC (.int 1))))
  (bF (vS (bX anyM (aA (a9 1 [2,0] (bE (aE dC (aB 0) (aB 3))) (g1 0) bP (aE (mB ag) (aB 1) (aE dC (aB 2) (aB 0)))) aF))))))
def kA:iH:=c8 2 2
  (aK (gI (lU (tV (aI gM (aA (aB 0) (aA (aB 1) aF)))))
   (bF (eC (.str "not bare")))
   dQ)
  (bF (KR (tV (aE KS (aE dC (aB 1) (eC (.int 0))) (aE dC (aB 1) (eC (.int 1))))) (eC (.str "strict")) (eC (.str "plain")))))
def dN:iH:=c8 3 1
  (aK (RI 1)
  (aK (dY (bE (aI LL.gL (aA (aB 0) aF))) (mC 2)
   (p7 1 (bK (aI kA (aA (aB 0) (aA (aB 2) aF)))) (aB 2)))
  (bF (aB 1))))
def kB:iH:=c8 4 2
  (aK (bD 2 (bX pA (aA (a9 2 [1] (qA (aB 0)) (g2 0 1) (tV (aE u5 (aE dC (aB 0) (eC (.int 0))) (aB 2))) (aB 1)) aF)))
  (aK (bD 3 (bX pA (aA (a9 2 [1] (qA (aB 0)) (g2 0 1) (tV (aE u5 (aE dC (aB 0) (eC (.int 1))) (aB 2))) (aB 1)) aF)))
  (bF (dP (aA (aB 2) (aA (aB 3) aF))))))
def gP:iH:=c8 2 2
  (bF (a9 1 [1] (bA (aA (bX cM (aA (aB 0) aF)) aF)) (g1 0) bP (aI kB (aA (aB 1) (aA (aB 0) aF)))))
def gQ:iH:=c8 7 4
  (aK (bD 4 (bX cM (aA (aB 2) aF)))
  (aK (dY (jG (aA (aB 2) aF)) (NN 5 6)
   (aK (gI (tV (aE wF (aE fU (aB 0) (dP (aA (aB 5) (aA (aB 4) aF)))) (aE fU (aB 1) (dP (aA (aB 6) (aA (aB 3) aF))))))
    (bF (eC (.bl ag)))
    dQ)
   (gI (tV (aE wF (aE fU (aB 0) (dP (aA (aB 4) (aA (aB 5) aF)))) (aE fU (aB 1) (dP (aA (aB 3) (aA (aB 6) aF))))))
    (bF (eC (.bl ag)))
    dQ)))
  (bF (eC (.bl ae)))))
def cH:Nat->iH
 |0=>λ_=>.no
 |n+1=>c8 6 4
  (aK (gI (tV (aE u5 (bX cM (aA (aB 3) aF)) (bX cM (aA (aB 2) aF))))
   (bF (aB 3))
   dQ)
  (aK (dY (bE (aE dC (aB 2) (bX cM (aA (aB 3) aF)))) (mC 4)
   (gI (lV (tV (aE (mB ae) (aB 4) (aB 3))) (tV (aI gQ (aA (aB 0) (aA (aB 1) (aA (aB 3) (aA (aB 4) aF)))))))
    (aK (bD 5 (aI (cH n) (aA (aB 0) (aA (aB 1) (aA (aB 2) (aA (aE dG (aB 3) (dP (aA (aB 4) aF))) aF))))))
    (gI (tV (aE ES (aB 5) (eC .non)))
     (bF (aB 5))
     dQ))
    dQ))
  (bF (eC .non))))
def fO:iH:=c8 2 2
  (bF (a9 2 [0] (jG (aA (aB 1) aF)) (g2 0 1) (tV (aE AG (aB 1) (aB 2))) (aB 0)))
def iY:iH:=c8 7 2
  (aK (bD 2 (aI dN (aA (aB 0) aF)))
  (aK (bD 3 (aI dN (aA (aB 1) aF)))
  (aK (bD 4 (aI gP (aA (aB 0) (aA (aB 2) aF))))
  (aK (bD 5 (aI gP (aA (aB 1) (aA (aB 3) aF))))
  (aK (gI (tV (aE pB (bX mE (aA (aB 4) aF)) (bX mE (aA (aB 5) aF))))
   (bF (eC .non))
   dQ)
  (aK (bD 6 (a9 1 [5] (bE (aB 4)) (g1 0) bP (aI fO (aA (aB 0) (aA (aB 1) aF)))))
  (bF (aI (cH 11) (aA (aB 2) (aA (aB 3) (aA (aB 6) (aA (dP aF) aF))))))))))))
def iZ:iH:=c8 4 1
  (aK (lX 1 (fQ aF))
  (aK (dY (bE (aI LL.fE (aA (aB 0) aF))) (NN 2 3)
   (gI (lU (tV (bX anyM (aA (a9 1 [2,0] (bE (aE dC (aB 0) (aB 3))) (g1 0) bP (aE (mB ag) (aB 1) (aE dC (aB 2) (aB 0)))) aF))))
    (sX (oX 1 iN (bK (dP (aA (aB 2) (aA (aB 3) aF))))))
    dQ))
  (bF (aB 1))))
def mM:iH:=c8 6 4
  (aK (bD 4 (aE gH (bX cM (aA (aB 3) aF)) (eC (.int 1))))
  (aK (dY (bA (aA (aB 4) aF)) (mC 5)
   (aK (gI (z8 (tV (aE NH (aE (mB ag) (aB 5) (aE dC (aB 0) (aB 4))) (aE (mB ag) (aE dC (aB 3) (aB 5)) (aE dC (aB 1) (aE dC (aB 3) (aB 4)))))) (tV (aE NH (aE (mB ag) (aB 4) (aE dC (aB 0) (aB 5))) (aE (mB ag) (aE dC (aB 3) (aB 4)) (aE dC (aB 1) (aE dC (aB 3) (aB 5)))))))
    (bF (eC (.bl ag)))
    dQ)
   (gI (z8 (lV (tV (aE (uO ag) (dP (aA (aB 5) (aA (aB 4) aF))) (aB 2))) (tV (aE KS (aE dC (aB 3) (aB 5)) (aE dC (aB 3) (aB 4))))) (lV (tV (aE (uO ag) (dP (aA (aB 4) (aA (aB 5) aF))) (aB 2))) (tV (aE YI (aE dC (aB 3) (aB 4)) (aE dC (aB 3) (aB 5))))))
    (bF (eC (.bl ag)))
    dQ)))
  (bF (eC (.bl ae)))))
def kC:iH:=c8 4 2
  (aK (lX 2 (fQ aF))
  (aK (dY (bE (aB 1)) (mC 3)
   (sX (oX 2 iN (bK (bX cQ (aA (bX eQ (aA (a9 1 [1] (bE (aE dC (aB 0) (aB 3))) (g1 0) bP (aE RK (aB 1) (aB 0))) aF)) aF))))))
  (bF (bX cQ (aA (aB 2) aF)))))
def dO:iH:=c8 7 2
  (aK (bD 2 (aI iZ (aA (aB 0) aF)))
  (aK (bD 3 (a9 1 [2] (bA (aA (bX cM (aA (aB 0) aF)) aF)) (g1 0) bP (a9 2 [0] (bE (aB 1)) (g2 0 1) (tV (aE u5 (bX p4 (aA (aB 0) (aA (aB 1) aF))) (aB 2))) (bX ER (aA (aB 0) (aA (aB 1) aF))))))
  (aK (lX 4 (fQ aF))
  (aK (dY (bA (aA (bX cM (aA (aB 0) aF)) aF)) (mC 5)
   (aK (lP 6 (a9 1 [4,3] (bA (aA (bX cM (aA (aB 0) aF)) aF)) (g1 0) (lV (tV (aE (mB ae) (aB 0) (aB 1))) (tV (bX allM (aA (a9 1 [1] (bE (aE dC (aB 2) (aB 0))) (g1 0) bP (aE (mB ag) (aB 0) (aB 1))) aF)))) (aB 0)))
   (sX (oX 4 iN (bK (aE dC (aB 6) (aE lW (aE dC (aB 1) (aB 5)) (bX cM (aA (aB 6) aF)))))))))
  (bF (aI kC (aA (aB 0) (aA (aB 4) aF))))))))
open LL
abbrev T(x:Q0a):=eI.T x
def kp(p:Int×Int):u6:=.inr [.inl (.inl p.1),.inl (.inl p.2)]
def S4(h:kp p=kp q):p=q:=by unfold kp at h;simp at h;exact km h.1 h.2
def S5(p:Int×Int):lY (pairD p)=aa (kp p):=rfl
def kd1(x:Q0a)(p:Int×Int):ak:=if eI.dS x p=ae then(if p.2<p.1 then "strict" else "plain") else "not bare"
def cJ(q:Nat->aw->Prop)(x:Q0a)(L:List (Int×Int)):D:=.c7 q (L.map kp) (L.map λp=>.str (kd1 x p))
section
variable{x y:Q0a}
def S6(h:tyB x a b=ae):kdS x a b=aa (kd1 x (a,b)):=by
 unfold kdS kd1;rw[Z_ h];have e:b8 x a b=eI.dS x (a,b):=by unfold b8 eI.dS;rw[h,ku];rfl
 rw[e]
def pK(hx:Ord.Rows x)(hn:x.length<=9)(h0:0<=p.2)(h1:p.2<(x.length:Int)):gM [aJ x,pairD p]=.ok (.bl (eI.dS x p)):=eI.pK hx hn h0 h1
theorem ZF(hx:Ord.Rows x)(hn:x.length<=9){p:Int×Int}(h0:0<=p.2)(h1:p.2<(x.length:Int)):kA [aJ x,pairD p]=.ok (.str (kd1 x p)):=by
 unfold kA kd1;have e:=pK hx hn h0 h1
 cases hb:eI.dS x p with
 |false =>
  rw[hb] at e;exact d9 rfl (oA (zF (X9 (b:=ag) (g8 (bQ rfl rfl e) rfl) rfl) (dR rfl)))
 |true =>
  rw[hb] at e;refine d9 rfl (bL _ (lZ (X9 (b:=ae) (g8 (bQ rfl rfl e) rfl) rfl) rfl) (dR ?_));rw[Z_ rfl];unfold KR;rw[g8 (b:=Zv (p.2<p.1)) (aY (x:=.int p.1) (y:=.int p.2) rfl rfl qC) rfl];by_cases h:p.2<p.1
  .rw [Zx h,Z_ h];rfl
  .rw [Zy h,Zz h];rfl
def ZG{L:List (Int×Int)}{p:Int×Int}{v:D}(f:Int×Int->D)(h:p∉L):eD (L.map kp) (L.map f) (kp p) v=(L.map kp++[kp p],L.map f++[v]):=by unfold eD;rw[Zz];simp only[sg,om,Hf,decide_eq_true_eq,not_exists,not_and];exact λq hq e=>h (S4 e▸hq)
def LR(L:List (Int×Int))(p:Int×Int):kindB (L.map kp) (kp p)=ae:=by unfold kindB;rw[gw];intro q hq;obtain⟨r,_,rfl⟩:=cg.1 hq;rfl
def Wc{i:Nat}{f k:EF}{ρ:bO}{q:Nat->aw->Prop}{ks:List u6}{ds:List D}{v kd:D}{kk:u6}(h1:f (jR ρ)=aa v)(h2:ρ[i]?=aa (.ow (.c7 q ks ds)))(h3:k (bY ρ)=aa kd)(h4:lY kd=aa kk)(h5:kindB ks kk=ae)(h6:ds.length<oH):p7 i (bK f) k ρ=.nx (ρ.set i (.ow (.c7 (adr q) (eD ks ds kk v).1 (eD ks ds kk v).2))):=by unfold p7 bK;rw[h1];simp only[dz,h2,HS,h3,h4];rw[Z_ ⟨h5,h6⟩]
def kinds_ok(hx:Ord.Rows x)(hn:x.length<=9):∃q,dN [aJ x]=.ok (cJ q x (T x)):=by
 have hl:=eI.FA hx hn;have nd:(T x).Nodup:=(uP.mJ _).nodup_iff.mpr (uP.pI hx)
 suffices h:∃d,dN [aJ x]=.ok d /\∃q,d=cJ q x (T x) by obtain⟨d,e,q,rfl⟩:=h;exact⟨q,e⟩
 unfold dN;refine iP rfl (by
  refine bM [.ro (aJ x),.ow (.c7 p6 [] []),.no] rfl (mH (λρ=>∃q v,ρ=[.ro (aJ x),.ow (cJ q x (T x)),v]) ?_ λρ ⟨q,v,e⟩=>?_)
  .refine sM ((T x).map pairD) (λi ρ=>∃q v,ρ=[.ro (aJ x),.ow (cJ q x ((T x).take i)),v]) ?_ ⟨p6,.no,by rw[List.take_zero];rfl⟩ (λi d ρ hd ⟨q,v,e⟩=>?_) (λρ ⟨q,v,e⟩=>⟨q,v,by rw[e];simp⟩)
   .unfold bE;rw[eU rfl (pJ hx hn)];rfl
   .rw [ck] at hd;obtain⟨p,ep,rfl⟩:=jk.1 hd;have hi:=(cq.1 ep).1;have hp:=eI.AN.1 (jz ep);subst e;have hnew:p∉(T x).take i:=λz=>by obtain⟨j,hj,ej⟩:=qe z;rw[jm] at hj;rw[List.getElem_take] at ej;have:=(zr (h₀:=by omega) (h₁:=hi) nd).1 (ej.trans (cq.1 ep).2.symm);omega
    refine⟨[.ro (aJ x),.ow (cJ q x ((T x).take i)),.ro (pairD p)],rfl,_,Wc (q:=q) (ks:=((T x).take i).map kp) (ds:=((T x).take i).map λp=>.str (kd1 x p)) (v:=.str (kd1 x p)) (kd:=pairD p) (kk:=kp p) (bQ rfl rfl (ZF hx hn hp.1 hp.2.1)) rfl rfl rfl (LR _ p) (by rw[a_,jm];have hl:(T x).length<64:=hl;show _<16777216;omega),adr q,.ro (pairD p),?_⟩;rw[ZG _ hnew];have et:(T x).take (i+1)=(T x).take i++[p]:=by rw[Gi,ep];rfl
    unfold cJ;rw[et,gu,gu];rfl
  .subst e;exact fW (cJ q x (T x)) rfl ⟨q,rfl⟩)
theorem LS(f:Int×Int->D):∀(L:List (Int×Int)) (p:Int×Int),bU (L.map kp) (L.map f) (kp p)=if p∈L then aa (f p) else af
 |[],p=>rfl
 |r::L,p=>by
  have ih:=LS f L p;unfold bU at ih ⊢;rw[bt,bt,Gg,ia];by_cases e:r=p
  .subst e;simp
  .have:Zv (kp r=kp p)=ag:=Zy λz=>e (S4 z);simp only[this];rw[ih];simp[dj e]
theorem FT(hx:Ord.Rows x)(h0:0<=b)(h1:b<(x.length:Int)):((a,b)∈T x)↔tyB x a b=ae:=by rw[eI.AN];unfold tyB;simp[h0,h1]
noncomputable def oD:Option ak->D
 |none=>.non
 |some s=>.str s
def CV(hx:Ord.Rows x)(h0:0<=b)(h1:b<(x.length:Int)):fU (cJ q x (T x)) (pairD (a,b))=aa (oD (kdS x a b)):=by
 show((lY (pairD (a,b))).bind λk=>if kindB ((T x).map kp) k=ae then aa ((bU ((T x).map kp) ((T x).map λp=>.str (kd1 x p)) k).getD .non) else af)=_;rw[S5,dz,Z_ (LR _ _),LS];by_cases h:tyB x a b=ae
 .rw [Z_ ((FT hx h0 h1).2 h),S6 h];rfl
 .rw [Zz (λz=>h ((FT hx h0 h1).1 z))];unfold kdS;rw[Zz h];rfl
def S7(a b:Option ak):wF (oD a) (oD b)=aa (.bl (!Zv (a=b))):=by cases a<;>cases b<;>simp[oD,wF,Ce]
theorem strs_map:∀l:Q0g,oJ (l.map D.str)=aa l
 |[]=>rfl
 |x::l=>by show(oJ (l.map D.str)).map (x :: ·)=_;rw[strs_map l];rfl
def ya(hx:Ord.Rows x):(T x).Nodup:=(uP.mJ _).nodup_iff.mpr (uP.pI hx)
theorem S8(h:∀b∈rg n,k b=if g b=ae then aa (f b) else af):(rg n).filterMap k=((rg n).filter g).map f:=by
 generalize rg n=l at h
 induction l with
 |nil=>rfl
 |cons a l ih =>
  rw[qh,h a cn,m_];by_cases e:g a=ae
  .rw [Z_ e,Z_ e,bt,ih λb hb=>h b (dq _ hb)]
  .rw [Zz e,Zz e,ih λb hb=>h b (dq _ hb)]
def Di:kdS x a b=if tyB x a b=ae then aa (kd1 x (a,b)) else af:=by
 by_cases h:tyB x a b=ae
 .rw [S6 h,Z_ h]
 .unfold kdS;rw[Zz h,Zz h]
def S9(hx:Ord.Rows x)(h0:0<=c)(h1:c<(x.length:Int)):(((T x).filter λp=>Zv (p.1=c)).map (kd1 x)).Perm (abv x.length x c):=by
 unfold abv;rw[S8 (g:=λb=>tyB x c b) (f:=λb=>kd1 x (c,b)) λb _=>Di];have:(((T x).filter λp=>Zv (p.1=c))).Perm (((rg x.length).filter λb=>tyB x c b).map λb=>(c,b)):=by
  refine(vf ((ya hx).filter _) ?_).2 λp=>?_
  .rw [a2w,jw];exact((vF x.length).nd.filter _).imp λh e=>h (by simpa using e)
  .simp only[cj,cg,decide_eq_true_eq]
   constructor
   .rintro ⟨h,e⟩;obtain⟨t0,t1,t2⟩:=eI.AN.1 h;exact⟨p.2,⟨dJ.2 ⟨t0,t1⟩,by unfold tyB;rw[<- e];simpa using t2⟩,km e.symm rfl⟩
   .rintro ⟨b,⟨hb,ht⟩,rfl⟩;obtain⟨t0,t1⟩:=dJ.1 hb;exact⟨(FT hx t0 t1).2 ht,rfl⟩
 have:=this.map (kd1 x);rw[cc] at this;exact this
def TB(hx:Ord.Rows x)(h0:0<=c)(h1:c<(x.length:Int)):(((T x).filter λp=>Zv (p.2=c)).map (kd1 x)).Perm (blw x.length x c):=by
 unfold blw;rw[S8 (g:=λa=>tyB x a c) (f:=λa=>kd1 x (a,c)) λb _=>Di];have:(((T x).filter λp=>Zv (p.2=c))).Perm (((rg x.length).filter λa=>tyB x a c).map λa=>(a,c)):=by
  refine(vf ((ya hx).filter _) ?_).2 λp=>?_
  .rw [a2w,jw];exact((vF x.length).nd.filter _).imp λh e=>h (by simpa using e)
  .simp only[cj,cg,decide_eq_true_eq]
   constructor
   .rintro ⟨h,e⟩;obtain⟨t0,t1,t2⟩:=eI.AN.1 h;exact⟨p.1,⟨jJ hx t0 t1 t2,by unfold tyB;rw[<- e];simpa using t2⟩,km rfl e.symm⟩
   .rintro ⟨a,⟨ha,ht⟩,rfl⟩;exact⟨(FT hx h0 h1).2 ht,rfl⟩
 have:=this.map (kd1 x);rw[cc] at this;exact this
def TC:K0 (cJ q x L)=aa (L.map λp=>.tup [pairD p,.str (kd1 x p)]):=by show aa (((L.map kp).zip (L.map λp=>D.str (kd1 x p))).map λp=>D.tup [nj p.1,p.2])=_;rw[List.zip_map',cc];rfl
def TH{l m:Q0g}(h:l.Perm m)(hl:l.length<64):pA [.lst (l.map D.str)]=aa (.lst ((jC zE m).map D.str)):=by show(oJ (l.map D.str)).bind _=_;rw[strs_map,dz,Z_ hl,vA kX h]
def ZH(hx:Ord.Rows x)(hn:x.length<=9)(h0:0<=c)(h1:c<(x.length:Int)):kB [cJ q x (T x),.int c]=.ok (l8 (lk x.length x c)):=by
 have hT:(T x).length<64:=eI.FA hx hn;unfold kB;have one:∀(k:Int) (g:Int×Int->Int) (ρ:cN) (m:Q0g),(∀p:Int×Int,aE dC (aB 0) (eC (.int k)) [aa (pairD p),aa (.str (kd1 x p)),aa (.int c)]=aa (.int (g p)))->aB 0 ρ=aa (cJ q x (T x))->benv 2 [1] ρ=[af,af,aa (.int c)]->(((T x).filter λp=>Zv (g p=c)).map (kd1 x)).Perm m ->
   bX pA (aA (a9 2 [1] (qA (aB 0)) (g2 0 1) (tV (aE u5 (aE dC (aB 0) (eC (.int k))) (aB 2))) (aB 1)) aF) ρ=aa (.lst ((jC zE m).map D.str)):=λk g ρ m hk e0 e1 hp=>by
  refine cV (x:=.lst ((((T x).filter λp=>Zv (g p=c)).map (kd1 x)).map D.str)) ?_ (TH hp (by rw[a_];exact pw (me _ _) hT));rw[cc];refine dU ((T x).map λp=>.tup [pairD p,.str (kd1 x p)]) ?_ (by rw[a_];omega) ?_
  .unfold qA;rw[e0];exact TC (q:=q)
  .rw [e1];exact eA (λp:Int×Int=>D.tup [pairD p,.str (kd1 x p)]) (λp=>Zv (g p=c)) (λp=>.str (kd1 x p)) (T x) λp _=>⟨[aa (pairD p),aa (.str (kd1 x p)),aa (.int c)],rfl,g8 (aY (hk p) rfl fH) rfl,λ_=>rfl⟩
 refine d9 rfl (bL _ (dH _ (one 0 l_ _ _ (λp=>rfl) rfl rfl (S9 hx h0 h1)) rfl) (bL _ (dH _ (one 1 zk _ _ (λp=>rfl) rfl rfl (TB hx h0 h1)) rfl) (dR ?_)));rfl
def FU(hx:Ord.Rows x)(hn:x.length<=9):gP [aJ x,cJ q x (T x)]=.ok (.lst (((rg x.length).map (lk x.length x)).map l8)):=by
 unfold gP;refine d9 rfl (dR ?_);have e:(bI 0 x.length)=rg x.length:=by unfold bI rg;congr 1;funext k;omega
 rw[cc];refine dU ((rg x.length).map D.int) ?_ (by rw[a_];unfold rg;rw[a_,kq];omega) (bZ D.int (λc=>l8 (lk x.length x c)) (rg x.length) λc hc=>⟨_,rfl,bQ rfl rfl (ZH hx hn (dJ.1 hc).1 (dJ.1 hc).2)⟩);rw[qI (n:=x.length) (cV rfl eE) (by omega),e]
def TJ(w:Q0e):w.zipIdx=(bu w.length).map λj=>(at1 w j,j):=by
 refine nc λj=>?_;rw[vq,ck,ux];by_cases h:j<w.length
 .rw [mf h,bc h];show aa _=aa (at1 w j,j);unfold at1;rw[fm,bc h];rfl
 .rw [gk (by omega),gk (by simpa using h)];rfl
theorem ZI(hx:Ord.Rows x)(hy:Ord.Rows y)(lx:x.length=n)(ly:y.length=n)(hn:n<=9)(hw:w.length<n)(hr:∀a∈w,a∈rg n)(ht:t∈rg n):gQ [cJ q1 x (T x),cJ q2 y (T y),tupI w,.int t]=.ok (.bl (hV x y w t)):=by
 unfold gQ;obtain⟨t0,t1⟩:=dJ.1 ht;have key:=sQ (g:=NN 5 6) (b:=aK (gI (tV (aE wF (aE fU (aB 0) (dP (aA (aB 5) (aA (aB 4) aF)))) (aE fU (aB 1) (dP (aA (aB 6) (aA (aB 3) aF))))))
    (bF (eC (.bl ag)))
    dQ)
   (gI (tV (aE wF (aE fU (aB 0) (dP (aA (aB 4) (aA (aB 5) aF)))) (aE fU (aB 1) (dP (aA (aB 3) (aA (aB 6) aF))))))
    (bF (eC (.bl ag)))
    dQ)) (z:=.bl ag) (λρ=>∃v5 v6,ρ=[.ro (cJ q1 x (T x)),.ro (cJ q2 y (T y)),.ro (tupI w),.ro (.int t),.ro (.int (w.length:Int)),v5,v6])
  (λp:Int×Nat=>D.tup [.int (p.2:Int),.int p.1]) (λp=>Zv (kdS x p.2 w.length=kdS y p.1 t)&&Zv (kdS x w.length p.2=kdS y t p.1)) w.zipIdx
  [.ro (cJ q1 x (T x)),.ro (cJ q2 y (T y)),.ro (tupI w),.ro (.int t),.ro (.int (w.length:Int)),.no,.no] ⟨_,_,rfl⟩ (λp hp ρ ⟨v5,v6,e⟩=>by
   subst e;have hp2:p.2<w.length/\p.1∈w:=by rw[TJ] at hp;obtain⟨j,hj,rfl⟩:=cg.1 hp;have hj:=dm.1 hj;refine⟨hj,?_⟩;show at1 w j∈w;unfold at1;rw[fm,bc hj];exact mz hj
   obtain⟨r0,r1⟩:=dJ.1 (hr p.1 hp2.2);refine⟨[.ro (cJ q1 x (T x)),.ro (cJ q2 y (T y)),.ro (tupI w),.ro (.int t),.ro (.int (w.length:Int)),.ro (.int (p.2:Int)),.ro (.int p.1)],rfl,?_⟩;have c1:tV (aE wF (aE fU (aB 0) (dP (aA (aB 5) (aA (aB 4) aF)))) (aE fU (aB 1) (dP (aA (aB 6) (aA (aB 3) aF))))) (bY [.ro (cJ q1 x (T x)),.ro (cJ q2 y (T y)),.ro (tupI w),.ro (.int t),.ro (.int (w.length:Int)),.ro (.int (p.2:Int)),.ro (.int p.1)])=aa (!Zv (kdS x p.2 w.length=kdS y p.1 t)) :=
    g8 (aY (aY (y:=pairD ((p.2:Int),(w.length:Int))) rfl rfl (CV hx (by omega) (by omega))) (aY (y:=pairD (p.1,t)) rfl rfl (CV hy (by omega) (by omega))) (S7 _ _)) rfl
   have c2:tV (aE wF (aE fU (aB 0) (dP (aA (aB 4) (aA (aB 5) aF)))) (aE fU (aB 1) (dP (aA (aB 3) (aA (aB 6) aF))))) (bY [.ro (cJ q1 x (T x)),.ro (cJ q2 y (T y)),.ro (tupI w),.ro (.int t),.ro (.int (w.length:Int)),.ro (.int (p.2:Int)),.ro (.int p.1)])=aa (!Zv (kdS x w.length p.2=kdS y t p.1)) :=
    g8 (aY (aY (y:=pairD ((w.length:Int),(p.2:Int))) rfl rfl (CV hx (by omega) (by omega))) (aY (y:=pairD (t,p.1)) rfl rfl (CV hy (by omega) (by omega))) (S7 _ _)) rfl
   generalize Zv (kdS x p.2 w.length=kdS y p.1 t)=b1 at c1 ⊢;generalize Zv (kdS x w.length p.2=kdS y t p.1)=b2 at c2 ⊢
   cases b1 with
   |false=>exact⟨λz=>(by cases z),λ_=>oA (zF c1 (dR rfl))⟩
   |true =>
    cases b2 with
    |false=>exact⟨λz=>(by cases z),λ_=>bL _ (lZ c1 rfl) (zF c2 (dR rfl))⟩
    |true=>exact⟨λ_=>⟨_,bL _ (lZ c1 rfl) (lZ c2 rfl),_,_,rfl⟩,λz=>by cases z⟩)
 have ea:w.zipIdx.all (λp=>Zv (kdS x p.2 w.length=kdS y p.1 t)&&Zv (kdS x w.length p.2=kdS y t p.1))=hV x y w t:=by unfold hV;rw[TJ,sh];rfl
 have en:jG (aA (aB 2) aF) (jR [.ro (cJ q1 x (T x)),.ro (cJ q2 y (T y)),.ro (tupI w),.ro (.int t),.ro (.int (w.length:Int)),.no,.no])=aa (w.zipIdx.map λp:Int×Nat=>D.tup [.int (p.2:Int),.int p.1]):=by show AA [.tup (w.map D.int)]=_;rw[nM,zipIdx_map,cc];rfl
 rw[ea] at key;refine d9 rfl (bL [.ro (cJ q1 x (T x)),.ro (cJ q2 y (T y)),.ro (tupI w),.ro (.int t),.ro (.int (w.length:Int)),.no,.no] (dH (.int (w.length:Int)) (cV rfl j6) rfl) ?_)
 cases hg:hV x y w t with
 |true =>
  obtain⟨ρ',e,v5,v6,rfl⟩:=key.1 hg;exact bL _ (wR _ en e) (dR rfl)
 |false=>exact oA (wR _ en (key.2 hg))
def TK(a:Lk):NR (l8 a)=aa a:=by show(oJ (a.1.map D.str)).bind _=_;rw[strs_map,dz,strs_map];rfl
theorem CW:∀l:List Lk,oK (l.map l8)=aa l
 |[]=>rfl
 |a::l=>by rw[bt,oK,TK,dz,CW l];rfl
def g9(n:Nat):(rg n).length=n:=by unfold rg;rw[a_,kq]
theorem N2(hn:n<=9):fO [l8 a,.lst (((rg n).map f).map l8)]=.ok (aG ((rg n).filter λt=>Zv (f t=a))):=by
 unfold fO;refine d9 rfl (dR ?_);have e:((rg n).map f).zipIdx=(bu n).map λj:Nat=>(f (j:Int),j):=by
  unfold rg;rw[cc];refine nc λj=>?_;rw[vq,ck,ck,ux];by_cases h:j<n
  .rw [mf h];rfl
  .rw [gk (by simpa using h)];rfl
 have hc:gY (g2 0 1) (tV (aE AG (aB 1) (aB 2))) (aB 0) [af,af,aa (l8 a)] (((rg n).map f).zipIdx.map λp:Lk×Nat=>D.tup [.int (p.2:Int),l8 p.1])=aa ((((rg n).map f).zipIdx.filter λp=>Zv (p.1=a)).map λp=>.int (p.2:Int)) :=
  eA (λp:Lk×Nat=>D.tup [.int (p.2:Int),l8 p.1]) (λp=>Zv (p.1=a)) (λp=>.int (p.2:Int)) _ λp _=>⟨[aa (.int (p.2:Int)),aa (l8 p.1),aa (l8 a)],rfl,g8 (aY (x:=l8 p.1) (y:=l8 a) rfl rfl (by unfold AG;rw[TK,TK];rfl)) rfl,λ_=>rfl⟩
 have hr:((((rg n).map f).zipIdx.filter λp=>Zv (p.1=a)).map λp=>D.int (p.2:Int))=(((rg n).filter λt=>Zv (f t=a)).map D.int):=by rw[e,a2N,cc];unfold rg;rw[a2N,cc];rfl
 rw[hr] at hc;refine dU (((rg n).map f).zipIdx.map λp:Lk×Nat=>D.tup [.int (p.2:Int),l8 p.1]) ?_ (by rw[a_,List.length_zipIdx,a_,g9];omega) hc;show AA [.lst (((rg n).map f).map l8)]=_;rw[nN,zipIdx_map,cc];rfl
noncomputable def oW:Option (List Int)->D
 |none=>.non
 |some v=>tupI v
def vJ(n:Nat)(x y:Q0a):List (List Int):=(rg n).map λc=>(rg n).filter λt=>Zv (lk n y t=lk n x c)
abbrev cnd(n:Nat)(x y:Q0a):List Int->List Int:=λw=>((rg n).filter λt=>Zv (lk n y t=lk n x w.length)).filter λt=>!w.contains t&&hV x y w t
def aCY(h:c<n):dC (.lst ((vJ n x y).map aG)) (.int (c:Int))=aa (aG ((rg n).filter λt=>Zv (lk n y t=lk n x c))):=by rw[jH,iB,qH (by unfold vJ;rw[a_,g9];exact h)];unfold vJ rg;rw[cc,ck,mf h];rfl
abbrev bdy(k:Nat):SF:=gI (lV (tV (aE (mB ae) (aB 4) (aB 3))) (tV (aI gQ (aA (aB 0) (aA (aB 1) (aA (aB 3) (aA (aB 4) aF)))))))
    (aK (bD 5 (aI (cH (k+1)) (aA (aB 0) (aA (aB 1) (aA (aB 2) (aA (aE dG (aB 3) (dP (aA (aB 4) aF))) aF))))))
    (gI (tV (aE ES (aB 5) (eC .non)))
     (bF (aB 5))
     dQ))
    dQ
theorem TL(hx:Ord.Rows x)(hy:Ord.Rows y)(lx:x.length=n)(ly:y.length=n)(hn:n<=9):∀(m k:Nat) (w:Q0e),w.length+m=n->m<=k->(∀a∈w,a∈rg n) ->
  cH (k+1) [cJ q1 x (T x),cJ q2 y (T y),.lst ((vJ n x y).map aG),tupI w]=.ok (oW (YA (cnd n x y) m w)):=by
 intro m;have hc:(vJ n x y).length=n:=by unfold vJ;rw[a_,g9]
 induction m with
 |zero =>
  intro k w hl hk hr;unfold cH;refine d9 rfl (oA (zF (g8 (aY (x:=.int (w.length:Int)) (y:=.int (n:Int)) (cV rfl j6) (cV rfl (by rw[j4,a_,hc])) fH) ?_) (dR rfl)));rw[gK,Zx (by omega)]
 |succ m ih =>
  intro k w hl hk hr;obtain⟨k,rfl⟩:∃k',k=k'+1:=⟨k-1,by omega⟩;have hwn:w.length<n:=by omega
  -- the loop
  have loop:∀(l:Q0e),(∀t∈l,t∈rg n) ->∀(v4 v5:Sv),∃v4' v5',eR (mC 4) (bdy k) (l.map D.int) [.ro (cJ q1 x (T x)),.ro (cJ q2 y (T y)),.ro (.lst ((vJ n x y).map aG)),.ro (tupI w),v4,v5] =
    match (l.filter λt=>!w.contains t&&hV x y w t).findSome? (λt=>YA (cnd n x y) m (w++[t])) with
    |some v=>.rt (tupI v)
    |none=>.nx [.ro (cJ q1 x (T x)),.ro (cJ q2 y (T y)),.ro (.lst ((vJ n x y).map aG)),.ro (tupI w),v4',v5']:=by
   intro l
   induction l with
   |nil=>intro _ v4 v5;exact⟨v4,v5,rfl⟩
   |cons t l ihl =>
    intro hl2 v4 v5;have ht:=hl2 t cn;have c1:lV (tV (aE (mB ae) (aB 4) (aB 3))) (tV (aI gQ (aA (aB 0) (aA (aB 1) (aA (aB 3) (aA (aB 4) aF)))))) (bY [.ro (cJ q1 x (T x)),.ro (cJ q2 y (T y)),.ro (.lst ((vJ n x y).map aG)),.ro (tupI w),.ro (.int t),v5])=aa (!w.contains t&&hV x y w t):=by refine K4 (b:=!w.contains t) (g8 (aY (x:=.int t) (y:=tupI w) rfl rfl K5) rfl) (λh=>?_) (λh=>by rw[h];rfl);rw[h,ku];exact g8 (wV rfl rfl rfl rfl (ZI hx hy lx ly hn hwn hr ht)) rfl
    rw[bt,eR];rw[show mC 4 (.int t) [.ro (cJ q1 x (T x)),.ro (cJ q2 y (T y)),.ro (.lst ((vJ n x y).map aG)),.ro (tupI w),v4,v5]=aa [.ro (cJ q1 x (T x)),.ro (cJ q2 y (T y)),.ro (.lst ((vJ n x y).map aG)),.ro (tupI w),.ro (.int t),v5] from rfl];dsimp only;rw[m_]
    cases hb:(!w.contains t&&hV x y w t) with
    |false =>
     rw[hb] at c1;have eb:bdy k [.ro (cJ q1 x (T x)),.ro (cJ q2 y (T y)),.ro (.lst ((vJ n x y).map aG)),.ro (tupI w),.ro (.int t),v5]=.nx [.ro (cJ q1 x (T x)),.ro (cJ q2 y (T y)),.ro (.lst ((vJ n x y).map aG)),.ro (tupI w),.ro (.int t),v5]:=lZ c1 rfl;rw[eb];dsimp only;rw[Zz bz];exact ihl (λa ha=>hl2 a (dq _ ha)) _ _
    |true =>
     rw[hb] at c1;rw[Z_ rfl,a2M];have er:=ih k (w++[t]) (by rw[fu,vp];omega) (by omega) (λa ha=>by
      rcases h_.1 ha with ha|ha
      .exact hr a ha
      .rw [cp] at ha;rw[ha];exact ht)
     have es:bD 5 (aI (cH (k+1)) (aA (aB 0) (aA (aB 1) (aA (aB 2) (aA (aE dG (aB 3) (dP (aA (aB 4) aF))) aF))))) [.ro (cJ q1 x (T x)),.ro (cJ q2 y (T y)),.ro (.lst ((vJ n x y).map aG)),.ro (tupI w),.ro (.int t),v5]=.nx [.ro (cJ q1 x (T x)),.ro (cJ q2 y (T y)),.ro (.lst ((vJ n x y).map aG)),.ro (tupI w),.ro (.int t),.ro (oW (YA (cnd n x y) m (w++[t])))] :=
      dH _ (wV rfl rfl rfl (aY (x:=tupI w) (y:=tupI [t]) rfl rfl (show dG (tupI w) (tupI [t])=aa (tupI (w++[t])) by unfold tupI;rw[EX (by rw[a_,a_,vp];omega),gu])) er) rfl
     cases hd:YA (cnd n x y) m (w++[t]) with
     |none =>
      rw[hd] at es;have eb:bdy k [.ro (cJ q1 x (T x)),.ro (cJ q2 y (T y)),.ro (.lst ((vJ n x y).map aG)),.ro (tupI w),.ro (.int t),v5]=.nx [.ro (cJ q1 x (T x)),.ro (cJ q2 y (T y)),.ro (.lst ((vJ n x y).map aG)),.ro (tupI w),.ro (.int t),.ro .non]:=zF c1 (bL _ es (lZ (g8 (d:=.bl ag) (aY (x:=.non) (y:=.non) rfl rfl rfl) rfl) rfl));rw[eb];exact ihl (λa ha=>hl2 a (dq _ ha)) _ _
     |some v =>
      rw[hd] at es;refine⟨v4,v5,?_⟩;have eb:bdy k [.ro (cJ q1 x (T x)),.ro (cJ q2 y (T y)),.ro (.lst ((vJ n x y).map aG)),.ro (tupI w),.ro (.int t),v5]=.rt (tupI v):=zF c1 (bL _ es (zF (g8 (d:=.bl ae) (aY (x:=tupI v) (y:=.non) rfl rfl rfl) rfl) (dR rfl)));rw[eb]
  obtain⟨v4,v5,el⟩:=loop ((rg n).filter λt=>Zv (lk n y t=lk n x w.length)) (λt ht=>(cj.1 ht).1) .no .no;rw[show cH (k+1+1)=cH (k+2) from rfl];unfold cH;refine d9 rfl (bL [.ro (cJ q1 x (T x)),.ro (cJ q2 y (T y)),.ro (.lst ((vJ n x y).map aG)),.ro (tupI w),.no,.no] (lZ (g8 (aY (x:=.int (w.length:Int)) (y:=.int (n:Int)) (cV rfl j6) (cV rfl (by rw[j4,a_,hc])) fH) ?_) rfl) ?_)
  .rw [gK,Zy (by omega)]
  have ei:bE (aE dC (aB 2) (bX cM (aA (aB 3) aF))) (jR [.ro (cJ q1 x (T x)),.ro (cJ q2 y (T y)),.ro (.lst ((vJ n x y).map aG)),.ro (tupI w),.no,.no])=aa (((rg n).filter λt=>Zv (lk n y t=lk n x w.length)).map D.int):=by unfold bE;rw[aY (x:=.lst ((vJ n x y).map aG)) (y:=.int (w.length:Int)) rfl (cV rfl j6) (aCY hwn)];rfl
  rw[YA]
  cases hf:(cnd n x y w).findSome? (λt=>YA (cnd n x y) m (w++[t])) with
  |some v =>
   rw[show(((rg n).filter λt=>Zv (lk n y t=lk n x w.length)).filter λt=>!w.contains t&&hV x y w t)=cnd n x y w from rfl,hf] at el;exact oA (wR _ ei el)
  |none =>
   rw[show(((rg n).filter λt=>Zv (lk n y t=lk n x w.length)).filter λt=>!w.contains t&&hV x y w t)=cnd n x y w from rfl,hf] at el;exact bL _ (wR _ ei el) (dR rfl)
def FV(hl:l.length<64):mE [.lst (l.map l8)]=aa (.lst ((jC HG l).map l8)):=by show(oK (l.map l8)).bind _=_;rw[CW,dz,Z_ hl]
def lay(x y:Q0a):Option (List Int):=if x.length=y.length then HV x.length x y else af
def A3(hx:Ord.Rows x)(hy:Ord.Rows y)(hn:x.length<=9)(hm:y.length<=9):iY [aJ x,aJ y]=.ok (oW (lay x y)):=by
 obtain⟨q1,k1⟩:=kinds_ok hx hn;obtain⟨q2,k2⟩:=kinds_ok hy hm;have l1:((rg x.length).map (lk x.length x)).length<64:=by rw[a_,g9];omega
 have l2:((rg y.length).map (lk y.length y)).length<64:=by rw[a_,g9];omega
 unfold iY;refine d9 rfl (bL _ (dH _ (eU rfl k1) rfl) (bL _ (dH _ (eU rfl k2) rfl) (bL _ (dH _ (bQ rfl rfl (FU hx hn)) rfl) (bL _ (dH _ (bQ rfl rfl (FU hy hm)) rfl) ?_))));have c:∀ρ:cN,aB 4 ρ=aa (.lst (((rg x.length).map (lk x.length x)).map l8))->aB 5 ρ=aa (.lst (((rg y.length).map (lk y.length y)).map l8))->tV (aE pB (bX mE (aA (aB 4) aF)) (bX mE (aA (aB 5) aF))) ρ=aa (!Zv (jC HG ((rg x.length).map (lk x.length x))=jC HG ((rg y.length).map (lk y.length y)))):=λρ e1 e2=>by refine g8 (aY (cV e1 (FV l1)) (cV e2 (FV l2)) (?_:_=aa (.bl _))) rfl;show(oK _).bind _=_;rw[CW,dz,CW];rfl
 by_cases hs:jC HG ((rg x.length).map (lk x.length x))=jC HG ((rg y.length).map (lk y.length y))
 .have hl:x.length=y.length:=by have:=((gJ (lt:=HG) ((rg x.length).map (lk x.length x))).length_eq.symm.trans (congrArg my hs)).trans (gJ (lt:=HG) ((rg y.length).map (lk y.length y))).length_eq;rw[a_,a_,g9,g9] at this;exact this
  refine bL _ (lZ ((c _ rfl rfl).trans (by rw[Zx hs];rfl)) rfl) ?_;have ec:∀ρ:cN,aB 4 ρ=aa (.lst (((rg x.length).map (lk x.length x)).map l8))->benv 1 [5] ρ=[af,aa (.lst (((rg y.length).map (lk y.length y)).map l8))]->a9 1 [5] (bE (aB 4)) (g1 0) bP (aI fO (aA (aB 0) (aA (aB 1) aF))) ρ=aa (.lst ((vJ x.length x y).map aG)):=λρ e1 e2=>by
   have:(vJ x.length x y).map aG=((rg x.length).map (lk x.length x)).map λa=>aG ((rg x.length).filter λt=>Zv (lk x.length y t=a)):=by unfold vJ;rw[cc,cc];rfl
   rw[this];refine dU (((rg x.length).map (lk x.length x)).map l8) (by unfold bE;rw[e1];rfl) (by rw[a_,a_,g9];omega) ?_;rw[e2,<- hl];exact bZ l8 _ _ λa _=>⟨_,rfl,bQ rfl rfl (N2 hn)⟩
  refine bL _ (dH _ (ec _ rfl rfl) rfl) (dR ?_);rw[wV rfl rfl rfl rfl (TL (q1:=q1) (q2:=q2) hx hy rfl hl.symm hn x.length 10 [] (by simp) (by omega) (λa ha=>nomatch ha))];unfold lay;rw[Z_ hl,YY hx hy rfl hl.symm]
 .refine oA (zF ((c _ rfl rfl).trans (by rw[Zy hs];rfl)) (dR ?_));have:lay x y=af:=by
   unfold lay;by_cases hl:x.length=y.length
   .rw [Z_ hl];refine NT hx hy rfl hl.symm ?_;rw[<- hl] at hs;exact hs
   .rw [Zz hl]
  rw[this];rfl
def A4(hx:Ord.Rows x)(hn:x.length<=9):iZ [aJ x]=.ok (.lst ((eI.B x).map pairD)):=by
 unfold iZ;have hl:=eI.FA hx hn;refine d9 rfl (bL [.ro (aJ x),.ow (.lst []),.no,.no] rfl ?_);obtain⟨ρ',e,v2,v3,rfl⟩:Nx (dY (bE (aI LL.fE (aA (aB 0) aF))) (NN 2 3)
   (gI (lU (tV (bX anyM (aA (a9 1 [2,0] (bE (aE dC (aB 0) (aB 3))) (g1 0) bP (aE (mB ag) (aB 1) (aE dC (aB 2) (aB 0)))) aF))))
    (sX (oX 1 iN (bK (dP (aA (aB 2) (aA (aB 3) aF))))))
    dQ) [.ro (aJ x),.ow (.lst []),.no,.no]) (λρ=>∃v2 v3,ρ=[Sv.ro (aJ x),Sv.ow (.lst ((eI.B x).map pairD)),v2,v3]):=by
  refine sM ((eI.T x).map pairD) (λi ρ=>∃v2 v3,ρ=[Sv.ro (aJ x),Sv.ow (.lst ((((eI.T x).take i).filter (eI.dS x)).map pairD)),v2,v3]) ?_ ⟨_,_,rfl⟩ ?_ λρ h=>by rw[a_,a2q] at h;exact h
  .unfold bE;rw[eU (x:=aJ x) rfl (AO hx hn)];rfl
  rintro i d _ hd ⟨v2,v3,rfl⟩;rw[ck] at hd;obtain⟨p,q,rfl⟩:=jk.1 hd;obtain⟨h0,h1,h2⟩:=eI.AN.mp (jz q);have rl:=eI.R6 hx h0 h1;have ti:(eI.T x).take (i+1)=(eI.T x).take i++[p]:=by rw[a2p,q];rfl
  have tl:(((eI.T x).take i).filter (eI.dS x)).length<=(eI.T x).length:=ie (me _ _) (by rw[jm];omega);refine⟨[.ro (aJ x),.ow (.lst ((((eI.T x).take i).filter (eI.dS x)).map pairD)),.ro (.int p.1),.ro (.int p.2)],rfl,?_⟩;have ea:bX anyM (aA (a9 1 [2,0] (bE (aE dC (aB 0) (aB 3))) (g1 0) bP (aE (mB ag) (aB 1) (aE dC (aB 2) (aB 0)))) aF) (bY [.ro (aJ x),.ow (.lst ((((eI.T x).take i).filter (eI.dS x)).map pairD)),.ro (.int p.1),.ro (.int p.2)])=aa (.bl (!eI.dS x p)):=by
   refine cV (x:=.lst (((row x p.2).map λc=>(row x c).contains p.1).map D.bl)) ?_ ?_
   .rw [cc];refine dU ((row x p.2).map D.int) ?_ (by rw[a_];omega) (bZ D.int (λc=>D.bl ((row x c).contains p.1)) _ λc hc=>⟨_,rfl,?_⟩)
    .unfold bE;rw[aY (x:=aJ x) (y:=.int p.2) rfl rfl (iQ h0 h1)];rfl
    .have hr:=eI.LA hx h0 h1 hc;exact aY (x:=.int p.1) (y:=tupI (row x c)) rfl (aY (x:=aJ x) (y:=.int c) rfl rfl (iQ hr.1 hr.2)) pH
   .rw [K2,sg];unfold eI.dS;rw[Bool.not_not];rfl
  have ef:((eI.T x).take (i+1)).filter (eI.dS x)=((eI.T x).take i).filter (eI.dS x)++if eI.dS x p=ae then[p] else[]:=by rw[ti,List.filter_append,m_,List.filter_nil]
  cases hb:eI.dS x p with
  |true =>
   rw[hb] at ea ef;rw[Z_ rfl] at ef;refine⟨_,zF (X9 (b:=ag) (g8 ea rfl) rfl) (eI.s_ (eI.Y3 (d:=pairD p) (ds0:=(((eI.T x).take i).filter (eI.dS x)).map pairD) (ds:=(((eI.T x).take i).filter (eI.dS x)).map pairD) rfl rfl rfl (k6 (by rw[a_];omega)))),.ro (.int p.1),.ro (.int p.2),?_⟩;rw[ef,gu];rfl
  |false =>
   rw[hb] at ea ef;rw[Zz bz,mi] at ef;refine⟨_,lZ (X9 (b:=ae) (g8 ea rfl) rfl) rfl,.ro (.int p.1),.ro (.int p.2),?_⟩;rw[ef]
 exact bL _ e (dR rfl)
def TN(p q:Int×Int):eqP 8 (pairD p) (pairD q)=aa (Zv (p=q)):=by show(B2 (eqP 7) [.int p.1,.int p.2] [.int q.1,.int q.2]).map (λr=>r&&Zv (2=2))=_;have e:∀i j:Int,eqP 7 (.int i) (.int j)=aa (Zv (i=j)):=λi j=>rfl;simp only[B2,e,dz,pj,Hi];congr 1;rw[gx];simp[a2b]
theorem FW(p:Int×Int):∀L:List (Int×Int),sA (pairD p) (L.map pairD)=aa (L.contains p)
 |[]=>rfl
 |q::L=>by rw[bt,sA,TN,dz,FW p L,a2U];rw[show Zv (q=p)=(p == q) from by rw[gx];simp only[decide_eq_true_eq,beq_iff_eq];exact eq_comm];rfl
def FX(p:Int×Int)(L:List (Int×Int)):uO ag (pairD p) (.lst (L.map pairD))=aa (.bl (L.contains p)):=by show(sA (pairD p) (L.map pairD)).map _=_;rw[FW];rfl
def IC(hx:Ord.Rows x)(h0:0<=b)(h1:b<(x.length:Int)):(eI.B x).contains (a,b)=b8 x a b:=by rw[gx,Hb];show(a,b)∈(T x).filter (eI.dS x)↔_;rw[cj,FT hx h0 h1];unfold b8 eI.dS;rw[fz];rfl
def ZJ{w:Q0e}{t:Int}{c:Nat}(h:c<w.length):dC (tupI (w++[t])) (.int (c:Int))=aa (.int (at1 w c)):=by unfold tupI;rw[kZ,iB,qH (by rw[fu];omega),jo h,bc h];unfold at1;rw[fm,bc h];rfl
def N3:dC (tupI (w++[t])) (.int (w.length:Int))=aa (.int t):=by unfold tupI;rw[kZ,iB,qH (by rw[fu];simp),jn (bj _),Ga];rfl
theorem ZK(hx:Ord.Rows x)(hy:Ord.Rows y)(lx:x.length=n)(ly:y.length=n)(hn:n<=9)(hw:w.length<n)(hr:∀a∈w,a∈rg n)(ht:t∈rg n):mM [aJ x,aJ y,.lst ((eI.B x).map pairD),tupI (w++[t])]=.ok (.bl (t8 x y w t)):=by
 unfold mM;obtain⟨t0,t1⟩:=dJ.1 ht
 let st:Sv->bO:=λv=>[.ro (aJ x),.ro (aJ y),.ro (.lst ((eI.B x).map pairD)),.ro (tupI (w++[t])),.ro (.int (w.length:Int)),v]
 let c1:TF:=z8 (tV (aE NH (aE (mB ag) (aB 5) (aE dC (aB 0) (aB 4))) (aE (mB ag) (aE dC (aB 3) (aB 5)) (aE dC (aB 1) (aE dC (aB 3) (aB 4)))))) (tV (aE NH (aE (mB ag) (aB 4) (aE dC (aB 0) (aB 5))) (aE (mB ag) (aE dC (aB 3) (aB 4)) (aE dC (aB 1) (aE dC (aB 3) (aB 5))))))
 let c2:TF:=z8 (lV (tV (aE (uO ag) (dP (aA (aB 5) (aA (aB 4) aF))) (aB 2))) (tV (aE KS (aE dC (aB 3) (aB 5)) (aE dC (aB 3) (aB 4))))) (lV (tV (aE (uO ag) (dP (aA (aB 4) (aA (aB 5) aF))) (aB 2))) (tV (aE YI (aE dC (aB 3) (aB 4)) (aE dC (aB 3) (aB 5)))))
 have key:=sQ (g:=mC 5) (b:=aK (gI c1 (bF (eC (.bl ag))) dQ) (gI c2 (bF (eC (.bl ag))) dQ)) (z:=.bl ag) (λρ=>∃v,ρ=st v) (λc:Nat=>D.int (c:Int))
  (λj=>(tyB x j w.length == tyB y (at1 w j) t)&&(tyB x w.length j == tyB y t (at1 w j))&&(!(b8 x j w.length&&Zv (t<at1 w j)) && !(b8 x w.length j&&Zv (t<at1 w j)))) (bu w.length) (st .no) ⟨_,rfl⟩ (λc hc ρ ⟨v,e⟩=>by
   subst e;have hc:=dm.1 hc;have hm:at1 w c∈w:=by unfold at1;rw[fm,bc hc];exact mz hc
   obtain⟨r0,r1⟩:=dJ.1 (hr _ hm);refine⟨st (.ro (.int (c:Int))),rfl,?_⟩;have eL:∀ρ:cN,aB 3 ρ=aa (tupI (w++[t]))->aB 4 ρ=aa (.int (w.length:Int))->aE dC (aB 3) (aB 4) ρ=aa (.int t):=λρ e3 e4=>aY e3 e4 N3;have eC':∀ρ:cN,aB 3 ρ=aa (tupI (w++[t]))->aB 5 ρ=aa (.int (c:Int))->aE dC (aB 3) (aB 5) ρ=aa (.int (at1 w c)):=λρ e3 e4=>aY e3 e4 (ZJ hc);have d1:c1 (bY (st (.ro (.int (c:Int)))))=aa (!((tyB x c w.length == tyB y (at1 w c) t)&&(tyB x w.length c == tyB y t (at1 w c)))):=by
    refine CC (b:=!(tyB x c w.length == tyB y (at1 w c) t)) ?_ (λh=>?_) (λh=>?_)
    .refine g8 (d:=.bl _) (aY (x:=.bl (tyB x c w.length)) (y:=.bl (tyB y (at1 w c) t)) (aY rfl (aY (x:=aJ x) (y:=.int (w.length:Int)) rfl rfl (iQ (by omega) (by omega))) pH) (aY (eC' _ rfl rfl) (aY (x:=aJ y) (y:=.int t) rfl (eL _ rfl rfl) (iQ (by omega) (by omega))) pH) rfl) ?_;cases tyB x c w.length<;>cases tyB y (at1 w c) t<;>rfl
    .have h:(tyB x c w.length == tyB y (at1 w c) t)=ae:=by simpa using h
     rw[h,ku];refine g8 (d:=.bl _) (aY (x:=.bl (tyB x w.length c)) (y:=.bl (tyB y t (at1 w c))) (aY rfl (aY (x:=aJ x) (y:=.int (c:Int)) rfl rfl (iQ (by omega) (by omega))) pH) (aY (eL _ rfl rfl) (aY (x:=aJ y) (y:=.int (at1 w c)) rfl (eC' _ rfl rfl) (iQ (by omega) (by omega))) pH) rfl) ?_;cases tyB x w.length c<;>cases tyB y t (at1 w c)<;>rfl
    .have h:(tyB x c w.length == tyB y (at1 w c) t)=ag:=by simpa using h
     rw[h];rfl
   have d2:c2 (bY (st (.ro (.int (c:Int)))))=aa (!(!(b8 x c w.length&&Zv (t<at1 w c)) && !(b8 x w.length c&&Zv (t<at1 w c)))):=by
    have a1:lV (tV (aE (uO ag) (dP (aA (aB 5) (aA (aB 4) aF))) (aB 2))) (tV (aE KS (aE dC (aB 3) (aB 5)) (aE dC (aB 3) (aB 4)))) (bY (st (.ro (.int (c:Int)))))=aa (b8 x c w.length&&Zv (t<at1 w c)):=by refine K4 (b:=b8 x c w.length) (g8 (d:=.bl _) (aY (x:=pairD ((c:Int),(w.length:Int))) (y:=.lst ((eI.B x).map pairD)) rfl rfl (FX _ _)) (by rw[IC hx (by omega) (by omega)];rfl)) (λh=>?_) (λh=>by rw[h];rfl);rw[h,ku];exact g8 (aY (eC' _ rfl rfl) (eL _ rfl rfl) qC) rfl
    have a2:lV (tV (aE (uO ag) (dP (aA (aB 4) (aA (aB 5) aF))) (aB 2))) (tV (aE YI (aE dC (aB 3) (aB 4)) (aE dC (aB 3) (aB 5)))) (bY (st (.ro (.int (c:Int)))))=aa (b8 x w.length c&&Zv (t<at1 w c)):=by refine K4 (b:=b8 x w.length c) (g8 (d:=.bl _) (aY (x:=pairD ((w.length:Int),(c:Int))) (y:=.lst ((eI.B x).map pairD)) rfl rfl (FX _ _)) (by rw[IC hx (by omega) (by omega)];rfl)) (λh=>?_) (λh=>by rw[h];rfl);rw[h,ku];exact g8 (aY (eL _ rfl rfl) (eC' _ rfl rfl) nI) rfl
    refine CC a1 (λh=>?_) (λh=>?_)
    .rw [h,a2];simp
    .rw [h];rfl
   generalize ((tyB x c w.length == tyB y (at1 w c) t)&&(tyB x w.length c == tyB y t (at1 w c)))=b1 at d1 ⊢;generalize (!(b8 x c w.length&&Zv (t<at1 w c)) && !(b8 x w.length c&&Zv (t<at1 w c)))=b2 at d2 ⊢
   cases b1 with
   |false=>exact⟨λz=>(by cases z),λ_=>oA (zF d1 (dR rfl))⟩
   |true =>
    cases b2 with
    |false=>exact⟨λz=>(by cases z),λ_=>bL _ (lZ d1 rfl) (zF d2 (dR rfl))⟩
    |true=>exact⟨λ_=>⟨_,bL _ (lZ d1 rfl) (lZ d2 rfl),_,rfl⟩,λz=>by cases z⟩)
 have ei:bA (aA (aB 4) aF) (jR (st .no))=aa ((bu w.length).map λc:Nat=>D.int (c:Int)):=by rw[qI (n:=w.length) rfl (by omega)];unfold bI;rw[cc];congr 1;refine gq λj _=>?_;show D.int (0+(j:Int))=_;rw[je]
 refine d9 rfl (bL (st .no) (dH (.int (w.length:Int)) (aY (x:=.int ((w++[t]).length:Int)) (y:=.int 1) (cV rfl j6) rfl (by rw[j3,fu,vp];congr 2;omega)) rfl) ?_)
 cases hg:t8 x y w t with
 |true =>
  obtain⟨ρ',e,v,rfl⟩:=key.1 hg;exact bL _ (wR _ ei e) (dR rfl)
 |false=>exact oA (wR _ ei (key.2 hg))
def LU(n:Nat):bI 0 n=rg n:=by unfold bI rg;congr 1;funext k;omega
def nr(x:Q0a)(w:Q0e)(b:Int):List Int:=sortI ((row x b).map λa=>((w.idxOf a:Nat):Int))
def CY(x:Q0a)(w:Q0e):List (List Int):=w.map (nr x w)
def nP(hx:Ord.Rows x)(hw:Full x.length w)(hi:i<x.length):b∈nr x w (at1 w i) ↔ ∃j:Nat,b=(j:Int)/\j<x.length/\at1 w j∈row x (at1 w i):=by
 have vi:=hw.at hi;unfold nr;rw[(sortI_perm _).mem_iff,cg]
 constructor
 .rintro ⟨a,ha,rfl⟩;obtain⟨a0,a1⟩:=dJ.1 (jJ hx vi.1 vi.2 ha);have:=HU hw (a:=a.toNat) (by omega);rw[show((a.toNat:Nat):Int)=a by omega] at this;exact⟨_,rfl,this.1,by rw[this.2];exact ha⟩
 .rintro ⟨j,rfl,hj,h⟩;refine⟨_,h,?_⟩;have hl:j<w.length:=by rw[hw.len];exact hj
  have e:at1 w j=w[j]:=by unfold at1;rw[fm,bc hl];rfl
  rw[e,a4G hw.nd j hl]
def nQ(hw:Full x.length w)(h:(CY x w)[i]?=aa r):i<x.length/\r=nr x w (at1 w i):=by unfold CY at h;rw[ck] at h;obtain⟨a,ea,rfl⟩:=jk.1 h;have hi:=(cq.1 ea).1;refine⟨by rw[<- hw.len];exact hi,?_⟩;unfold at1;rw[fm,ea];rfl
def nR{w:Q0e}(hw:Full x.length w):(CY x w).length=x.length:=by unfold CY;rw[a_,hw.len]
def qU{w:Q0e}(hx:Ord.Rows x)(hw:Full x.length w):Ord.Rows (CY x w):=by
 have hl:=nR hw;refine⟨λb r e=>?_,λb r e a ha=>?_,λb a r v e1 e2 e3 c hc=>?_,λb r e hb=>?_⟩
 .obtain ⟨hb,rfl⟩:=nQ hw e;have vb:=hw.at hb;have nd:((row x (at1 w b)).map λa=>((w.idxOf a:Nat):Int)).Nodup:=by
   rw[si,jw];refine qj ?_ (hx.up _ _ (LL.k8 vb.1 vb.2));intro p q hp hq lt e;obtain⟨p0,p1⟩:=dJ.1 (jJ hx vb.1 vb.2 hp);obtain⟨q0,q1⟩:=dJ.1 (jJ hx vb.1 vb.2 hq);have ep:=(HU hw (a:=p.toNat) (by omega)).2;have eq:=(HU hw (a:=q.toNat) (by omega)).2;rw[show((p.toNat:Nat):Int)=p by omega] at ep;rw[show((q.toNat:Nat):Int)=q by omega] at eq;have:w.idxOf p=w.idxOf q:=by omega
   rw[this,eq] at ep;omega
  have nd2:(nr x w (at1 w b)).Nodup:=(sortI_perm _).nodup_iff.2 nd;exact((iC _).and nd2).imp λ{p q} hpq=>by have:=hpq.1;have:=hpq.2;omega
 .obtain ⟨hb,rfl⟩:=nQ hw e;obtain⟨j,rfl,hj,_⟩:=(nP hx hw hb).1 ha;rw[hl];omega
 .obtain ⟨hb,rfl⟩:=nQ hw e1;obtain⟨ha,rfl⟩:=nQ hw e3;obtain⟨j,ej,hj,h1⟩:=(nP hx hw hb).1 e2;obtain⟨k,rfl,hk,h2⟩:=(nP hx hw ha).1 hc;have ej:a=j:=by omega
  subst ej;exact(nP hx hw hb).2 ⟨k,rfl,hk,eI.Ri hx (hw.at hb).1 (hw.at hb).2 h1 h2⟩
 .obtain ⟨hb2,rfl⟩:=nQ hw e;obtain⟨j,ej,hj,h1⟩:=(nP hx hw hb2).1 hb;have ej:b=j:=by omega
  subst ej;have:=iD hx (hw.at hb2).1 (hw.at hb2).2;unfold tyB at this;simp at this;exact this h1
def TQ{w:Q0e}(hx:Ord.Rows x)(hn:x.length<=9)(hw:Full x.length w):kC [aJ x,aG w]=.ok (aJ (CY x w)):=by
 unfold kC;have hwl:=hw.len;refine d9 rfl (bL [.ro (aJ x),.ro (aG w),.ow (.lst []),.no] rfl ?_);obtain⟨ρ',e,v3,rfl⟩:Nx (dY (bE (aB 1)) (mC 3)
   (sX (oX 2 iN (bK (bX cQ (aA (bX eQ (aA (a9 1 [1] (bE (aE dC (aB 0) (aB 3))) (g1 0) bP (aE RK (aB 1) (aB 0))) aF)) aF))))) [.ro (aJ x),.ro (aG w),.ow (.lst []),.no]) (λρ=>∃v3,ρ=[Sv.ro (aJ x),Sv.ro (aG w),Sv.ow (.lst ((CY x w).map tupI)),v3]):=by
  refine sM (w.map D.int) (λi ρ=>∃v3,ρ=[Sv.ro (aJ x),Sv.ro (aG w),Sv.ow (.lst (((w.take i).map (nr x w)).map tupI)),v3]) rfl ⟨_,rfl⟩ ?_ λρ h=>by rw[a_,a2q] at h;exact h
  rintro i d _ hd ⟨v3,rfl⟩;rw[ck] at hd;obtain⟨b,eb,rfl⟩:=jk.1 hd;have hi:=(cq.1 eb).1;obtain⟨b0,b1⟩:=dJ.1 (hw.rng b (jz eb));have rl:=eI.R6 hx b0 b1;refine⟨[.ro (aJ x),.ro (aG w),.ow (.lst (((w.take i).map (nr x w)).map tupI)),.ro (.int b)],rfl,_,eI.s_ (eI.Y3 (ρ1:=[.ro (aJ x),.ro (aG w),.ow (.lst (((w.take i).map (nr x w)).map tupI)),.ro (.int b)]) (d:=tupI (nr x w b)) (ds0:=((w.take i).map (nr x w)).map tupI) (ds:=((w.take i).map (nr x w)).map tupI) rfl ?_ rfl (k6 (by rw[a_,a_,jm];omega))),.ro (.int b),?_⟩
  .unfold bK;rw[cV (x:=.lst ((nr x w b).map D.int)) (z:=aa (tupI (nr x w b))) (cV (x:=.lst (((row x b).map λa=>((w.idxOf a:Nat):Int)).map D.int)) ?_ (sorted_ints (by rw[a_];omega))) k5]
   .rfl
   .rw [show((row x b).map λa=>((w.idxOf a:Nat):Int)).map D.int=(row x b).map λa=>D.int ((w.idxOf a:Nat):Int) from by rw[cc];rfl];refine dU ((row x b).map D.int) ?_ (by rw[a_];omega) (bZ D.int (λa=>D.int ((w.idxOf a:Nat):Int)) _ λa ha=>⟨_,rfl,aY (x:=aG w) (y:=.int a) rfl rfl ?_⟩)
    .unfold bE;rw[aY (x:=aJ x) (y:=.int b) rfl rfl (iQ b0 b1)];rfl
    .show (intsOf (w.map D.int)).bind _=_;rw[LL.dI,dz,Z_];obtain⟨j,hj,ej⟩:=hw.QZ (jJ hx b0 b1 ha);rw[Hb,<- ej];exact vE hw hj
  .rw [Gi,eb,gu,gu];rfl
 exact bL _ e (dR (cV rfl rfl))
def xO(x:Q0a)(b:Int):List Int:=((eI.B x).filter λp=>Zv ((if p.1<p.2 then p.2 else p.1)=b)).map λp=>if p.2<p.1 then p.2 else p.1
def TR(x:Q0a)(w:Q0e):List Int:=(rg x.length).filter λb=>!w.contains b&&(xO x b).all λa=>w.contains a
def aCZ(hx:Ord.Rows x)(h:a∈xO x b):0<=a/\a<b/\b<(x.length:Int):=by
 unfold xO at h;obtain⟨p,hp,rfl⟩:=cg.1 h;obtain⟨hB,e⟩:=cj.1 hp;have hT:=(cj.1 hB).1;obtain⟨t0,t1,t2⟩:=eI.AN.1 hT;obtain⟨r0,r1⟩:=dJ.1 (jJ hx t0 t1 t2);have ne:p.1≠p.2:=λz=>by have:=iD hx t0 t1;unfold tyB at this;simp at this;rw[z] at t2;exact this t2
 have e:=of_decide_eq_true e;split<;>split at e<;>omega
def TU(hx:Ord.Rows x)(h1:w.Nodup)(h2:∀a∈w,a∈rg x.length)(hw:w.length<x.length):TR x w≠[]:=by
 -- the least thing that is not in the word
 have key:∀m:Nat,m<=x.length->(∀a:Nat,a<m->(a:Int)∈w) \/∃b:Nat,b<m/\(b:Int)∉w /\∀a:Nat,a<b->(a:Int)∈w:=by
  intro m
  induction m with
  |zero=>intro _;exact .inl λa ha=>by omega
  |succ m ih =>
   intro hm;rcases ih (by omega) with h|⟨b,hb,h3,h4⟩
   .by_cases z:(m:Int)∈w
    .exact .inl λa ha=>by
      by_cases e:a=m
      .rw [e];exact z
      .exact h a (by omega)
    .exact .inr ⟨m,by omega,z,h⟩
   .exact .inr ⟨b,by omega,h3,h4⟩
 rcases key x.length (bj _) with h|⟨b,hb,h3,h4⟩
 .exfalso;have:=Ord.c9 (rg x.length) w (vF _).nd λa ha=>by
   obtain⟨a0,a1⟩:=dJ.1 ha;have:=h a.toNat (by omega)
   rwa [show((a.toNat:Nat):Int)=a by omega] at this
  rw[g9] at this;omega
 .intro z;have:(b:Int)∈TR x w:=by refine cj.2 ⟨dJ.2 (by omega),?_⟩;rw[fz,gw];refine⟨by simpa using h3,λa ha=>?_⟩;obtain⟨a0,a1,_⟩:=aCZ hx ha;have:=h4 a.toNat (by omega);rw[show((a.toNat:Nat):Int)=a by omega] at this;simpa using this
  rw[z] at this;cases this
def aC0(h:f (bY ρ)=aa (aG ns)):lP i f ρ=.nx (ρ.set i (.ro (aG ns))):=by unfold lP;rw[h];exact Z_ (LL.sN ns)
def aC1(e0:ρ=[aa (.int b),aa (.lst ((eI.B x).map pairD))])(hl:(eI.B x).length<64):a9 2 [0] (bE (aB 1)) (g2 0 1) (tV (aE u5 (bX p4 (aA (aB 0) (aA (aB 1) aF))) (aB 2))) (bX ER (aA (aB 0) (aA (aB 1) aF))) ρ=aa (aG (xO x b)):=by subst e0;unfold aG xO;rw[cc];exact dU ((eI.B x).map pairD) rfl (by rw[a_];omega) (eA pairD (λp=>Zv ((if p.1<p.2 then p.2 else p.1)=b)) (λp=>.int (if p.2<p.1 then p.2 else p.1)) (eI.B x) λp _=>⟨[aa (.int p.1),aa (.int p.2),aa (.int b)],rfl,g8 (aY (YR rfl rfl rfl) rfl fH) rfl,λ_=>YR rfl rfl rfl⟩)
def Ah(x:Q0a)(w:Q0e):Prop:=∀u t r,w=u++t::r ->∀a∈xO x t,a∈u
def ZL(h:Ah x w)(hb:∀a∈xO x b,a∈w):Ah x (w++[b]):=by
 intro u t r e a ha;rcases G_ r with hr|⟨r',c,hr⟩
 .subst hr;obtain⟨e1,e2⟩:=sd e rfl;rw[<- e1];injection e2 with e2 _;rw[<- e2] at ha;exact hb a ha
 .subst hr;have e':w++[b]=(u++t::r')++[c]:=by rw[e];simp
  exact h u t r' (sd e' rfl).1 a ha
def TV(hx:Ord.Rows x)(hn:x.length<=9){dr:Q0e}(hd:x.length<=dr.length):∃w,Full x.length w/\Ah x w/\dO [aJ x,aG dr]=.ok (aJ (CY x w)):=by
 have hB:(eI.B x).length<64:=pw (me _ _) (eI.FA hx hn)
 let bd:D:=.lst ((eI.B x).map pairD)
 let ah:D:=.lst (((rg x.length).map (xO x)).map aG)
 suffices h:∃d,dO [aJ x,aG dr]=.ok d /\∃w,Full x.length w/\Ah x w/\d=aJ (CY x w) by obtain⟨d,e,w,hw,ha,rfl⟩:=h;exact⟨w,hw,ha,e⟩
 unfold dO;refine iP rfl ?_;refine bM [.ro (aJ x),.ro (aG dr),.ro bd,.no,.no,.no,.no] (dH bd (eU rfl (A4 hx hn)) rfl) ?_;refine bM [.ro (aJ x),.ro (aG dr),.ro bd,.ro ah,.no,.no,.no] (dH ah ?_ rfl) ?_
 .refine dU ((rg x.length).map D.int) (by rw[qI (n:=x.length) (cV rfl eE) (by omega),LU]) (by rw[a_,g9];omega) ?_;rw[cc];exact bZ D.int (λb=>aG (xO x b)) (rg x.length) λb _=>⟨[aa (.int b),aa bd],rfl,aC1 rfl hB⟩
 refine bM [.ro (aJ x),.ro (aG dr),.ro bd,.ro ah,.ow (.lst []),.no,.no] rfl ?_;refine mH (λρ=>∃w v5 v6,(Full x.length w/\Ah x w)/\ρ=[.ro (aJ x),.ro (aG dr),.ro bd,.ro ah,.ow (aG w),v5,v6]) ?_ λρ ⟨w,v5,v6,⟨hw,hA⟩,e⟩=>?_
 .refine k7 x.length (λi ρ=>∃w v5 v6,(w.length=i/\w.Nodup/\(∀a∈w,a∈rg x.length)/\Ah x w)/\ρ=[.ro (aJ x),.ro (aG dr),.ro bd,.ro ah,.ow (aG w),v5,v6]) (args1 (cV rfl eE)) (by omega) ⟨[],_,_,⟨rfl,mw,(λa ha=>nomatch ha),λu t r e=>by simp at e⟩,rfl⟩ (λi ρ hi ⟨w,v5,v6,⟨w1,w2,w3,w4⟩,e⟩=>?_) λρ ⟨w,v5,v6,⟨w1,w2,w3,w4⟩,e⟩=>⟨w,v5,v6,⟨⟨w1,w2,w3⟩,w4⟩,e⟩;subst e;have hf:=TU hx w2 w3 (by omega);refine⟨[.ro (aJ x),.ro (aG dr),.ro bd,.ro ah,.ow (aG w),.ro (.int (i:Int)),v6],rfl,K3 [.ro (aJ x),.ro (aG dr),.ro bd,.ro ah,.ow (aG w),.ro (.int (i:Int)),.ro (aG (TR x w))] (aC0 ?_) ?_⟩
  .refine dU ((rg x.length).map D.int) (by rw[qI (n:=x.length) (cV rfl eE) (by omega),LU]) (by rw[a_,g9];omega) ?_;refine eA D.int (λb=>!w.contains b&&(xO x b).all λa=>w.contains a) D.int (rg x.length) λb hb=>⟨[aa (.int b),aa (aG w),aa ah],rfl,?_,λ_=>rfl⟩;obtain⟨b0,b1⟩:=dJ.1 hb;refine K4 (b:=!w.contains b) (g8 (aY (x:=.int b) (y:=aG w) rfl rfl qG) rfl) (λh=>?_) (λh=>by rw[h];rfl);rw[h,ku];refine g8 (d:=.bl _) (cV (x:=.lst (((xO x b).map λa=>w.contains a).map D.bl)) ?_ vB) (by rw[gK,sh];rfl);have ha:(xO x b).length<=64:=by unfold xO;rw[a_];exact ko (pw (me _ _) hB)
   rw[show((xO x b).map λa=>w.contains a).map D.bl=(xO x b).map λa=>D.bl (w.contains a) from by rw[cc];rfl];refine dU ((xO x b).map D.int) ?_ (by rw[a_];omega) (bZ D.int (λa=>D.bl (w.contains a)) (xO x b) λa _=>⟨[aa (.int a),aa (aG w)],rfl,aY (x:=.int a) (y:=aG w) rfl rfl qG⟩);unfold bE;rw[aY (x:=ah) (y:=.int b) (z:=aa (aG (xO x b))) rfl rfl ?_]
   .rfl
   .show dC (.lst (((rg x.length).map (xO x)).map aG)) (.int b)=_;rw[jH,iB,iB,show b=((b.toNat:Nat):Int) by omega,qH (by rw[g9];omega)];unfold rg;rw[ck,mf (by omega)];rfl
  .have hl:0<((TR x w).length:Int):=by have:=List.length_pos_iff.2 hf;omega
   obtain⟨dv,hdv⟩:∃dv,dr[i]?=aa dv:=⟨dr[i]'(by omega),bc (by omega)⟩;have m0:=ml dv (show((TR x w).length:Int)≠0 by omega);have m1:=oq dv hl;obtain⟨b,hb,eb,_⟩:=B9 (xs:=TR x w) m0 m1;obtain⟨br,bo⟩:=cj.1 hb;have bw:b∉w:=by rw[fz] at bo;simpa using bo.1
   refine⟨_,eI.s_ (eI.Y3 (ρ1:=[.ro (aJ x),.ro (aG dr),.ro bd,.ro ah,.ow (aG w),.ro (.int (i:Int)),.ro (aG (TR x w))]) (d:=.int b) (ds0:=w.map D.int) (ds:=w.map D.int) rfl ?_ rfl (k6 (by rw[a_];omega))),w++[b],.ro (.int (i:Int)),.ro (aG (TR x w)),⟨by rw[fu,w1];rfl,jy.2 ⟨w2,by simp,λa ha c hc z=>by rw[cp] at hc;subst hc;subst z;exact bw ha⟩,(λa ha=>?_),ZL w4 λa ha=>?_⟩,?_⟩
   .unfold bK;rw[aY (x:=aG (TR x w)) (y:=.int (dv%((TR x w).length:Int))) (z:=aa (.int b)) rfl (aY (x:=.int dv) (y:=.int ((TR x w).length:Int)) (aY (x:=aG dr) (y:=.int (i:Int)) rfl rfl (by unfold aG;rw[jH];exact jI hdv)) (cV rfl (by unfold aG;rw[j4,a_])) (eJ hl)) (by unfold aG;rw[jH,iB,eb];rfl)];rfl
   .rcases h_.1 ha with ha|ha
    .exact w3 a ha
    .rw [cp] at ha;subst ha;exact br
   .rw [fz] at bo;have:=gw.1 bo.2 a ha;simpa using this
   .unfold aG;rw[gu];rfl
 .subst e;exact fW (aJ (CY x w)) (bQ rfl rfl (TQ hx hn hw)) ⟨w,hw,hA,rfl⟩
def ZM(hx:Ord.Rows x)(hn:x.length<=9):∃y,Ord.Rows y/\y.length=x.length/\y=uP.w9 x.length ((T x).map λp=>((x.length:Int)-1-p.2,(x.length:Int)-1-p.1))/\y=Ord.turn (Ord.flip x):=by
 have fl:=Ord.gZ x;have rg:∀p∈uP.dM x x.length,0<=p.1/\p.1<(x.length:Int)/\0<=p.2/\p.2<(x.length:Int):=λp hp=>by obtain⟨h0,h1,h2⟩:=uP.iT.mp hp;obtain⟨q1,q2⟩:=hx.rng _ _ (uP.gU h0 h1) _ h2;exact⟨q1,q2,h0,h1⟩
 have p:=uP.mJ (uP.dM x x.length);have nd:((T x).map λp=>((x.length:Int)-1-p.2,(x.length:Int)-1-p.1)).Nodup:=qi _ (λa b hab e=>hab (by
  have e1:=congrArg l_ e;have e2:=congrArg zk e;simp only at e1 e2;exact km (by omega) (by omega))) (ya hx)
 have hr:∀q∈(T x).map λp=>((x.length:Int)-1-p.2,(x.length:Int)-1-p.1),0<=q.1/\q.1<(x.length:Int):=λq hq=>by obtain⟨t,ht,rfl⟩:=cg.mp hq;have:=rg t (p.mem_iff.mp ht);simp only;omega
 have e:=uP.R5 nd hr (R:=λa b=>Ord.rel x (x.length-1-b) (x.length-1-a)) λa c ha hc=>by
  rw[<- uP.qM (by omega),show((x.length-1-a:Nat):Int)=(x.length:Int)-1-(a:Int) by omega,show((x.length-1-c:Nat):Int)=(x.length:Int)-1-(c:Int) by omega,cg,<- p.mem_iff]
  constructor
  .rintro ⟨t,ht,e⟩;have e1:=congrArg l_ e;have e2:=congrArg zk e;simp only at e1 e2;have:t=((x.length:Int)-1-(c:Int),(x.length:Int)-1-(a:Int)):=km (by show t.1=_;omega) (by show t.2=_;omega);rw[<- this];exact ht
  .intro ht;exact⟨_,ht,km (by show _-(_-_)=_;omega) (by show _-(_-_)=_;omega)⟩
 have e1:Ord.can x.length (λa b=>Ord.rel x (x.length-1-b) (x.length-1-a))=Ord.turn (Ord.flip x):=Ord.NU fl.symm λa b ha hb=>by rw[fl,Ord.E9 (by omega) (by omega)]
 exact⟨Ord.turn (Ord.flip x),hx.flip.turn,by rw[Ord.jL,fl],by rw[e,e1],rfl⟩
theorem ID{n:Nat}{P:List (Int×Int)}{ρ:cN}(hn:n<=9)(hl:P.length<64)(h6:aB 6 ρ=aa (.int (n:Int)))(hb:benv 1 [11] ρ=[af,aa (.lst (P.map pairD))]):
  bX cQ (aA (a9 1 [11] (bA (aA (aB 6) aF)) (g1 0) bP (bX cQ (aA (bX eQ (aA (a9 2 [0] (bE (aB 1)) (g2 0 1) (tV (aE u5 (aB 1) (aB 2))) (aB 0)) aF)) aF))) aF) ρ=aa (aJ (uP.w9 n P)):=by
 have hc0:gY (g1 0) bP (bX cQ (aA (bX eQ (aA (a9 2 [0] (bE (aB 1)) (g2 0 1) (tV (aE u5 (aB 1) (aB 2))) (aB 0)) aF)) aF)) (benv 1 [11] ρ) ((bI 0 n).map D.int)=aa ((bI 0 n).map λc:Int=>tupI (sortI ((P.filter λp:Int×Int=>Zv (p.2=c)).map l_))):=by
  rw[hb];refine bZ D.int (λc:Int=>tupI (sortI ((P.filter λp:Int×Int=>Zv (p.2=c)).map l_))) (bI 0 n) λc hc=>⟨[aa (.int c),aa (.lst (P.map pairD))],rfl,?_⟩;refine cV (x:=aG (sortI ((P.filter λp=>Zv (p.2=c)).map l_))) (cV (dU (P.map pairD) rfl (by rw[a_];omega) (eA pairD (λp=>Zv (p.2=c)) (λp=>D.int p.1) P λp _=>⟨[aa (.int p.1),aa (.int p.2),aa (.int c)],rfl,g8 (aY (x:=.int p.2) (y:=.int c) rfl rfl fH) rfl,λ_=>rfl⟩)) ?_) rfl;have hlen:((P.filter λp=>Zv (p.2=c)).map l_).length<64:=by rw[a_];exact pw (me _ _) hl
  have:=sorted_ints hlen;rw[cc] at this;exact this
 refine cV (dU ((bI 0 n).map D.int) (qI h6 (by omega)) (by rw[a_,aS];omega) hc0) ?_;unfold uP.w9 aJ;rw[cc];rfl
def ZN(hx:Ord.Rows x)(hn:x.length<=9)(h:lay x y=aa v):v.length<=9:=by
 unfold lay at h;split at h
 .have:=(E7 h).len;omega
 .cases h
end
end lQ
namespace K46
open L3 L4 K24 LL
section
variable{x:Q0a}
def vK{a b:Nat}(hb:b<x.length):(a:Int)∈row x b↔Ord.rel x a b=ae:=by rw[<- uP.qM hb,uP.iT];exact⟨λh=>⟨by show(0:Int)<=(b:Int);omega,by show(b:Int)<_;omega,h⟩,λh=>h.2.2⟩
def turned(hx:Ord.Rows x):Turned x (Ord.turn x):=by
 have hl:=Ord.jL x;refine⟨hl,λa b h0 h1=>?_⟩;obtain⟨m,hm⟩:∃m:Nat,(x.length:Int)-1-b=(m:Int):=⟨((x.length:Int)-1-b).toNat,by omega⟩;obtain⟨c,rfl⟩:∃c:Nat,b=(c:Int):=⟨b.toNat,by omega⟩;rw[hm];by_cases ha:0<=a/\a<(x.length:Int)
 .obtain ⟨d,rfl⟩:∃d:Nat,a=(d:Int):=⟨a.toNat,by omega⟩;rw[vK (by omega),Ord.R3 (by omega) (by omega),<- vK (by omega)];rw[show((x.length-1-d:Nat):Int)=(x.length:Int)-1-(d:Int) by omega,show((x.length-1-m:Nat):Int)=(c:Int) by omega]
 .refine ⟨λh=>Zw (xI hx.turn (by omega) h) (by rw[hl];exact ha),λh=>?_⟩;have:=xI hx (b:=c) (by omega) h;exact Zw ⟨by omega,by omega⟩ ha
def upside(hx:Ord.Rows x):tE x (Ord.flip x):=by refine⟨Ord.gZ x,λa b h0 h1 h2 h3=>?_⟩;have hl:=Ord.gZ x;obtain⟨m,rfl⟩:∃m:Nat,a=(m:Int):=⟨a.toNat,by omega⟩;obtain⟨c,rfl⟩:∃c:Nat,b=(c:Int):=⟨b.toNat,by omega⟩;rw[vK (by omega),vK (by omega),Ord.E9 (by omega) (by omega)]
def xP(hx:Ord.Rows x)(k:Int):DV x.length 0 (shares x) (-k)=(1-2*((x.length:Int)%2))*DV (Ord.turn x).length 0 (shares (Ord.turn x)) k:=A2 (turned hx) k
def FY(hx:Ord.Rows x)(k:Int):DV (Ord.turn x).length 0 (shares (Ord.turn x)) (-k)=(1-2*((x.length:Int)%2))*DV x.length 0 (shares x) k:=by have h:=A2 (turned hx).symm k;rw[show((Ord.turn x).length:Int)=x.length by rw[Ord.jL]] at h;exact h
def IE(hx:Ord.Rows x)(k:Int):DV (Ord.flip x).length 0 (shares (Ord.flip x)) k=DV (Ord.turn x).length 0 (shares (Ord.turn x)) k:=by
 have hl:=Ord.gZ x;have rr:∀{y:Q0a},Ord.Rows y->y.length=x.length ->∀b:Int,0<=b->b<(x.length:Int) ->∀a∈row y b,0<=a/\a<(x.length:Int):=λ{y} hy hyl b h0 h1 a ha=>by obtain⟨c,rfl⟩:∃c:Nat,b=(c:Int):=⟨b.toNat,by omega⟩;have:=xI hy (b:=c) (by omega) ha;rw[hyl] at this;exact this
 have ir:∀b:Int,0<=b->b<(x.length:Int)->b∉row x b:=λb h0 h1=>by have:=hx.HF b.toNat (row x b) (uP.gU h0 h1);rw[show((b.toNat:Nat):Int)=b by omega] at this;exact this
 have h1:=N0 (upside hx) ir (rr hx rfl) (rr hx.flip hl) k;rw[xP hx k] at h1;exact(a27 (by omega) h1).symm
end
end K46
namespace LL
open L3 L4 K24
theorem eW(s:Nat):∀(b h:Nat),h∈states b s↔(∀i,s.testBit i=ae->h.testBit i=ae) /\∀i,b<=i->h.testBit i=s.testBit i
 |0,h=>by
  show h∈[s]↔_;rw[cp]
  constructor
  .intro e;subst e;exact⟨λ_ h=>h,λ_ _=>rfl⟩
  .intro e;exact pz λi=>e.2 i (iz i)
 |b+1,h=>by
  show h∈states b s++_↔_;rw[h_,eW s b h,cg]
  constructor
  .rintro (⟨h1,h2⟩|⟨q,hq,rfl⟩)
   .exact ⟨h1,λi hi=>h2 i (by omega)⟩
   .obtain ⟨hq,hb⟩:=cj.1 hq;obtain⟨h1,h2⟩:=(eW s b q).1 hq;refine⟨λi hi=>by rw[fI,h1 i hi];rfl,λi hi=>?_⟩;rw[fI,h2 i (by omega),Zy (by omega),vx]
  .rintro ⟨h1,h2⟩;by_cases e:h.testBit b=s.testBit b
   .refine .inl ⟨h1,λi hi=>?_⟩;by_cases q:i=b
    .subst q;exact e
    .exact h2 i (by omega)
   .have sb:s.testBit b=ag:=by
     cases q:s.testBit b with
     |false=>rfl
     |true=>exact Zw ((h1 b q).trans q.symm) e
    have hb:h.testBit b=ae:=by
     cases q:h.testBit b with
     |true=>rfl
     |false=>exact Zw (q.trans sb.symm) e
    have qb:∀i,(h ^^^ 2^b).testBit i=(h.testBit i && !Zv (b=i)):=λi=>by
     rw[uy,Fz];by_cases q:b=i
     .subst q;rw[hb];simp
     .simp [q]
    refine .inr ⟨h ^^^ 2^b,cj.2 ⟨(eW s b _).2 ⟨λi hi=>?_,λi hi=>?_⟩,?_⟩,?_⟩
    .have:b≠i:=λz=>by subst z;rw[sb] at hi;cases hi
     rw[qb,h1 i hi,Zy this];rfl
    .rw [qb];by_cases q:b=i
     .subst q;rw[sb];simp
     .rw [h2 i (by omega),Zy q];simp
    .rw [qb];simp
    .refine pz λi=>?_;rw[fI,qb];by_cases q:b=i
     .subst q;rw[hb];simp
     .simp [q]
theorem nU(s:Nat):∀b:Nat,(states b s).Nodup
 |0=>gz.2 ⟨oh,mw⟩
 |b+1=>by
  refine jy.2 ⟨nU s b,jw.2 (qj (λ{p q} hp hq ne e=>?_) ((nU s b).filter _)),λp hp q hq e=>?_⟩
  .obtain ⟨_,bp⟩:=cj.1 hp;obtain⟨_,bq⟩:=cj.1 hq;refine ne (pz λi=>?_);have e1:=congrArg (λz:Nat=>z.testBit i) e;simp only[fI] at e1;by_cases z:b=i
   .subst z;have p1:p.testBit b=ag:=by simpa using bp
    have q1:q.testBit b=ag:=by simpa using bq
    rw[p1,q1]
   .simpa [z] using e1
  .obtain ⟨r,hr,rfl⟩:=cg.1 hq;obtain⟨hr,br⟩:=cj.1 hr;have e1:=((eW s b p).1 hp).2 b (bj b);have e2:=((eW s b r).1 hr).2 b (bj b);have r1:r.testBit b=ag:=by simpa using br
   rw[e,fI,Zx rfl,a3c,<- e2,r1] at e1;cases e1
def Bn(n S:Nat):Prop:=∀i,n<=i->S.testBit i=ag
def Pm(n:Nat)(v:Q0e)(S:Nat):Nat:=Y9 (((bu n).filter λi=>S.testBit i).map λi=>at1 v i)
section
variable{n:Nat}{v:Q0e}
def tF(hv:Full n v):(Pm n v S).testBit j=ae ↔ ∃i,i<n/\S.testBit i=ae/\at1 v i=(j:Int):=by
 unfold Pm;rw[vI λa ha=>?_,cg]
 .constructor
  .rintro ⟨i,hi,e⟩;obtain⟨h1,h2⟩:=cj.1 hi;exact⟨i,dm.1 h1,h2,e⟩
  .rintro ⟨i,hi,h2,e⟩;exact⟨i,cj.2 ⟨dm.2 hi,h2⟩,e⟩
 .obtain ⟨i,hi,e⟩:=cg.1 ha;rw[<- e];exact(hv.at (dm.1 (cj.1 hi).1)).1
def h9(hv:Full n v)(hi:i<n):(Pm n v S).testBit (at1 v i).toNat=S.testBit i:=by
 have h0:=(hv.at hi).1;rw[gx,tF hv]
 constructor
 .rintro ⟨j,hj,h,e⟩;rw[hv.inj hi hj (by omega)];exact h
 .intro h;exact⟨i,hi,h,by omega⟩
theorem LV(hv:Full n v)(S:Nat):Bn n (Pm n v S):=λj hj=>by
 cases e:(Pm n v S).testBit j with
 |false=>rfl
 |true =>
  obtain⟨i,hi,_,e⟩:=(tF hv).1 e;have:=(hv.at hi).2;omega
def QZ(hv:Full n v)(hj:j<n):∃i,i<n/\(at1 v i).toNat=j/\at1 v i=(j:Int):=by obtain⟨i,hi,e⟩:=hv.QZ (dJ.2 ⟨by omega,by omega⟩:(j:Int)∈rg n);exact⟨i,hi,by omega,e⟩
def TX(hv:Full n v)(hT:Bn n T)(h:∀i,i<n->S.testBit i=T.testBit (at1 v i).toNat):Pm n v S=T:=by
 refine pz λj=>?_;by_cases hj:j<n
 .obtain ⟨i,hi,e,_⟩:=QZ hv hj;rw[<- e,h9 hv hi,h i hi]
 .rw [LV hv S j (by omega),hT j (by omega)]
def aC2(hv:Full n v)(hS:Bn n S)(hT:Bn n T)(e:Pm n v S=Pm n v T):S=T:=by
 refine pz λi=>?_;by_cases hi:i<n
 .rw [<- h9 hv hi,e,h9 hv hi]
 .rw [hS i (by omega),hT i (by omega)]
def aC3(hv:Full n v)(hT:Bn n T):∃S,Bn n S/\Pm n v S=T:=by
 have hb:∀i:Nat,(Y9 (((bu n).filter λi=>T.testBit (at1 v i).toNat).map λi:Nat=>(i:Int))).testBit i=ae↔i<n/\T.testBit (at1 v i).toNat=ae:=λi=>by
  rw[vI λa ha=>?_,cg]
  .constructor
   .rintro ⟨j,hj,e⟩;obtain⟨h1,h2⟩:=cj.1 hj;have:j=i:=by omega
    subst this;exact⟨dm.1 h1,h2⟩
   .intro h;exact⟨i,cj.2 ⟨dm.2 h.1,h.2⟩,rfl⟩
  .obtain ⟨j,_,e⟩:=cg.1 ha;omega
 refine⟨Y9 (((bu n).filter λi=>T.testBit (at1 v i).toNat).map λi:Nat=>(i:Int)),λi hi=>?_,TX hv hT λi hi=>?_⟩
 .cases e:(Y9 (((bu n).filter λi=>T.testBit (at1 v i).toNat).map λi:Nat=>(i:Int))).testBit i with
  |false=>rfl
  |true=>have:=((hb i).1 e).1;omega
 .rw [gx,hb];exact⟨λh=>h.2,λh=>⟨hi,h⟩⟩
end
def Gd(n:Nat)(x:Q0a)(h s:Nat):Prop:=∀c i:Nat,c<n->i<n->h.testBit c=ae->s.testBit c=ag->tyB x i c=ae->s.testBit i=ae\/(h.testBit i=ae/\i<c)
def Dw(n:Nat)(x:Q0a)(s:Nat):Prop:=∀c i:Nat,c<n->i<n->s.testBit c=ae->tyB x i c=ae->s.testBit i=ae
def Br(n:Nat)(x:Q0a)(h s:Nat):Prop:=∀c i:Nat,c<n->i<n->h.testBit c=ae->s.testBit c=ag->(tyB x i c=ae->s.testBit i=ae\/h.testBit i=ae)/\(b8 x i c=ae->s.testBit i=ae\/i<c)
section
variable{n:Nat}{x y:Q0a}{v:Q0e}{h s:Nat}
def tG:tyB x a b=ae↔a∈row x b:=by unfold tyB;exact Hb
def CZ(hx:Ord.Rows x)(lx:x.length=n)(hs:∀i,s.testBit i=ae->h.testBit i=ae):gG x h s=ae↔Gd n x h s:=by
 rw[sW,CS hx hs];subst lx
 constructor
 .intro g c i hc hi h1 h2 t;exact g c hc h1 h2 i ((xH hx hc).2 (tG.1 t))
 .intro g c hc h1 h2 i t;exact g c i hc (We hx hc t) h1 h2 (tG.2 ((xH hx hc).1 t))
def sub_len{a b:Q0e}(ha:a.Nodup)(hb:b.Nodup)(h:∀t∈a,t∈b):a.length<=b.length:=by
 have e:a.length=(b.filter λt=>a.contains t).length:=len_eq ha (hb.filter _) λt=>by rw[cj];exact⟨λq=>⟨h t q,by simpa using q⟩,λq=>by simpa using q.2⟩
 rw[e];exact me _ _
def TY(hx:Ord.Rows x)(h0:0<=b)(h1:b<(x.length:Int)):(row x b).Nodup:=(hx.up _ _ (k8 h0 h1)).imp λq=>by omega
def IF(hx:Ord.Rows x){i c:Nat}(hi:i<x.length)(hc:c<x.length)(t:tyB x i c=ae):(row x i).length<(row x c).length:=by
 have t1:=tG.1 t;have ir:(i:Int)∉row x i:=by have:=hx.HF i _ (k8 (b:=(i:Int)) (by omega) (by omega));simpa using this
 have:=sub_len (a:=(i:Int)::row x i) (b:=row x c) (gz.2 ⟨ir,TY hx (by omega) (by omega)⟩) (TY hx (by omega) (by omega)) λa ha=>by
  rcases cb.1 ha with e|ha
  .rw [e];exact t1
  .exact hx.tr c i _ _ (k8 (b:=(c:Int)) (by omega) (by omega)) t1 (k8 (b:=(i:Int)) (by omega) (by omega)) a ha
 rw[de] at this;omega
theorem TZ(hx:Ord.Rows x)(lx:x.length=n)(dw:Dw n x s)(g:Br n x h s):∀(m c i:Nat),(row x c).length<=(row x i).length+m->c<n->i<n->h.testBit c=ae->s.testBit c=ag->s.testBit i=ag->tyB x i c=ae->i<c
 |0,c,i,hm,hc,hi,_,_,_,t=>by have:=IF hx (by omega) (by omega) t;omega
 |m+1,c,i,hm,hc,hi,h1,h2,h3,t=>by
  cases b:b8 x i c with
  |true =>
   rcases(g c i hc hi h1 h2).2 b with z|z
   .rw [h3] at z;cases z
   .exact z
  |false =>
   unfold b8 at b;rw[t,ku] at b;have b:((row x c).any λd=>tyB x i d)=ae:=by simpa using b
   obtain⟨d,hd,td⟩:=om.1 b;obtain⟨d0,d1⟩:=hx.rng c _ (k8 (b:=(c:Int)) (by omega) (by omega)) d hd;obtain⟨e,rfl⟩:∃e:Nat,d=(e:Int):=⟨d.toNat,by omega⟩;have he:e<n:=by omega
   have tc:=tG.2 hd;have se:s.testBit e=ag:=by
    cases q:s.testBit e with
    |false=>rfl
    |true=>rw[dw e i he hi q td] at h3;cases h3
   have hh:h.testBit e=ae:=by
    rcases(g c e hc he h1 h2).1 tc with z|z
    .rw [se] at z;cases z
    .exact z
   have l1:=IF hx (by omega) (by omega) td;have l2:=IF hx (by omega) (by omega) tc;have:=TZ hx lx dw g m e i (by omega) he hi hh se h3 td;have:=TZ hx lx dw g m c e (by omega) hc he h1 h2 se tc;omega
def Dh(hx:Ord.Rows x)(lx:x.length=n)(dw:Dw n x s):Gd n x h s↔Br n x h s:=by
 constructor
 .intro g c i hc hi h1 h2;refine⟨λt=>?_,λb=>?_⟩
  .exact (g c i hc hi h1 h2 t).imp id λz=>z.1
  .exact (g c i hc hi h1 h2 (E4 b)).imp id λz=>z.2
 .intro g c i hc hi h1 h2 t
  cases q:s.testBit i with
  |true=>exact .inl rfl
  |false =>
   refine .inr ⟨?_,TZ hx lx dw g _ c i (Nat.le_add_left _ _) hc hi h1 h2 q t⟩;rcases(g c i hc hi h1 h2).1 t with z|z
   .rw [q] at z;cases z
   .exact z
theorem xQ(hx:Ord.Rows x)(hy:Ord.Rows y)(lx:x.length=n)(ly:y.length=n)(hv:Full n v)(k:KA n x y v)(hi:i<n)(hc:c<n):
  tyB x i c=tyB y (at1 v i) (at1 v c)/\b8 x i c=b8 y (at1 v i) (at1 v c)/\(b8 x i c=ae->(i<c↔at1 v i<at1 v c)):=by
 have kb:=Dr hv k;by_cases e:i=c
 .subst e;have h0:=hv.at hi;have t1:=iD hx (b:=(i:Int)) (by omega) (by omega);have t2:=iD hy (b:=at1 v i) h0.1 (by omega);have b1:b8 x i i=ag:=by unfold b8;rw[t1];rfl
  have b2:b8 y (at1 v i) (at1 v i)=ag:=by unfold b8;rw[t2];rfl
  exact⟨by rw[t1,t2],by rw[b1,b2],λb=>by rw[b1] at b;cases b⟩
 .refine ⟨kb.1 i c hi hc e,sR hx hy lx ly hv kb.1 hi hc e,λb=>?_⟩;obtain⟨h1,h2⟩:=kb.2 i c hi hc e b;have ne:at1 v i≠at1 v c:=λz=>e (hv.inj hi hc z)
  constructor
  .intro z;have:=h1 z;omega
  .intro z;by_cases q:i<c
   .exact q
   .exact Zw z (h2 (by omega))
def ZO(hx:Ord.Rows x)(hy:Ord.Rows y)(lx:x.length=n)(ly:y.length=n)(hv:Full n v)(k:KA n x y v):Br n x h s↔Br n y (Pm n v h) (Pm n v s):=by
 constructor
 .intro g c' i' hc hi h1 h2;obtain⟨c,hc,e1,e2⟩:=QZ hv hc;obtain⟨i,hi,e3,e4⟩:=QZ hv hi;obtain⟨f1,f2,f3⟩:=xQ hx hy lx ly hv k hi hc;rw[<- e1,h9 hv hc] at h1 h2;rw[<- e2,<- e4,<- f1,<- f2,<- e3,h9 hv hi,h9 hv hi,e3];have:=g c i hc hi h1 h2;refine⟨this.1,λb=>(this.2 b).imp id λz=>?_⟩;have:=(f3 b).1 z;omega
 .intro g c i hc hi h1 h2;obtain⟨f1,f2,f3⟩:=xQ hx hy lx ly hv k hi hc;have b1:=hv.at hc;have b2:=hv.at hi;have:=g (at1 v c).toNat (at1 v i).toNat (by omega) (by omega) (by rw[h9 hv hc];exact h1) (by rw[h9 hv hc];exact h2);rw[h9 hv hi,h9 hv hi,show(((at1 v c).toNat:Nat):Int)=at1 v c by omega,show(((at1 v i).toNat:Nat):Int)=at1 v i by omega,<- f1,<- f2] at this;refine⟨this.1,λb=>(this.2 b).imp id λz=>(f3 b).2 (by omega)⟩
def ZP(hx:Ord.Rows x)(hy:Ord.Rows y)(lx:x.length=n)(ly:y.length=n)(hv:Full n v)(k:KA n x y v)(d:Dw n x s):Dw n y (Pm n v s):=by intro c' i' hc hi h1 t;obtain⟨c,hc,e1,e2⟩:=QZ hv hc;obtain⟨i,hi,e3,e4⟩:=QZ hv hi;obtain⟨f1,_,_⟩:=xQ hx hy lx ly hv k hi hc;rw[<- e1,h9 hv hc] at h1;rw[<- e3,h9 hv hi];rw[<- e2,<- e4,<- f1] at t;exact d c i hc hi h1 t
theorem ZQ(dw:Dw n x s)(hs:∀i,s.testBit i=ae->h.testBit i=ae)(g:Gd n x h s):Dw n x h:=by
 intro c i hc hi h1 t
 cases q:s.testBit c with
 |true=>exact hs i (dw c i hc hi q t)
 |false =>
  rcases g c i hc hi h1 q t with z|z
  .exact hs i z
  .exact z.1
def FZ(lx:x.length=n)(ly:y.length=n)(hv:Full n v)(S:Nat):(things y (Pm n v S)).length=(things x S).length:=by
 have e:(things x S).length=((things x S).map λt=>at1 v t.toNat).length:=by rw[a_]
 rw[e];refine len_eq (j9 _) (jw.2 (qj (λ{p q} hp hq ne z=>?_) (j9 S))) λt=>?_
 .obtain ⟨p0,_⟩:=cP.1 hp;obtain⟨q0,_⟩:=cP.1 hq;have:=hv.inj (i:=p.toNat) (j:=q.toNat) (by omega) (by omega) z;exact ne (by omega)
 .rw [cP,cg,ly]
  constructor
  .rintro ⟨⟨t0,t1⟩,tb⟩;obtain⟨i,hi,e1,e2⟩:=QZ hv (j:=t.toNat) (by omega);rw[<- e1,h9 hv hi] at tb;exact⟨(i:Int),cP.2 ⟨⟨by omega,by omega⟩,tb⟩,by rw[jf];omega⟩
  .rintro ⟨i,hi,e⟩;obtain⟨i0,ib⟩:=cP.1 hi;have h0:=hv.at (i:=i.toNat) (by omega);rw[<- e];exact⟨⟨h0.1,h0.2⟩,by rw[h9 hv (by omega)];exact ib⟩
theorem Cb(S:Nat):Vj x 0 S=if x.length-(things x S).length=0 then 1 else 0:=by
 unfold Vj
 cases x.length-(things x S).length with
 |zero=>rfl
 |succ m=>rfl
theorem T4(hx:Ord.Rows x)(hy:Ord.Rows y)(lx:x.length=n)(ly:y.length=n)(hv:Full n v)(k:KA n x y v):∀(j S:Nat),Bn n S->Dw n x S->Vj y j (Pm n v S)=Vj x j S
 |0,S,_,_=>by rw[Cb,Cb,FZ lx ly hv S,lx,ly]
 |j+1,S,hB,hD=>by
  rw[<- xJ hx j S,<- xJ hy j (Pm n v S),lx,ly];have sub:∀{h},h∈states n S->Bn n h /\∀i,S.testBit i=ae->h.testBit i=ae:=λ{h} hh=>by obtain⟨h1,h2⟩:=(eW S n h).1 hh;exact⟨λi hi=>by rw[h2 i hi,hB i hi],h1⟩
  have iff:∀{h},Bn n h->(∀i,S.testBit i=ae->h.testBit i=ae)->(gG x h S=ae↔gG y (Pm n v h) (Pm n v S)=ae):=λ{h} hb hs=>by
   have hs':∀i,(Pm n v S).testBit i=ae->(Pm n v h).testBit i=ae:=λi hi=>by obtain⟨q,hq,q1,q2⟩:=(tF hv).1 hi;exact(tF hv).2 ⟨q,hq,hs q q1,q2⟩
   rw[CZ hx lx hs,CZ hy ly hs',Dh hx lx hD,Dh hy ly (ZP hx hy lx ly hv k hD)];exact ZO hx hy lx ly hv k
  have p:(((states n S).filter λh=>gG x h S).map (Pm n v)).Perm ((states n (Pm n v S)).filter λh=>gG y h (Pm n v S)):=by
   refine(vf (jw.2 (qj (λ{p q} hp hq ne e=>?_) ((nU S n).filter _))) ((nU _ n).filter _)).2 λh=>?_
   .exact ne (aC2 hv (sub (cj.1 hp).1).1 (sub (cj.1 hq).1).1 e)
   .rw [cg,cj,eW]
    constructor
    .rintro ⟨q,hq,rfl⟩;obtain⟨q1,q2⟩:=cj.1 hq;obtain⟨b,c⟩:=sub q1;refine⟨⟨λi hi=>?_,λi hi=>by rw[LV hv q i hi,LV hv S i hi]⟩,(iff b c).1 q2⟩;obtain⟨t,ht,t1,t2⟩:=(tF hv).1 hi;exact(tF hv).2 ⟨t,ht,c t t1,t2⟩
    .rintro ⟨⟨h1,h2⟩,g⟩;obtain⟨q,hq,e⟩:=aC3 hv (T:=h) λi hi=>by rw[h2 i hi,LV hv S i hi]
     subst e;have c:∀i,S.testBit i=ae->q.testBit i=ae:=λi hi=>by
      by_cases z:i<n
      .have:=h1 (at1 v i).toNat (by rw[h9 hv z];exact hi)
       rwa [h9 hv z] at this
      .rw [hB i (by omega)] at hi;cases hi
     refine⟨q,cj.2 ⟨(eW S n q).2 ⟨c,λi hi=>by rw[hq i hi,hB i hi]⟩,(iff hq c).2 g⟩,rfl⟩
  rw[<- FQ (p.map (Vj y j)),cc];refine congrArg List.sum (gq λh hh=>?_);obtain⟨h1,h2⟩:=cj.1 hh;obtain⟨b,c⟩:=sub h1;exact T4 hx hy lx ly hv k j h b (ZQ hD c ((CZ hx lx c).1 h2))
def T5(hx:Ord.Rows x)(hy:Ord.Rows y)(lx:x.length=n)(ly:y.length=n)(hv:Full n v)(k:KA n x y v)(j:Nat):DV y.length 0 (shares y) j=DV x.length 0 (shares x) j:=by
 have e0:Pm n v 0=0:=TX hv (λi _=>pk i) λi _=>by rw[pk,pk]
 have h:=T4 hx hy lx ly hv k j 0 (λi _=>pk i) (λc i _ _ z=>by rw[pk] at z;cases z);rw[e0] at h;unfold Vj at h;rw[uC,uC,mx,uz,uz,AV,AV] at h;exact h
theorem C0(n:Nat):∀(w:Q0e) (d k:Nat),k<=d->d+w.length<=n+k->DV n d w k=0
 |[],_,_,_,_=>rfl
 |a::w,d,k,h1,h2=>by rw[de] at h2;show a*C ((k:Int)+n-1-d) n+DV n ((d:Int)+1) w k=0;have:=C0 n w (d+1) k (by omega) (by omega);rw[show((d:Int)+1)=((d+1:Nat):Int) by omega,this,HX (by omega) (by omega)];omega
theorem T6(n:Nat):∀(w z:Q0e) (d:Nat),w.length=z.length->d+w.length<=n->(∀k:Nat,DV n d w k=DV n d z k)->w=z
 |[],[],_,_,_,_=>rfl
 |a::w,b::z,d,hl,hn,h=>by
  rw[de] at hn;have hl2:w.length=z.length:=by simpa using hl
  have e:=h (d+1);have e1:a*C (((d+1:Nat):Int)+n-1-d) n+DV n ((d:Int)+1) w ((d+1:Nat):Int)=b*C (((d+1:Nat):Int)+n-1-d) n+DV n ((d:Int)+1) z ((d+1:Nat):Int):=e;rw[show((d:Int)+1)=((d+1:Nat):Int) by omega,C0 n w (d+1) (d+1) (bj _) (by omega),C0 n z (d+1) (d+1) (bj _) (by omega),show(((d+1:Nat):Int)+n-1-d)=(n:Int) by omega,Dp] at e1;have ab:a=b:=by omega
  subst ab;rw[T6 n w z (d+1) hl2 (by omega) λk=>?_];have:=h k;have this:a*C ((k:Int)+n-1-d) n+DV n ((d:Int)+1) w k=a*C ((k:Int)+n-1-d) n+DV n ((d:Int)+1) z k:=this;rw[show(((d+1:Nat):Int))=(d:Int)+1 by omega];omega
def A5(lx:x.length=n)(ly:y.length=n)(h:∀k:Nat,DV y.length 0 (shares y) k=DV x.length 0 (shares x) k):shares y=shares x:=by
 by_cases hn:n=0
 .rw [zx (lx.trans hn),zx (ly.trans hn)]
 .rw [lx,ly] at h;have l1:(shares x).length=n:=by unfold shares;rw[e8,lx];omega
  have l2:(shares y).length=n:=by unfold shares;rw[e8,ly];omega
  exact T6 n _ _ 0 (by rw[l1,l2]) (by omega) λk=>h k
def C2(hx:Ord.Rows x)(hy:Ord.Rows y)(lx:x.length=n)(ly:y.length=n)(hv:Full n v)(k:KA n x y v):shares y=shares x:=A5 lx ly (T5 hx hy lx ly hv k)
end
end LL
namespace K53
open L3 L4
def fJ:iH:=c8 2 2
  (bF (KR (tV (aE YI (aB 1) (bX cM (aA (aB 0) aF)))) (aE dC (aB 0) (aB 1)) (eC (.int 0))))
def d7:iH:=c8 4 2
  (aK (bD 2 (bX p4 (aA (bX cM (aA (aB 0) aF)) (aA (bX cM (aA (aB 1) aF)) aF))))
  (aK (dY (bA (aA (aB 2) aF)) (mC 3)
   (gI (tV (aE NH (aI fJ (aA (aB 0) (aA (aB 3) aF))) (aI fJ (aA (aB 1) (aA (aB 3) aF)))))
    (bF (aB 3))
    dQ))
  (bF (eC .non))))
def e9:iH:=c8 4 2
  (aK (bD 2 (aI lQ.iY (aA (aB 0) (aA (aB 1) aF))))
  (aK (gI (tV (aE ES (aB 2) (eC .non)))
   (bF (dP (aA (eC (.str "alike")) (aA (aB 2) aF))))
   dQ)
  (aK (bD 3 (aI d7 (aA (aI LL.cZ (aA (aB 0) aF)) (aA (aI LL.cZ (aA (aB 1) aF)) aF))))
  (aK (gI (tV (aE X8 (aB 3) (eC .non)))
   (bF (dP (aA (eC (.str "same")) aF)))
   dQ)
  (bF (dP (aA (eC (.str "apart")) (aA (aB 3) aF))))))))
def eP:iH:=c8 5 3
  (aK (gI (z8 (lU (tV (jB "tuple" (aB 2)))) (tV (aE NH (bX cM (aA (aB 2) aF)) (bX cM (aA (aB 0) aF)))))
   (bF (eC (.bl ag)))
   dQ)
  (aK (dY (bE (aB 2)) (mC 3)
   (gI (z8 (lU (tV (jB "int" (aB 3)))) (z8 (tV (jB "bool" (aB 3))) (z8 (tV (aE YI (aB 3) (eC (.int 0)))) (tV (aE geM (aB 3) (bX cM (aA (aB 0) aF)))))))
    (bF (eC (.bl ag)))
    dQ))
  (aK (gI (tV (aE NH (bX p9 (aA (aB 2) aF)) (bX cM (aA (aB 2) aF))))
   (bF (eC (.bl ag)))
   dQ)
  (aK (bD 4 (aI lQ.iZ (aA (aB 0) aF)))
  (bF (bX allM (aA (a9 1 [0,1,4,2] (bA (aA (eC (.int 1)) (aA (aE dG (bX cM (aA (aB 0) aF)) (eC (.int 1))) aF))) (g1 0) bP (aI lQ.mM (aA (aB 1) (aA (aB 2) (aA (aB 3) (aA (QY (aB 4) Q9 (oE (aB 0))) aF)))))) aF)))))))
def xR:iH:=c8 7 1
  (aK (bD 1 (aI LL.jZ (aA (aB 0) (aA (eC (.int 0)) (aA (eC (.int 7)) (aA (eC (.int 100003)) aF))))))
  (aK (bD 2 (bX cM (aA (aB 1) aF)))
  (aK (bD 3 (a9 2 [2] (bE (aI LL.fE (aA (aB 1) aF))) (g2 0 1) bP (dP (aA (aE gH (aE gH (aB 2) (eC (.int 1))) (aB 1)) (aA (aE gH (aE gH (aB 2) (eC (.int 1))) (aB 0)) aF)))))
  (aK (bD 4 (bX cQ (aA (a9 1 [3] (bA (aA (aB 2) aF)) (g1 0) bP (bX cQ (aA (bX eQ (aA (a9 2 [0] (bE (aB 1)) (g2 0 1) (tV (aE u5 (aB 1) (aB 2))) (aB 0)) aF)) aF))) aF)))
  (aK (bD 4 (aI lQ.dO (aA (aB 4) (aA (aI LL.fM (aA (aI LL.fD (aA (aB 0) (aA (eC (.int 2)) aF))) (aA (aB 2) (aA (eC (.int 200017)) aF)))) aF))))
  (aK (bD 5 (aE dG (aE gH (aI LL.iI (aA (aI LL.fD (aA (aB 0) (aA (eC (.int 3)) aF))) (aA (aE gH (aE mulM (eC (.int 2)) (aE vW (eC (.int 10)) (eC (.int 60)))) (eC (.int 1))) (aA (eC (.int 300007)) aF)))) (aE vW (eC (.int 10)) (eC (.int 60)))) (eC (.int 1))))
  (aK (gI (z8 (lU (tV (aI (LL.cR 6) (aA (aI LL.gO (aA (aB 1) (aA (aB 5) aF))) (aA (aI LL.gO (aA (aB 4) (aA (aB 5) aF))) aF))))) (lU (tV (aI (LL.cR 6) (aA (aI LL.eZ (aA (aB 1) aF)) (aA (aI LL.eZ (aA (aB 4) aF)) aF))))))
   (bF (eC (.bl ag)))
   dQ)
  (aK (bD 6 (aI e9 (aA (aB 1) (aA (aB 4) aF))))
  (aK (gI (tV (aI (LL.cR 6) (aA (aB 6) (aA (dP (aA (eC (.str "same")) aF)) aF))))
   (bF (eC (.bl ae)))
   dQ)
  (aK (gI (z8 (lU (tV (jB "tuple" (aB 6)))) (z8 (tV (aE NH (bX cM (aA (aB 6) aF)) (eC (.int 2)))) (lU (tV (aI (LL.cR 6) (aA (aE dC (aB 6) (eC (.int 0))) (aA (eC (.str "alike")) aF)))))))
   (bF (eC (.bl ag)))
   dQ)
  (bF (pX (aI eP (aA (aB 1) (aA (aB 4) (aA (aE dC (aB 6) (eC (.int 1))) aF)))) (aI (LL.cR 6) (aA (aI lQ.iY (aA (aB 1) (aA (aB 4) aF))) (aA (aE dC (aB 6) (eC (.int 1))) aF)))))))))))))))
open K24 LL lQ
section
variable{x y:Q0a}
def aC4(hx:Ord.Rows x)(h0:0<=b)(h1:b<(x.length:Int))(h:b8 x a b=ae):(a<b->a∈xO x b)/\(b<a->b∈xO x a):=by
 have hm:(a,b)∈eI.B x:=by have:=IC hx (a:=a) h0 h1;rw[h] at this;simpa using this
 unfold xO;refine⟨λq=>cg.2 ⟨(a,b),cj.2 ⟨hm,?_⟩,?_⟩,λq=>cg.2 ⟨(a,b),cj.2 ⟨hm,?_⟩,?_⟩⟩
 .rw [Z_ q];simp
 .rw [Zz (by omega)]
 .rw [Zz (by omega)];simp
 .rw [Z_ q]
def Dg(hw:Full x.length w)(h:Ah x w)(hi:i<x.length)(hj:j<x.length)(ha:at1 w j∈xO x (at1 w i)):j<i:=by
 have hl:=hw.len;have e:w=w.take i++at1 w i::w.drop (i+1):=by
  have:at1 w i=w[i]'(by omega):=by unfold at1;rw[fm,bc (by omega)];rfl
  rw[this];exact(List.take_append_drop i w).symm.trans (by rw[vw (by omega)])
 have:=h _ _ _ e _ ha;obtain⟨k,hk⟩:=p_.1 this;have hk2:k<i:=by have:=(cq.1 hk).1;rw[jm] at this;omega
 rw[vt hk2] at hk;have:at1 w k=at1 w j:=by show w.getD k 0=_;rw[fm,hk];rfl
 rw[<- hw.inj (by omega) hj this];exact hk2
def aC5(hx:Ord.Rows x)(hw:Full x.length w)(hi:i<x.length)(hj:j<x.length):tyB (CY x w) i j=tyB x (at1 w i) (at1 w j):=by
 have e:row (CY x w) j=nr x w (at1 w j):=by have h:=k8 (x:=CY x w) (b:=(j:Int)) (by omega) (by rw[nR hw];omega);rw[jf] at h;exact(nQ hw h).2
 rw[gx,tG,tG,e,nP hx hw hj]
 constructor
 .rintro ⟨k,e,_,h⟩;have:k=i:=by omega
  rwa [this] at h
 .intro h;exact⟨i,rfl,hi,h⟩
def aC6(hx:Ord.Rows x)(hw:Full x.length w)(h:Ah x w):KA x.length (CY x w) x w:=by
 have kt:KT x.length (CY x w) x w:=λi j hi hj _=>aC5 hx hw hi hj;refine RY (qU hx hw) hx (nR hw) rfl hw ⟨kt,λi j hi hj hij b=>?_⟩;rw[sR (qU hx hw) hx (nR hw) rfl hw kt hi hj hij] at b;obtain⟨h1,h2⟩:=aC4 hx (hw.at hj).1 (hw.at hj).2 b;refine⟨λq z=>?_,λq z=>?_⟩
 .have:=Dg hw h hi hj (h2 z);omega
 .have:=Dg hw h hj hi (h1 z);omega
def IG(hx:Ord.Rows x){w:Q0e}(hw:Full x.length w)(h:Ah x w):shares (CY x w)=shares x:=(C2 (qU hx hw) hx (nR hw) rfl hw (aC6 hx hw h)).symm
def F0(hx:Ord.Rows x):shares (Ord.turn (Ord.flip x))=shares x:=by
 have fl:=Ord.gZ x;have tl:(Ord.turn (Ord.flip x)).length=x.length:=by rw[Ord.jL,fl]
 refine A5 (n:=x.length) rfl tl λk=>?_;have e1:=K46.xP hx.flip k;have e2:=K46.IE hx (-k);have e3:=K46.FY hx k;rw[e2,e3,fl] at e1;exact(a27 (by omega) e1).symm
def T7{w:Q0e}{p:Nat}:∃z,fJ [tupI w,.int p]=.ok (.int z):=by
 suffices h:∃d,fJ [tupI w,.int p]=.ok d /\∃z,d=.int z by obtain⟨d,e,z,rfl⟩:=h;exact⟨z,e⟩
 unfold fJ;refine iP rfl ?_;have hc:tV (aE YI (aB 1) (bX cM (aA (aB 0) aF))) (bY (dZ 2 [tupI w,.int (p:Int)]))=aa (Zv ((p:Int)<w.length)):=g8 (aY (x:=.int p) (y:=.int w.length) rfl (cV rfl (by unfold tupI;rw[fV,a_])) nI) rfl;by_cases h:p<w.length
 .refine fW (.int w[p]) ?_ ⟨_,rfl⟩;unfold KR;rw[hc,Zx (by omega)];have e:dC (tupI w) (.int (p:Int))=aa (.int w[p]):=by unfold tupI;rw[kZ];exact jI (bc h)
  show aE dC (aB 0) (aB 1) (bY (dZ 2 [tupI w,.int (p:Int)]))=_;exact aY (x:=tupI w) (y:=.int (p:Int)) rfl rfl e
 .refine fW (.int 0) ?_ ⟨_,rfl⟩;unfold KR;rw[hc,Zy (by omega)];rfl
theorem N4(hw:w.length<=1000):d7 [tupI w,tupI w]=.ok .non:=by
 suffices h:∃d,d7 [tupI w,tupI w]=.ok d/\d=.non by obtain⟨d,e,rfl⟩:=h;exact e
 unfold d7;refine iP rfl ?_;have el:∀ρ:cN,aB 0 ρ=aa (tupI w)->bX cM (aA (aB 0) aF) ρ=aa (.int w.length):=λρ h=>cV h (by unfold tupI;rw[fV,a_]);have el1:∀ρ:cN,aB 1 ρ=aa (tupI w)->bX cM (aA (aB 1) aF) ρ=aa (.int w.length):=λρ h=>cV h (by unfold tupI;rw[fV,a_]);refine bM [.ro (tupI w),.ro (tupI w),.ro (.int w.length),.no] (dH _ (YR (el _ rfl) (el1 _ rfl) (by show aa (D.int (if(w.length:Int)<(w.length:Int) then _ else _))=_;rw[Zz (by omega)])) rfl) ?_;refine mH (λρ=>∃v,ρ=[.ro (tupI w),.ro (tupI w),.ro (.int w.length),v]) ?_ λρ ⟨v,e⟩=>by subst e;exact fW _ rfl rfl
 refine k7 w.length (λi ρ=>∃v,ρ=[.ro (tupI w),.ro (tupI w),.ro (.int w.length),v]) (args1 rfl) (by omega) ⟨_,rfl⟩ (λi ρ hi ⟨v,e⟩=>?_) λρ h=>h;subst e;obtain⟨z,hz⟩:=T7 (w:=w) (p:=i);refine⟨[.ro (tupI w),.ro (tupI w),.ro (.int w.length),.ro (.int i)],rfl,_,lZ (g8 (aY (x:=.int z) (y:=.int z) (bQ rfl rfl hz) (bQ rfl rfl hz) nK) (by rw[Zx rfl];rfl)) rfl,_,rfl⟩
noncomputable def tA:Option (List Int)->D
 |some w=>.tup [.str "alike",tupI w]
 |none=>.tup [.str "same"]
def kD(hx:Ord.Rows x)(hn:x.length<=9):∀r∈x,r.length<=9:=λr hm=>ie (hx.short hm) hn
theorem ZR(hx:Ord.Rows x)(hy:Ord.Rows y)(hn:x.length<=9)(hm:y.length=x.length)(hs:shares y=shares x):e9 [aJ x,aJ y]=.ok (tA (lay x y)):=by
 suffices h:∃d,e9 [aJ x,aJ y]=.ok d/\d=tA (lay x y) by obtain⟨d,e,rfl⟩:=h;exact e
 unfold e9;refine iP rfl ?_;refine bM [.ro (aJ x),.ro (aJ y),.ro (oW (lay x y)),.no] (dH _ (bQ rfl rfl (A3 hx hy hn (by omega))) rfl) ?_;have es:sV y=sV x:=by unfold sV;rw[hm,hs]
 cases lay x y with
 |some w =>
  exact CB (RQ ae (g8 (d:=.bl ae) (aY (x:=tupI w) (y:=.non) rfl rfl rfl) rfl) (λ_=>fW _ rfl rfl) λh=>by cases h)
 |none =>
  refine bM [.ro (aJ x),.ro (aJ y),.ro .non,.no] (lZ (g8 (d:=.bl ag) (aY (x:=.non) (y:=.non) rfl rfl rfl) rfl) rfl) ?_;have e1:=FI hn (kD hx hn);have e2:=FI (x:=y) (by omega) (kD hy (by omega));rw[es] at e2;refine bM [.ro (aJ x),.ro (aJ y),.ro .non,.ro .non] (dH _ (bQ (eU rfl e1) (eU rfl e2) (N4 (by unfold sV;rw[AR _ _ (mK _ _ _)];omega))) rfl) ?_;exact CB (RQ ae (g8 (d:=.bl ae) (aY (x:=.non) (y:=.non) rfl rfl rfl) rfl) (λ_=>fW _ rfl rfl) λh=>by cases h)
def T8(hx:Ord.Rows x)(hm:y.length=x.length)(h:lay x y=aa u):Full x.length u /\∀i,i<x.length->t8 x y (u.take i) (at1 u i)=ae:=by unfold lay at h;rw[Z_ hm.symm] at h;have hf:=E7 h;refine⟨hf,λi hi=>?_⟩;rw[jK] at h;have:=(cj.1 (a2z h)).2;exact nO.1 this i (iz i) (by rw[hf.len];exact hi)
theorem F3:∀(w acc:Q0e),(acc++w).Nodup->w.foldl putN acc=acc++w
 |[],acc,_=>by simp
 |a::w,acc,h=>by have ha:a∉acc:=λz=>(jy.1 h).2.2 a z a cn rfl;rw[mh,show putN acc a=acc++[a] from Zz ha,F3 w (acc++[a]) (by rw[ng];exact h),ng];rfl
def Wb(hx:Ord.Rows x)(hy:Ord.Rows y)(hn:x.length<=9)(hm:y.length=x.length){u:Q0e}(h:lay x y=aa u):eP [aJ x,aJ y,tupI u]=.ok (.bl ae):=by
 obtain⟨hf,ht⟩:=T8 hx hm h;have hl:=hf.len
 suffices h:∃d,eP [aJ x,aJ y,tupI u]=.ok d/\d=.bl ae by obtain⟨d,e,rfl⟩:=h;exact e
 unfold eP;refine iP rfl ?_
 let st:Sv->Sv->bO:=λa b=>[.ro (aJ x),.ro (aJ y),.ro (tupI u),a,b]
 have lu:∀ρ:cN,aB 2 ρ=aa (tupI u)->bX cM (aA (aB 2) aF) ρ=aa (.int x.length):=λρ h=>cV h (by unfold tupI;rw[fV,a_,hl]);refine bM (st .no .no) (lZ (CC (X9 (b:=ae) (g8 (d:=.bl ae) rfl rfl) rfl) (λ_=>g8 (aY (x:=.int x.length) (y:=.int x.length) (lu _ rfl) (cV rfl eE) nK) (by rw[Zx rfl];rfl)) λh=>by cases h) rfl) ?_;refine mH (λρ=>∃v,ρ=st v .no) ?_ λρ ⟨v,e⟩=>?_
 .refine sM (u.map D.int) (λ_ ρ=>∃v,ρ=st v .no) rfl ⟨_,rfl⟩ (λi d ρ hd ⟨v,e⟩=>?_) λρ h=>h;subst e;rw[ck] at hd;obtain⟨t,ht,rfl⟩:=jk.1 hd;obtain⟨t0,t1⟩:=dJ.1 (hf.rng t (jz ht));refine⟨st (.ro (.int t)) .no,rfl,_,lZ (CC (X9 (b:=ae) (g8 (d:=.bl ae) rfl rfl) rfl) (λ_=>CC (b:=ag) (g8 (d:=.bl ag) rfl rfl) (λ_=>CC (b:=ag) (g8 (aY (x:=.int t) (y:=.int 0) rfl rfl nI) (by rw[Zy (by omega)];rfl)) (λ_=>g8 (aY (x:=.int t) (y:=.int x.length) rfl (cV rfl eE) nJ) (by rw[Zy (by omega)];rfl)) λh=>by cases h) λh=>by cases h) λh=>by cases h) rfl,_,rfl⟩
 subst e;have eu:p9 [tupI u]=aa (.int x.length):=by unfold tupI;show((intsOf (u.map D.int)).bind λns=>if ns.length<64 then aa (D.int ((RF ns).length:Nat)) else af)=_;rw[dI];show(if u.length<64 then aa (D.int ((RF u).length:Nat)) else af)=_;rw[Z_ (by omega),show RF u=u from F3 u [] (by simpa using hf.nd),hl]
 refine bM (st v .no) (lZ (g8 (aY (x:=.int x.length) (y:=.int x.length) (cV rfl eu) (lu _ rfl) nK) (by rw[Zx rfl];rfl)) rfl) ?_;refine bM (st v (.ro (.lst ((eI.B x).map pairD)))) (dH _ (eU rfl (A4 hx hn)) rfl) ?_;refine fW (.bl ae) (cV (x:=.lst (((bu x.length).map λ_=>ae).map D.bl)) ?_ ?_) rfl
 .have er:∀ρ:cN,aB 0 ρ=aa (aJ x)->bA (aA (eC (.int 1)) (aA (aE dG (bX cM (aA (aB 0) aF)) (eC (.int 1))) aF)) ρ=aa ((bu x.length).map λk:Nat=>D.int ((k:Int)+1)):=λρ h=>by rw[Wi (i:=1) (j:=(x.length:Int)+1) rfl (aY (cV h eE) rfl iO) (by decide) (by omega),show((x.length:Int)+1-1).toNat=x.length by omega];unfold bI;rw[cc];congr 1;exact gq λk _=>by show D.int (1+(k:Int))=_;rw[Int.add_comm]
  rw[show((bu x.length).map λ_=>ae).map D.bl=(bu x.length).map λ_=>D.bl ae from by rw[cc];rfl];refine dU ((bu x.length).map λk:Nat=>D.int ((k:Int)+1)) (er _ rfl) (by simp;omega) (bZ (λk:Nat=>D.int ((k:Int)+1)) (λ_=>D.bl ae) (bu x.length) λk hk=>?_);have hk:=dm.1 hk;refine⟨[aa (.int ((k:Int)+1)),aa (aJ x),aa (aJ y),aa (.lst ((eI.B x).map pairD)),aa (tupI u)],rfl,?_⟩;have es:QY (aB 4) Q9 (oE (aB 0)) [aa (.int ((k:Int)+1)),aa (aJ x),aa (aJ y),aa (.lst ((eI.B x).map pairD)),aa (tupI u)]=aa (tupI (u.take k++[at1 u k])):=by
   unfold QY oE;show aa (D.tup (EU (u.map D.int) af (aa ((k:Int)+1))))=_;unfold EU NK;dsimp only;rw[Zz (by omega),r_,uz,a_,show min ((k:Int)+1).toNat u.length=k+1 by omega,<- a2A,Gi,bc (by omega)];unfold tupI;have:at1 u k=u[k]'(by omega):=by unfold at1;rw[fm,bc (by omega)];rfl
   rw[this];rfl
  refine wV rfl rfl rfl es ?_;rw[ZK hx hy rfl hm hn (by rw[jm];omega) (λa ha=>hf.rng a (List.mem_of_mem_take ha)) (dJ.2 (hf.at hk)),ht k hk]
 .rw [vB];congr 2;rw[sh];simp
end
theorem ID{n:Nat}{P:List (Int×Int)}{ρ:cN}(hn:n<=9)(hl:P.length<64)(h2:aB 2 ρ=aa (.int (n:Int)))(hb:benv 1 [3] ρ=[af,aa (.lst (P.map pairD))]):
  bX cQ (aA (a9 1 [3] (bA (aA (aB 2) aF)) (g1 0) bP (bX cQ (aA (bX eQ (aA (a9 2 [0] (bE (aB 1)) (g2 0 1) (tV (aE u5 (aB 1) (aB 2))) (aB 0)) aF)) aF))) aF) ρ=aa (aJ (uP.w9 n P)):=by
 have h:=lQ.ID (ρ:=[af,af,af,af,af,af,aa (.int (n:Int)),af,af,af,af,aa (.lst (P.map pairD))]) hn hl rfl rfl;have go:∀{a b:EF} {ρ ρ':cN},a ρ=b ρ'->bX cQ (aA a aF) ρ=bX cQ (aA b aF) ρ':=λ{a b ρ ρ'} e=>by unfold bX aA;rw[e];rfl
 refine(go ?_).trans h;unfold a9;rw[qI h2 (by omega),qI (ρ:=[af,af,af,af,af,af,aa (.int (n:Int)),af,af,af,af,aa (.lst (P.map pairD))]) (a:=aB 6) (n:=n) rfl (by omega),hb];rfl
theorem ZS{o:Option (List Int)}(h:∀v,o=aa v->v.length<=9):CD 6 (tA o):=by
 cases o with
 |none=>exact⟨by decide,λd hd=>by rw[cp.1 hd];trivial⟩
 |some v =>
  refine⟨by show 2<=1000000;decide,λd hd=>?_⟩;rcases cb.1 hd with e|hd
  .rw [e];trivial
  .rw [cp.1 hd];exact pG (n:=3) (by have:=h v rfl;omega)
theorem T9(ns:Q0e)(hns:ns.length<=63):xR [.rY ns]=.ok (.bl ae):=by
 obtain⟨_,ed,x,lx,rx,rfl⟩:=RV ns 0 7 100003 (by decide) (by decide);have hn:x.length<=7:=by omega
 obtain⟨z,rz,lz,ez,ez2⟩:=ZM rx (by omega);obtain⟨c2,ec2⟩:=vC ns 2;obtain⟨dr,dl,d0,edr⟩:=wW c2 (x.length:Int) 200017 (by omega) (by omega);have dl:dr.length=x.length:=by omega
 obtain⟨w,hw,hA,ew⟩:=TV rz (by omega) (dr:=dr) (by omega);have ly:(CY z w).length=x.length:=by rw[nR hw,lz]
 have ry:=qU rz hw;have hs:shares (CY z w)=shares x:=by rw[IG rz hw hA,ez2,F0 rx]
 generalize ey:CY z w=y at ly ry hs ew;obtain⟨c3,ec3⟩:=vC ns 3;have Hv:(0:Int)<2*10^60-1:=by decide+kernel
 obtain⟨g,g0,g1',eg⟩:=R8 c3 300007 Hv;have Au:∀ρ,aE vW (eC (.int 10)) (eC (.int 60)) ρ=aa (.int (10^60)):=λρ=>R7 (i:=10) (j:=60) ρ (by decide+kernel);have hT:(T x).length<64:=eI.FA rx (by omega)
 let P:=(T x).map λp=>((x.length:Int)-1-p.2,(x.length:Int)-1-p.1)
 generalize ek:g-10^60+1=k;have hk:Bg 208 k:=by
  have h60:(10:Nat)^60<2^208:=by decide+kernel
  have Ja:((10:Int)^60)=((10^60:Nat):Int):=by decide+kernel
  unfold Bg;rw[Ja] at ek g1';omega
 have cx:=qQ (by omega) (kD rx (by omega)) hk;have cy:=qQ (x:=y) (by omega) (kD ry (by omega)) hk;rw[hs,ly] at cy;have px:=oN (x:=x) (by omega) (kD rx (by omega));have py:=oN (x:=y) (by omega) (kD ry (by omega));rw[hs,ly] at py;have tx:=ZR rx ry (by omega) ly hs;have ll:∀v,lay x y=aa v->v.length<=9:=λv h=>ZN rx (by omega) h
 suffices h:∃d,xR [.rY ns]=.ok d/\d=.bl ae by obtain⟨d,e,rfl⟩:=h;exact e
 unfold xR;refine iP rfl ?_
 let st:Sv->Sv->Sv->Sv->bO:=λa b c d=>[.ro (.rY ns),.ro (aJ x),.ro (.int x.length),a,b,c,d]
 refine bM [.ro (.rY ns),.ro (aJ x),.no,.no,.no,.no,.no] (dH _ (wV rfl rfl rfl rfl ed) rfl) ?_;refine bM (st .no .no .no .no) (dH _ (cV rfl eE) rfl) ?_;refine bM (st (.ro (.lst (P.map pairD))) .no .no .no) (dH _ (uP.Wh (λp=>((x.length:Int)-1-p.2,(x.length:Int)-1-p.1)) (l:=T x) (by omega) (by unfold bE;rw[eU (x:=aJ x) rfl (AO rx (by omega))];rfl) λp _=>rfl) rfl) ?_;refine bM (st (.ro (.lst (P.map pairD))) (.ro (aJ z)) .no .no) (dH (aJ z) (by rw[ez];exact ID (by omega) (by rw[a_];exact hT) rfl rfl) rfl) ?_;refine bM (st (.ro (.lst (P.map pairD))) (.ro (aJ y)) .no .no) (dH (aJ y) (bQ rfl (jS (bQ rfl rfl ec2) rfl rfl edr) ew) rfl) ?_;have e5:∀ρ:cN,aB 0 ρ=aa (.rY ns)->aE dG (aE gH (aI LL.iI (aA (aI LL.fD (aA (aB 0) (aA (eC (.int 3)) aF))) (aA (aE gH (aE mulM (eC (.int 2)) (aE vW (eC (.int 10)) (eC (.int 60)))) (eC (.int 1))) (aA (eC (.int 300007)) aF)))) (aE vW (eC (.int 10)) (eC (.int 60)))) (eC (.int 1)) ρ=aa (.int k):=λρ h=>by rw[<- ek];refine aY (x:=.int (g-10^60)) (y:=.int 1) (aY (x:=.int g) (y:=.int (10^60)) (jS (x:=.int c3) (y:=.int (2*10^60-1)) (z:=.int 300007) (bQ h rfl ec3) (aY (x:=.int (2*10^60)) (y:=.int 1) (aY (x:=.int 2) (y:=.int (10^60)) rfl (Au _) (mG (by decide))) rfl j3) rfl eg) (Au _) j3) rfl iO
 refine bM (st (.ro (.lst (P.map pairD))) (.ro (aJ y)) (.ro (.int k)) .no) (dH _ (e5 _ rfl) rfl) ?_;have sc:=same_refl 6 (.int (DV x.length 0 (shares x) k)) trivial;have sp:=same_refl 6 (tupI (FH x.length (shares x) 0 (dh (x.length+1) 0))) (pG (n:=4) (by rw[uA _ _ _ _ (by simp)];omega));refine bM (st (.ro (.lst (P.map pairD))) (.ro (aJ y)) (.ro (.int k)) .no) (lZ (CC (X9 (b:=ae) (g8 (bQ (bQ rfl rfl cx) (bQ rfl rfl cy) sc) rfl) rfl) (λ_=>X9 (b:=ae) (g8 (bQ (eU rfl px) (eU rfl py) sp) rfl) rfl) λh=>by cases h) rfl) ?_;refine bM (st (.ro (.lst (P.map pairD))) (.ro (aJ y)) (.ro (.int k)) (.ro (tA (lay x y)))) (dH _ (bQ rfl rfl tx) rfl) ?_;have sl:=A3 rx ry (show x.length<=9 by omega) (show y.length<=9 by omega)
 cases hl:lay x y with
 |none =>
  exact CB (RQ ae (g8 (bQ rfl rfl (same_refl 6 (tA af) (ZS λv h=>by cases h))) rfl) (λ_=>fW _ rfl rfl) λh=>by cases h)
 |some u =>
  have ul:=ll u hl;rw[hl] at sl;refine bM (st (.ro (.lst (P.map pairD))) (.ro (aJ y)) (.ro (.int k)) (.ro (tA (aa u)))) (lZ (g8 (bQ rfl rfl (show LL.cR 6 [tA (aa u),.tup [.str "same"]]=.ok (.bl ag) from ?_)) rfl) rfl) ?_
  .rfl
  refine bM (st (.ro (.lst (P.map pairD))) (.ro (aJ y)) (.ro (.int k)) (.ro (tA (aa u)))) (lZ (CC (X9 (b:=ae) (g8 (d:=.bl ae) rfl rfl) rfl) (λ_=>CC (b:=ag) (g8 (d:=.bl ag) rfl rfl) (λ_=>X9 (b:=ae) (g8 (bQ (x:=.str "alike") rfl rfl (same_refl 6 (.str "alike") trivial)) rfl) rfl) λh=>by cases h) λh=>by cases h) rfl) ?_;have iu:=Wb rx ry (by omega) ly hl;refine fW (.bl ae) ?_ rfl;unfold pX;rw[jS (x:=aJ x) (y:=aJ y) (z:=tupI u) rfl rfl rfl iu];show aI _ _ _=_;exact bQ (bQ rfl rfl sl) rfl (same_refl 6 _ (pG (n:=4) (by omega)))
end K53
section
-- CHANGE: your row's module here,as the last of these rows
namespace L2
open PySem.Spec PyProof.Rows
abbrev Key:=Sum Int ak
noncomputable def A6:Key->aj->Bool
 |.inl k,v=>a03 k v
 |.inr x,v=>a02 x v
noncomputable def Q_(w:ba):Key->Int
 |.inl k=>hashInt k
 |.inr x=>hashStr w x
theorem cL:∀{k:Key} {v:aj},A6 k v=ae->(∃i t,k=cz i/\v=jt i t)\/(∃x t,k=jg x/\v=yu x t)
 |.inl i,v,h=>by obtain⟨t,e⟩:=Value.isInt_shape (k:=i) (v:=v) h;exact .inl ⟨i,t,rfl,e⟩
 |.inr x,v,h=>by obtain⟨t,e⟩:=Value.isStrOf_shape (x:=x) (v:=v) h;exact .inr ⟨x,t,rfl,e⟩
def N5(i:Int)(t:ic):A6 (.inl i) (.int i t)=ae:=by simp[A6,a03]
def N6(x:ak)(t:ic):A6 (.inr x) (.str x t)=ae:=by simp[A6,a02]
def aC7(a b:Int):Zv ((cz a:Key)=cz b)=(a == b):=by
 by_cases e:a=b
 .subst e;simp
 .have h:¬ (cz a:Key)=cz b:=λq=>e (ym q);rw[Zy h];exact(beq_eq_false_iff_ne.mpr e).symm
def aC8(a b:ak):Zv ((jg a:Key)=jg b)=Zv (a=b):=by
 by_cases e:a=b
 .subst e;simp
 .have h:¬ (jg a:Key)=jg b:=λq=>e (Ea q);rw[Zy h,Zy e]
def aC9(a:Int)(b:ak):Zv ((cz a:Key)=jg b)=ag:=Zy (λq=>nomatch q)
def aCa(a:ak)(b:Int):Zv ((jg a:Key)=cz b)=ag:=Zy (λq=>nomatch q)
def aW(prog:bf)(w:ba):PySem.KeyKind prog w Key where
 is:=A6
 hash:=Q_ w
 inj:=λv a b ha hb=>by
  rcases cL ha with⟨i,t,rfl,rfl⟩|⟨x,t,rfl,rfl⟩
  .rcases cL hb with⟨j,u,rfl,e⟩|⟨y,u,rfl,e⟩
   .injection e with e1 _;rw[e1]
   .exact nomatch e
  .rcases cL hb with⟨j,u,rfl,e⟩|⟨y,u,rfl,e⟩
   .exact nomatch e
   .injection e with e1 _;rw[e1]
 byValue:=λk v h=>by rcases cL h with⟨i,t,rfl,rfl⟩|⟨x,t,rfl,rfl⟩<;>rfl
 pyHash:=λhv h=>by
  rcases cL hv with⟨i,t,rfl,rfl⟩|⟨x,t,rfl,rfl⟩
  .exact wpAny_pyHash_int h
  .exact wpAny_pyHash_str h
 eqBool:=λhu hv h=>by
  rcases cL hu with⟨i,t,rfl,rfl⟩|⟨x,t,rfl,rfl⟩
  .rcases cL hv with⟨j,u,rfl,rfl⟩|⟨y,u,rfl,rfl⟩
   .rw [aC7] at h;exact a0s h
   .rw [aC9] at h;exact a1c i t y u _ _ _ _ h
  .rcases cL hv with⟨j,u,rfl,rfl⟩|⟨y,u,rfl,rfl⟩
   .rw [aCa] at h;exact a1b x t j u _ _ _ _ h
   .rw [aC8] at h;exact wpAny_eqBool_str h
 «strs»:=λk x t v h=>by
  rcases cL h with⟨i,u,rfl,e⟩|⟨y,u,rfl,e⟩
  .exact nomatch e
  .injection e with e1 _;subst e1;cases v<;>rfl
def F4(prog:bf)(w:ba)(i:Int)(t:ic):(aW prog w).is (.inl i) (.int i t)=ae:=N5 i t
def F5(prog:bf)(w:ba)(x:ak)(t:ic):(aW prog w).is (.inr x) (.str x t)=ae:=N6 x t
abbrev N1:=List (Sum Key (List Key))
abbrev KX:=Sum Key N1
section
variable{prog:bf}{w:ba}{K:Type}[dK:DecidableEq K](knd:KeyKind prog w K)
noncomputable def pL(h:bb):Sum K (List K)->aj->Prop
 |.inl k,v=>knd.is k v=ae
 |.inr ks,v=>∃b,v=.ref b/\IsTupleKey knd h ks b
inductive fY (h:bb):List (Sum K (List K))->List aj->Prop
 |nil:fY h [] []
 |cons {k:Sum K (List K)} {v:aj} {ks:List (Sum K (List K))} {vs:Q0f}:pL knd h k v->fY h ks vs->fY h (k::ks) (v::vs)
def gR(h:bb)(ks:List (Sum K (List K)))(a:ai):Prop:=∃o items n,h.get? a=aa o/\o.cls=.type "tuple" /\o.data=.seq items n/\fY knd h ks items.toList
variable{knd}
theorem pL.inj{h:bb}{v:aj}:∀{x y:Sum K (List K)},pL knd h x v->pL knd h y v->x=y
 |.inl a,.inl b,hx,hy=>by rw[knd.inj _ _ _ hx hy]
 |.inl a,.inr b,hx,⟨q,e,_⟩=>by subst e;exact Zw (knd.byValue _ _ hx) (by simp[carriedByValue])
 |.inr a,.inl b,⟨q,e,_⟩,hy=>by subst e;exact Zw (knd.byValue _ _ hy) (by simp[carriedByValue])
 |.inr a,.inr b,⟨q,e,hx⟩,⟨r,f,hy⟩=>by subst e;injection f with f;subst f;rw[hx.inj hy]
theorem fY.inj{h:bb}{x:List (Sum K (List K))}{vs:Q0f}(hx:fY knd h x vs):∀{y},fY knd h y vs->x=y:=by
 induction hx with
 |nil=>intro y hy;cases hy;rfl
 |cons h1 _ ih =>
  intro y hy
  cases hy with
  |cons h2 t2=>rw[h1.inj h2,ih t2]
def gR.typeIs{s:ao}{ks:List (Sum K (List K))}{a:ai}(x:gR knd s.heap ks a):s.TypeIs (.ref a) "tuple":=let ⟨o,_,_,ho,hc,_⟩:=x;⟨o,ho,hc⟩
def gR.inj{h:bb}{a:ai}{x y:List (Sum K (List K))}(hx:gR knd h x a)(hy:gR knd h y a):x=y:=by obtain⟨o,its,n,ho,_,hd,hi⟩:=hx;obtain⟨o',its',n',ho',_,hd',hi'⟩:=hy;rw[ho] at ho';cases ho';rw[hd] at hd';cases hd';exact hi.inj hi'
theorem gR.keeps{es ep}(x:gR knd h ks a)(ho:h.get? d=aa o)(hd:o.data=.dict es ep)(hs:nz d h h'):gR knd h' ks a:=by
 obtain⟨q,items,n,hq,hc,hi,his⟩:=x;have ne:a≠d:=λz=>by subst z;rw[hq] at ho;cases ho;rw[hi] at hd;cases hd
 refine⟨q,items,n,(hs.2 a ne).trans hq,hc,hi,?_⟩;have go:∀{ks:List (Sum K (List K))} {vs:Q0f},fY knd h ks vs->fY knd h' ks vs:=by
  intro ks vs t
  induction t with
  |nil=>exact .nil
  | @cons k v ks vs h1 _ ih =>
   refine .cons ?_ ih
   cases k with
   |inl k=>exact h1
   |inr k=>obtain⟨b,e,hb⟩:=h1;exact⟨b,e,hb.keeps ho hd hs⟩
 exact go his
noncomputable def qV(knd:KeyKind prog w K):Sum K (List K)->Int
 |.inl k=>knd.hash k
 |.inr ks=>tupleKeyHash knd ks
noncomputable def kE:Sum K (List K)->Nat
 |.inl _=>1
 |.inr ks=>ks.length+1
def xS(knd:KeyKind prog w K)(ks:List (Sum K (List K))):Int:=reduceHash (a1O (ks.map (qV knd)))
def nV(ks:List (Sum K (List K))):Nat:=(ks.map kE).sum+1
variable{s:ao}{A:bx}{E:Q0c}
theorem N7(hu:A.units<cf)(hk:pL knd s.heap k v)(h:Q (qV knd k) {s with toks:=s.toks+kE k}):ax (ay prog w) A (pyHash v) Q E s:=by
 cases k with
 |inl k=>exact knd.pyHash hk h
 |inr k =>
  obtain⟨b,e,hb⟩:=hk;subst e;exact wpAny_pyHash_tuple hu hb h
def xT(x:IsTupleKey knd h ks b):∃items,h.IsTuple b items:=by obtain⟨o,items,n,ho,hc,hd,_⟩:=x;exact⟨items,o,ho,hc,n,hd⟩
end
section
variable{P:bf}{w:ba}{A:bx}{E:Q0c}{s:ao}
theorem ZT(hu:A.units<cf)(hx:pL (aW P w) s.heap x u)(hy:pL (aW P w) s.heap y v)(h:Q (Zv (x=y)) s):ax (ay P w) A (eqBool u v) Q E s:=by
 cases x with
 |inl x =>
  cases y with
  |inl y =>
   refine(aW P w).eqBool hx hy ?_;rw[show Zv (x=y)=Zv ((cz x:Sum Key (List Key))=cz y) by simp];exact h
  |inr y =>
   obtain⟨b,e,hb⟩:=hy;subst e;obtain⟨its,hb⟩:=xT hb;rw[show Zv ((cz x:Sum Key (List Key))=jg y)=ag by simp] at h;rcases cL hx with⟨i,t,rfl,rfl⟩|⟨i,t,rfl,rfl⟩
   .exact a3G i t hb hu P w E Q h
   .exact a3A i t hb hu P w E Q h
 |inr x =>
  obtain⟨a,e,ha⟩:=hx;subst e
  cases y with
  |inl y =>
   obtain⟨its,ha⟩:=xT ha;rw[show Zv ((jg x:Sum Key (List Key))=cz y)=ag by simp] at h;rcases cL hy with⟨i,t,rfl,rfl⟩|⟨i,t,rfl,rfl⟩
   .exact a3z i t ha hu P w E Q h
   .exact a3y i t ha hu P w E Q h
  |inr y =>
   obtain⟨b,e,hb⟩:=hy;subst e;refine wpAny_eqBool_tuple hu ha hb ?_;rw[show Zv (x=y)=Zv ((jg x:Sum Key (List Key))=jg y) by simp];exact h
theorem A7:∀(rest:Q0f) (left:List (Sum Key (List Key))) (b:Array Int) (s:ao) (R:Array Int->ao->Prop),A.units<cf->fY (aW P w) s.heap left rest ->
  (∀b':Array Int,b'.toList=b.toList++left.map (qV (aW P w))->R b' {s with toks:=s.toks+(left.map kE).sum}) ->
  ax (ay P w) A (forIn rest b λx r=>do
   let r' <- pyHash x
   pure (nh (r.push r'))) R E s
 |[],left,b,s,R,hu,t,k=>by cases t;exact az (k b (by simp))
 |v::rest,left,b,s,R,hu,t,k=>by
  cases t with
  | @cons kk _ ks _ h1 h2 =>
   rw[r9];refine av (av (N7 hu h1 (az ?_)));refine A7 rest ks _ _ _ hu h2 λb' e=>?_;have:=k b' (by rw[e];simp);simpa[a2m] using this
def N8{ks:List (Sum Key (List Key))}{a:ai}{Q:Int->ao->Prop}(hu:A.units+1<cf)(hk:gR (aW P w) s.heap ks a)(h:Q (xS (aW P w) ks) {s with toks:=s.toks+nV ks}):ax (ay P w) A (pyHash (.ref a)) Q E s:=by
 have hT:=hk.typeIs;obtain⟨o,its,n,ho,_,hd,hi⟩:=hk;have sl:=F.slot_tuple_hash;unfold pyHash pyHashByItsType
 wp_walk using wpAny_cRoomFor_or (.inr (by omega)),Ed hT sl.lookup,(wpAny_callSpecialIfBoundUnlessNone?_slot hT sl (jh sl hT F.entry_tuple_hash ?_ (F.args_tuple_hash_1 _)))
 rw[hd];refine az (az (av ?_));rw[<- a3g];refine A7 its.toList ks #[] s _ hu hi λb eb=>?_;dsimp only;rw[eb,vk];unfold xS reduceHash at h;refine wpAny_ret_mkInt ?_;have e2:s.toks+(ks.map kE).sum+1=s.toks+nV ks:=by unfold nV;omega
 show ax (ay P w) A (pyHashByItsType.reduced _) Q E {s with toks:=s.toks+(ks.map kE).sum+1};rw[e2];unfold pyHashByItsType.reduced;generalize a1O (ks.map (qV (aW P w)))=z at h ⊢;by_cases hz:(Zv (-(2^63:Int)<=z)&&Zv (z<2^63))=ae
 .rw [Z_ hz] at h ⊢;exact az h
 .rw [Zz hz] at h ⊢;refine av (mq ?_);exact az h
theorem eq_loop:∀(x y:List (Sum Key (List Key))) (xs ys:Q0f) (R:Option Fin×Unit->ao->Prop),A.units<cf->fY (aW P w) s.heap x xs->fY (aW P w) s.heap y ys ->
  (x≠y->R (aa (.done (.ret (.bool ag))),()) s)->((x=y↔xs.length=ys.length)->R (af,()) s) ->
  ax (ay P w) A (forIn (xs.zip ys) ((af,()):Option Fin×Unit) λp _=>do
   let c <- eqBool p.1 p.2
   if(!c)=ae then do
    let q <- ret (pf ag)
    pure (a28 (aa q,()))
   else pure (nh (af,()))) R E s
 |[],y,xs,ys,R,hu,hx,hy,k1,k2=>by cases hx;refine az (k2 ?_);cases hy<;>simp
 |kx::x,[],xs,ys,R,hu,hx,hy,k1,k2=>by cases hx;cases hy;exact az (k2 (by simp))
 |kx::x,ky::y,xs,ys,R,hu,hx,hy,k1,k2=>by
  cases hx with
  | @cons _ u _ xs hx1 hx2 =>
   cases hy with
   | @cons _ v _ ys hy1 hy2 =>
    rw[Gg,r9];refine av (av (ZT hu hx1 hy1 ?_));by_cases hk:kx=ky
    .subst hk;rw[Zx rfl,Zz (by decide)];refine az (eq_loop x y xs ys R hu hx2 hy2 (λn=>k1 (by simpa using n)) λe=>k2 ?_);simpa using e
    .rw [Zy hk,Z_ (by decide)];exact av (az (az (az (k1 (by simp[hk])))))
def ZU{x y:List (Sum Key (List Key))}{a b:ai}{Q:Bool->ao->Prop}(hu:A.units+1<cf)(hx:gR (aW P w) s.heap x a)(hy:gR (aW P w) s.heap y b)(h:Q (Zv (x=y)) s):ax (ay P w) A (eqBool (.ref a) (.ref b)) Q E s:=by
 have tx:=hx.typeIs;have ty:=hy.typeIs;have sl:=a1l;by_cases hab:a=b
 .subst hab;rw[hx.inj hy,Zx rfl] at h;exact qu _ P w E Q h
 .obtain ⟨oa,xs,na,hoa,_,hda,hia⟩:=hx;obtain⟨oc,ys,nb,hob,_,hdb,hib⟩:=hy;unfold eqBool;rw[Zz (by simpa using hab)];have hu0:A.units<cf:=by omega
  apply ip;apply av;refine(wpAny_richCompare_same_room (op:=.Eq) tx ty sl (jh sl tx F.entry_tuple_eq ?_ (F.args_tuple_eq_2 _ _)) hu0);unfold Builtin.«tuple.__eq__»
  wp_walk using Eh ty a0E,a0b hoa hda,a0b hob hdb
  refine eq_loop x y xs.toList ys.toList _ hu hia hib (λn=>?_) λe=>?_
  .rw [Zy n] at h;exact az ⟨_,rfl,(λz=>nomatch z),mn h⟩
  .refine az ⟨_,rfl,(λz=>nomatch z),?_⟩;have e2:(xs.size == ys.size)=Zv (x=y):=by
    by_cases q:x=y
    .rw [Zx q];simpa using e.1 q
    .rw [Zy q];simpa using λz=>q (e.2 z)
   show ax (ay P w) A (truthOfDropped (.bool (xs.size == ys.size))) Q E s;rw[e2];exact mn h
theorem xU:∀(vs:Q0f) (R:Option Bool×Unit->ao->Prop),(∀v∈vs,∀Q:Bool->ao->Prop,Q ae s->ax (ay P w) A (eqIsQuiet d v) Q E s)->R (af,()) s ->
  ax (ay P w) A (forIn vs ((af,()):Option Bool×Unit) λy _=>do
   let c <- eqIsQuiet d y
   if(!c)=ae then pure (a28 (aa ag,()))
   else pure (nh (af,()))) R E s
 |[],R,hq,k=>az k
 |v::vs,R,hq,k=>by rw[r9];refine av (av (hq v cn _ ?_));rw[Zz (by decide)];exact az (xU vs R (λu hu=>hq u (dq _ hu)) k)
theorem A8(tx:s.TypeIs (c_ a) "tuple")(ho:s.heap.get? a=aa o)(hd:o.data=.seq xs n)(hq:∀v∈xs.toList,∀Q:Bool->ao->Prop,Q ae s->ax (ay P w) A (eqIsQuiet d v) Q E s)(h:Q ae s):
  ax (ay P w) A (eqIsQuiet (d+1) (.ref a)) Q E s:=by
 have sl:=a1l;unfold eqIsQuiet;refine av (Ed tx sl.lookup ?_);show ax (ay P w) A (isInstance (.ref a) (.type "tuple") >>= _) _ _ s;refine av (Eh tx a0E ?_);rw[Zz (by decide)];dsimp only;refine av (Ee ho hd (av ?_));show ax _ _ (forIn xs _ _) _ _ s;rw[<- a3g];exact xU xs.toList _ hq (az h)
def IH{x:List (Sum Key (List Key))}{a:ai}{Q:Bool->ao->Prop}(hx:gR (aW P w) s.heap x a)(h:Q ae s):ax (ay P w) A (eqIsQuiet 8 (.ref a)) Q E s:=by
 have tx:=hx.typeIs;obtain⟨o,xs,n,ho,_,hd,hi⟩:=hx;refine A8 (d:=7) tx ho hd ?_ h;have go:∀{ks:List (Sum Key (List Key))} {vs:Q0f},fY (aW P w) s.heap ks vs ->∀v∈vs,∀Q:Bool->ao->Prop,Q ae s->ax (ay P w) A (eqIsQuiet 7 v) Q E s:=by
  intro ks vs t
  induction t with
  |nil=>intro v hv;cases hv
  | @cons k v ks vs h1 _ ih =>
   intro u hu Q k0;rcases cb.1 hu with e|hu
   .subst e
    cases k with
    |inl k =>
     rw[a0J _ ((aW P w).byValue _ _ h1)];exact az k0
    |inr k =>
     obtain⟨b,e,hb⟩:=h1;subst e;have tb:=hb.typeIs;obtain⟨o',xs',n',ho',_,hd',hi'⟩:=hb;refine A8 (d:=6) tb ho' hd' (λv' hv' Q' k'=>?_) k0;rw[a0J _ (hi'.byValue v' hv')];exact az k'
   .exact ih u hu Q k0
 exact go hi
def g5(P:bf)(w:ba):HeapKind P w (List (Sum Key (List Key))) where
 is:=gR (aW P w)
 hash:=xS (aW P w)
 draws:=nV
 room:=λA=>A.units+1<cf
 inj:=λhx hy=>hx.inj hy
 keeps:=λx ho he hs=>x.keeps ho he hs
 pyHash:=λhu hk h=>N8 hu hk h
 eqBool:=λhu hx hy h=>ZU hu hx hy h
 quiet:=λhk h=>IH hk h
def nest_room(hu:A.units+2<cf):(g5 P w).room A.in1:=hu
end
inductive V where
 |non|bl (b:Bool)|int (i:Int)|str (x:ak)|II (b:Array UInt8)|flt (b:UInt64)|ref (a:ai)|ty (n:String)
 deriving DecidableEq
noncomputable def RelV:V->aj->Prop
 |.non,u=>u=lh
 |.bl b,u=>u=pf b
 |.int i,u=>∃t,u=jt i t
 |.str x,u=>∃t,u=yu x t
 |.II b,u=>∃t,u=Value.bytes b t
 |.flt b,u=>∃t,u=a04 b t
 |.ref a,u=>u=c_ a
 |.ty n,u=>u=ny n
abbrev Vals:List V->List aj->Prop:=gg RelV
def Vals.length{xs:List V}{us:Q0f}(r:Vals xs us):xs.length=us.length:=qw r
theorem Vals.get:∀{xs:List V} {us:Q0f} {i:Nat} {x:V},Vals xs us->xs[i]?=aa x ->∃u,us[i]?=aa u/\RelV x u
 |_,_,_,_,.nil,e=>by simp at e
 |_,_,0,_,.cons r _,e=>by simp at e;subst e;exact⟨_,rfl,r⟩
 |_,_,i+1,x,.cons _ t,e=>by obtain⟨u,h1,h2⟩:=Vals.get (i:=i) (x:=x) t (by simpa using e);exact⟨u,by simpa using h1,h2⟩
theorem Vals.set{x:V}{u:aj}(r:RelV x u):∀{xs:List V} {us:Q0f} (i:Nat),Vals xs us->Vals (xs.set i x) (us.set i u)
 |_,_,_,.nil=>.nil
 |_,_,0,.cons _ t=>.cons r t
 |_,_,i+1,.cons q t=>.cons q (Vals.set r i t)
theorem Vals.append:∀{xs ys:List V} {us ws:Q0f},Vals xs us->Vals ys ws->Vals (xs++ys) (us++ws)
 |_,_,_,_,.nil,s=>s
 |_,_,_,_,.cons r t,s=>.cons r (Vals.append t s)
theorem Vals.take:∀{xs:List V} {us:Q0f} (n:Nat),Vals xs us->Vals (xs.take n) (us.take n)
 |_,_,0,_=>.nil
 |_,_,_+1,.nil=>.nil
 |_,_,n+1,.cons r t=>.cons r (Vals.take n t)
theorem Vals.drop:∀{xs:List V} {us:Q0f} (n:Nat),Vals xs us->Vals (xs.drop n) (us.drop n)
 |_,_,0,r=>r
 |_,_,_+1,.nil=>.nil
 |_,_,n+1,.cons _ t=>Vals.drop n t
def mN:Option V->Option aj->Prop
 |some v,aa u=>RelV v u
 |none,af=>True
 |_,_=>False
def KV{κ:Type}:List (κ×V)->List (κ×aj)->Prop:=gg λ(p:κ×V) (q:κ×aj)=>p.1=q.1/\RelV p.2 q.2
noncomputable def kV:Key->V
 |.inl i=>.int i
 |.inr x=>.str x
inductive HO where
 |lst (xs:List V)
 |tup (xs:List V)
 |dK (kvs:List (Key×V))|dT (kvs:List (List Key×V))
 |dX (o:aw) (kvs:List (KX×V×V))
 |set (S:Int->Bool) (n:Nat)
 |ins (C dx:ai) (fs:List (ak×V))
 |own (x:ai)
 |xd (fs:List (ak×V))
 |met (f x:ai)
 |rng (lo hi:Int)
 |xV (o:aw) (u:HO)
 |N9 (q:ak)
 |ext (φ:bb->Prop)
abbrev Hp:=ai->Option HO
def upd(H:Hp)(a:ai)(o:HO):Hp:=λb=>if b=a then aa o else H b
def aQ{H:Hp}{a:ai}{o:HO}:upd H a o a=aa o:=by unfold upd;rw[Z_ rfl]
def aV{H:Hp}{a b:ai}{o:HO}(h:b≠a):upd H a o b=H b:=by unfold upd;rw[Zz h]
def De{H:Hp}{a b:ai}{o u:HO}(h:H a=aa o)(h':H b=aa u)(d:o≠u):a≠b:=by intro e;subst e;rw[h] at h';exact d (dg h')
theorem bG{H:Hp}{a b:ai}{o:HO}(h:H a=aa o)(h':H b=af):a≠b:=by intro e;subst e;rw[h] at h';cases h'
def xW(H:Hp):Sum Key (List Key)->V->Prop
 |.inl k,v=>v=kV k
 |.inr ks,v=>∃b,v=.ref b/\H b=aa (.tup (ks.map kV))
def mO(H:Hp)(ks:N1)(a:ai):Prop:=∃vs,H a=aa (.tup vs)/\gg (xW H) ks vs
def xX(P:bf)(w:ba)(H:Hp)(o:aw)(kvs:List (KX×V×V)):Prop:=o.ExactDict /\∃es ep,o.data=.dict es ep /\
 ((∃vs:List (Key×aj),gg (λ(p:KX×V×V) (q:Key×aj)=>p.1=.inl q.1/\p.2.1=kV q.1/\RelV p.2.2 q.2) kvs vs/\KeysOf (aW P w) es/\Pairs (aW P w) es.toList vs/\(vs.map (·.1)).Nodup) \/
  ∃xs:List (N1×ai×aj),gg (λ(p:KX×V×V) (q:N1×ai×aj)=>p.1=.inr q.1/\p.2.1=.ref q.2.1/\mO H q.1 q.2.1/\RelV p.2.2 q.2.2) kvs xs/\es.toList=xs.map (entryOfKey (g5 P w))/\(xs.map (·.1)).Nodup)
theorem Paired.x_{α β:Type}{F G:α->β->Prop}:∀{l₁:List α} {l₂:List β},gg F l₁ l₂->(∀a b,F a b->G a b)->gg G l₁ l₂
 |_,_,.nil,_=>.nil
 |_,_,.cons r t,f=>.cons (f _ _ r) (Paired.x_ t f)
theorem mO.stay{H H':Hp}{ks:N1}{a:ai}(h:mO H ks a)(ht:∀b xs,H b=aa (.tup xs)->H' b=aa (.tup xs)):mO H' ks a:=by
 obtain⟨vs,e,r⟩:=h;refine⟨vs,ht _ _ e,Paired.x_ r λk v q=>?_⟩
 cases k with
 |inl k=>exact q
 |inr k=>obtain⟨b,e,q⟩:=q;exact⟨b,e,ht _ _ q⟩
def xX.stay{P:bf}{w:ba}{H H':Hp}{o:aw}{kvs:List (KX×V×V)}(h:xX P w H o kvs)(ht:∀b xs,H b=aa (.tup xs)->H' b=aa (.tup xs)):xX P w H' o kvs:=by
 obtain⟨x,es,ep,e,h⟩:=h;refine⟨x,es,ep,e,?_⟩;rcases h with h|⟨xs,r,h1,h2⟩
 .exact .inl h
 .exact .inr ⟨xs,Paired.x_ r λp q z=>⟨z.1,z.2.1,z.2.2.1.stay ht,z.2.2.2⟩,h1,h2⟩
def EM(h:bb)(a:ai):Prop:=∀o,h.get? a=aa o->o.dict=af
def EM.at{h h':bb}{a:ai}{o:aw}(n:EM h a)(e:h.get? a=aa o)(e':h'.get? a=aa o):EM h' a:=λu q=>by rw[e'] at q;cases q;exact n _ e
def EM.new(h:bb)(its:Array aj){n:Nat}:EM (h.push {cls:=.type "tuple",data:=.seq its n}) h.objs.size:=λu q=>by rw[f_ h rfl] at q;cases q;rfl
def EM.is(e:h.get? a=aa o)(d:o.dict=af):EM h a:=λu q=>by rw[e] at q;cases q;exact d
abbrev aCc(oc:aw):HO:=.xV oc (.ext λ_=>True)
def LW(H:Hp)(q:ak)(ps:Array aj):Prop:=TriplesOk ps.toList /\
 ∀pos cv,codeAmong pos ps.toList=aa cv ->∃c oc vs t,cv=.ref c/\H c=aa (aCc oc)/\oc.data=.fields vs/\vs[1]?=aa (.str q t)
theorem LW.stay{H H':Hp}{q:ak}{ps:Array aj}(h:LW H q ps)(hf:∀b o u,H b=aa (.xV o u)->H' b=aa (.xV o u)):LW H' q ps :=
 ⟨h.1,λpos cv e=>let ⟨c,oc,vs,t,e1,e2,e3⟩:=h.2 pos cv e;⟨c,oc,vs,t,e1,hf _ _ _ e2,e3⟩⟩
section
variable(P:bf)(w:ba)
def c6(H:Hp)(h:bb)(a:ai):HO->Prop
 |.lst xs=>xs.length<=bg /\∃(its:Q0f) (n:Nat),Vals xs its/\h.get? a=aa {cls:=.type "list",data:=.seq its.toArray n}
 |.tup xs=>xs.length<=bg /\∃its:Q0f,Vals xs its/\g_ h a its.toArray/\EM h a
 |.dK kvs=>kvs.length<=bg/\(a == sysModules)=ag /\∃vs,KV kvs vs/\h.DictOf (aW P w) a vs
 |.dT kvs=>kvs.length<=bg/\(a == sysModules)=ag /\∃xs:List (List Key×ai×aj),
   gg (λ(p:List Key×V) (q:List Key×ai×aj)=>p.1=q.1/\H q.2.1=aa (.tup (p.1.map kV))/\RelV p.2 q.2.2) kvs xs /\
   ∃o es ep,h.get? a=aa o/\o.ExactDict/\o.data=.dict es ep/\es.toList=xs.map (entryOfKey (tupleKind (aW P w)))/\(xs.map (·.1)).Nodup
 |.dX o kvs=>kvs.length<=bg/\(a == sysModules)=ag/\h.get? a=aa o/\xX P w H o kvs
 |.set S n=>h.SetOf (intKind P w) a S n
 |.ins C dx fs=>H dx=aa (.own a)/\fs.length<=1000/\dx≠a/\h.get? a=aa (instObj C dx) /\
   ∃mA,h.Ns1 dx mA/\(∀f,mN (fs.lookup f) (mA f))/\a0P mA (fs.map (·.1))
 |.own _=>∃o,h.get? a=aa o
 |.xd fs=>∃mA,h.Ns1 a mA /\∀f,mN (fs.lookup f) (mA f)
 |.rng lo hi=>∃t u v,h.get? a=aa {cls:=.type "range",data:=.fields #[.int lo t,.int hi u,.int 1 v]}
 |.xV o u=>h.get? a=aa o/\c6 H h a u
 |.N9 q=>∃ps:Array aj,h.get? a=aa {cls:=.none,data:=.fields ps}/\LW H q ps
 |.met f x=>h.get? a=aa (methodObj (.ref f) (.ref x))
 |.ext φ=>φ h/\(∃o,h.get? a=aa o) /\∀h1 h2:bb,φ h1->(∀o,h1.get? a=aa o->h2.get? a=aa o)->φ h2
def oO(H:Hp)(h:bb):Prop:=∀a o,H a=aa o->c6 P w H h a o
end
section
variable{P:bf}{w:ba}{H H':Hp}{h h':bb}{a:ai}{o:HO}
theorem c6.lt(x:c6 P w H h a o):a<h.objs.size:=by
 cases o with
 |lst xs=>obtain⟨_,_,_,_,e⟩:=x;exact b_ e
 |tup xs=>obtain⟨_,_,_,p,_⟩:=x;exact p.lt
 |dK kvs=>obtain⟨_,_,_,_,o,_,_,e,_⟩:=x;exact b_ e
 |dT kvs=>obtain⟨_,_,_,_,o,_,_,e,_⟩:=x;exact b_ e
 |dX ob kvs=>obtain⟨_,_,e,_⟩:=x;exact b_ e
 |set S n=>obtain⟨o,_,_,_,e,_⟩:=x;exact b_ e
 |ins C dx fs=>obtain⟨_,_,_,e,_⟩:=x;exact b_ e
 |own y=>obtain⟨_,e⟩:=x;exact b_ e
 |xd fs=>obtain⟨_,⟨_,_,_,e,_⟩,_⟩:=x;exact b_ e
 |rng lo hi=>obtain⟨_,_,_,e⟩:=x;exact b_ e
 |xV ob u=>obtain⟨e,_⟩:=x;exact b_ e
 |N9 q=>obtain⟨ps,e,_⟩:=x;exact b_ e
 |met f y=>exact b_ (show h.get? a=aa _ from x)
 |ext φ=>obtain⟨_,⟨_,e⟩,_⟩:=x;exact b_ e
theorem Paired.xx{α β:Type}{F G:α->β->Prop}:∀{l₁:List α} {l₂:List β},gg F l₁ l₂->(∀a b,F a b->G a b)->gg G l₁ l₂
 |_,_,.nil,_=>.nil
 |_,_,.cons r t,f=>.cons (f _ _ r) (Paired.xx t f)
theorem c6.stay(x:c6 P w H h a o)(k:∀b u,(b=a\/H b=aa (.own a))->h.get? b=aa u->h'.get? b=aa u)
  (ho:∀b,H b=aa (.own a)->H' b=aa (.own a)) (ht:∀b xs,H b=aa (.tup xs)->H' b=aa (.tup xs)) (hf:∀b o u,H b=aa (.xV o u)->H' b=aa (.xV o u):=by exact λ_ _ _ q=>q):c6 P w H' h' a o:=by
 induction o with
 |lst xs=>obtain⟨z,its,n,r,e⟩:=x;exact⟨z,its,n,r,k _ _ (.inl rfl) e⟩
 |tup xs=>obtain⟨z,its,r,⟨ob,e,c⟩,nd⟩:=x;exact⟨z,its,r,⟨ob,k _ _ (.inl rfl) e,c⟩,nd.at e (k _ _ (.inl rfl) e)⟩
 |dK kvs=>obtain⟨z,y,vs,r,ob,es,ep,e,c⟩:=x;exact⟨z,y,vs,r,ob,es,ep,k _ _ (.inl rfl) e,c⟩
 |dT kvs =>
  obtain⟨z,y,xs,r,ob,es,ep,e,c⟩:=x;exact⟨z,y,xs,Paired.xx r λp q z=>⟨z.1,ht _ _ z.2.1,z.2.2⟩,ob,es,ep,k _ _ (.inl rfl) e,c⟩
 |dX ob kvs=>obtain⟨z,y,e,c⟩:=x;exact⟨z,y,k _ _ (.inl rfl) e,c.stay ht⟩
 |set S n=>obtain⟨ob,es,ep,t,e,c⟩:=x;exact⟨ob,es,ep,t,k _ _ (.inl rfl) e,c⟩
 |ins C dx fs =>
  obtain⟨d,z,ne,e,mA,⟨od,es,ep,e2,c⟩,r⟩:=x;exact⟨ho _ d,z,ne,k _ _ (.inl rfl) e,mA,⟨od,es,ep,k _ _ (.inr d) e2,c⟩,r⟩
 |own y=>obtain⟨ob,e⟩:=x;exact⟨ob,k _ _ (.inl rfl) e⟩
 |xd fs=>obtain⟨mA,⟨od,es,ep,e,c⟩,r⟩:=x;exact⟨mA,⟨od,es,ep,k _ _ (.inl rfl) e,c⟩,r⟩
 |rng lo hi=>obtain⟨t,u,v,e⟩:=x;exact⟨t,u,v,k _ _ (.inl rfl) e⟩
 |xV ob u ih=>obtain⟨e,q⟩:=x;exact⟨k _ _ (.inl rfl) e,ih q⟩
 |N9 q=>obtain⟨ps,e,r⟩:=x;exact⟨ps,k a _ (.inl rfl) e,r.stay hf⟩
 |met f y =>
  have e:h.get? a=aa (methodObj (.ref f) (.ref y)):=x;show h'.get? a=aa (methodObj (.ref f) (.ref y));exact k a _ (.inl rfl) e
 |ext φ=>obtain⟨p,⟨o,e⟩,st⟩:=x;exact⟨st _ _ p λo q=>k _ _ (.inl rfl) q,⟨o,k _ _ (.inl rfl) e⟩,st⟩
def oO.lt(x:oO P w H h)(e:H a=aa o):a<h.objs.size:=(x a o e).lt
theorem oO.fresh(x:oO P w H h)(e:h.objs.size<=a):H a=af:=by
 cases q:H a with
 |none=>rfl
 |some u=>exact Zw (gc (x.lt q) e) (ik _)
def oO.kept(x:oO P w H h)(k:∀b u,h.get? b=aa u->h'.get? b=aa u):oO P w H h':=λa o e =>
 (x a o e).stay (λb u _ q=>k b u q) (λ_ q=>q) λ_ _ q=>q
def oO.laid(x:oO P w H h)(k:∀b u,h.get? b=aa u->h'.get? b=aa u)(hp:h.objs.size<=a)(new:c6 P w (upd H a o) h' a o):oO P w (upd H a o) h':=λb u e=>by
 have hn:=x.fresh hp;by_cases hb:b=a
 .subst hb;rw[aQ] at e;cases e;exact new
 .rw [aV hb] at e;exact(x b u e).stay (λc v _ q=>k c v q) (λc q=>by rw[aV (bG q hn)];exact q) (λc xs q=>by rw[aV (bG q hn)];exact q) λc o u q=>by rw[aV (bG q hn)];exact q
end
def Rd(H:Hp)(a:ai)(u:HO):Prop:=H a=aa u \/∃o,H a=aa (.xV o u)
theorem Rd.ok{P:bf}{w:ba}{H:Hp}{h:bb}{a:ai}{u:HO}(r:Rd H a u)(x:oO P w H h):c6 P w H h a u:=by
 rcases r with r|⟨o,r⟩
 .exact x a u r
 .obtain ⟨_,q⟩:=x a _ r;exact q
def Mut:Option HO->Prop
 |some (.lst _)=>True
 |some (.dK _)=>True
 |some (.dT _)=>True
 |some (.dX _ _)=>True
 |some (.set _ _)=>True
 |some (.ins _ _ _)=>True
 |some (.ext _)=>True
 |_=>False
section
variable{P:bf}{w:ba}{H:Hp}{h h':bb}{x e:ai}{o':HO}
theorem oO.write(ok:oO P w H h)(mu:Mut (H x))(he:e=x\/H e=aa (.own x))(k:∀b u,b≠e->h.get? b=aa u->h'.get? b=aa u)(heo:∃u,h'.get? e=aa u)
  (new:c6 P w (upd H x o') h' x o'):oO P w (upd H x o') h':=λb u q=>by
 have Ca:∀c y,H c=aa (.own y)->c≠x:=λc y r z=>by subst z;rw[r] at mu;exact mu
 have Qq:∀c xs,H c=aa (.tup xs)->c≠x:=λc xs r z=>by subst z;rw[r] at mu;exact mu
 by_cases hb:b=x
 .subst hb;rw[aQ] at q;cases q;exact new
 .rw [aV hb] at q;by_cases hbe:b=e
  .have q':H b=aa (.own x):=by
    rcases he with z|z
    .exact Zw (hbe.trans z) hb
    .rw [hbe];exact z
   rw[q] at q';cases q';obtain⟨v,hv⟩:=heo;exact⟨v,by rw[hbe];exact hv⟩
  .refine (ok b u q).stay (λc v hc r=>k c v ?_ r) (λc r=>by rw[aV (Ca c b r)];exact r) (λc xs r=>by rw[aV (Qq c xs r)];exact r) λc o u r=>by rw[aV λz=>by subst z;rw[r] at mu;exact mu];exact r
   rcases hc with rfl|hc
   .exact hbe
   .rintro rfl;rcases he with z|z
    .exact Ca c b hc z
    .rw [hc] at z;cases z;exact hb rfl
end
structure Un (fs ex:List ai) (H H':Hp) (h h':bb):Prop where
 keep:∀b o,h.get? b=aa o->H b=af->b∉fs->b∉ex->h'.get? b=aa o
 slot:∀b o,h.get? b=aa o->H b=af->b∈fs->b∉ex ->∃sl,h'.get? b=aa {o with slots:=sl}
 free:∀b o,h.get? b=aa o->H b=af->b∉ex->H' b=af
 there:∀b o,h.get? b=aa o->b∉ex ->∃o',h'.get? b=aa o'
 tups:∀b xs,H b=aa (.tup xs)->H' b=aa (.tup xs)
 zN:∀b o u,H b=aa (.xV o u)->H' b=aa (.xV o u)
 xZ:∀b q,H b=aa (.N9 q)->H' b=aa (.N9 q)
section
variable{fs fs' ex ex':List ai}{H H1 H2:Hp}{h h1 h2 h':bb}{a x e:ai}{o:HO}
def Un.any(u:Un fs ex H H1 h h1){b:ai}{ob:aw}(q:h.get? b=aa ob)(n:H b=af)(hx:b∉ex):∃sl,h1.get? b=aa {ob with slots:=sl}:=by
 by_cases hb:b∈fs
 .exact u.slot b ob q n hb hx
 .exact ⟨ob.slots,u.keep b ob q n hb hx⟩
def Un.kept(k:∀b u,h.get? b=aa u->h'.get? b=aa u):Un fs ex H H h h' :=
 ⟨λb ob q _ _ _=>k b ob q,λb ob q _ _ _=>⟨ob.slots,k b ob q⟩,λ_ _ _ n _=>n,λb ob q _=>⟨ob,k b ob q⟩,λ_ _ q=>q,λ_ _ _ q=>q,λ_ ps q=>q⟩
def Un.refl:Un fs ex H H h h:=Un.kept λ_ _ q=>q
theorem Un.laid(k:∀b u,h.get? b=aa u->h'.get? b=aa u)(hp:h.objs.size<=a)(hn:H a=af):Un fs ex H (upd H a o) h h' where
 keep:=λb u q _ _ _=>k b u q
 slot:=λb u q _ _ _=>⟨u.slots,k b u q⟩
 free:=λb u q n _=>by rw[aV (fv (gc (b_ q) hp))];exact n
 there:=λb u q _=>⟨u,k b u q⟩
 tups:=λb xs q=>by rw[aV (bG q hn)];exact q
 zN:=λb u xs q=>by rw[aV (bG q hn)];exact q
 xZ:=λb ps q=>by rw[aV (bG q hn),q]
def Un.write(mu:Mut (H x))(he:e=x\/H e=aa (.own x))(k:∀b u,b≠e->h.get? b=aa u->h'.get? b=aa u)(heo:∃u,h'.get? e=aa u):Un fs ex H (upd H x o) h h':=by
 have hx:∀b,H b=af->b≠x:=λb n z=>by subst z;rw[n] at mu;exact mu
 have hb:∀b,H b=af->b≠e:=λb n z=>by
  subst z;rcases he with r|r
  .exact hx b n r
  .rw [n] at r;cases r
 have hm:∀b u,H b=aa u->¬ Mut (aa u)->b≠x:=λb u q nm z=>by subst z;rw[q] at mu;exact nm mu
 refine⟨λb u q n _ _=>k b u (hb b n) q,λb u q n _ _=>⟨u.slots,k b u (hb b n) q⟩,λb u q n _=>by rw[aV (hx b n)];exact n,λb u q _=>?_,
  λb xs q=>by rw[aV (hm b _ q λz=>z)];exact q,λb u xs q=>by rw[aV (hm b _ q λz=>z)];exact q,λb ps q=>by rw[aV (hm b _ q λz=>z),q]⟩
 by_cases hbe:b=e
 .subst hbe;exact heo
 .exact ⟨u,k b u hbe q⟩
end
def trk(h:bb)(H:Hp):List ai:=(bu h.objs.size).filter λa=>(H a).isSome
def zP(h:bb)(H:Hp):bb:=PySem.W.hideAll h (trk h H)
def OA(h:bb)(H:Hp):(zP h H).objs.size=h.objs.size:=PySem.W.hideAll_size _ _
def UA(e:h.get? b=aa o)(n:H b=af):(zP h H).get? b=aa o :=
 PySem.W.hideAll_get _ e λhm=>by have q:(H b).isSome=ae:=(cj.mp hm).2;rw[n] at q;simp at q
theorem ZV(e:(zP h H).get? b=aa o):h.get? b=aa o/\H b=af:=by
 have e':h.get? b=aa o:=PySem.W.of_hideAll (trk h H) e;refine⟨e',?_⟩
 cases q:H b with
 |none=>rfl
 |some x =>
  have hm:b∈trk h H:=cj.mpr ⟨dm.mpr (b_ e'),by simp[q]⟩;have z:(zP h H).get? b=af:=PySem.W.hideAll_none (trk h H) hm;rw[z] at e;cases e
structure Mod (K:aq) (mg:Q0d) (base:bb):Prop where
 kin:K.In base
 glob:base.Ns ig mg
 blt:∃mb,base.Ns builtinsNs mb /\∀x:ak,x ≠ "__name__"->mb x=bootBuiltins x
 nolimit:base.NoLimit
 bm:∃bm ob,mg "__builtins__"=aa (.ref bm)/\bm≠builtinsNs/\base.get? bm=aa ob/\ob.cls=.type "module" /\ob.dict=aa builtinsNs/\ob.data=.plain
def UB:List ak:=["going_of","count_of_chain","cut_paper","downsets","strictest_chains"]
def ZW(x:ak):ak:=x++".<locals>.<lambda>"
def eS(K:aq):List (ak×ai×ai):=UB.filterMap λx=>(Et K x).map λp=>(x,p.1,p.2)
def ZX(K:aq)(base:bb)(H:Hp):Prop:=∀t∈eS K,CodeHd base t.2.1 t.2.2/\H t.2.2=aa (.N9 (ZW t.1))
structure Cx where
 prog:bf
 w:ba
 K:aq
 mg:ak->Option aj
 base:bb
 A:bx
 N:List ak
 s₀:ao
 H₀:Hp
 env:fw
 outer:List fw
 stack:List fw
 ex:List ai
 fn:ak->Bool
 calm:Bool
 pn:List (ai×aw)
 xe:aj->ao->Prop
abbrev Zu(x:ak):Prop:=(x == ("__debug__":ak))=ag
abbrev Zt(x:ak):Prop:=(x == ("__classdict__":ak))=ag
abbrev Zs(X:Cx)(e:ar)(l:List ar):Prop:=au (e::l) X.env=(ag,eval e X.env)::au l X.env
abbrev Zq(X:Cx)(x:ak):Prop:=X.fn x=ae\/X.env.scope.names.lookup x=aa .local
abbrev Zp(X:Cx)(cpos:bh)(e:ar):Prop:=((d_ cpos (au [e] X.env)).all (λx=>!x.1)&&(backToKw cpos (ke [] X.env)).all (λx=>x.1.isSome) && Zv ([e].length+([]:List gd).length+(if([]:List gd).isEmpty then 0 else 1)<30))=ae
abbrev Zo(X:Cx)(i:ar):Prop:=∀x,foldedSetIterable i X.env x=pure x
abbrev Si(X:Cx)(e:ar)(x:ak)(p q:bh):Prop:=gb e (aa (.Name x p)) q.line X.env=pure ag
abbrev Rv(X:Cx)(elt tg iter:ar)(ifs:List ar)(sc:gf)(pos:bh)(x:ak)(pos' spos:bh):Prop:=gb (.ListComp elt [⟨tg,iter,ifs,0⟩] sc pos) (aa (.Name x pos')) spos.line X.env=pure ae
abbrev H0(X:Cx)(x y:ak)(px py:bh):Prop:=(e_ [.Name x px,.Name y py] X.env).map (·.2)=assign (.Name x px) X.env::(e_ [.Name y py] X.env).map (·.2)
abbrev gV(X:Cx)(y:ak)(py:bh):Prop:=(e_ [.Name y py] X.env).map (·.2)=assign (.Name y py) X.env::(e_ [] X.env).map (·.2)
abbrev Q0h(X:Cx)(x y:ak)(px py:bh):Prop:=(e_ [.Name x px,.Name y py] X.env).findIdx? (·.1)=af
abbrev Q0i(X:Cx)(x y:ak)(px py:bh):Prop:=(e_ [.Name x px,.Name y py] X.env).length=2
abbrev Q0j(p q:bh):Prop:=(p.endLine == q.line)=ae
abbrev Q0k(X:Cx)(p:bh)(l:List ar):Prop:=(d_ p (au l X.env)).any (·.1)=ag
def frs(l:List fw):List ai:=l.filterMap (·.frame)
abbrev Cx.fs(X:Cx):List ai:=frs X.outer
def C4(sc:gf)(x:ak):Prop:=sc.names.lookup x=aa .local\/sc.names.lookup x=aa .cell\/sc.names.lookup x=aa .free
def Loc(sc:gf)(x:ak):Prop:=sc.names.lookup x=aa .local\/sc.names.lookup x=aa .cell
def Look(env:fw)(h:bb)(m:Q0d)(x:ak)(u:aj):Prop :=
 (env.kindOf x=aa .local/\m x=aa u)\/((env.kindOf x=aa .cell\/env.kindOf x=aa .free) /\∃c,env.cells.lookup x=aa c/\h.IsCell c (aa u))
structure Cx.Ok (X:Cx):Prop where
 mod:Mod X.K X.mg X.base
 kind:X.env.scope.kind=.function
 glob:X.env.globals=ig
 blt:X.env.builtins=builtinsNs
 above:X.s₀.heap.objs.size<=X.env.locals
 inj:∀x y c,X.env.cells.lookup x=aa c->X.env.cells.lookup y=aa c->x=y
 has:∀x,(X.env.kindOf x=aa .cell\/X.env.kindOf x=aa .free) ->∃c,X.env.cells.lookup x=aa c
 cab:∀x c,X.fn x=ae->X.env.cells.lookup x=aa c->X.s₀.heap.objs.size<=c
 hd:X.calm=ae->X.A.handled=af
 frames:X.A.frames=aa X.stack
 stk:X.stack=X.outer\/(X.stack=X.env::X.outer/\X.env.frame=aa X.env.locals)
 exf:∀b∈X.ex,b≠X.env.locals /\∀x c,X.env.cells.lookup x=aa c->c≠b
 bs:∀b o,X.base.get? b=aa o->X.s₀.heap.get? b=aa o/\X.H₀ b=af
 ZY:X.base.objs.size<=X.s₀.heap.objs.size
 UC:∀b o,X.base.get? b=aa o->b∉X.ex
 ZZ:∀b∈X.ex,b∉X.fs
 x5:X.s₀.heap.FunFrames X.base X.outer
 frf:∀b∈X.fs,X.H₀ b=af
 tab:ZX X.K X.base X.H₀
structure Inv (X:Cx) (pins:Q0b) (σ:List (Option V)) (H:Hp) (s:ao):Prop where
 ok:X.Ok
 os:s.os=X.s₀.os
 bare:mr s.gens
 base:Un X.fs X.ex X.H₀ H X.s₀.heap s.heap
 loc:∃m,s.heap.Ns X.env.locals m /\∀(i:Nat) (x:ak) (v:V),X.N[i]?=aa x->σ[i]?=aa (aa v)->C4 X.env.scope x ->∃u,RelV v u/\Look X.env s.heap m x u
 cell:∀x c,X.env.cells.lookup x=aa c ->∃v,s.heap.IsCell c v
 free:H X.env.locals=af
 mP:∀x c,X.env.cells.lookup x=aa c->H c=af
 pin:∀p∈X.pn++pins,s.heap.get? p.1=aa p.2/\H p.1=af/\p.1≠X.env.locals/\p.1∉X.fs /\∀v,p.2.data≠.cell v
 hok:oO X.prog X.w H s.heap
 len:σ.length=X.N.length
section
variable{X:Cx}{pins:Q0b}{σ:List (Option V)}{H H':Hp}{s:ao}{h':bb}
def Cx.Ok.Qp(ok:X.Ok)(e:X.base.get? b=aa o):b∉X.fs:=λhb=>by have:=(ok.x5.mem hb).1;rw[e] at this;cases this
def Inv.bs(I:Inv X pins σ H s):∀b o,X.base.get? b=aa o->s.heap.get? b=aa o/\H b=af:=λb o e =>
 ⟨I.base.keep b o (I.ok.bs b o e).1 (I.ok.bs b o e).2 (I.ok.Qp e) (I.ok.UC b o e),I.base.free b o (I.ok.bs b o e).1 (I.ok.bs b o e).2 (I.ok.UC b o e)⟩
def Inv.bk(I:Inv X pins σ H s):∀b o,X.base.get? b=aa o->s.heap.get? b=aa o:=λb o e=>(I.bs b o e).1
def Inv.mod(I:Inv X pins σ H s):Mod X.K X.mg X.base:=I.ok.mod
def Inv.tab(I:Inv X pins σ H s):ZX X.K X.base H:=λt ht=>⟨(I.ok.tab t ht).1,I.base.xZ _ _ (I.ok.tab t ht).2⟩
def Inv.C5(I:Inv X pins σ H s):X.K.In s.heap:=I.ok.mod.kin.keeps I.bk
def Inv.fr(I:Inv X pins σ H s):∃m,Fr X.base X.env.locals s.heap m :=
 let ⟨m,hn,_⟩:=I.loc
 ⟨m,hn,I.bk,ie I.ok.ZY I.ok.above⟩
def Inv.lt(I:Inv X pins σ H s):X.env.locals<s.heap.objs.size:=let ⟨_,hn,_⟩:=I.loc;hn.lt
def Inv.sz(I:Inv X pins σ H s):X.s₀.heap.objs.size<=s.heap.objs.size:=ie I.ok.above (ko I.lt)
def Inv.Qo(I:Inv X pins σ H s)(h:s.heap.objs.size<=a):a∉X.fs:=λhb=>by obtain⟨_,o,ho,_⟩:=I.ok.x5.mem hb;exact Zw (gc (b_ ho) (ie I.sz h)) (ik _)
def Inv.cne(I:Inv X pins σ H s):∀x c,X.env.cells.lookup x=aa c->c≠X.env.locals:=λx c e z=>by obtain⟨v,o,ho,hd⟩:=I.cell x c e;obtain⟨m,⟨o',es,ep,ho',hd',_⟩,_⟩:=I.loc;rw[z,ho'] at ho;cases ho;rw[hd'] at hd;cases hd
def Inv.x5(I:Inv X pins σ H s):s.heap.FunFrames X.base X.outer:=by
 have all:∀(l:List fw),(∀b∈frs l,b∈X.fs)->X.s₀.heap.FunFrames X.base l->s.heap.FunFrames X.base l:=by
  intro l
  induction l with
  |nil=>intro _ _;trivial
  |cons env r ih =>
   intro hs hl;obtain⟨hk,⟨L,o,hf,hn,ho,hd⟩,hr⟩:=hl;have hL:L∈X.fs:=hs L (by unfold frs;rw[qh,hf];exact cn);obtain⟨sl,e⟩:=I.base.slot L o ho (I.ok.frf L hL) hL λz=>I.ok.ZZ L z hL;exact⟨hk,⟨L,_,hf,hn,e,hd⟩,ih (λb hb=>hs b (by unfold frs;rw[qh,hf];exact dq _ hb)) hr⟩
 exact all X.outer (λ_ hb=>hb) I.ok.x5
def Inv.stack(I:Inv X pins σ H s):s.heap.FunFrames X.base X.stack:=by
 rcases I.ok.stk with e|⟨e,hf⟩
 .rw [e];exact I.x5
 .rw [e];obtain⟨m,hn,_⟩:=I.loc;refine .cons (by rw[I.ok.kind];decide) hf hn ?_ I.x5;exact Heap.get?_none_of_le (ie I.ok.ZY I.ok.above)
def Inv.x6(I:Inv X pins σ H s):∀b∈frs X.stack,b∈X.env.locals::X.fs:=λb hb=>by
 rcases I.ok.stk with e|⟨e,hf⟩
 .rw [e] at hb;exact dq _ hb
 .rw [e] at hb;unfold frs at hb;rw[qh,hf] at hb;exact hb
def Inv.LX(I:Inv X pins σ H s):∀b∈frs X.stack,H b=af:=λb hb=>by
 rcases cb.mp (I.x6 b hb) with e|hb
 .rw [e];exact I.free
 .obtain ⟨_,o,ho,_⟩:=I.ok.x5.mem hb;exact I.base.free b o ho (I.ok.frf b hb) λz=>I.ok.ZZ b z hb
theorem Inv.step{g':Array GenState}{t':Nat}{d':Drawn}{ch:List ai}(I:Inv X pins σ H s)
  (hch:∀b∈ch,(b∈X.ex\/X.s₀.heap.objs.size<=b)/\b≠X.env.locals/\(∀x c,X.env.cells.lookup x=aa c->c≠b) /\∀p∈X.pn++pins,p.1≠b)
  (keep:∀b o,b≠X.env.locals->b∉X.fs->b∉ch->s.heap.get? b=aa o->H b=af->h'.get? b=aa o)
  (slot:∀b o,b≠X.env.locals->b∈X.fs->b∉ch->s.heap.get? b=aa o->H b=af ->∃sl,h'.get? b=aa {o with slots:=sl}) (free:∀b o,b∉ch->s.heap.get? b=aa o->H b=af->H' b=af)
  (there:∀b o,b∉ch->s.heap.get? b=aa o ->∃o',h'.get? b=aa o')
  (tups:∀b xs,H b=aa (.tup xs)->H' b=aa (.tup xs)) (zN:∀b o u,H b=aa (.xV o u)->H' b=aa (.xV o u)) (xZ:∀b q,H b=aa (.N9 q)->H' b=aa (.N9 q))
  (ns:∀m,s.heap.Ns X.env.locals m->h'.Ns X.env.locals m) (hok:oO X.prog X.w H' h') (hg:mr g'):
  Inv X pins σ H' {s with heap:=h',gens:=g',drawn:=d',toks:=t' }:=by
 have neL:∀b o,X.s₀.heap.get? b=aa o->b≠X.env.locals:=λb o e=>fv (gc (b_ e) I.ok.above);have neC:∀b o,X.s₀.heap.get? b=aa o->b∉X.ex->b∉ch:=λb o e hx hb=>by
  rcases(hch b hb).1 with z|z
  .exact hx z
  .exact Zw (gc (b_ e) z) (ik _)
 have cellK:∀x c,X.env.cells.lookup x=aa c ->∀v,s.heap.IsCell c v->h'.IsCell c v:=λx c e v hq0=>by
  obtain⟨o,ho,hd⟩:=hq0;have nch:c∉ch:=λz=>(hch c z).2.2.1 x c e rfl;by_cases hc:c∈X.fs
  .obtain ⟨sl,q⟩:=slot c o (I.cne x c e) hc nch ho (I.mP x c e);exact⟨_,q,hd⟩
  .exact ⟨o,keep c o (I.cne x c e) hc nch ho (I.mP x c e),hd⟩
 refine⟨I.ok,I.os,hg,⟨λb o e n hb hx=>?_,λb o e n hb hx=>?_,λb o e n hx=>?_,λb o e hx=>?_,λb xs e=>tups b xs (I.base.tups b xs e),λb o xs e=>zN b o xs (I.base.zN b o xs e),λb ps e=>xZ b ps (I.base.xZ b ps e)⟩,?_,λx c e=>?_,?_,λx c e=>?_,λp hp=>?_,hok,I.len⟩
 .exact keep b o (neL b o e) hb (neC b o e hx) (I.base.keep b o e n hb hx) (I.base.free b o e n hx)
 .obtain ⟨sl,e1⟩:=I.base.slot b o e n hb hx;obtain⟨sl',e2⟩:=slot b _ (neL b o e) hb (neC b o e hx) e1 (I.base.free b o e n hx);exact⟨sl',e2⟩
 .obtain ⟨o',e1⟩:=I.base.there b o e hx;exact free b o' (neC b o e hx) e1 (I.base.free b o e n hx)
 .obtain ⟨o',e1⟩:=I.base.there b o e hx;exact there b o' (neC b o e hx) e1
 .obtain ⟨m,hn,hl⟩:=I.loc;refine⟨m,ns m hn,λi x v e1 e2 e3=>?_⟩;obtain⟨u,r,l⟩:=hl i x v e1 e2 e3;refine⟨u,r,?_⟩;rcases l with l|⟨k,c,e,z⟩
  .exact .inl l
  .exact .inr ⟨k,c,e,cellK x c e _ z⟩
 .obtain ⟨v,z⟩:=I.cell x c e;exact⟨v,cellK x c e v z⟩
 .obtain ⟨m,⟨o,_,_,ho,_⟩,_⟩:=I.loc;exact free _ o (λz=>(hch _ z).2.1 rfl) ho I.free
 .obtain ⟨v,o,ho,hd⟩:=I.cell x c e;exact free c o (λz=>(hch c z).2.2.1 x c e rfl) ho (I.mP x c e)
 .obtain ⟨e,n,ne,nf,d⟩:=I.pin p hp;have nch:p.1∉ch:=λz=>(hch p.1 z).2.2.2 p hp rfl;exact⟨keep p.1 p.2 ne nf nch e n,free p.1 p.2 nch e n,ne,nf,d⟩
def Inv.un{t':Nat}(I:Inv X pins σ H s)(u:Un X.fs [] H H' s.heap h')(hok:oO X.prog X.w H' h'):Inv X pins σ H' {s with heap:=h',toks:=t' }:=by
 obtain⟨m,⟨o,es,ep,ho,r⟩,_⟩:=id I.loc;obtain⟨sl,hL⟩:=u.any ho I.free (by simp);exact I.step (g':=s.gens) (d':=s.drawn) (ch:=[]) (λ_ z=>nomatch z) (λb o _ hb _ e n=>u.keep b o e n hb (by simp)) (λb o _ hb _ e n=>u.slot b o e n hb (by simp)) (λb o _ e n=>u.free b o e n (by simp)) (λb o _ e=>u.there b o e (by simp)) u.tups u.zN u.xZ (λm' hm=>by obtain⟨o',es',ep',ho',r'⟩:=hm;rw[ho] at ho';cases ho';exact⟨_,es',ep',hL,r'⟩) hok I.bare
theorem Inv.call{g':Array GenState}{t':Nat}{d':Drawn}{ch:List ai}(I:Inv X pins σ H s)(u:Un (frs X.stack) ch H H' s.heap h')(hok:oO X.prog X.w H' h')(hg:mr g')
  (hch:∀b∈ch,(b∈X.ex\/X.s₀.heap.objs.size<=b)/\b≠X.env.locals/\(∀x c,X.env.cells.lookup x=aa c->c≠b) /\∀p∈X.pn++pins,p.1≠b):
  Inv X pins σ H' {s with heap:=h',gens:=g',drawn:=d',toks:=t' }:=by
 obtain⟨m,⟨o,es,ep,ho,r⟩,_⟩:=id I.loc;obtain⟨sl,hL⟩:=u.any ho I.free λz=>(hch _ z).2.1 rfl;exact I.step (ch:=ch) hch (λb o hL hb hc e n=>u.keep b o e n (λz=>(cb.mp (I.x6 b z)).elim hL hb) hc) (λb o _ _ hc e n=>u.any e n hc) (λb o hc e n=>u.free b o e n hc) (λb o hc e=>u.there b o e hc) u.tups u.zN u.xZ (λm' hm=>by obtain⟨o',es',ep',ho',r'⟩:=hm;rw[ho] at ho';cases ho';exact⟨_,es',ep',hL,r'⟩) hok hg
theorem Inv.turned{t':Nat}{it:ai}(I:Inv X pins σ H s)(k:∀b o,b≠it->s.heap.get? b=aa o->h'.get? b=aa o)(hn:H it=af)(hL:it≠X.env.locals)
  (h1:it∈X.ex\/X.s₀.heap.objs.size<=it) (h2:∀x c,X.env.cells.lookup x=aa c->c≠it) (h3:∀p∈X.pn++pins,p.1≠it):Inv X pins σ H {s with heap:=h',toks:=t' }:=by
 have nit:∀b u,H b=aa u->b≠it:=λb u e z=>by rw[z,hn] at e;cases e
 refine I.step (g':=s.gens) (d':=s.drawn) (ch:=[it]) (λb hb=>?_) (λb o _ _ hc e _=>k b o (λz=>hc (by simp[z])) e) (λb o _ _ hc e _=>⟨o.slots,k b o (λz=>hc (by simp[z])) e⟩) (λ_ _ _ _ n=>n)
  (λb o hc e=>⟨o,k b o (λz=>hc (by simp[z])) e⟩) (λ_ _ e=>e) (λ_ _ _ e=>e) (λb ps e=>e) (λm hm=>?_) (λb u e=>?_) I.bare
 .have e:b=it:=by simpa using hb
  subst e;exact⟨h1,hL,h2,h3⟩
 .obtain ⟨o,es,ep,ho,r⟩:=hm;exact⟨o,es,ep,k _ o (dj hL) ho,r⟩
 .refine (I.hok b u e).stay (λc v hc q=>k c v ?_ q) (λ_ q=>q) λ_ _ q=>q;rcases hc with z|z
  .rw [z];exact nit b u e
  .exact nit c _ z
def Inv.tok(I:Inv X pins σ H s)(t:Nat):Inv X pins σ H {s with toks:=t}:=I.un (h':=s.heap) (t':=t) Un.refl I.hok
def Inv.kept(I:Inv X pins σ H s)(k:∀b u,s.heap.get? b=aa u->h'.get? b=aa u):Inv X pins σ H {s with heap:=h',toks:=t' }:=I.un (Un.kept k) (I.hok.kept k)
theorem Inv.laid{a:ai}{o:HO}{t':Nat}(I:Inv X pins σ H s)(k:∀b u,s.heap.get? b=aa u->h'.get? b=aa u)(hp:s.heap.objs.size<=a)(new:c6 X.prog X.w (upd H a o) h' a o):
  Inv X pins σ (upd H a o) {s with heap:=h',toks:=t' }:=I.un (Un.laid k hp (I.hok.fresh hp)) (I.hok.laid k hp new)
theorem Inv.write(I:Inv X pins σ H s)(mu:Mut (H x))(he:e=x\/H e=aa (.own x))(k:∀b u,b≠e->s.heap.get? b=aa u->h'.get? b=aa u)(heo:∃u,h'.get? e=aa u)
  (new:c6 X.prog X.w (upd H x o) h' x o):Inv X pins σ (upd H x o) {s with heap:=h',toks:=t' }:=I.un (Un.write mu he k heo) (I.hok.write mu he k heo new)
def Inv.weak(I:Inv X pins σ H s)(hl:σ'.length=σ.length)(w:∀(i:Nat) v,σ'[i]?=aa (aa v)->σ[i]?=aa (aa v)):Inv X pins σ' H s :=
 ⟨I.ok,I.os,I.bare,I.base,let ⟨m,hn,hl'⟩:=I.loc;⟨m,hn,λi x v e1 e2 e3=>hl' i x v e1 (w i v e2) e3⟩,I.cell,I.free,I.mP,I.pin,I.hok,hl.trans I.len⟩
def Inv.LY(I:Inv X pins σ H s)(h:∀p∈UD,s.heap.get? p.1=aa p.2/\H p.1=af/\p.1≠X.env.locals/\p.1∉X.fs /\∀v,p.2.data≠.cell v):Inv X UD σ H s :=
 ⟨I.ok,I.os,I.bare,I.base,I.loc,I.cell,I.free,I.mP,λp hp=>(h_.mp hp).elim (λz=>I.pin p (md _ z)) (h p),I.hok,I.len⟩
def F6{N:Q0g}(hN:N.Nodup){i j:Nat}{x:ak}(a:N[i]?=aa x)(b:N[j]?=aa x):i=j:=by obtain⟨h1,e1⟩:=cq.mp a;obtain⟨h2,e2⟩:=cq.mp b;exact(zr hN).mp (e1.trans e2.symm)
theorem A9{M:Model}{A:bx}{E:Q0c}{i:Nat}{x:ak}{v:V}{u:aj}{Q:Unit->ao->Prop}(I:Inv X pins σ H s)(hN:X.N.Nodup)(hi:X.N[i]?=aa x)(hx:Loc X.env.scope x)(r:RelV v u)
  (h:∀s',Inv X pins (σ.set i (aa v)) H s'->(∃a,nz a s.heap s'.heap/\(a=X.env.locals\/X.env.cells.lookup x=aa a))->Q () s') (hf:Zq X x:=by first|exact .inl rfl|exact .inr rfl|assumption):ax M A (storeName X.env x u) Q E s:=by
 obtain⟨m,hn,hl⟩:=id I.loc;have hcls:(X.env.scope.kind == .class||(X.env.scope.kind == .module&&X.env.locals !=X.env.globals))=ag:=by rw[I.ok.kind];rfl
 have hiσ:i<σ.length:=by rw[I.len];exact(cq.mp hi).1
 have cne:=I.cne;have tracked:∀{a:ai} {h':bb},(∃o,s.heap.get? a=aa o/\H a=af)->nz a s.heap h'->oO X.prog X.w H h':=λ{a h'} ha hs b ob e=>by
  obtain⟨_,_,hfree⟩:=ha;refine(I.hok b ob e).stay (λc w' hc q=>(hs.2 c ?_).trans q) (λ_ q=>q) λ_ _ q=>q;rintro rfl;rcases hc with rfl|hc
  .rw [hfree] at e;cases e
  .rw [hfree] at hc;cases hc
 rcases hx with hk|hk
 .refine wpAny_storeName_local hk hn (λh' hn' hs=>?_) hcls;obtain⟨oL,_,_,hoL,_⟩:=id hn;refine h _ ⟨I.ok,I.os,I.bare,⟨λb o e n hb hx=>?_,λb o e n hb hx=>?_,I.base.free,λb o e hx=>?_,I.base.tups,I.base.zN,I.base.xZ⟩,⟨_,hn',λj y v' e1 e2 e3=>?_⟩,λy c e=>?_,I.free,I.mP,λp hp=>?_,tracked ⟨oL,hoL,I.free⟩ hs,by simpa using I.len⟩ ⟨_,hs,.inl rfl⟩
  .exact (hs.2 b (fv (gc (b_ e) I.ok.above))).trans (I.base.keep b o e n hb hx)
  .obtain ⟨sl,e1⟩:=I.base.slot b o e n hb hx;exact⟨sl,(hs.2 b (fv (gc (b_ e) I.ok.above))).trans e1⟩
  .obtain ⟨o',e1⟩:=I.base.there b o e hx;exact⟨o',(hs.2 b (fv (gc (b_ e) I.ok.above))).trans e1⟩
  .by_cases hj:j=i
   .subst hj;rw[hi] at e1;cases e1;rw[oj hiσ] at e2;cases e2;exact⟨u,r,.inl ⟨hk,by simp⟩⟩
   .rw [kc (dj hj)] at e2;obtain⟨u',r',q⟩:=hl j y v' e1 e2 e3;refine⟨u',r',?_⟩;rcases q with⟨k,e⟩|⟨k,c,e,z⟩
    .refine .inl ⟨k,?_⟩;have:y≠x:=λe=>hj (F6 hN e1 (e▸hi));simp[this,e]
    .exact .inr ⟨k,c,e,z.sameBut hs (cne y c e)⟩
  .obtain ⟨w',z⟩:=I.cell y c e;exact⟨w',z.sameBut hs (cne y c e)⟩
  .obtain ⟨e,n,ne,nf,d⟩:=I.pin p hp;exact⟨(hs.2 p.1 ne).trans e,n,ne,nf,d⟩
 .have hfn:X.fn x=ae:=by
   rcases hf with z|z
   .exact z
   .rw [z] at hk;cases hk
  obtain⟨c,hc⟩:=I.ok.has x (.inl hk);obtain⟨w',z⟩:=I.cell x c hc;refine wpAny_storeName_cell I.ok.kind hk hc z (λh' hc' hs=>?_);obtain⟨oc,hoc,Qn⟩:=id z;refine h {s with heap:=h' } ⟨I.ok,I.os,I.bare,⟨λb o e n hb hx=>?_,λb o e n hb hx=>?_,I.base.free,λb o e hx=>?_,I.base.tups,I.base.zN,I.base.xZ⟩,⟨m,hn.sameBut hs (dj (cne x c hc)),λj y v' e1 e2 e3=>?_⟩,λy c' e=>?_,I.free,I.mP,λp hp=>?_,tracked ⟨oc,hoc,I.mP x c hc⟩ hs,by simpa using I.len⟩ ⟨c,hs,.inr hc⟩
  .exact (hs.2 b (fv (gc (b_ e) (I.ok.cab x c hfn hc)))).trans (I.base.keep b o e n hb hx)
  .obtain ⟨sl,e1⟩:=I.base.slot b o e n hb hx;exact⟨sl,(hs.2 b (fv (gc (b_ e) (I.ok.cab x c hfn hc)))).trans e1⟩
  .obtain ⟨o',e1⟩:=I.base.there b o e hx;exact⟨o',(hs.2 b (fv (gc (b_ e) (I.ok.cab x c hfn hc)))).trans e1⟩
  .by_cases hj:j=i
   .subst hj;rw[hi] at e1;cases e1;rw[oj hiσ] at e2;cases e2;exact⟨u,r,.inr ⟨.inl hk,c,hc,hc'⟩⟩
   .rw [kc (dj hj)] at e2;obtain⟨u',r',q⟩:=hl j y v' e1 e2 e3;refine⟨u',r',?_⟩;rcases q with q|⟨k,c',e,z'⟩
    .exact .inl q
    .refine .inr ⟨k,c',e,z'.sameBut hs ?_⟩;rintro rfl;exact hj (F6 hN e1 (I.ok.inj _ _ _ e hc▸hi))
  .by_cases hcc:c'=c
   .subst hcc;exact⟨_,hc'⟩
   .obtain ⟨w2,z2⟩:=I.cell y c' e;exact⟨w2,z2.sameBut hs hcc⟩
  .obtain ⟨e,n,ne,nf,d⟩:=I.pin p hp;refine⟨(hs.2 p.1 ?_).trans e,n,ne,nf,d⟩;intro q;rw[q,hoc] at e;have q':oc=p.2:=dg e;exact d w' (by rw[<- q'];exact Qn)
theorem F7(I:Inv X pins σ H s)(hN:X.N.Nodup)(hi:X.N[i]?=aa x)(hx:Loc X.env.scope x)(r:RelV v u)
  (h:∀s',Inv X pins (σ.set i (aa v)) H s'->Q () s') (hf:Zq X x:=by first|exact .inl rfl|exact .inr rfl|assumption):ax M A (storeName X.env x u) Q E s :=
 A9 I hN hi hx r (λs' I' _=>h s' I') hf
theorem Inv.call'(I:Inv X pins σ H s)(ho:s'.os=s.os)(u:Un (frs X.stack) ch H H' s.heap s'.heap)(hok:oO X.prog X.w H' s'.heap)(hg:mr s'.gens)
  (hch:∀b∈ch,(b∈X.ex\/X.s₀.heap.objs.size<=b)/\b≠X.env.locals/\(∀x c,X.env.cells.lookup x=aa c->c≠b) /\∀p∈X.pn++pins,p.1≠b):Inv X pins σ H' s':=by
 obtain⟨h',g',d',t',o'⟩:=s';have e:o'=s.os:=ho;subst e;exact I.call (g':=g') (t':=t') (d':=d') u hok hg hch
end
abbrev XK:=aj->Option ai->Hp->Prop
abbrev St:=List (Option V)
abbrev VK:=V->Hp->Prop
abbrev TE:=St->Hp->VK->Prop
abbrev TT:=St->Hp->(Bool->Hp->Prop)->Prop
abbrev TA:=St->Hp->(List V->Hp->Prop)->Prop
structure Ends where
 nx:St->Hp->Prop
 rt:VK
 bk:St->Hp->Prop:=λ_ _=>False
 ct:St->Hp->Prop:=λ_ _=>False
abbrev TS:=Ends->St->Hp->Prop
def EP(X:Cx)(pins:Q0b)(σ:St)(Q:VK)(u:aj)(s':ao):Prop:=∃v H',Inv X pins σ H' s'/\RelV v u/\Q v H'
def TP(X:Cx)(pins:Q0b)(σ:St)(Q:Bool->Hp->Prop)(b:Bool)(s':ao):Prop:=∃H',Inv X pins σ H' s'/\Q b H'
def AP(X:Cx)(pins:Q0b)(σ:St)(Q:List V->Hp->Prop)(us:Q0f)(s':ao):Prop:=∃vs H',Inv X pins σ H' s'/\Vals vs us/\Q vs H'
def SP(X:Cx)(pins:Q0b)(D:Ends)(f:Flow)(s':ao):Prop :=
 match f with
 |.next=>∃σ' H',Inv X pins σ' H' s'/\D.nx σ' H'
 |.brk=>∃σ' H',Inv X pins σ' H' s'/\D.bk σ' H'
 |.cont=>∃σ' H',Inv X pins σ' H' s'/\D.ct σ' H'
 |.ret u=>∃v σ' H',Inv X pins σ' H' s'/\RelV v u/\D.rt v H'
def PE(X:Cx)(e:ar)(t:TE):Prop :=
 ∀(pins:Q0b) (s:ao) (σ:St) (H:Hp) (Q:VK),Inv X pins σ H s->t σ H Q->ax (ay X.prog X.w) X.A (eval e X.env) (EP X pins σ Q) X.xe s
def PT(X:Cx)(e:ar)(t:TT):Prop :=
 ∀(pins:Q0b) (s:ao) (σ:St) (H:Hp) (Q:Bool->Hp->Prop),Inv X pins σ H s->t σ H Q->ax (ay X.prog X.w) X.A (isTrue e X.env (eval e X.env)) (TP X pins σ Q) X.xe s
def PW(X:Cx)(e:ar)(t:TT):Prop :=
 ∀(whole:Sem aj) (pins:Q0b) (s:ao) (σ:St) (H:Hp) (Q:Bool->Hp->Prop),Inv X pins σ H s->t σ H Q->ax (ay X.prog X.w) X.A (isTrue e X.env whole) (TP X pins σ Q) X.xe s
def PW.pt(h:PW X e t):PT X e t:=h _
def PA(X:Cx)(es:List ar)(t:TA):Prop :=
 ∀(pos:bh) (pins:Q0b) (s:ao) (σ:St) (H:Hp) (Q:List V->Hp->Prop),Inv X pins σ H s->t σ H Q->ax (ay X.prog X.w) X.A (spliced (d_ pos (au es X.env))) (AP X pins σ Q) X.xe s
def PS(X:Cx)(st:df)(t:TS):Prop :=
 ∀(pins:Q0b) (s:ao) (σ:St) (H:Hp) (D:Ends),Inv X pins σ H s->t D σ H->ax (ay X.prog X.w) X.A (exec st X.env) (SP X pins D) X.xe s
def zQ(X:Cx)(st:List df)(t:TS):Prop :=
 ∀(pins:Q0b) (s:ao) (σ:St) (H:Hp) (D:Ends),Inv X pins σ H s->t D σ H->ax (ay X.prog X.w) X.A (execs st X.env) (SP X pins D) X.xe s
def d8{α:Type}{t:Sem α}{Q Q':α->ao->Prop}{M:Model}{A:bx}{E:Q0c}{s:ao}(h:ax M A t Q E s)(hQ:∀a s,Q a s->Q' a s):ax M A t Q' E s:=nk h hQ λ_ _ x=>x
section
variable{X:Cx}
def Z0(i:Nat):TE:=λσ H Q=>∃v,σ[i]?=aa (aa v)/\Q v H
def tC(v:V):TE:=λ_ H Q=>Q v H
def pM(hN:X.N[i]?=aa x)(hv:C4 X.env.scope x)(hd:Zu x:=by decide)(hcd:Zt x:=by decide):PE X (.Name x pos) (Z0 i):=by
 intro pins s σ H Q I h;obtain⟨v,e,h⟩:=h;obtain⟨m,hn,hl⟩:=I.loc;obtain⟨u,r,l⟩:=hl i x v hN e hv;have fin:EP X pins σ Q u s:=⟨v,H,I,r,h⟩;rcases l with⟨hk,hm⟩|⟨hk,c,hc,hcell⟩
 .exact Ei (wpAny_loadName_local I.ok.kind hk hn hm fin) hd
 .rcases hk with hk|hk
  .exact Ei (wpAny_loadName_cell I.ok.kind hk hc hcell fin) hd
  .exact Ei (wpAny_loadName_free I.ok.kind hk hc hcell fin hcd) hd
def aCf{i j pos}:PE X (.Constant (.int i) j pos) (tC (.int i)):=λ_ _ _ H _ I h=>wpAny_Constant_int ⟨.int i,H,I.tok _,⟨_,rfl⟩,h⟩
def Vw{b j pos}:PE X (.Constant (.bool b) j pos) (tC (.bl b)):=λ_ _ _ H _ I h=>Constant_bool ⟨.bl b,H,I,rfl,h⟩
def Zn{j pos}:PE X (.Constant .none j pos) (tC .non):=λ_ _ _ H _ I h=>Constant_none ⟨.non,H,I,rfl,h⟩
def Zm{x j pos}:PE X (.Constant (.str x) j pos) (tC (.str x)):=λ_ _ _ H _ I h=>Calls.Constant_str ⟨.str x,H,I.tok _,⟨_,rfl⟩,h⟩
def Gl(X:Cx)(x:ak):Prop:=X.env.kindOf x=aa .globalImplicit
theorem Z1(I:Inv X pins σ H s)(hg:Gl X x)(hm:X.mg x=aa u)(h:Q u s)
  (hd:Zu x:=by decide):ax (ay X.prog X.w) X.A (eval (.Name x pos) X.env) Q E s :=
 a1M I.ok.kind hg (Calls.loadGlobal_global (by rw[I.ok.glob];exact I.mod.glob.keeps I.bk) hm h) hd
theorem mQ(I:Inv X pins σ H s)(hg:Gl X x)(hm:X.mg x=af)(hv:bootBuiltins x=aa u)(h:Q u s)
  (hn:x ≠ "__name__":=by decide) (hd:Zu x:=by decide):ax (ay X.prog X.w) X.A (eval (.Name x pos) X.env) Q E s:=by
 obtain⟨mb,h1,h2⟩:=I.mod.blt;exact a1M I.ok.kind hg (Calls.loadGlobal_builtin (by rw[I.ok.glob];exact I.mod.glob.keeps I.bk) hm (by rw[I.ok.blt];exact h1.keeps I.bk) ((h2 x hn).trans hv) h) hd
def Z2(hg:Gl X x)(hm:X.mg x=af)(hv:bootBuiltins x=aa u)(r:RelV v u)(hn:x ≠ "__name__":=by decide)(hd:Zu x:=by decide):PE X (.Name x pos) (tC v) :=
 λ_ _ _ H _ I h=>mQ I hg hm hv ⟨v,H,I,r,h⟩ hn hd
variable{a b:ar}{ta tb:TE}{pos:bh}
def PC(X:Cx)(op:CmpOp)(a b:ar)(t:TE):Prop :=
 ∀(pins:Q0b) (s:ao) (σ:St) (H:Hp) (Q:VK),Inv X pins σ H s->t σ H Q ->
  ax (ay X.prog X.w) X.A (eval a X.env) (λv s₁=>ax (ay X.prog X.w) X.A (eval b X.env) (λu s₂=>ax (ay X.prog X.w) X.A (compareOp op v u) (EP X pins σ Q) X.xe s₂) X.xe s₁) X.xe s
def tB(t:TE):TT:=λσ H Q=>t σ H λx H1=>∃c,x=.bl c/\Q c H1
def Zl{op:CmpOp}{t:TE}(h:PC X op a b t)(h1:behindInMarks op b=ag:=by first|exact aFC _ (by decide) (by decide)|rfl):PT X (.Compare a [op] [b] pos) (tB t):=by intro pins s σ H Q I hw;refine a0n (d8 (h pins s σ H _ I hw) λv s1 h1=>d8 h1 λu s2 h2=>d8 h2 λc s3 ⟨x,H1,I1,r1,q1⟩=>?_) h1;obtain⟨d,rfl,q⟩:=q1;cases r1;exact mn ⟨H1,I1,q⟩
variable{tA tB':TT}{rest:List ar}
def lV(t u:TT):TT:=λσ H Q=>t σ H λc H1=>if c=ae then u σ H1 Q else Q ag H1
def z8(t u:TT):TT:=λσ H Q=>t σ H λc H1=>if c=ae then Q ae H1 else u σ H1 Q
def lU(t:TT):TT:=λσ H Q=>t σ H λc H1=>Q (!c) H1
theorem Z3(ha:PT X a tA):PW X (.BoolOp .And [a] pos) tA:=by
 intro wh pins s σ H Q I h;refine isTrue_and (d8 (ha pins s σ H Q I h) λc s1 e=>?_)
 cases c with
 |true=>exact isTrue_and_nil e
 |false=>exact e
theorem Zk(ha:PT X a tA):PW X (.BoolOp .Or [a] pos) tA:=by
 intro wh pins s σ H Q I h;refine isTrue_or (d8 (ha pins s σ H Q I h) λc s1 e=>?_)
 cases c with
 |false=>exact isTrue_or_nil e
 |true=>exact e
theorem Zj(ha:PT X a tA)(hb:PW X (.BoolOp .And (b::rest) pos) tB'):PW X (.BoolOp .And (a::b::rest) pos) (lV tA tB'):=by
 intro wh pins s σ H Q I h;refine isTrue_and (d8 (ha pins s σ H _ I h) λc s1 ⟨H1,I1,q1⟩=>?_)
 cases c with
 |true=>exact hb wh pins s1 σ H1 Q I1 q1
 |false=>exact⟨H1,I1,q1⟩
theorem Vv(ha:PT X a tA)(hb:PW X (.BoolOp .Or (b::rest) pos) tB'):PW X (.BoolOp .Or (a::b::rest) pos) (z8 tA tB'):=by
 intro wh pins s σ H Q I h;refine isTrue_or (d8 (ha pins s σ H _ I h) λc s1 ⟨H1,I1,q1⟩=>?_)
 cases c with
 |true=>exact⟨H1,I1,q1⟩
 |false=>exact hb wh pins s1 σ H1 Q I1 q1
def Zi(ha:PT X a tA):PT X (.UnaryOp .Not a pos) (lU tA):=by intro pins s σ H Q I h;exact isTrue_not (ha pins s σ H (λc H1=>Q (!c) H1) I h)
def Vu(ta tb:TE):TE:=λσ H Q=>ta σ H λx H1=>∃c,x=.bl c/\if c=ae then tb σ H1 Q else Q (.bl ag) H1
def Vt(ta:TE):TE:=λσ H Q=>ta σ H λx H1=>∃c,x=.bl c/\Q (.bl (!c)) H1
def Zh{op}(h:PE X a t):PE X (.BoolOp op [a] pos) t:=λpins s σ H Q I hw=>BoolOp_one (h pins s σ H Q I hw)
theorem Zg(ha:PE X a ta)(hb:PE X (.BoolOp .And (b::rest) pos) tb):PE X (.BoolOp .And (a::b::rest) pos) (Vu ta tb):=by
 intro pins s σ H Q I h;refine BoolOp_and (d8 (ha pins s σ H _ I h) λv s1 ⟨x,H1,I1,r1,q1⟩=>?_);obtain⟨c,rfl,q1⟩:=q1;cases r1;refine mn ?_
 cases c with
 |true=>exact hb pins s1 σ H1 Q I1 q1
 |false=>exact⟨.bl ag,H1,I1,rfl,q1⟩
def Zf(ha:PE X a ta):PE X (.UnaryOp .Not a pos) (Vt ta):=by intro pins s σ H Q I h;refine UnaryOp_ (d8 (ha pins s σ H _ I h) λv s1 ⟨x,H1,I1,r1,q1⟩=>?_);obtain⟨c,rfl,q1⟩:=q1;cases r1;exact not_of (mn ⟨.bl (!c),H1,I1,rfl,q1⟩)
def Hr(t:TT)(ta tb:TE):TE:=λσ H Q=>t σ H λc H1=>if c=ae then ta σ H1 Q else tb σ H1 Q
theorem UE{c:ar}(hc:PT X c tA)(ha:PE X a ta)(hb:PE X b tb):PE X (.IfExp c a b pos) (Hr tA ta tb):=by
 intro pins s σ H Q I h;refine wpAny_IfExp (d8 (hc pins s σ H _ I h) λd s1 ⟨H1,I1,q1⟩=>?_)
 cases d with
 |true=>exact ha pins s1 σ H1 Q I1 q1
 |false=>exact hb pins s1 σ H1 Q I1 q1
end
def dW(K:aq)(H:Hp)(a:ai)(xs:List V):Prop :=
 Rd H a (.lst xs) \/
  ∃(o:aw) (its:Array aj) (n:Nat),K.lookup a=aa o/\o.cls=.type "list" /\o.dict=af/\o.data=.seq its n/\its.size<=bg/\Vals xs its.toList
def fB(K:aq)(H:Hp)(a:ai)(xs:List V):Prop :=
 Rd H a (.tup xs) \/
  ∃(o:aw) (its:Array aj) (n:Nat),K.lookup a=aa o/\o.cls=.type "tuple" /\o.data=.seq its n/\its.size<=bg/\Vals xs its.toList
noncomputable def Qm:aj->Option V
 |.none=>aa .non
 |.bool b=>aa (.bl b)
 |.int i _=>aa (.int i)
 |.str x _=>aa (.str x)
 |.bytes b _=>aa (.II b)
 |.float b _=>aa (.flt b)
 |.ref a=>aa (.ref a)
 |.type n=>aa (.ty n)
 |_=>af
theorem RelV.abs(r:RelV x u):Qm u=aa x:=by
 cases x with
 |non=>cases r;rfl
 |bl _=>cases r;rfl
 |int _=>obtain⟨t,rfl⟩:=r;rfl
 |str _=>obtain⟨t,rfl⟩:=r;rfl
 |II _=>obtain⟨t,rfl⟩:=r;rfl
 |flt _=>obtain⟨t,rfl⟩:=r;rfl
 |ref _=>cases r;rfl
 |ty _=>cases r;rfl
def RelV.inj{x y:V}{u:aj}(r:RelV x u)(q:RelV y u):x=y:=dg (r.abs.symm.trans q.abs)
theorem Vals.inj:∀{xs ys:List V} {us:Q0f},Vals xs us->Vals ys us->xs=ys
 |_,_,_,.nil,.nil=>rfl
 |_,_,_,.cons r t,.cons r' t'=>by rw[r.inj r',Vals.inj t t']
section
variable{X:Cx}{pins:Q0b}{σ:St}{H:Hp}{s:ao}{a:ai}{xs ys:List V}
def dW.of{K:aq}(h:H a=aa (.lst xs)):dW K H a xs:=.inl (.inl h)
def fB.of{K:aq}(h:H a=aa (.tup xs)):fB K H a xs:=.inl (.inl h)
def Inv.list(I:Inv X pins σ H s)(h:dW X.K H a xs):∃its:Q0f,Vals xs its/\PlainL s.heap a its.toArray/\xs.length<=bg:=by
 rcases h with h|⟨o,its,n,hk,hc,hd,hs,hz,r⟩
 .obtain ⟨z,its,n,r,e⟩:=h.ok I.hok;exact⟨its,r,⟨_,n,e,rfl,rfl,rfl⟩,z⟩
 .refine ⟨its.toList,r,⟨o,n,I.C5 a o hk,hc,hd,by simpa using hs⟩,?_⟩;have e:=r.length;simp only[Hk] at e;omega
def Inv.tuple(I:Inv X pins σ H s)(h:fB X.K H a xs):∃its:Q0f,Vals xs its/\g_ s.heap a its.toArray/\xs.length<=bg:=by
 rcases h with h|⟨o,its,n,hk,hc,hs,hz,r⟩
 .obtain ⟨z,its,r,p,_⟩:=h.ok I.hok;exact⟨its,r,p,z⟩
 .refine ⟨its.toList,r,⟨o,I.C5 a o hk,hc,n,by simpa using hs⟩,?_⟩;have e:=r.length;simp only[Hk] at e;omega
def Inv.fG(I:Inv X pins σ H s)(h:dW X.K H a xs)(h':dW X.K H a ys):xs=ys:=by
 obtain⟨its,r,⟨o,n,e,_,_,d⟩,_⟩:=I.list h;obtain⟨its',r',⟨o',n',e',_,_,d'⟩,_⟩:=I.list h';rw[e] at e';cases e';rw[d] at d';injection d' with d1 _;have:its=its':=by simpa using congrArg a3e d1
 subst this;exact r.inj r'
def Inv.iL(I:Inv X pins σ H s)(h:fB X.K H a xs)(h':fB X.K H a ys):xs=ys:=by
 obtain⟨its,r,⟨o,e,_,n,d⟩,_⟩:=I.tuple h;obtain⟨its',r',⟨o',e',_,n',d'⟩,_⟩:=I.tuple h';rw[e] at e';cases e';rw[d] at d';injection d' with d1 _;have:its=its':=by simpa using congrArg a3e d1
 subst this;exact r.inj r'
end
abbrev Cx.wish(X:Cx)(E:Q0c):Cx:={X with xe:=E}
abbrev Cx.Z4(X:Cx):Cx:=X.wish λ_ _=>False
def Cx.Ok.wish{X:Cx}(ok:X.Ok)(E:Q0c):(X.wish E).Ok :=
 ⟨ok.mod,ok.kind,ok.glob,ok.blt,ok.above,ok.inj,ok.has,ok.cab,ok.hd,ok.frames,ok.stk,ok.exf,ok.bs,ok.ZY,ok.UC,ok.ZZ,ok.x5,ok.frf,ok.tab⟩
def Cx.Ok.mR{X:Cx}{E:Q0c}(ok:(X.wish E).Ok):X.Ok :=
 ⟨ok.mod,ok.kind,ok.glob,ok.blt,ok.above,ok.inj,ok.has,ok.cab,ok.hd,ok.frames,ok.stk,ok.exf,ok.bs,ok.ZY,ok.UC,ok.ZZ,ok.x5,ok.frf,ok.tab⟩
section
variable{X:Cx}{pins:Q0b}{σ:St}{H:Hp}{s:ao}{E:Q0c}
def Inv.wish(I:Inv X pins σ H s)(E:Q0c):Inv (X.wish E) pins σ H s:=⟨I.ok.wish E,I.os,I.bare,I.base,I.loc,I.cell,I.free,I.mP,I.pin,I.hok,I.len⟩
def Inv.mR(I:Inv (X.wish E) pins σ H s):Inv X pins σ H s:=⟨I.ok.mR,I.os,I.bare,I.base,I.loc,I.cell,I.free,I.mP,I.pin,I.hok,I.len⟩
theorem SP.mR{D:Ends}{f:Flow}{s':ao}(h:SP (X.wish E) pins D f s'):SP X pins D f s':=by
 cases f with
 |next=>obtain⟨σ',H',I,q⟩:=h;exact⟨σ',H',I.mR,q⟩
 |brk=>obtain⟨σ',H',I,q⟩:=h;exact⟨σ',H',I.mR,q⟩
 |cont=>obtain⟨σ',H',I,q⟩:=h;exact⟨σ',H',I.mR,q⟩
 |ret u=>obtain⟨v,σ',H',I,r,q⟩:=h;exact⟨v,σ',H',I.mR,r,q⟩
def zQ.Z4{st:List df}{t:TS}(h:zQ X.Z4 st t):zQ X st t:=λpins s σ H D I hw =>
 nk (h pins s σ H D (I.wish _) hw) (λ_ _ q=>q.mR) λ_ _ z=>jr z
variable{st:df}{rest:List df}{t u:TS}{e:ar}{te:TE}{pos:bh}
def Vs:TS:=λD σ H=>D.nx σ H
def OB(t u:TS):TS:=λD σ H=>t {D with nx:=u D} σ H
def Z5:zQ X [] Vs:=λ_ _ σ H _ I h=>yp ⟨σ,H,I,h⟩
theorem x8(h1:PS X st t)(h2:zQ X rest u):zQ X (st::rest) (OB t u):=by
 intro pins s σ H D I h;refine a0r (d8 (h1 pins s σ H {D with nx:=u D} I h) λf s1 q=>?_)
 cases f with
 |next =>
  obtain⟨σ',H',I',q⟩:=q;exact h2 pins s1 σ' H' D I' q
 |ret v=>exact q
 |brk=>exact q
 |cont=>exact q
theorem LZ(h1:PS X st t):zQ X [st] t:=by
 intro pins s σ H D I h;refine a0r (d8 (h1 pins s σ H D I h) λf s1 q=>?_)
 cases f with
 |next=>exact yp q
 |ret v=>exact q
 |brk=>exact q
 |cont=>exact q
def Inv.quiet(I:Inv X pins σ H s):interactive X.env=ag:=by simp[interactive,I.ok.kind]
def Vr(te:TE):TS:=λD σ H=>te σ H λ_ H1=>D.nx σ H1
def MA(he:PE X e te)(hs:gb e af pos.line X.env=pure ag:=by rfl):PS X (.Expr e pos) (Vr te):=by intro pins s σ H D I h;exact wpAny_Expr_any (d8 (he pins s σ H _ I h) λv s1 ⟨x,H1,I1,r1,q1⟩=>⟨σ,H1,I1,q1⟩) I.quiet hs
def Bv(te:TE):TS:=λD σ H=>te σ H D.rt
def UG(he:PE X e te):PS X (.Return (aa e) pos) (Bv te):=by intro pins s σ H D I h;exact wpAny_Return_some (d8 (he pins s σ H _ I h) λv s1 ⟨x,H1,I1,r1,q1⟩=>⟨x,σ,H1,I1,r1,q1⟩)
def Ql(c:TT)(t u:TS):TS:=λD σ H=>c σ H λb H1=>if b=ae then t D σ H1 else u D σ H1
theorem Vq(hc:PT X c tc)(ha:zQ X a t)(hb:zQ X b u):PS X (.If c a b pos) (Ql tc t u):=by
 intro pins s σ H D I h;refine wpAny_If (d8 (hc pins s σ H _ I h) λd s1 ⟨H1,I1,q1⟩=>?_)
 cases d with
 |true=>exact ha pins s1 σ H1 D I1 q1
 |false=>exact hb pins s1 σ H1 D I1 q1
end
abbrev TG:=V->St->Hp->(St->Hp->Prop)->Prop
abbrev TGs:=List V->St->Hp->(St->Hp->Prop)->Prop
def PG(X:Cx)(target:ar)(t:TG):Prop :=
 ∀(pins:Q0b) (s:ao) (σ:St) (H:Hp) (v:V) (u:aj) (Q:St->Hp->Prop),Inv X pins σ H s->RelV v u->t v σ H Q ->
  ax (ay X.prog X.w) X.A (assign target X.env u) (λ_ s'=>∃σ' H',Inv X pins σ' H' s'/\Q σ' H') X.xe s
def PGs(X:Cx)(ts:List ar)(t:TGs):Prop :=
 ∀(pins:Q0b) (s:ao) (σ:St) (H:Hp) (vs:List V) (us:Q0f) (Q:St->Hp->Prop),Inv X pins σ H s->Vals vs us->t vs σ H Q ->
  ax (ay X.prog X.w) X.A (assignInOrder ((e_ ts X.env).map (·.2)) us) (λ_ s'=>∃σ' H',Inv X pins σ' H' s'/\Q σ' H') X.xe s
abbrev Bu:=V->V->V->Hp->(Hp->Prop)->Prop
def Bt(X:Cx)(t:Bu):Prop :=
 ∀(pins:Q0b) (s:ao) (σ:St) (H:Hp) (o i v:V) (ov iv u:aj) (Q:Hp->Prop),Inv X pins σ H s->RelV o ov->RelV i iv->RelV v u->t o i v H Q ->
  ax (ay X.prog X.w) X.A (setItem ov iv u) (λ_ s'=>∃H',Inv X pins σ H' s'/\Q H') X.xe s
section
variable{X:Cx}{pos:bh}
def UH(i:Nat):TG:=λv σ H Q=>Q (σ.set i (aa v)) H
def nW(hN:X.N.Nodup)(hi:X.N[i]?=aa x)(hx:Loc X.env.scope x)(hf:Zq X x:=by first|exact .inl rfl|exact .inr rfl|assumption):PG X (.Name x pos) (UH i):=by intro pins s σ H v u Q I r h;exact a0u (F7 I hN hi hx r (λs' I'=>⟨_,H,I',h⟩) hf)
def Qk:TGs:=λvs σ H Q=>vs=[]/\Q σ H
def Vp(t:TG)(u:TGs):TGs:=λvs σ H Q=>∃v r,vs=v::r/\t v σ H λσ' H'=>u r σ' H' Q
def MB:PGs X [] Qk:=by intro pins s σ H vs us Q I r h;obtain⟨e,h⟩:=h;subst e;cases r;exact assignInOrder_nil ⟨σ,H,I,h⟩
theorem qW(h1:PG X e t)(h2:PGs X es u)
  (hs:(e_ (e::es) X.env).map (·.2)=assign e X.env::(e_ es X.env).map (·.2):=by rfl):PGs X (e::es) (Vp t u):=by
 intro pins s σ H vs us Q I r h;obtain⟨v,vr,e1,h⟩:=h;subst e1
 cases r with
 |cons r rr =>
  rw[hs];refine assignInOrder_cons (d8 (h1 pins s σ H _ _ _ I r h) λ_ s1 ⟨σ1,H1,I1,q1⟩=>?_);exact h2 pins s1 σ1 H1 _ _ Q I1 rr q1
def Qj(K:aq)(n:Nat)(t:TGs):TG:=λv σ H Q=>∃a xs,v=.ref a/\fB K H a xs/\xs.length=n/\t xs σ H Q
theorem UI(hc:X.calm=ae)(h:PGs X es t)
  (hn:(e_ es X.env).length=n:=by rfl) (hst:(e_ es X.env).findIdx? (·.1)=af:=by rfl):PG X (.Tuple es k pos) (Qj X.K n t):=by
 intro pins s σ H v u Q I r hw;obtain⟨a,xs,e1,hq,hl,hw⟩:=hw;subst e1;cases r;obtain⟨its,rv,ht,hz⟩:=I.tuple hq;refine assign_Tuple_tuple (I.ok.hd hc) ht (by simp[hn,<- hl,rv.length]) hst λh' hx=>?_;have I1:Inv X pins σ H {s with heap:=h' }:=I.kept (t':=s.toks) λb o e=>hx b o (fv (b_ e)) e;exact h pins _ σ H xs _ Q I1 (by simpa using rv) hw
def Qi(to ti:TE)(t:Bu):TG:=λv σ H Q=>to σ H λo H1=>ti σ H1 λi H2=>t o i v H2 λH3=>Q σ H3
theorem Ze(ho:PE X o to)(hi:PE X i ti)(hs:Bt X t)
  (ha:∀v,assign (.Subscript o i pos) X.env v=(do
   let ov <- holding [v] (eval o X.env)
   let iv <- holding [v,ov] (eval i X.env)
   standAt pos
   holding [v,ov,iv] (setItem ov iv v)
   release [v,ov,iv] []):=by intro _;rfl):PG X (.Subscript o i pos) (Qi to ti t):=by
 intro pins s σ H v u Q I r h;rw[ha];refine av (ip (d8 (ho pins s σ H _ I h) λov s1 ⟨x,H1,I1,r1,q1⟩=>?_));refine av (ip (d8 (hi pins s1 σ H1 _ I1 q1) λiv s2 ⟨y,H2,I2,r2,q2⟩=>?_));refine av (Ec (av (ip (d8 (hs pins s2 σ H2 x y v ov iv u _ I2 r1 r2 r q2) λ_ s3 ⟨H3,I3,q3⟩=>?_))));exact wpAny_release ⟨σ,H3,I3,q3⟩
def xw(te:TE)(g:TG):TS:=λD σ H=>te σ H λx H1=>g x σ H1 D.nx
def Zd(he:PE X e te)(hg:PG X tg g)(hs:swapsWithSole [tg] e pos.line X.env=pure ag:=by rfl)(hw:swappedStores [tg] e X.env=pure af:=by rfl)
  (h1:(e_ [tg] X.env).map (·.2)=[assign tg X.env]:=by rfl):PS X (.Assign [tg] e pos) (xw te g):=by
 intro pins s σ H D I h;refine wpAny_Assign_stores (d8 (he pins s σ H _ I h) λv s1 ⟨x,H1,I1,r1,q1⟩=>?_) hs hw;rw[h1];exact d8 (hg pins s1 σ H1 x v _ I1 r1 q1) λ_ s2 q=>q
def tH(hN:X.N.Nodup)(hi:X.N[i]?=aa x)(hx:Loc X.env.scope x)(he:PE X e te)(hs:Si X e x pos' pos:=by rfl)(hf:Zq X x:=by first|exact .inl rfl|exact .inr rfl|assumption):
  PS X (.Assign [.Name x pos'] e pos) (xw te (UH i)):=by
 intro pins s σ H D I h;refine wpAny_Assign_Name (d8 (he pins s σ H _ I h) λv s1 ⟨y,H1,I1,r1,q1⟩=>?_) hs;exact F7 I1 hN hi hx r1 (λs2 I2=>⟨_,H1,I2,q1⟩) hf
def Zc(c:TT)(tb:TS):TS:=λD σ H=>∃W:Nat->St->Hp->Prop,(∃m,W m σ H) /\∀m σ H,W m σ H ->
 c σ H λb H1=>if b=ae then ∃N:St->Hp->Prop,(∀σ' H',N σ' H' ->∃m',m'<m/\W m' σ' H')/\tb {D with nx:=N,ct:=N,bk:=D.nx} σ H1 else D.nx σ H1
theorem UJ(hp:qv (ay X.prog X.w) X.A X.env X.xe)(hc:PT X c tc)(hb:zQ X body tb):PS X (.While c body [] pos) (Zc tc tb):=by
 intro pins s σ H D I h;obtain⟨W,⟨m0,w0⟩,turn⟩:=h;refine wpAny_While (codeAny_whileLoop (λn s'=>∃σ' H',Inv X pins σ' H' s'/\W n σ' H') ?_ m0 ⟨σ,H,I,w0⟩);rintro n s1 ⟨σ1,H1,I1,w1⟩;refine ox hp (d8 (hc pins s1 σ1 H1 _ I1 (turn n σ1 H1 w1)) λb s2 ⟨H2,I2,q2⟩=>?_)
 cases b with
 |true =>
  obtain⟨N,hN,q2⟩:=q2;rw[Z_ rfl];refine ox hp (d8 (hb pins s2 σ1 H2 _ I2 q2) λf s3 q3=>?_)
  cases f with
  |next =>
   obtain⟨σ3,H3,I3,n3⟩:=q3;obtain⟨m',hm,w3⟩:=hN σ3 H3 n3;exact⟨m',hm,σ3,H3,I3,w3⟩
  |cont =>
   obtain⟨σ3,H3,I3,n3⟩:=q3;obtain⟨m',hm,w3⟩:=hN σ3 H3 n3;exact⟨m',hm,σ3,H3,I3,w3⟩
  |brk=>exact q3
  |ret v=>exact q3
 |false =>
  rw[Zz bz];exact yp ⟨σ1,H2,I2,q2⟩
end
structure It where
 go:Nat->Hp->Prop
 yld:Nat->Hp->V->Hp->Prop
 stop:Nat->Hp->Prop
def oB(X:Cx)(pins:Q0b)(H:Hp)(b:ai):Prop :=
 H b=af/\b≠X.env.locals/\b∉X.fs/\(b∈X.ex\/X.s₀.heap.objs.size<=b)/\(∀x c,X.env.cells.lookup x=aa c->c≠b) /\∀p∈X.pn++pins,p.1≠b
def Inv.C6(I:Inv X pins σ H s)(hb:s.heap.objs.size<=b)(hn:H' b=af):oB X pins H' b:=by
 refine⟨hn,i_ (gc I.lt hb),I.Qo hb,.inr (ie I.sz hb),λx c e z=>?_,λp hp z=>?_⟩
 .obtain ⟨v,q⟩:=I.cell x c e;exact Zw (gc q.lt (by rw[z];exact hb)) (ik _)
 .exact Zw (gc (b_ (I.pin p hp).1) (by rw[z];exact hb)) (ik _)
structure Turn (P:bf) (w:ba) (K:aq) (tg:ar) (J:It) (fp:List ai) (it:ai) (tn:Nat->bb->Prop):Prop where
 mem:it∈fp
 obj:∀i h,tn i h ->∀b∈fp,∃o,h.get? b=aa o /\∀v,o.data≠.cell v
 keep:∀i h h',tn i h->(∀b∈fp,∀o,h.get? b=aa o->h'.get? b=aa o)->tn i h'
 item:∀(X:Cx),X.prog=P->X.w=w->X.K=K->X.calm=ae ->∀(i:Nat) (pins:Q0b) (s:ao) (σ:St) (H:Hp) (E:Q0c),Inv X pins σ H s->(∀b∈fp,oB X pins H b)->tn i s.heap->J.go i H ->
  ax (ay P w) X.A (pyNext (.ref it)) (λr s1=>∃u,r=aa u /\
   ax (ay P w) X.A (letOwnedTupleGo tg (.ref it) u) (λ_ s2=>∃x H',Inv X pins σ H' s2/\RelV x u/\J.yld i H x H'/\tn (i+1) s2.heap /\∀b∈fp,H' b=af) E s1) E s
 done:∀(X:Cx),X.prog=P->X.w=w->X.K=K->X.calm=ae ->∀(i:Nat) (pins:Q0b) (s:ao) (σ:St) (H:Hp) (E:Q0c),Inv X pins σ H s->(∀b∈fp,oB X pins H b)->tn i s.heap->J.stop i H ->
  ax (ay P w) X.A (pyNext (.ref it)) (λr s1=>r=af/\Inv X pins σ H s1) E s
 self:∀(A:bx) (i:Nat) (s:ao) (Q:Q0c) (E:Q0c),tn i s.heap->Q (.ref it) s->ax (ay P w) A (pyIter (.ref it)) Q E s
abbrev TI:=St->Hp->(It->Hp->Prop)->Prop
def PIE(X:Cx)(pins:Q0b)(σ:St)(tg:ar)(R:It->Hp->Prop)(itv:aj)(s2:ao):Prop :=
 ∃(it:ai) (fp:List ai) (tn:Nat->bb->Prop) (J:It) (H':Hp),itv=.ref it/\Inv X pins σ H' s2/\Turn X.prog X.w X.K tg J fp it tn/\tn 0 s2.heap/\(∀b∈fp,oB X pins H' b)/\R J H'
def PI(X:Cx)(tg iter:ar)(wi:TI):Prop :=
 ∀(pins:Q0b) (s:ao) (σ:St) (H:Hp) (R:It->Hp->Prop),Inv X pins σ H s->wi σ H R ->
  ax (ay X.prog X.w) X.A (eval iter X.env) (λv s1=>ax (ay X.prog X.w) X.A (pyIter v) (PIE X pins σ tg R) X.xe s1) X.xe s
theorem UK(ho:s.heap.get? it=aa o)(hc:o.cls=.type n)(hd:o.data=.fields vs)
  (hn:["enumerate","zip","dict_itemiterator","dict_reverseitemiterator","odict_iterator","itertools.zip_longest","itertools.pairwise"].contains n=ag) (hQ:Q () s):ax M A (letOwnedTupleGo tg (.ref it) u) Q E s:=by
 unfold letOwnedTupleGo;cases tg<;>first
  |exact az hQ
  | (cases u<;>first
    |exact az hQ
    | (refine av (wpAny_load ho ?_)
       rw[hc,hd];show ax M A (if(["enumerate","zip","dict_itemiterator","dict_reverseitemiterator","odict_iterator","itertools.zip_longest","itertools.pairwise"].contains n&&vs[0]? == aa (rawInt _))=ae then _ else _) Q E s;rw[Zz (by intro h;rw[hn,Ad] at h;cases h)];exact az hQ))
def Itl(K:aq)(a:ai):It :=
 ⟨λi H=>∃xs x,dW K H a xs/\xs[i]?=aa x,λi H x H'=>H'=H /\∀xs,dW K H a xs->xs[i]?=aa x,λi H=>∃xs,dW K H a xs/\xs.length<=i⟩
def Itt(K:aq)(a:ai):It :=
 ⟨λi H=>∃xs x,fB K H a xs/\xs[i]?=aa x,λi H x H'=>H'=H /\∀xs,fB K H a xs->xs[i]?=aa x,λi H=>∃xs,fB K H a xs/\xs.length<=i⟩
def Itr(lo:Int)(n:Nat):It:=⟨λi _=>i<n,λi H x H'=>H'=H/\x=.int (lo+i),λi _=>n<=i⟩
theorem OC{P:bf}{w:ba}{K:aq}{tg:ar}(a it:ai):Turn P w K tg (Itl K a) [it] it (λi h=>h.IsListIter it a i) where
 mem:=by simp
 obj:=λi h st b hb=>by
  have e:b=it:=by simpa using hb
  subst e;obtain⟨o,e,c,d⟩:=st;exact⟨o,e,λv z=>by rw[d] at z;cases z⟩
 keep:=λi h h' st k=>st.at λo e=>k it (by simp) o e
 item:=by intro X hP hw hK hc i pins s σ H E I hf st hg;subst hP hw hK;obtain⟨xs,x,hq,hx⟩:=hg;obtain⟨its,rv,p,hz⟩:=I.list hq;obtain⟨u,hu,ru⟩:=rv.get hx;obtain⟨f0,f1,f2,f3,f4,f5⟩:=hf it (by simp);refine wpAny_pyNext_list_item st p.isList (x:=u) (by simpa using hu) λh' st' sb=>?_;have I1:Inv X pins σ H {s with heap:=h' }:=I.turned (t':=s.toks) (λb o hb e=>(sb.2 b hb).trans e) f0 f1 f3 f4 f5;obtain⟨o,e,c,d⟩:=id st';exact⟨u,rfl,UK (s:={s with heap:=h' }) e c d (by decide) ⟨x,H,I1,ru,⟨rfl,λys hy=>by rw[I.fG hy hq];exact hx⟩,st',λb hb=>(hf b hb).1⟩⟩
 done:=by intro X hP hw hK hc i pins s σ H E I hf st hg;subst hP hw hK;obtain⟨xs,hq,hx⟩:=hg;obtain⟨its,rv,p,hz⟩:=I.list hq;obtain⟨f0,f1,f2,f3,f4,f5⟩:=hf it (by simp);have hl:=rv.length;exact wpAny_pyNext_list_end (I.ok.hd hc) st p.isList (by simp;omega) λh' eb=>⟨rfl,I.turned (t':=s.toks) (λb o hb e=>eb b o hb e) f0 f1 f3 f4 f5⟩
 self:=λ_ _ _ _ _ st h=>wpAny_pyIter_listiter st h
theorem IJ{P:bf}{w:ba}{K:aq}{tg:ar}(a it:ai):Turn P w K tg (Itt K a) [it] it (λi h=>h.IsTupleIter it a i) where
 mem:=by simp
 obj:=λi h st b hb=>by
  have e:b=it:=by simpa using hb
  subst e;obtain⟨o,e,c,d⟩:=st;exact⟨o,e,λv z=>by rw[d] at z;cases z⟩
 keep:=λi h h' st k=>st.at λo e=>k it (by simp) o e
 item:=by intro X hP hw hK hc i pins s σ H E I hf st hg;subst hP hw hK;obtain⟨xs,x,hq,hx⟩:=hg;obtain⟨its,rv,p,hz⟩:=I.tuple hq;obtain⟨u,hu,ru⟩:=rv.get hx;obtain⟨f0,f1,f2,f3,f4,f5⟩:=hf it (by simp);refine wpAny_pyNext_tuple_item st (show s.heap.IsTuple a its.toArray from p) (x:=u) (by simpa using hu) λh' st' sb=>?_;have I1:Inv X pins σ H {s with heap:=h' }:=I.turned (t':=s.toks) (λb o hb e=>(sb.2 b hb).trans e) f0 f1 f3 f4 f5;obtain⟨o,e,c,d⟩:=id st';exact⟨u,rfl,UK (s:={s with heap:=h' }) e c d (by decide) ⟨x,H,I1,ru,⟨rfl,λys hy=>by rw[I.iL hy hq];exact hx⟩,st',λb hb=>(hf b hb).1⟩⟩
 done:=by intro X hP hw hK hc i pins s σ H E I hf st hg;subst hP hw hK;obtain⟨xs,hq,hx⟩:=hg;obtain⟨its,rv,p,hz⟩:=I.tuple hq;obtain⟨f0,f1,f2,f3,f4,f5⟩:=hf it (by simp);have hl:=rv.length;exact wpAny_pyNext_tuple_end (I.ok.hd hc) st (show s.heap.IsTuple a its.toArray from p) (by simp;omega) λh' eb=>⟨rfl,I.turned (t':=s.toks) (λb o hb e=>eb b o hb e) f0 f1 f3 f4 f5⟩
 self:=λ_ _ _ _ _ st h=>wpAny_pyIter_tupleiter st h
theorem IK{P:bf}{w:ba}{K:aq}{tg:ar}(it:ai)(lo:Int)(n:Nat):Turn P w K tg (Itr lo n) [it] it (λi h=>a1i h it (lo+(i:Nat)*1) ((n:Int)-(i:Nat)) 1) where
 mem:=by simp
 obj:=λi h st b hb=>by
  have e:b=it:=by simpa using hb
  subst e;exact⟨_,st,λv z=>by have z':Data.fields _=Data.cell v:=z;cases z'⟩
 keep:=λi h h' st k=>k it (by simp) _ st
 item:=by intro X hP hw hK hc i pins s σ H E I hf st hg;subst hP hw hK;obtain⟨f0,f1,f2,f3,f4,f5⟩:=hf it (by simp);have W:=Walks.range (prog:=X.prog) (w:=X.w) (I.ok.hd hc) it lo 1 n;refine W.item i s _ _ hg st λv h' tk hv st' kk=>?_;obtain⟨t,rfl⟩:=hv;have I1:Inv X pins σ H {s with heap:=h',toks:=tk}:=I.turned (λb o hb e=>kk b o (by simpa using hb) e) f0 f1 f3 f4 f5;refine⟨_,rfl,UK (s:={s with heap:=h',toks:=tk}) (n:="range_iterator") st' rfl rfl (by decide) ⟨.int (lo+i),H,I1,⟨t,?_⟩,⟨rfl,rfl⟩,st',λb hb=>(hf b hb).1⟩⟩;rw[He]
 done:=by intro X hP hw hK hc i pins s σ H E I hf st hg;subst hP hw hK;obtain⟨f0,f1,f2,f3,f4,f5⟩:=hf it (by simp);exact wpAny_pyNext_range_end (I.ok.hd hc) st (by have:n<=i:=hg;omega) λh' eb=>⟨rfl,I.turned (t':=s.toks) (λb o hb e=>eb b o hb e) f0 f1 f3 f4 f5⟩
 self:=λ_ _ _ _ _ st h=>wpAny_pyIter_rangeiter st h
section
variable{X:Cx}{tg:ar}
theorem F8{pins:Q0b}{σ:St}{H:Hp}{s:ao}{R:It->Hp->Prop}{E:Q0c}{lo hi:Int}{t u v:ic}{tk:Nat}(I:Inv X pins σ H s)(h1:-(2^62)<=lo)(h2:lo<2^62)(h3:-(2^62)<=hi)(h4:hi<2^62)
  (q:R (Itr lo (hi-lo).toNat) H):ax (ay X.prog X.w) X.A (pyIter (.ref s.heap.objs.size)) (PIE X pins σ tg R) E {s with heap:=s.heap.push {cls:=.type "range",data:=.fields #[.int lo t,.int hi u,.int 1 v]},toks:=tk}:=by
 refine wpAny_pyIter_range (IsRange.new ..) (small_one h1 h2 h3 h4) ?_;have I1:Inv X pins σ H {s with heap:=s.heap.push {cls:=.type "range",data:=.fields #[.int lo t,.int hi u,.int 1 v]},toks:=tk}:=I.kept λb o e=>di _ e;refine⟨(s.heap.push {cls:=.type "range",data:=.fields #[.int lo t,.int hi u,.int 1 v]}).objs.size,[(s.heap.push {cls:=.type "range",data:=.fields #[.int lo t,.int hi u,.int 1 v]}).objs.size],_,_,H,rfl,
  I1.kept (t':=tk) λb o e=>di _ e,IK _ lo (hi-lo).toNat,?_,λb hb=>?_,q⟩
 .have e1:lo+((0:Nat):Int)*1=lo:=by simp
  have e2:(((hi-lo).toNat:Nat):Int)-((0:Nat):Int)=a1R lo hi 1:=by rw[a0B];split<;>omega
  show a1i _ _ (lo+((0:Nat):Int)*1) ((((hi-lo).toNat:Nat):Int)-((0:Nat):Int)) 1;rw[e1,e2];exact f_ _ rfl
 .have e:b=(s.heap.push {cls:=.type "range",data:=.fields #[.int lo t,.int hi u,.int 1 v]}).objs.size:=by simpa using hb
  subst e;exact I1.C6 (bj _) (I1.hok.fresh (bj _))
def Vo(ta:TA):TI:=λσ H R=>ta σ H λvs H1=>∃j:Int,vs=[.int j] /\ -(2^62)<=j/\j<2^62/\R (Itr 0 j.toNat) H1
def Vn(ta:TA):TI:=λσ H R=>ta σ H λvs H1=>∃i j:Int,vs=[.int i,.int j]/\(-(2^62)<=i/\i<2^62 /\ -(2^62)<=j/\j<2^62)/\R (Itr i (j-i).toNat) H1
theorem OD{a:ar}{ta:TA}{p pos:bh}(hg:Gl X "range")(hm:X.mg "range"=af)(ha:PA X [a] ta)(hs:au [a] X.env=[(ag,eval a X.env)]:=by rfl):PI X tg (.Call (.Name "range" p) [a] [] pos) (Vo ta):=by
 intro pins s σ H R I h;refine uw (mQ I hg hm Fp (rh (d8 (ha pos pins s σ H _ I h) λus s1 ⟨vs,H1,I1,r1,q1⟩=>?_) hs rfl));obtain⟨j,e,q1,q2,q⟩:=q1;subst e
 cases r1 with
 |cons r rr =>
  cases rr;obtain⟨t,rfl⟩:=r;exact a0L (F8 I1 (by omega) (by omega) q1 q2 (by simpa using q))
theorem OE(hg:Gl X "range")(hm:X.mg "range"=af)(ha:PA X [a,b] ta)(hs:au [a,b] X.env=[(ag,eval a X.env),(ag,eval b X.env)]:=by rfl)(hs2:au [b] X.env=[(ag,eval b X.env)]:=by rfl):
  PI X tg (.Call (.Name "range" p) [a,b] [] pos) (Vn ta):=by
 intro pins s σ H R I h;refine uw (mQ I hg hm Fp (rh (d8 (ha pos pins s σ H _ I h) λus s1 ⟨vs,H1,I1,r1,q1⟩=>?_) (by rw[hs,hs2]) (by rw[hs2];rfl)));obtain⟨i,j,e,⟨q1,q2,q3,q4⟩,q⟩:=q1;subst e
 cases r1 with
 |cons r rr =>
  cases rr with
  |cons r' rr =>
   cases rr;obtain⟨t,rfl⟩:=r;obtain⟨t',rfl⟩:=r';exact call_range_2 (F8 I1 q1 q2 q3 q4 q)
def Qh(wi:TI)(g:TG)(tb:TS):TS:=λD σ H=>wi σ H λJ H1=>∃W:Nat->Nat->St->Hp->Prop,(∃m,W 0 m σ H1) /\∀i m σ H,W i m σ H ->
 (J.stop i H/\D.nx σ H)\/(J.go i H /\∃N:St->Hp->Prop,(∀σ' H',N σ' H' ->∃m',m'<m/\W (i+1) m' σ' H') /\∀x H',J.yld i H x H'->g x σ H' λσ2 H2=>tb {D with nx:=N,ct:=N,bk:=D.nx} σ2 H2)
def x9(fp:List ai)(h:bb):List (ai×aw):=fp.filterMap λb=>(h.get? b).map λo=>(b,o)
def lD(hb:b∈fp)(e:h.get? b=aa o):(b,o)∈x9 fp h:=vn.mpr ⟨b,hb,by rw[e];rfl⟩
theorem OG(hp:p∈x9 fp h):p.1∈fp/\h.get? p.1=aa p.2:=by
 obtain⟨b,hb,e⟩:=vn.mp hp
 cases q:h.get? b with
 |none=>rw[q] at e;cases e
 |some o =>
  rw[q] at e;have e':(b,o)=p:=dg e;subst e';exact⟨hb,q⟩
def Inv.pinned(I:Inv X pins σ H s)(hf:∀b∈fp,oB X pins H b)(ho:∀b∈fp,∃o,s.heap.get? b=aa o /\∀v,o.data≠.cell v):Inv X (pins++x9 fp s.heap) σ H s :=
 I.LY λp hp=>(h_.mp hp).elim (λz=>I.pin p (jl _ z)) λz=>by obtain⟨hb,e⟩:=OG z;obtain⟨f0,f1,f2,_⟩:=hf p.1 hb;obtain⟨o,e',d⟩:=ho p.1 hb;rw[e] at e';cases e';exact⟨e,f0,f1,f2,d⟩
def Inv.qX(I:Inv X (pins++pl) σ H s):Inv X pins σ H s:=I.LY λp hp=>I.pin p (jl _ (md _ hp))
theorem Zb(hp:qv (ay X.prog X.w) X.A X.env X.xe)(hc:X.calm=ae)(hi:PI X tg iter wi)(hg:PG X tg g)(hb:zQ X body tb)
  (hs:Zo X iter:=by intro _;rfl):PS X (.For tg iter body [] pos) (Qh wi g tb):=by
 intro pins s σ H D I h;refine wpAny_For (d8 (hi pins s σ H _ I h) λv s1 h1=>d8 h1 λitv s2 h2=>?_) hs;obtain⟨it,fp,tn,J,H2,e,I2,T,st2,f2,W,⟨m0,w0⟩,turn⟩:=h2;subst e
 -- what stays ae of the iterator's objects through the loop
 have stat:∀{H':Hp},(∀b∈fp,H' b=af) ->∀b∈fp,oB X pins H' b:=λhn b hb=>⟨hn b hb,(f2 b hb).2⟩;refine codeAny_forLoop_any (λn s'=>∃i σ' H',Inv X pins σ' H' s'/\tn i s'.heap/\(∀b∈fp,H' b=af)/\W i n σ' H') ?_ m0 ⟨0,σ,H2,I2,st2,λb hb=>(f2 b hb).1,w0⟩;rintro n s3 ⟨i,σ3,H3,I3,st3,fr3,w3⟩;rcases turn i n σ3 H3 w3 with⟨stop,qn⟩|⟨go,N,hN,step⟩
 .refine ox hp (d8 (T.done X rfl rfl rfl hc i pins s3 σ3 H3 X.xe I3 (stat fr3) st3 stop) λr s4 ⟨hr,I4⟩=>?_);subst hr;exact yp ⟨σ3,H3,I4,qn⟩
 .refine ox hp (d8 (T.item X rfl rfl rfl hc i pins s3 σ3 H3 X.xe I3 (stat fr3) st3 go) λr s4 ⟨u,hr,h4⟩=>?_);subst hr;refine ox hp (d8 h4 λ_ s5 ⟨x,H5,I5,r5,y5,st5,fr5⟩=>?_);have I5':=I5.pinned (stat fr5) (T.obj _ _ st5);refine ox hp (d8 (hg _ s5 σ3 H5 x u _ I5' r5 (step x H5 y5)) λ_ s6 ⟨σ6,H6,I6,q6⟩=>?_);refine ox hp (d8 (hb _ s6 σ6 H6 _ I6 q6) λf s7 q7=>?_);have again:∀{σ7:St} {H7:Hp},Inv X (pins++x9 fp s5.heap) σ7 H7 s7->N σ7 H7 ->∃m,m<n /\∃i σ' H',Inv X pins σ' H' s7/\tn i s7.heap/\(∀b∈fp,H' b=af)/\W i m σ' H':=λ{σ7 H7} I7 n7=>by obtain⟨m',hm,w7⟩:=hN σ7 H7 n7;refine⟨m',hm,i+1,σ7,H7,I7.qX,T.keep _ _ _ st5 λb hb o e=>(I7.pin (b,o) (jl _ (jl _ (lD hb e)))).1,λb hb=>?_,w7⟩;obtain⟨o,e,d⟩:=T.obj _ _ st5 b hb;exact(I7.pin (b,o) (jl _ (jl _ (lD hb e)))).2.1
  cases f with
  |next=>obtain⟨σ7,H7,I7,n7⟩:=q7;exact again I7 n7
  |cont=>obtain⟨σ7,H7,I7,n7⟩:=q7;exact again I7 n7
  |brk=>obtain⟨σ7,H7,I7,q7⟩:=q7;exact⟨σ7,H7,I7.qX,q7⟩
  |ret v=>obtain⟨x7,σ7,H7,I7,r7,q7⟩:=q7;exact⟨x7,σ7,H7,I7.qX,r7,q7⟩
end
abbrev R2:=V->V->Hp->VK->Prop
def kR(X:Cx)(f:aj->aj->Sem aj)(r:R2):Prop :=
 ∀(pins:Q0b) (s:ao) (σ:St) (H:Hp) (x y:V) (v u:aj) (Q:VK),Inv X pins σ H s->RelV x v->RelV y u->r x y H Q ->
  ax (ay X.prog X.w) X.A (f v u) (EP X pins σ Q) X.xe s
def UnR(X:Cx)(f:aj->Sem aj)(r:V->Hp->VK->Prop):Prop :=
 ∀(pins:Q0b) (s:ao) (σ:St) (H:Hp) (x:V) (v:aj) (Q:VK),Inv X pins σ H s->RelV x v->r x H Q ->
  ax (ay X.prog X.w) X.A (f v) (EP X pins σ Q) X.xe s
def eT(X:Cx)(f:aj)(r:List V->Hp->VK->Prop):Prop :=
 ∀(pins:Q0b) (s:ao) (σ:St) (H:Hp) (xs:List V) (us:Q0f) (Q:VK),Inv X pins σ H s->Vals xs us->r xs H Q ->
  ax (ay X.prog X.w) X.A (call f us) (EP X pins σ Q) X.xe s
def Qg(X:Cx)(r:V->Hp->(Bool->Hp->Prop)->Prop):Prop :=
 ∀(pins:Q0b) (s:ao) (σ:St) (H:Hp) (x:V) (v:aj) (Q:Bool->Hp->Prop),Inv X pins σ H s->RelV x v->r x H Q ->
  ax (ay X.prog X.w) X.A (truthy v) (TP X pins σ Q) X.xe s
def qo(r:R2)(ta tb:TE):TE:=λσ H Q=>ta σ H λx H1=>tb σ H1 λy H2=>r x y H2 Q
def Ho(r:V->Hp->VK->Prop)(ta:TE):TE:=λσ H Q=>ta σ H λx H1=>r x H1 Q
def rI(C:Int->Int->Prop)(g:Int->Int->V):R2:=λx y H Q=>∃i j,x=.int i/\y=.int j/\C i j/\Q (g i j) H
def YB(g:Int->Int->V):R2:=λx y H Q=>∃i j,x=.int i/\y=.int j/\Q (g i j) H
def rU(g:Int->V):V->Hp->VK->Prop:=λx H Q=>∃i,x=.int i/\Q (g i) H
section
variable{X:Cx}{a b c:ar}{ta tb tc:TE}{pos:bh}
theorem xv(ha:PE X a ta)(hb:PE X b tb){pins:Q0b}{s:ao}{σ:St}{H:Hp}{R:V->V->Hp->Prop}(I:Inv X pins σ H s)
  (h:ta σ H λx H1=>tb σ H1 λy H2=>R x y H2) {Q:Q0c} {f:aj->aj->Sem aj}
  (hf:∀v u s2 x y H2,Inv X pins σ H2 s2->RelV x v->RelV y u->R x y H2->ax (ay X.prog X.w) X.A (f v u) Q X.xe s2):
  ax (ay X.prog X.w) X.A (eval a X.env) (λv s₁=>ax (ay X.prog X.w) X.A (eval b X.env) (λu s₂=>ax (ay X.prog X.w) X.A (f v u) Q X.xe s₂) X.xe s₁) X.xe s:=by
 refine d8 (ha pins s σ H _ I h) λv s1 hq1=>?_;obtain⟨x,H1,I1,r1,q1⟩:=hq1;refine d8 (hb pins s1 σ H1 _ I1 q1) λu s2 hq2=>?_;obtain⟨y,H2,I2,r2,q2⟩:=hq2;exact hf v u s2 x y H2 I2 r1 r2 q2
def UL{op:Operator}{r:R2}(ho:kR X (binaryOp op) r)(ha:PE X a ta)(hb:PE X b tb):PE X (.BinOp a op b pos) (qo r ta tb):=by intro pins s σ H Q I h;exact wpAny_BinOp (xv ha hb I h λv u s2 x y H2 I2 rx ry q=>ho pins s2 σ H2 x y v u Q I2 rx ry q)
def Vm(ho:UnR X (unaryOp op) r)(ha:PE X a ta):PE X (.UnaryOp op a pos) (Ho r ta):=by intro pins s σ H Q I h;exact UnaryOp_ (d8 (ha pins s σ H _ I h) λv s1 ⟨x,H1,I1,r1,q1⟩=>ho pins s1 σ H1 x v Q I1 r1 q1)
theorem opI{f:aj->aj->Sem aj}{C:Int->Int->Prop}{g:Int->Int->Int}
  (rule:∀(i j:Int) (t u:ic) (s:ao) (Q:Q0c) (E:Q0c),C i j->Q (.int (g i j) s.toks) {s with toks:=s.toks+1}->ax (ay X.prog X.w) X.A (f (.int i t) (.int j u)) Q E s):
  kR X f (rI C λi j=>.int (g i j)):=by
 intro pins s σ H x y v u Q I rx ry h;obtain⟨i,j,rfl,rfl,hc,q⟩:=h;obtain⟨t,rfl⟩:=rx;obtain⟨t',rfl⟩:=ry;exact rule i j t t' s _ _ hc ⟨.int (g i j),H,I.tok _,⟨_,rfl⟩,q⟩
theorem Bs{f:aj->aj->Sem aj}{g:Int->Int->Int}
  (rule:∀(i j:Int) (t u:ic) (s:ao) (Q:Q0c) (E:Q0c),Q (.int (g i j) s.toks) {s with toks:=s.toks+1}->ax (ay X.prog X.w) X.A (f (.int i t) (.int j u)) Q E s):
  kR X f (YB λi j=>.int (g i j)):=by
 intro pins s σ H x y v u Q I rx ry h;obtain⟨i,j,rfl,rfl,q⟩:=h;obtain⟨t,rfl⟩:=rx;obtain⟨t',rfl⟩:=ry;exact rule i j t t' s _ _ ⟨.int (g i j),H,I.tok _,⟨_,rfl⟩,q⟩
theorem xu{f:aj->aj->Sem aj}{g:Int->Int->Bool}
  (rule:∀(i j:Int) (t u:ic) (s:ao) (Q:Q0c) (E:Q0c),Q (.bool (g i j)) s->ax (ay X.prog X.w) X.A (f (.int i t) (.int j u)) Q E s):
  kR X f (YB λi j=>.bl (g i j)):=by
 intro pins s σ H x y v u Q I rx ry h;obtain⟨i,j,rfl,rfl,q⟩:=h;obtain⟨t,rfl⟩:=rx;obtain⟨t',rfl⟩:=ry;exact rule i j t t' s _ _ ⟨.bl (g i j),H,I,rfl,q⟩
def Bq(i j:Int):Prop:=0<j/\j<1073741824
def Bp(i j:Int):Prop:=0<=j/\j<=1000000/\i.natAbs<2^64
def Z6(i j:Int):Prop:=(-(2^64)<i/\i<2^64)\/(-(2^64)<j/\j<2^64)
def Z6.ok{i j:Int}(h:Z6 i j):uq i j:=by
 rcases h with⟨h1,h2⟩|⟨h1,h2⟩
 .exact .of_left (a0F h1 h2)
 .exact .of_right (a0F h1 h2)
def Za:kR X (binaryOp .Add) (YB λi j=>.int (i+j)):=Bs λ_ _ _ _ _ _ _ q=>add_int q
def Y_:kR X (binaryOp .Sub) (YB λi j=>.int (i-j)):=Bs λ_ _ _ _ _ _ _ q=>sub_int q
def Z7:kR X (binaryOp .FloorDiv) (rI Bq λi j=>.int (i/j)):=opI λi j _ _ _ _ _ hc q=>by have h1:(0:Int)<j:=hc.1;have h2:j<1073741824:=hc.2;exact floordiv_int (by omega) (by rw[Int.fdiv_eq_ediv_of_nonneg i (by omega)];exact q) (.inl (PyProof.noPylong_small (by omega)))
def Yz:kR X (binaryOp .Mod) (rI (λ_ j=>0<j) λi j=>.int (i%j)):=opI λi j _ _ _ _ _ hc q=>by have h1:(0:Int)<j:=hc;exact mod_int' (by omega) (by rw[Int.fmod_eq_emod_of_nonneg i (by omega)];exact q)
def Yy:kR X (binaryOp .Pow) (rI Bp λi j=>.int (i^j.toNat)):=opI λ_ _ _ _ _ _ _ hc q=>pow_int_small hc.1 hc.2.1 hc.2.2 q
theorem unI{f:aj->Sem aj}{g:Int->Int}
  (rule:∀(i:Int) (t:ic) (s:ao) (Q:Q0c) (E:Q0c),Q (.int (g i) s.toks) {s with toks:=s.toks+1}->ax (ay X.prog X.w) X.A (f (.int i t)) Q E s):
  UnR X f (rU λi=>.int (g i)):=by
 intro pins s σ H x v Q I rx h;obtain⟨i,rfl,q⟩:=h;obtain⟨t,rfl⟩:=rx;exact rule i t s _ _ ⟨.int (g i),H,I.tok _,⟨_,rfl⟩,q⟩
def Yr:UnR X (unaryOp .USub) (rU λi=>.int (-i)):=unI λ_ _ _ _ _ q=>neg_int q
end
noncomputable def xo:V->V->Bool
 |.non,.non=>ae | .non,.int _=>ae | .int _,.non=>ae | .non,.bl _=>ae | .bl _,.non=>ae | .non,.str _=>ae | .str _,.non=>ae
 |.int _,.int _=>ae | .bl _,.bl _=>ae | .str _,.str _=>ae | .II _,.II _=>ae
 |.int _,.str _=>ae | .str _,.int _=>ae | .bl _,.str _=>ae | .str _,.bl _=>ae
 |_,_=>ag
def Aj:R2:=λx y H Q=>xo x y=ae/\Q (.bl (Zv (x=y))) H
def wa:R2:=λx y H Q=>xo x y=ae/\Q (.bl (!Zv (x=y))) H
def C7:Zv (V.int i=V.int j)=(i == j):=by rw[gx];simp
def IL:Zv (V.bl i=V.bl j)=(i == j):=by rw[gx];simp
def C8:Zv (V.str i=V.str j)=(i == j):=by rw[gx];simp
def MC:Zv (V.II i=V.II j)=(i.toList == j.toList):=by rw[gx];cases i;cases j;simp
section
variable{X:Cx}{a b c:ar}{ta tb tc:TE}{pos:bh}
def b9(I:Inv X pins σ H s)(q:Q (.bl k) H)(e:k=k'):EP X pins σ Q (.bool k') s:=by subst e;exact⟨.bl k,H,I,rfl,q⟩
theorem Dd:kR X (compareOp .Eq) Aj:=by
 intro pins s σ H x y v u Q I rx ry h;obtain⟨hs,q⟩:=h
 cases x with
 |non =>
  cases rx
  cases y with
  |non=>cases ry;exact a34 (b9 I q (by simp))
  |bl j=>cases ry;exact a36 (b9 I q (by simp))
  |int j=>obtain⟨t',rfl⟩:=ry;exact a35 (b9 I q (by simp))
  |str j=>obtain⟨t',rfl⟩:=ry;exact a33 (b9 I q (by simp))
  |_=>exact Zw (show ag=ae from hs) bz
 |bl i =>
  cases rx
  cases y with
  |non=>cases ry;exact a38 (b9 I q (by simp))
  |bl j=>cases ry;exact eq_bool (b9 I q IL)
  |str j=>obtain⟨t',rfl⟩:=ry;exact a4g (b9 I q (by simp))
  |_=>exact Zw (show ag=ae from hs) bz
 |int i =>
  obtain⟨t,rfl⟩:=rx
  cases y with
  |non=>cases ry;exact a37 (b9 I q (by simp))
  |int j=>obtain⟨t',rfl⟩:=ry;exact eq_int (b9 I q C7)
  |str j=>obtain⟨t',rfl⟩:=ry;exact a4f (b9 I q (by simp))
  |_=>exact Zw (show ag=ae from hs) bz
 |str i =>
  obtain⟨t,rfl⟩:=rx
  cases y with
  |non=>cases ry;exact a32 (b9 I q (by simp))
  |bl j=>cases ry;exact a4e (b9 I q (by simp))
  |int j=>obtain⟨t',rfl⟩:=ry;exact a4d (b9 I q (by simp))
  |str j=>obtain⟨t',rfl⟩:=ry;exact eq_str (b9 I q C8)
  |_=>exact Zw (show ag=ae from hs) bz
 |II i =>
  obtain⟨t,rfl⟩:=rx
  cases y with
  |II j=>obtain⟨t',rfl⟩:=ry;exact PySem.W.eq_bytes (b9 I q MC)
  |_=>exact Zw (show ag=ae from hs) bz
 |_=>cases y<;>exact Zw (show ag=ae from hs) bz
theorem Dc:kR X (compareOp .NotEq) wa:=by
 intro pins s σ H x y v u Q I rx ry h;obtain⟨hs,q⟩:=h
 cases x with
 |non =>
  cases rx
  cases y with
  |non=>cases ry;exact a3X (b9 I q (by simp))
  |bl j=>cases ry;exact a3Z (b9 I q (by simp))
  |int j=>obtain⟨t',rfl⟩:=ry;exact a3Y (b9 I q (by simp))
  |str j=>obtain⟨t',rfl⟩:=ry;exact a3W (b9 I q (by simp))
  |_=>exact Zw (show ag=ae from hs) bz
 |bl i =>
  cases rx
  cases y with
  |non=>cases ry;exact a31 (b9 I q (by simp))
  |bl j=>cases ry;exact ne_bool (b9 I q (congrArg not IL))
  |str j=>obtain⟨t',rfl⟩:=ry;exact a4c (b9 I q (by simp))
  |_=>exact Zw (show ag=ae from hs) bz
 |int i =>
  obtain⟨t,rfl⟩:=rx
  cases y with
  |non=>cases ry;exact a30 (b9 I q (by simp))
  |int j=>obtain⟨t',rfl⟩:=ry;exact ne_int (b9 I q (congrArg not C7))
  |str j=>obtain⟨t',rfl⟩:=ry;exact a4b (b9 I q (by simp))
  |_=>exact Zw (show ag=ae from hs) bz
 |str i =>
  obtain⟨t,rfl⟩:=rx
  cases y with
  |non=>cases ry;exact a3V (b9 I q (by simp))
  |bl j=>cases ry;exact a4a (b9 I q (by simp))
  |int j=>obtain⟨t',rfl⟩:=ry;exact a39 (b9 I q (by simp))
  |str j=>obtain⟨t',rfl⟩:=ry;exact ne_str (b9 I q (congrArg not C8))
  |_=>exact Zw (show ag=ae from hs) bz
 |II i =>
  obtain⟨t,rfl⟩:=rx
  cases y with
  |II j=>obtain⟨t',rfl⟩:=ry;exact PySem.W.ne_bytes (b9 I q (congrArg not MC))
  |_=>exact Zw (show ag=ae from hs) bz
 |_=>cases y<;>exact Zw (show ag=ae from hs) bz
def Vl:kR X (compareOp .Lt) (YB λi j=>.bl (Zv (i<j))):=xu λ_ _ _ _ _ _ _ q=>lt_int q
def Vk:kR X (compareOp .Gt) (YB λi j=>.bl (Zv (j<i))):=xu λ_ _ _ _ _ _ _ q=>gt_int q
def Vi:kR X (compareOp .GtE) (YB λi j=>.bl (Zv (j<=i))):=xu λ_ _ _ _ _ _ _ q=>ge_int q
def UM:kR X (compareOp .Is) (λx y H Q=>y=.non/\Q (.bl (Zv (x=.non))) H):=by
 intro pins s σ H x y v u Q I rx ry h;obtain⟨rfl,q⟩:=h;cases ry;refine is_none_gen (b9 I q ?_);cases x<;>first
  | (cases rx;rfl)
  | (obtain⟨t,rfl⟩:=rx;rfl)
def Z8:kR X (compareOp .IsNot) (λx y H Q=>y=.non/\Q (.bl (!Zv (x=.non))) H):=by
 intro pins s σ H x y v u Q I rx ry h;obtain⟨rfl,q⟩:=h;cases ry;refine isnot_none_gen (b9 I q ?_);cases x<;>first
  | (cases rx;rfl)
  | (obtain⟨t,rfl⟩:=rx;rfl)
def kR.or(h:kR X f r)(h':kR X f r'):kR X f (λx y H Q=>r x y H Q\/r' x y H Q):=by
 intro pins s σ H x y v u Q I rx ry q;rcases q with q|q
 .exact h pins s σ H x y v u Q I rx ry q
 .exact h' pins s σ H x y v u Q I rx ry q
def hJ(b:ar)(h:op≠.In:=by decide)(h2:op≠.NotIn:=by decide):behindInMarks op b=ag:=by
 have e1:(op == CmpOp.In)=ag:=by cases op<;>first|rfl|exact Zw rfl h
 have e2:(op == CmpOp.NotIn)=ag:=by cases op<;>first|rfl|exact Zw rfl h2
 cases b<;>simp[behindInMarks,e1,e2]
def Z9{op:CmpOp}{r:R2}(ho:kR X (compareOp op) r)(ha:PE X a ta)(hb:PE X b tb)(hm:behindInMarks op b=ag):PE X (.Compare a [op] [b] pos) (qo r ta tb):=by intro pins s σ H Q I h;exact wpAny_Compare1 (xv ha hb I h λv u s2 x y H2 I2 rx ry q=>ho pins s2 σ H2 x y v u Q I2 rx ry q) hm
def MD(t:TE):TT:=λσ H Q=>t σ H λx H'=>∃k,x=.bl k/\Q k H'
theorem aAA(ho:kR X (compareOp op) r)(ha:PE X a ta)(hb:PE X b tb)(hm:behindInMarks op b=ag):PT X (.Compare a [op] [b] pos) (MD (qo r ta tb)):=by
 intro pins s σ H Q I h;refine a0n (d8 (ha pins s σ H _ I h) λv s1 ⟨x,H1,I1,r1,q1⟩=>d8 (hb pins s1 σ H1 _ I1 q1) λu s2 ⟨y,H2,I2,r2,q2⟩ =>
  d8 (ho pins s2 σ H2 x y v u _ I2 r1 r2 q2) λc s3 ⟨z,H3,I3,r3,k,e,q3⟩=>?_) hm
 subst e;cases r3;exact mn ⟨H3,I3,q3⟩
def B_(K:aq)(x:V)(H:Hp)(k:Bool):Prop :=
 match x with
 |.non=>k=ag
 |.bl b=>k=b
 |.int i=>k=(i !=0)
 |.str y=>y.length<=bg/\k=((y.length:Int) !=0)
 |.II y=>y.size<=bg/\k=((y.size:Int) !=0)
 |.ref p=>(∃xs,dW K H p xs/\k=!xs.isEmpty)\/(∃xs,fB K H p xs/\k=!xs.isEmpty) \/∃kvs,H p=aa (.dK kvs)/\k=!kvs.isEmpty
 |_=>False
def IM{κ:Type}{kvs:List (κ×V)}{vs:List (κ×aj)}(r:KV kvs vs):(!vs.isEmpty)=!kvs.isEmpty:=by cases r<;>rfl
def lE{xs:List V}{its:Q0f}(r:Vals xs its):(!its.toArray.isEmpty)=!xs.isEmpty:=by cases r<;>simp
def yA:(bg:Nat)<2^63:=by rw[gr];decide
theorem Yq:Qg X (λx H Q=>∃k,B_ X.K x H k/\Q k H):=by
 intro pins s σ H x v Q I rx h;obtain⟨k,e,q⟩:=h;have hl:=yA;have hs:bg=16777216:=gr
 cases x with
 |non =>
  cases rx;have e':k=ag:=e;subst e';exact truthy_none ⟨H,I,q⟩
 |bl b =>
  cases rx;have e':k=b:=e;subst e';exact mn ⟨H,I,q⟩
 |int i =>
  obtain⟨t,rfl⟩:=rx;have e':k=(i !=0):=e;subst e';exact PySem.P.truthy_int ⟨H,I,q⟩
 |str y =>
  obtain⟨t,rfl⟩:=rx;obtain⟨hy,e'⟩:y.length<=bg/\k=((y.length:Int) !=0):=e;subst e';exact PySem.P.truthy_str (by omega) ⟨H,I.tok _,q⟩
 |II y =>
  obtain⟨t,rfl⟩:=rx;obtain⟨hy,e'⟩:y.size<=bg/\k=((y.size:Int) !=0):=e;subst e';exact PySem.W.truthy_bytes (by omega) ⟨H,I.tok _,q⟩
 |ref p =>
  cases rx;have e':(∃xs,dW X.K H p xs/\k=!xs.isEmpty)\/(∃xs,fB X.K H p xs/\k=!xs.isEmpty) \/∃kvs,H p=aa (.dK kvs)/\k=!kvs.isEmpty:=e;rcases e' with⟨xs,hx,e'⟩|⟨xs,hx,e'⟩|⟨kvs,hx,e'⟩
  .subst e';obtain⟨its,r,pl,hz⟩:=I.list hx;have hlen:=r.length;exact a0c pl.isList (by simp only[cu];omega) ⟨H,I.tok _,by rw[lE r];exact q⟩
  .subst e';obtain⟨its,r,pl,hz⟩:=I.tuple hx;have hlen:=r.length;exact a1T pl (by simp only[cu];omega) ⟨H,I.tok _,by rw[lE r];exact q⟩
  .subst e';obtain⟨hz,hS,vs,r,m⟩:kvs.length<=bg/\(p == sysModules)=ag /\∃vs,KV kvs vs/\s.heap.DictOf (aW X.prog X.w) p vs:=I.hok p _ hx;have hlen:kvs.length=vs.length:=qw r;exact wpAny_truthy_dict hS m (by omega) ⟨H,I.tok _,by rw[IM r];exact q⟩
 |_=>exact(show False from e).elim
theorem UN(ha:PE X a ta)(he:∀whole,isTrue a X.env whole=(do let v <- whole;standAt a.pos;holding [v] (truthy v))):
  PT X a (λσ H Q=>ta σ H λx H'=>∃k,B_ X.K x H' k/\Q k H'):=by
 intro pins s σ H Q I h;exact isTrue_plain (d8 (ha pins s σ H _ I h) λv s1 ⟨x,H1,I1,r1,q1⟩=>Yq pins s1 σ H1 x v Q I1 r1 q1) (he _)
def IP:kR X (binaryOp .Add) (λx y H Q=>∃i j,x=.str i/\y=.str j/\i.length+j.length<=bg/\Q (.str (i++j)) H):=by intro pins s σ H x y v u Q I rx ry h;obtain⟨i,j,rfl,rfl,hz,q⟩:=h;obtain⟨t,rfl⟩:=rx;obtain⟨t',rfl⟩:=ry;exact add_str (λt' tk=>⟨.str (i++j),H,I.tok _,⟨_,rfl⟩,q⟩) hz
theorem vals1(r:Vals [x] us):∃u,us=[u]/\RelV x u:=by
 cases r with
 |cons r1 r2=>cases r2;exact⟨_,rfl,r1⟩
theorem vals2(r:Vals [x,y] us):∃u w',us=[u,w']/\RelV x u/\RelV y w':=by
 cases r with
 |cons r1 r2 =>
  cases r2 with
  |cons r3 r4=>cases r4;exact⟨_,_,rfl,r1,r3⟩
end
structure xn (h:bb) (x dx C:ai) (mA:Q0d):Prop where
 obj:h.get? x=aa (instObj C dx)
 ns:h.Ns1 dx mA
 ne:dx≠x
def OH{h:bb}{dx:ai}{mA:Q0d}(n:h.Ns1 dx mA):∃od,h.get? dx=aa od /\∀name,lookIn name od=aa (mA name):=by
 obtain⟨o,es,ep,ho,hd,hk,_,hm⟩:=n;refine⟨o,ho,λname=>?_⟩;have e:=hm name;unfold nsFind findBy at e;rw[<- Array.find?_toList] at e;unfold lookIn;rw[hd];dsimp only;split
 .rename_i y q;rw[q] at e;exact congrArg aa e
 .rename_i q;rw[q] at e;have a:es.toList.any (·.refKey)=ag:=by rw[List.any_eq_false];intro y hy;obtain⟨z,t,hkey⟩:=hk y (Array.mem_toList_iff.mp hy);simp[a4h,hkey]
  have a':¬ es.toList.any (·.refKey)=ae:=by rw[a];exact bz
  rw[Zz a'];exact congrArg aa e
def xn.look(I:xn h x dx C mA):∃od,PySem.W.InstAt h x (instObj C dx) C (aa od) /\∀name,lookIn name od=aa (mA name) :=
 let ⟨od,ho,hl⟩:=OH I.ns
 ⟨od,⟨I.obj,rfl,rfl,ho⟩,hl⟩
theorem mN.some_of(r:mN (aa v) o):∃u,o=aa u/\RelV v u:=by
 cases o with
 |none=>exact(show False from r).elim
 |some u=>exact⟨u,rfl,r⟩
section
variable{P:bf}{w:ba}{H H':Hp}{h h':bb}{a C dx:ai}{fs fs':List (ak×V)}
def aAB(hok:oO P w H h)(e:H a=aa (.ins C dx fs)):∃mA,xn h a dx C mA/\(∀f,mN (fs.lookup f) (mA f))/\a0P mA (fs.map (·.1))/\fs.length<=1000/\H dx=aa (.own a):=by obtain⟨d,z,ne,ob,mA,n,r,q⟩:=(show c6 P w H h a (.ins C dx fs) from hok a _ e);exact⟨mA,⟨ob,n,ne⟩,r,q,z,d⟩
end
structure Cls (K:aq) (C:ai):Prop where
 pg:a0R K C Str.empty=ae
 hd:PySem.W.hasDictIn K C=ae
 po:PySem.W.plainOver K C=ae
 sa:a0V K (.ref C) "__setattr__"=aa (aa (.builtin "object.__setattr__"))
def Cls.get{K:aq}{C:ai}(c:Cls K C)(f:ak):a0R K C f=ae:=c.pg
section
variable{X:Cx}{pins:Q0b}{σ:St}{H:Hp}{s:ao}{A:bx}{E:Q0c}{Q:Q0c}{c:aj}{b:Bool}
inductive qY (K:aq) (H:Hp):V->aj->Prop where
 |non:qY K H .non (.type "NoneType")
 |bl (x:Bool):qY K H (.bl x) (.type "bool")
 |int (i:Int):qY K H (.int i) (.type "int")
 |str (x:ak):qY K H (.str x) (.type "str")
 |flt (x:UInt64):qY K H (.flt x) (.type "float")
 |lst {a:ai} {xs:List V} (e:H a=aa (.lst xs)):qY K H (.ref a) (.type "list")
 |xV {a:ai} {o:aw} {xs:List V} (e:H a=aa (.xV o (.lst xs))):qY K H (.ref a) (.type "list")
 |tup {a:ai} {xs:List V} (e:H a=aa (.tup xs)):qY K H (.ref a) (.type "tuple")
 |dK {a:ai} {kvs:List (Key×V)} (e:H a=aa (.dK kvs)):qY K H (.ref a) (.type "dict")
 |dT {a:ai} {kvs:List (List Key×V)} (e:H a=aa (.dT kvs)):qY K H (.ref a) (.type "dict")
 |ins {a C dx:ai} {fs:List (ak×V)} (e:H a=aa (.ins C dx fs)) (cl:Cls K C) (ha:a0V K (.ref C) "__class__"=aa (aa (.builtin "object.__class__")))
   (hn:PySem.W.specialIn K (.builtin "object.__class__") "__get__"=aa (aa (.builtin "getset_descriptor.__get__"))) (htk:PySem.W.takesIn K (.builtin "object.__class__")=aa ae)
   (hm:PySem.W.mroIn K C (.type "object")=aa ae):qY K H (.ref a) (.ref C)
theorem OJ(I:Inv X pins σ H s)(rx:RelV x u)(ty:qY X.K H x t)(e:kitOne X.K t c=aa b)(h:∀tk,Q (.bool b) {s with toks:=tk}):
  ax (ay X.prog X.w) A (call (.builtin "isinstance") [u,c]) Q E s:=by
 cases ty with
 |non=>cases (show u=lh from rx);exact ji PySem.W.kitx_none I.C5 js e (λz=>nomatch z) h
 |bl y=>cases (show u=pf y from rx);exact ji PySem.W.kitx_bool I.C5 js e (λz=>nomatch z) h
 |int i=>obtain⟨t,q⟩:=(show ∃t,u=jt i t from rx);cases q;exact ji PySem.W.kitx_int I.C5 js e (λz=>nomatch z) h
 |str y=>obtain⟨t,q⟩:=(show ∃t,u=yu y t from rx);cases q;exact ji PySem.W.kitx_str I.C5 js e (λz=>nomatch z) h
 |flt y=>obtain⟨t,q⟩:=(show ∃t,u=a04 y t from rx);cases q;exact ji PySem.W.kitx_float I.C5 js e (λz=>nomatch z) h
 | @lst a xs ea =>
  cases (show u=c_ a from rx);obtain⟨_,_,n,_,h1⟩:=(show c6 X.prog X.w H s.heap a (.lst xs) from I.hok a _ ea);exact ji Eu I.C5 ⟨_,h1,rfl⟩ e (λz=>nomatch z) h
 | @xV a ob xs ea =>
  cases (show u=c_ a from rx);obtain⟨_,_,_,n,_,h1⟩:=(show c6 X.prog X.w H s.heap a (.xV ob (.lst xs)) from I.hok a _ ea);exact ji Eu I.C5 ⟨_,h1,rfl⟩ e (λz=>nomatch z) h
 | @tup a xs ea =>
  cases (show u=c_ a from rx);obtain⟨_,_,_,p,_⟩:=(show c6 X.prog X.w H s.heap a (.tup xs) from I.hok a _ ea);obtain⟨o,h1,h2,_⟩:=p;exact ji a0T I.C5 ⟨o,h1,h2⟩ e (λz=>nomatch z) h
 | @dK a kvs ea =>
  cases (show u=c_ a from rx);obtain⟨_,_,vs,_,p⟩:=(show c6 X.prog X.w H s.heap a (.dK kvs) from I.hok a _ ea);obtain⟨o,es,ep,h1,h2,_⟩:=p;exact ji a0U I.C5 ⟨o,h1,h2.1⟩ e (λz=>nomatch z) h
 | @dT a kvs ea =>
  cases (show u=c_ a from rx);obtain⟨_,_,xs,_,o,es,ep,h1,h2,_⟩:=(show c6 X.prog X.w H s.heap a (.dT kvs) from I.hok a _ ea);exact ji a0U I.C5 ⟨o,h1,h2.1⟩ e (λz=>nomatch z) h
 | @ins a C dx fs ea cl ha hn htk hm =>
  cases (show u=c_ a from rx);obtain⟨mA,O,_⟩:=aAB I.hok ea;obtain⟨od,J,_⟩:=O.look;exact ji (PySem.W.kitx_own (cl.get _) cl.hd ha hn htk hm) I.C5 J e (λz=>nomatch z) h
end
structure fZ (k:Nat) (A:bx):Prop where
 hd:A.handled=af
 dp:A.depth+3*k+5<recursionLimit
 un:A.units+16*k+200<cf
def fZ.mono(r:fZ k A)(h:j<=k):fZ j A:=⟨r.hd,by have:=r.dp;omega,by have:=r.un;omega⟩
def fZ.deeper(r:fZ (k+1) A)(env:fw):fZ k (A.deeper env) :=
 ⟨r.hd,by have:=r.dp;show A.depth+1+3*k+5<_;omega,by have:=r.un;show A.units+3+16*k+200<_;omega⟩
def fZ.depth(r:fZ k A):A.depth<recursionLimit:=by have:=r.dp;omega
def fZ.units(r:fZ k A):A.units+64<cf:=by have:=r.un;omega
def Bz:TA:=λ_ H Q=>Q [] H
def C_(ta:TE)(tr:TA):TA:=λσ H Q=>ta σ H λx H1=>tr σ H1 λxs H2=>Q (x::xs) H2
section
variable{X:Cx}{e:ar}{es:List ar}{te:TE}{t:TA}{pos:bh}
def pN:PA X [] Bz:=λ_ _ _ _ H Q I h=>a1I ⟨[],H,I,.nil,h⟩
def iF(ha:PE X e te)(hr:PA X es t)(hs:Zs X e es:=by rfl):PA X (e::es) (C_ te t):=by intro pos pins s σ H Q I h;rw[hs];show ax _ _ (spliced ((ag,eval e X.env)::d_ pos (au es X.env))) _ _ s;refine a1J (d8 (ha pins s σ H _ I h) λu s1 ⟨x,H1,I1,r1,q1⟩=>?_);exact d8 (hr pos pins s1 σ H1 _ I1 q1) λus s2 hq3=>by obtain⟨xs,H2,I2,r2,q2⟩:=hq3;exact⟨x::xs,H2,I2,.cons r1 r2,q2⟩
def Qf(t:TA):TE:=λσ H Q=>t σ H λxs H1=>xs.length<=bg /\∀p,H1 p=af->Q (.ref p) (upd H1 p (.tup xs))
def Qd(t:TA):TE:=λσ H Q=>t σ H λxs H1=>xs.length<=bg /\∀p,H1 p=af->Q (.ref p) (upd H1 p (.lst xs))
def Yp{x1}(h:PA X es t):PE X (.Tuple es x1 pos) (Qf t):=by intro pins s σ H Q I hq;refine wpAny_Tuple_spliced (d8 (h pos pins s σ H _ I hq) λus s1 ⟨xs,H1,I1,r,z,q⟩=>⟨by rw[<- r.length];exact z,?_⟩);have hf:H1 s1.heap.objs.size=af:=I1.hok.fresh (bj _);refine⟨.ref s1.heap.objs.size,upd H1 s1.heap.objs.size (.tup xs),I1.laid (t':=s1.toks) (λb u e=>di _ e) (bj _) ?_,rfl,q _ hf⟩;exact⟨z,us,r,⟨_,f_ _ rfl,rfl,_,rfl⟩,EM.new _ _⟩
def Yo(h:PA X es t):PE X (.List es pos) (Qd t):=by intro pins s σ H Q I hq;refine wpAny_List_spliced (d8 (h pos pins s σ H _ I hq) λus s1 ⟨xs,H1,I1,r,z,q⟩=>⟨by rw[<- r.length];exact z,?_⟩);have hf:H1 s1.heap.objs.size=af:=I1.hok.fresh (bj _);refine⟨.ref s1.heap.objs.size,upd H1 s1.heap.objs.size (.lst xs),I1.laid (t':=s1.toks) (λb u e=>di _ e) (bj _) ?_,rfl,q _ hf⟩;exact⟨z,us,0,r,f_ _ rfl⟩
end
abbrev Sp:=List V->Hp->VK->XK->Prop
abbrev ME:=List fw->Hp->ao->XK->aj->ao->Prop
structure uh (P:bf) (w:ba) (K:aq) (mg:Q0d) (base:bb) (A:bx) (outer:List fw) (s:ao) (H:Hp):Prop where
 frames:A.frames=aa outer
 mod:Mod K mg base
 bs:∀b o,base.get? b=aa o->s.heap.get? b=aa o/\H b=af
 ZY:base.objs.size<=s.heap.objs.size
 x5:s.heap.FunFrames base outer
 frf:∀b∈frs outer,H b=af
 hok:oO P w H s.heap
 bare:mr s.gens
 tab:ZX K base H
def CE(outer:List fw)(P:bf)(w:ba)(H:Hp)(s:ao)(Q:VK)(u:aj)(s':ao):Prop :=
 ∃v H',s'.os=s.os/\mr s'.gens/\Un (frs outer) [] H H' s.heap s'.heap/\oO P w H' s'.heap/\RelV v u/\Q v H'
def CR(CX:ME)(outer:List fw)(P:bf)(w:ba)(H:Hp)(s:ao)(Q:VK)(E:XK)(r:Result)(s':ao):Prop :=
 match r with
 |.ok (.ret u)=>CE outer P w H s Q u s'
 |.ok _=>False
 |.error e=>CX outer H s E e s'
structure lF (P:bf) (w:ba) (K:aq) (mg:Q0d) (base:bb) (CX:ME) (k:Nat) (f:ai) (fd:gp) (ps:Q0g) (sp:Sp):Prop where
 len:∀vs H Q E,sp vs H Q E->vs.length=ps.length
 run:∀(A:bx) (outer:List fw) (s:ao) (H:Hp) (args:Args) (us:Q0f) (vs:List V) (Q:VK) (E:XK),fZ k A->uh P w K mg base A outer s H->rf s fd args (ps.zip us)->Vals vs us->sp vs H Q E ->
  kh (ay P w) A (.call (.ref f) args) (CR CX outer P w H s Q E) s
theorem lF.mono{P:bf}{w:ba}{K:aq}{mg:Q0d}{base:bb}{CX:ME}{j k:Nat}{f:ai}{fd:gp}{ps:Q0g}{sp:Sp}(F:lF P w K mg base CX j f fd ps sp)(h:j<=k):
  lF P w K mg base CX k f fd ps sp:=⟨F.len,λA outer s H args us vs Q E hr=>F.run A outer s H args us vs Q E (hr.mono h)⟩
section
variable{X:Cx}{pins:Q0b}{σ:St}{H:Hp}{s s':ao}
def Inv.env0(I:Inv X pins σ H s):uh X.prog X.w X.K X.mg X.base X.A X.stack s H :=
 ⟨I.ok.frames,I.ok.mod,I.bs,ie I.ok.ZY I.sz,I.stack,I.LX,I.hok,I.bare,I.tab⟩
def Inv.after(I:Inv X pins σ H s)(h:CE X.stack X.prog X.w H s Q u s'):EP X pins σ Q u s':=by obtain⟨v,H',os,bare,un,hok,r,q⟩:=h;obtain⟨hh,g,d,t,os'⟩:=s';obtain rfl:os'=s.os:=os;exact⟨v,H',I.call (h':=hh) (g':=g) (d':=d) (t':=t) (ch:=[]) un hok bare (λb z=>Zw z (by simp)),r,q⟩
end
def Cz(sp:Sp)(dvs:List V)(E:XK)(t:TA):TE:=λσ H Q=>t σ H λvs H1=>sp (vs++dvs) H1 Q E
def Binds(K:aq)(fd:gp)(ps:Q0g)(ds:Q0f):Prop :=
 ∀(s:ao) (us:Q0f),K.In s.heap->(us++ds).length=ps.length->rf s fd ⟨us,[]⟩ (ps.zip (us++ds))
def Binds.all{K:aq}{fd:gp}{ps:Q0g}(h:∀us:Q0f,us.length=ps.length->bindArgs fd ⟨us,[]⟩=pure (ps.zip us)):Binds K fd ps []:=λs us _ hl=>by rw[mi] at hl ⊢;exact .of_eq (h us hl)
def Passes(CX:ME)(X:Cx)(E:XK):Prop:=∀(pins:Q0b) (σ:St) (H:Hp) (s:ao) (e:aj) (s':ao),Inv X pins σ H s->CX X.stack H s E e s'->X.xe e s'
section
variable{X:Cx}{CX:ME}{k:Nat}{f C:ai}{fd:gp}{ps:Q0g}{sp:Sp}{dvs:List V}{ds:Q0f}{E:XK}{x m:ak}{p pos apos:bh}{e o:ar}{es:List ar}{ta:TE}{t:TA}
theorem Yn(F:lF X.prog X.w X.K X.mg X.base CX k f fd ps sp)(hr:fZ k X.A)(hb:Binds X.K fd ps ds)(hd:Vals dvs ds)(hx:Passes CX X E)
  (I:Inv X pins σ H s) (r:Vals vs us) (h:sp (vs++dvs) H Q E):ax (ay X.prog X.w) X.A (call (.ref f) us) (EP X pins σ Q) X.xe s:=by
 have r2:Vals (vs++dvs) (us++ds):=r.append hd;have hl:(us++ds).length=ps.length:=by rw[<- r2.length];exact F.len _ _ _ _ h
 refine wpAny_call (uk (F.run X.A X.stack s H ⟨us,[]⟩ (us++ds) (vs++dvs) Q E hr I.env0 (hb s us I.C5 hl) r2 h) λr s' hq=>?_)
 cases r with
 |error e=>exact hx pins σ H s e s' I hq
 |ok fl =>
  cases fl with
  |ret u=>exact I.after hq
  |next=>exact jr hq
  |brk=>exact jr hq
  |cont=>exact jr hq
theorem C9(F:lF X.prog X.w X.K X.mg X.base CX k f fd ps sp)(hr:fZ k X.A)(hg:Gl X x)(hm:X.mg x=aa (.ref f))(hk:keepIn X.K (.ref f)=ae)(hb:Binds X.K fd ps ds)(hd:Vals dvs ds)(hx:Passes CX X E)
  (ha:PA X (e::es) t) (hdb:Zu x:=by decide) (he:Zs X e es:=by rfl) (hpl:Q0k X pos es:=by rfl):
  PE X (.Call (.Name x p) (e::es) [] pos) (Cz sp dvs E t):=by
 intro pins s σ H Q I h;refine Ej (Z1 I hg hm ?_ hdb);refine PySem.W.callWith_K (h₀:=X.base) I.ok.mod.kin hk (d8 (ha pos pins s σ H _ I h) λus s1 ⟨vs,H1,I1,r,q⟩=>⟨I1.C5,?_⟩) he hpl;exact Yn F hr hb hd hx I1 r q
end
structure iG (N P:Q0g) (sc:gf):Prop where
 kind:sc.kind=.function
 co:sc.isCoroutine=ag
 gen:sc.isGenerator=ag
 nd:N.Nodup
 pre:N.take P.length=P
 par:∀x∈P,sc.names.lookup x=aa .local\/sc.names.lookup x=aa .cell
 Ym:∀y∈sc.names,y.2≠.free
theorem BA{kindOf:ak->Option iw}{x:ak}:∀{binds:List (ak×aj)} {m:Q0d},(∀v,(x,v)∉binds)->bindL kindOf binds m x=m x
 |[],_,_=>rfl
 | (n,v)::r,m,h=>by
  unfold bindL;rw[BA λw hw=>h w (dq _ hw)];split
  .have:x≠n:=by rintro rfl;exact h v cn
   simp[this]
  .rfl
theorem BB{kindOf:ak->Option iw}{x:ak}:∀{binds:List (ak×aj)} {m:Q0d},(∀v,(x,v)∉binds)->bindC kindOf binds m x=m x
 |[],_,_=>rfl
 | (n,v)::r,m,h=>by
  unfold bindC;rw[BB λw hw=>h w (dq _ hw)];split
  .rfl
  .have:x≠n:=by rintro rfl;exact h v cn
   simp[this]
theorem BC{kindOf:ak->Option iw}{x:ak}{v:aj}:∀{P:Q0g} {vs:Q0f} {i:Nat} {m:Q0d},P.Nodup->P[i]?=aa x->vs[i]?=aa v->kindOf x=aa .local ->
  bindL kindOf (P.zip vs) m x=aa v
 |[],_,_,_,_,h,_,_=>by simp at h
 |_::_,[],_,_,_,_,h,_=>by simp at h
 |p::P,w::vs,0,m,nd,h1,h2,hk=>by simp at h1 h2;subst h1;subst h2;show bindL kindOf ((p,w)::P.zip vs) m p=_;unfold bindL;rw[BA λv hv=>(gz.mp nd).1 (vg hv).1,Z_ hk];simp
 |p::P,w::vs,i+1,m,nd,h1,h2,hk=>by show bindL kindOf ((p,w)::P.zip vs) m x=_;unfold bindL;exact BC (i:=i) (gz.mp nd).2 (by simpa using h1) (by simpa using h2) hk
theorem BD{kindOf:ak->Option iw}{x:ak}{v:aj}:∀{P:Q0g} {vs:Q0f} {i:Nat} {m:Q0d},P.Nodup->P[i]?=aa x->vs[i]?=aa v->kindOf x≠aa .local ->
  bindC kindOf (P.zip vs) m x=aa v
 |[],_,_,_,_,h,_,_=>by simp at h
 |_::_,[],_,_,_,_,h,_=>by simp at h
 |p::P,w::vs,0,m,nd,h1,h2,hk=>by simp at h1 h2;subst h1;subst h2;show bindC kindOf ((p,w)::P.zip vs) m p=_;unfold bindC;rw[BB λv hv=>(gz.mp nd).1 (vg hv).1,Zz hk];simp
 |p::P,w::vs,i+1,m,nd,h1,h2,hk=>by show bindC kindOf ((p,w)::P.zip vs) m x=_;unfold bindC;exact BD (i:=i) (gz.mp nd).2 (by simpa using h1) (by simpa using h2) hk
def start(N:Q0g)(vs:List V):St:=vs.map aa++dh (N.length-vs.length) af
def yB(CX:ME)(P:bf)(w:ba)(K:aq)(mg:Q0d)(base:bb)(N:Q0g)(qual:ak)(scope:gf)(f:ai)(cd:aj)(A:bx)(outer:List fw)(s:ao)(H:Hp)(E:XK):Cx where
 prog:=P
 w:=w
 K:=K
 mg:=mg
 base:=base
 A:=A.deeper (envOfC qual scope s.heap.objs.size f cd)
 N:=N
 s₀:=s
 H₀:=H
 env:=envOfC qual scope s.heap.objs.size f cd
 outer:=outer
 stack:=envOfC qual scope s.heap.objs.size f cd::outer
 ex:=[]
 calm:=ae
 fn:=λ_=>ae
 pn:=[]
 xe:=λe s'=>ax (ay P w) (A.deeper (envOfC qual scope s.heap.objs.size f cd)) (leaving (envOfC qual scope s.heap.objs.size f cd) e) (λ_ s''=>CX outer H s E e s'') (λe' s''=>CX outer H s E e' s'') s'
def F9{sc:gf}{n:Nat}{x:ak}(h:sc.names.lookup x=aa .cell):∃c,(cellsFrom n sc.names []).lookup x=aa c:=by have q:=a0W sc.names n [] (.inl h);exact Option.isSome_iff_exists.mp q
theorem OK{CX:ME}{P:bf}{w:ba}{K:aq}{mg:Q0d}{base:bb}{N ps:Q0g}{qual:ak}{scope:gf}{f:ai}{cd:aj}{A:bx}{outer:List fw}{s s1:ao}{H:Hp}{E:XK}{us:Q0f}{vs:List V}
  (S:iG N ps scope) (hd:A.handled=af) (e0:uh P w K mg base A outer s H) (hl:vs.length=ps.length) (r:Vals vs us)
  (x:InCallC s s.heap.objs.size (bindL (envOfC qual scope s.heap.objs.size f cd).kindOf (ps.zip us) λ_=>af) (cellsFrom (s.heap.objs.size+1) scope.names []) (bindC (envOfC qual scope s.heap.objs.size f cd).kindOf (ps.zip us) λ_=>af) s1):
  Inv (yB CX P w K mg base N qual scope f cd A outer s H E) [] (start N vs) H s1:=by
 have hpl:ps.length<=N.length:=by have:=congrArg my S.pre;rw[jm] at this;omega
 obtain⟨h1,tk,rfl,hk⟩:=x.done;have noA:∀b:ai,b∉(yB CX P w K mg base N qual scope f cd A outer s H E).ex:=λb z=>Zw (show b∈([]:List ai) from z) (by simp);refine⟨⟨e0.mod,S.kind,rfl,rfl,bj _,λy z c h1 h2=>?_,λy hy=>?_,λy c _ h=>?_,λ_=>hd,Around.frames_deeper e0.frames,.inr ⟨rfl,rfl⟩,λb z=>Zw z (noA b),e0.bs,e0.ZY,λb _ _=>noA b,λb z=>Zw z (noA b),e0.x5,e0.frf,e0.tab⟩,
  rfl,e0.bare,Un.kept hk,⟨_,x.toInCall.ns,λi y v h1 h2 h3=>?_⟩,λy c h=>⟨_,x.cell y c h⟩,e0.hok.fresh (bj _),λy c h=>?_,λp hp=>Zw (show p∈([]:Q0b) from hp) (by simp),e0.hok.kept hk,?_⟩
 .exact a0D x.apart (k_ h1) (k_ h2)
 .have hy:scope.names.lookup y=aa .cell\/scope.names.lookup y=aa .free:=hy;rcases hy with hy|hy
  .exact F9 hy
  .exact Zw rfl (S.Ym _ (k_ hy))
 .exact ko (x.above y c (k_ h))
 .have hi:i<vs.length:=by
   unfold start at h2;by_cases hi:i<vs.length
   .exact hi
   .rw [jn (by simpa using hi)] at h2;rw[kr] at h2;split at h2<;>cases h2
  have ha:vs[i]?=aa v:=by
   unfold start at h2;rw[jo (by simpa using hi),ck] at h2
   cases e:vs[i]? with
   |none=>rw[e] at h2;cases h2
   |some a=>rw[e] at h2;cases h2;rfl
  obtain⟨u,hu,rv⟩:=r.get ha;have hp:ps[i]?=aa y:=by rw[<- S.pre,vt (by omega)];exact h1
  have ndP:ps.Nodup:=by rw[<- S.pre];exact S.nd.sublist (Gh _ _)
  refine⟨u,rv,?_⟩;rcases S.par y (jz hp) with k|k
  .exact .inl ⟨k,BC ndP hp hu k⟩
  .obtain ⟨c,e⟩:=F9 (n:=s.heap.objs.size+1) k;refine .inr ⟨.inl k,c,e,?_⟩;have q:=x.cell y c e;rw[BD ndP hp hu (by show scope.names.lookup y≠_;rw[k];decide)] at q;exact q
 .exact e0.hok.fresh (ko (x.above y c (k_ h)))
 .unfold start;show _=N.length;rw[fu,a_,qa];omega
theorem Wa{CX:ME}{P:bf}{w:ba}{K:aq}{mg:Q0d}{base:bb}{k:Nat}{f:ai}{name qual:ak}{params:Arguments}{body:List df}{scope:gf}{dV kV doc pm cdv ct oc:aj}{an od:Option ai}
  {osl:Array (Option aj)} {N ps:Q0g} {sp:Sp} (lk:K.lookup f=aa ⟨oc,od,.func (fnOf name qual params body scope dV kV doc pm an cdv ct),osl⟩) (hcd:codeIn K cdv qual=ae) (S:iG N ps scope)
  (len:∀vs H Q E,sp vs H Q E->vs.length=ps.length)
  (hbody:∀(A:bx) (outer:List fw) (s:ao) (H:Hp) (vs:List V) (Q:VK) (E:XK),fZ k (A.deeper (envOfC qual scope s.heap.objs.size f cdv))->sp vs H Q E ->
   ∃t,zQ (yB CX P w K mg base N qual scope f cdv A outer s H E) body t/\t {nx:=λ_ H'=>Q .non H',rt:=Q} (start N vs) H):
  lF P w K mg base CX (k+1) f (fnOf name qual params body scope dV kV doc pm an cdv ct) ps sp:=by
 refine⟨len,λA outer s H args us vs Q E hr e0 hb r hsp=>?_⟩;have hl:=len _ _ _ _ hsp;have KX:K.In s.heap:=e0.mod.kin.keeps λb o e=>(e0.bs b o e).1;have lim:s.heap.NoLimit:=e0.mod.nolimit.keeps λb o e=>(e0.bs b o e).1;have hkind:∀y∈ps.zip us,scope.names.lookup y.1=aa .local\/(scope.names.lookup y.1=aa .cell/\((cellsFrom (s.heap.objs.size+1) scope.names []).lookup y.1).isSome=ae):=λ⟨n,v⟩ hy=>by
  rcases S.par n (vg hy).1 with q|q
  .exact .inl q
  .exact .inr ⟨q,a0W _ _ _ (.inl q)⟩
 refine codeAny_call_function hr.depth (KX _ _ lk) rfl S.co S.gen rfl (PySem.W.codeRec_of KX hcd) (hb _ _ _ _ ?_);refine wpAny_newFunctionEnv_cells S.kind hkind λenv he s1 x=>?_;subst he;refine⟨lim.keeps x.toInCall.keep,codeAny_func ?_⟩;obtain⟨t,ht,hq⟩:=hbody A outer s H vs Q E (hr.deeper _) hsp;have I:Inv (yB CX P w K mg base N qual scope f cdv A outer s H E) [] (start N vs) H s1:=OK S hr.hd e0 hl r x;refine nk (ht [] s1 (start N vs) H _ I hq) (λfl s' hs=>?_) λe s' hs=>hs;have fin:∀{σ':St} {H':Hp} {v:V} {u:aj},Inv (yB CX P w K mg base N qual scope f cdv A outer s H E) [] σ' H' s'->RelV v u->Q v H'->CE outer P w H s Q u s' :=
  λ{σ' H' v u} J rv q=>⟨v,H',J.os,J.bare,J.base,J.hok,rv,q⟩
 cases fl with
 |ret u =>
  obtain⟨v,σ',H',J,rv,q⟩:=hs;exact fin J rv q
 |next =>
  obtain⟨σ',H',J,q⟩:=hs;exact fin (v:=V.non) (u:=lh) J rfl q
 |brk =>
  obtain⟨_,_,_,q⟩:=hs;exact jr q
 |cont =>
  obtain⟨_,_,_,q⟩:=hs;exact jr q
section
variable{X:Cx}{x:ak}{p pos:bh}{e:ar}{es:List ar}{t:TA}{id T:String}{r:List V->Hp->VK->Prop}
def sy(r:List V->Hp->VK->Prop)(t:TA):TE:=λσ H Q=>t σ H λvs H1=>r vs H1 Q
def mS(hc:eT X (.builtin id) r)(hg:Gl X x)(hm:X.mg x=af)(hv:bootBuiltins x=aa (.builtin id))(ha:PA X (e::es) t)(hn:x ≠ "__name__":=by decide)(hdb:Zu x:=by decide)
  (he:Zs X e es:=by rfl) (hpl:Q0k X pos es:=by rfl):PE X (.Call (.Name x p) (e::es) [] pos) (sy r t):=by
 intro pins s σ H Q I h;refine Ej (mQ I hg hm hv ?_ hn hdb);exact a4r (d8 (ha pos pins s σ H _ I h) λus s1 ⟨vs,H1,I1,r1,q1⟩=>hc pins s1 σ H1 vs us Q I1 r1 q1) he hpl
def tJ(hc:eT X (.type T) r)(hg:Gl X x)(hm:X.mg x=af)(hv:bootBuiltins x=aa (.type T))(ha:PA X (e::es) t)(hn:x ≠ "__name__":=by decide)(hdb:Zu x:=by decide)
  (he:Zs X e es:=by rfl) (hpl:Q0k X pos es:=by rfl):PE X (.Call (.Name x p) (e::es) [] pos) (sy r t):=by
 intro pins s σ H Q I h;refine Ej (mQ I hg hm hv ?_ hn hdb);exact rh (d8 (ha pos pins s σ H _ I h) λus s1 ⟨vs,H1,I1,r1,q1⟩=>hc pins s1 σ H1 vs us Q I1 r1 q1) he hpl
end
end L2
namespace HT
open PyProof.Rows
section
open PySem.SeqAt

open PySem.MeetsSeq PySem.MeetsSeq2 PySem.MeetsSeq3
end
section
variable{prog:bf}{w:ba}{A:bx}{E:Q0c}{s:ao}
theorem aAD(ht:g_ s.heap t vs.toArray)(hb:g_ s.heap b ws.toArray)(hv:vs≠[])
  (h1:ws=[]->Q (.ref t) s) (h2:ws≠[]->Q (.ref s.heap.objs.size) {s with heap:=s.heap.push {cls:=.type "tuple",data:=.seq (vs++ws).toArray} })
  (hsz:vs.length+ws.length<=bg):ax (ay prog w) A (binaryOp .Add (.ref t) (.ref b)) Q E s:=by
 obtain⟨⟨cls,dd,data,sl⟩,ho,hc,n,hd⟩:=id ht;obtain⟨⟨cls2,dd2,data2,sl2⟩,ho2,hc2,n2,hd2⟩:=id hb;simp only at hc hd hc2 hd2;subst hc hd hc2 hd2;have e:vs.toArray++ws.toArray=(vs++ws).toArray:=by simp
 by_cases hw:ws=[]
 .exact Er ⟨_,ho,rfl⟩ ⟨_,ho2,rfl⟩ Eo El Ff Fi (Fj _ _)
   (tuple_addW1 t b vs.toArray ws.toArray n n2 dd dd2 sl sl2 (by simpa using hv) (by simp[hw])) ⟨ho,ho2,h1 hw⟩
 .refine Er ⟨_,ho,rfl⟩ ⟨_,ho2,rfl⟩ Eo El Ff Fi (Fj _ _)
   (tuple_addW2 t b vs.toArray ws.toArray n n2 dd dd2 sl sl2 (by simpa using hv) (by simpa using hw) (by rw[cu,cu];exact hsz)) ⟨ho,ho2,?_⟩
  rw[e];exact h2 hw
noncomputable def fS(n d:Nat):Option Int->Nat
 |none=>d
 |some v=>if v<0 then(v+(n:Int)).toNat else min v.toNat n
theorem Yl(n d:Nat)(hd:d<=n)(o:Option Int):fS n d o<=n:=by
 cases o with
 |none=>exact hd
 |some v =>
  show(if v<0 then(v+(n:Int)).toNat else min v.toNat n)<=n;by_cases hv:v<0
  .rw [Z_ hv];omega
  .rw [Zz hv];exact a2i _ _
def MF(v:Int)(n d:Nat):(if v<0 then max (v+(n:Int)) 0 else min v (n:Int))=((fS n d (aa v):Nat):Int):=by
 show(if v<0 then max (v+(n:Int)) 0 else min v (n:Int))=(((if v<0 then(v+(n:Int)).toNat else min v.toNat n):Nat):Int);by_cases hv:v<0
 .simp only[Z_ hv];omega
 .simp only[Zz hv];omega
def IQ(lo hi:Option Int)(n:Nat):Fm lo hi 1 (n:Int)=(((fS n 0 lo:Nat):Int),((fS n n hi:Nat):Int)):=by
 have h1:¬ ((1:Int)<0):=by omega
 unfold Fm;simp only[h1,if_false];refine km ?_ ?_
 .cases lo with
  |none=>rfl
  |some v=>exact MF v n 0
 .cases hi with
  |none=>rfl
  |some v=>exact MF v n n
def IS(i j:Nat):zh (i:Int) (j:Int) 1=j-i:=by
 unfold zh;have h1:(1:Int)>0:=by omega
 simp only[h1,if_true,Int.ediv_one];split<;>omega
theorem yC(p:lp v o)(h:Q o s):ax (ay prog w) A (a4j v) Q E s:=by
 cases p with
 |none=>exact a1W h
 |int i t=>exact slicePart_int h
theorem kF{sl:ai}{vl vu:aj}{lo hi:Option Int}{n:Nat}{Q:Int×Int×Nat->ao->Prop}(hs:s.heap.IsSliceOf sl vl vu .none)(pl:lp vl lo)(pu:lp vu hi)
  (h:Q (((fS n 0 lo:Nat):Int),1,fS n n hi-fS n 0 lo) s):ax (ay prog w) A (a1Q (.ref sl) (pure (n:Int))) Q E s:=by
 obtain⟨os,hos,hcs,hds⟩:=id hs;unfold a1Q a4k;refine av (av (oy hos hds (x:=vl) rfl (av (oy hos hds (x:=vu) rfl (av (oy hos hds (x:=.none) rfl (az ?_)))))));refine av (a1W ?_);show ax _ _ (if((1:Int) == 0)=ae then _ else _) _ _ s;rw[Zz (by decide)];refine av (yC pl (av (yC pu (av (az ?_)))));show ax _ _ (match Fm lo hi 1 (n:Int) with|(lo,hi)=>pure (lo,(1:Int),zh lo hi 1)) _ _ s;rw[IQ lo hi n];show ax _ _ (pure (((fS n 0 lo:Nat):Int),(1:Int),zh ((fS n 0 lo:Nat):Int) ((fS n n hi:Nat):Int) 1)) _ _ s;rw[IS];exact az h
def UO(xs:Array aj)(i k:Nat):((bu k).filterMap λ(m:Nat)=>xs[((i:Int)+(m:Int)*1).toNat]?).toArray=((xs.toList.drop i).take k).toArray:=by
 have e:(λ(m:Nat)=>xs[((i:Int)+(m:Int)*1).toNat]?)=λm=>xs[i+m]?:=by
  funext m
  have:((i:Int)+(m:Int)*1).toNat=i+m:=by omega
  rw[this]
 rw[e];have:=pick_run xs i k;rw[Gz] at this;have e2:((λx=>xs[x]?)∘λx=>i+x)=λm=>xs[i+m]?:=rfl;rw[e2] at this;rw[this]
theorem qZ{t sl:ai}{items:Array aj}{vl vu:aj}{lo hi:Option Int}{Q:Q0c}(ht:g_ s.heap t items)(hs:s.heap.IsSliceOf sl vl vu .none)(pl:lp vl lo)(pu:lp vu hi)
  (hw:¬ (fS items.size 0 lo=0/\fS items.size items.size hi=items.size))
  (h:Q (.ref s.heap.objs.size) {s with heap:=s.heap.push {cls:=.type "tuple",data:=.seq ((items.toList.drop (fS items.size 0 lo)).take (fS items.size items.size hi-fS items.size 0 lo)).toArray} })
  (hsz:items.size<=bg):ax (ay prog w) A (getItem (.ref t) (.ref sl)) Q E s:=by
 have MG:sizeOk (.seq ((items.toList.drop (fS items.size 0 lo)).take (fS items.size items.size hi-fS items.size 0 lo)).toArray):=by show((items.toList.drop (fS items.size 0 lo)).take (fS items.size items.size hi-fS items.size 0 lo)).toArray.size<=bg;rw[cu,jm,qd,Hk];omega
 have hj:fS items.size items.size hi<=items.size:=Yl _ _ (bj _) hi;obtain⟨os,hos,hcs,hds⟩:=id hs;have Jb:s.TypeIs (.ref sl) "slice":=⟨os,hos,hcs⟩;unfold getItem
 try with_reducible refine ip ?_
 first|refine av (az ?_)|skip
 refine av (a0i ht.typeIs (by decide) ?_);refine av (qp (name:=yw "__getitem__") ht.typeIs ph
  (jh ph ht.typeIs a11 ?_ (a15 _ _)))
 show ax _ _ (a1N (.ref t) >>= _) _ _ s;refine av (a1S ht ?_);refine av (Eb Jb ?_);rw[Z_ (by decide)];refine av (kF hs pl pu ?_);have hno:¬ ((((fS items.size 0 lo:Nat):Int) == 0&&(1:Int) == 1&&(fS items.size items.size hi-fS items.size 0 lo) == items.size)=ae):=by intro q;rw[fz,fz] at q;have q1:((fS items.size 0 lo:Nat):Int)=0:=eq_of_beq q.1.1;have q2:fS items.size items.size hi-fS items.size 0 lo=items.size:=eq_of_beq q.2;exact hw ⟨by omega,by omega⟩
 show ax _ _ (if(((fS items.size 0 lo:Nat):Int) == 0&&(1:Int) == 1&&(fS items.size items.size hi-fS items.size 0 lo) == items.size)=ae then _ else _) _ _ s;rw[Zz hno,UO]
 first
  |exact av (m:=zg _) (uj (az ⟨_,rfl,az h⟩) MG)
  |exact av (m:=zg _) (uj (av (az (az ⟨_,rfl,az h⟩))) MG)
  |exact av (av (m:=zg _) (uj (az (az ⟨_,rfl,az h⟩)) MG))
  |exact av (av (m:=zg _) (uj (az ⟨_,rfl,az h⟩) MG))
end
end HT
namespace L2
open PySem.Spec PyProof.Rows
abbrev TO:=St->Hp->(Option Int->Hp->Prop)->Prop
def PO(X:Cx)(e:Option ar)(t:TO):Prop :=
 ∀(pins:Q0b) (s:ao) (σ:St) (H:Hp) (Q:Option Int->Hp->Prop),Inv X pins σ H s->t σ H Q ->
  ax (ay X.prog X.w) X.A (evalPart e X.env) (λu s'=>∃o H',Inv X pins σ H' s'/\lp u o/\Q o H') X.xe s
def aAE:TO:=λ_ H Q=>Q af H
def V_(t:TE):TO:=λσ H Q=>t σ H λx H1=>∃i,x=.int i/\Q (aa i) H1
theorem intsAre_of:∀{us:Q0f},Vals (ns.map V.int) us->iy us ns:=by
 induction ns with
 |nil=>intro us r;rw[j_] at r;cases r;exact .nil
 |cons n ns ih =>
  intro us r;rw[bt] at r
  cases r with
  |cons r1 r2 =>
   obtain⟨t,e⟩:=r1;subst e;exact .cons n t (ih r2)
section
variable{X:Cx}{e:ar}{te:TE}{lo hi:Option ar}{tl th:TO}{pos p2:bh}
def aAF:PO X af aAE:=by intro pins s σ H Q I h;rw[a0I];exact az ⟨af,H,I,.none,h⟩
def aAG(h:PE X e te):PO X (aa e) (V_ te):=by intro pins s σ H Q I hw;rw[evalPart_some];refine d8 (h pins s σ H _ I hw) λu s1 hq4=>?_;obtain⟨x,H1,I1,r1,q1⟩:=hq4;obtain⟨i,rfl,q⟩:=q1;obtain⟨t,rfl⟩:=r1;exact⟨aa i,H1,I1,.int i t,q⟩
def SlR(X:Cx)(r:V->Option Int->Option Int->Hp->VK->Prop):Prop :=
 ∀(pins:Q0b) (s:ao) (σ:St) (H:Hp) (x:V) (v vl vu:aj) (lo hi:Option Int) (sl:ai) (Q:VK),Inv X pins σ H s->RelV x v->s.heap.IsSliceOf sl vl vu .none->lp vl lo->lp vu hi->r x lo hi H Q ->
  ∃T id,typeLookup (.type T) "__getitem__"=pure (aa (.builtin id))/\s.TypeIs v T/\ax (ay X.prog X.w) X.A (getItem v (.ref sl)) (EP X pins σ Q) X.xe s
def SlR.or(h:SlR X r)(h':SlR X r'):SlR X (λx lo hi H Q=>r x lo hi H Q\/r' x lo hi H Q):=by
 intro pins s σ H x v vl vu lo hi sl Q I rx hs pl pu q;rcases q with q|q
 .exact h pins s σ H x v vl vu lo hi sl Q I rx hs pl pu q
 .exact h' pins s σ H x v vl vu lo hi sl Q I rx hs pl pu q
def Hq(r:V->Option Int->Option Int->Hp->VK->Prop)(te:TE)(tl th:TO):TE:=λσ H Q=>te σ H λx H1=>tl σ H1 λl H2=>th σ H2 λu H3=>r x l u H3 Q
def UP(hr:SlR X r)(he:PE X e te)(hl:PO X lo tl)(hu:PO X hi th):PE X (.Subscript e (.Slice lo hi af p2) pos) (Hq r te tl th):=by intro pins s σ H Q I h;refine Fs (d8 (he pins s σ H _ I h) λv s1 ⟨x,H1,I1,r1,q1⟩=>?_);refine wpAny_Slice (d8 (hl pins s1 σ H1 _ I1 q1) λvl s2 ⟨l,H2,I2,pl,q2⟩=>d8 (hu pins s2 σ H2 _ I2 q2) λvu s3 ⟨u,H3,I3,pu,q3⟩=>?_);rw[a0I];refine az ?_;have I4:Inv X pins σ H3 {s3 with heap:=s3.heap.push {cls:=.type "slice",data:=.fields #[vl,vu,.none]} }:=I3.kept (t':=s3.toks) λb ob q=>di _ q;obtain⟨T,id,hT,ht,hg⟩:=hr pins {s3 with heap:=s3.heap.push {cls:=.type "slice",data:=.fields #[vl,vu,.none]} } σ H3 x v vl vu l u s3.heap.objs.size Q I4 r1 (a3T ..) pl pu q3;show ax (ay X.prog X.w) X.A (subscriptTail e (.Slice lo hi af p2) v (.ref s3.heap.objs.size)) (EP X pins σ Q) X.xe {s3 with heap:=s3.heap.push {cls:=.type "slice",data:=.fields #[vl,vu,.none]} };exact tail_any (ops:=[.ref s3.heap.objs.size,v]) ht hT hg (by with_unfolding_all rfl)
def GA(xs:List V)(lo hi:Option Int):List V:=(xs.drop (HT.fS xs.length 0 lo)).take (HT.fS xs.length xs.length hi-HT.fS xs.length 0 lo)
def uD(xs:List V)(lo hi:Option Int):(GA xs lo hi).length<=xs.length:=by unfold GA;rw[jm,qd];omega
def Qc(K:aq):V->Option Int->Option Int->Hp->VK->Prop:=λx lo hi H Q=>∃a xs,x=.ref a/\fB K H a xs /\
 ¬ (HT.fS xs.length 0 lo=0/\HT.fS xs.length xs.length hi=xs.length) /\∀p,H p=af->Q (.ref p) (upd H p (.tup (GA xs lo hi)))
def Yk:SlR X (Qc X.K):=by
 intro pins s σ H x v vl vu lo hi sl Q I rx hs pl pu h;obtain⟨a,xs,rfl,hx,hw,q⟩:=h;cases rx;obtain⟨its,r,ht,hz⟩:=I.tuple hx;have hlen:its.toArray.size=xs.length:=by rw[cu];exact r.length.symm
 refine⟨"tuple",_,ph.lookup,ht.typeIs,?_⟩;refine HT.qZ ht hs pl pu (by rw[hlen];exact hw) ?_ (by rw[hlen];exact hz);rw[hlen];refine⟨.ref s.heap.objs.size,_,I.laid (t':=s.toks) (o:=.tup (GA xs lo hi)) (λb ob q=>di _ q) (bj _) ?_,rfl,q _ (I.hok.fresh (bj _))⟩;exact⟨ie (uD xs lo hi) hz,_,(r.drop (HT.fS xs.length 0 lo)).take (HT.fS xs.length xs.length hi-HT.fS xs.length 0 lo),Ft _ _,EM.new _ _⟩
def Vz(K:aq):R2:=λx y H Q=>∃a b xs ys,x=.ref a/\y=.ref b/\fB K H a xs/\fB K H b ys/\xs≠[]/\xs.length+ys.length<=bg /\
 (ys=[]->Q (.ref a) H)/\(ys≠[] ->∀p,H p=af->Q (.ref p) (upd H p (.tup (xs++ys))))
theorem Vals.DA(r:Vals xs us):us=[]↔xs=[]:=by
 cases r with
 |nil=>simp
 |cons _ _=>simp
def aAH:kR X (binaryOp .Add) (Vz X.K):=by intro pins s σ H x y v u Q I rx ry h;obtain⟨a,b,xs,ys,rfl,rfl,ha,hb,hx,hz,q1,q2⟩:=h;cases rx;cases ry;obtain⟨its,r1,p1,_⟩:=I.tuple ha;obtain⟨its2,r2,p2,_⟩:=I.tuple hb;refine HT.aAD p1 p2 (λz=>hx (r1.DA.mp z)) (λz=>⟨.ref a,H,I,rfl,q1 (r2.DA.mp z)⟩) (λz=>?_) (by rw[<- r1.length,<- r2.length];exact hz);refine⟨.ref s.heap.objs.size,_,I.laid (t':=s.toks) (o:=.tup (xs++ys)) (λb ob q=>di _ q) (bj _) ?_,rfl,q2 (λw=>z (r2.DA.mpr w)) _ (I.hok.fresh (bj _))⟩;exact⟨by rw[fu];exact hz,_,r1.append r2,Ft _ _,EM.new _ _⟩
end
def OL(n:Nat)(i:Int):Option Nat:=if 0<=i then(if i<n then aa i.toNat else af) else if -(n:Int)<=i then aa (i+n).toNat else af
def uQ{α:Type}(xs:List α)(i:Int):Option α:=(OL xs.length i).bind λj=>xs[j]?
def DB(h:OL n i=aa j):seqIndex? i n=aa j/\j<n /\ -(n:Int)<=i/\i<n:=by
 unfold OL at h;by_cases h0:0<=i
 .rw [Z_ h0] at h;by_cases h1:i<n
  .rw [Z_ h1] at h;have e:i.toNat=j:=dg h;exact⟨by rw[Em h0 h1,e],by omega,by omega,h1⟩
  .rw [Zz h1] at h;cases h
 .rw [Zz h0] at h;by_cases h1:-(n:Int)<=i
  .rw [Z_ h1] at h;have e:(i+n).toNat=j:=dg h;exact⟨by rw[En (by omega) h1,e],by omega,h1,by omega⟩
  .rw [Zz h1] at h;cases h
theorem MH{α:Type}{xs:List α}{i:Int}{v:α}(h:uQ xs i=aa v):∃j,seqIndex? i xs.length=aa j/\xs[j]?=aa v/\j<xs.length /\ -(xs.length:Int)<=i/\i<xs.length:=by
 unfold uQ at h
 cases e:OL xs.length i with
 |none=>rw[e] at h;cases h
 |some j =>
  rw[e] at h;obtain⟨h1,h2,h3,h4⟩:=DB e;exact⟨j,h1,h,h2,h3,h4⟩
def DC(b:ar):Prop:=∀o i,subscripted b ag o i=operate [o,i] (getItem o i)
def IxR(X:Cx)(r:R2):Prop :=
 ∀(value slice:ar) (pins:Q0b) (s:ao) (σ:St) (H:Hp) (x y:V) (v u:aj) (Q:VK),Inv X pins σ H s->RelV x v->RelV y u->r x y H Q ->
  subscripted slice ag v u=operate [v,u] (getItem v u)->ax (ay X.prog X.w) X.A (subscriptTail value slice v u) (EP X pins σ Q) X.xe s
def MtR(X:Cx)(id:String)(r:V->List V->Hp->VK->Prop):Prop :=
 ∀(pins:Q0b) (s:ao) (σ:St) (H:Hp) (x:V) (xs:List V) (v:aj) (us:Q0f) (Q:VK),Inv X pins σ H s->RelV x v->Vals xs us->r x xs H Q ->
  ax (ay X.prog X.w) X.A (call (.builtin id) (v::us)) (EP X pins σ Q) X.xe s
section
variable{X:Cx}{a b:ar}{ta tb:TE}{pos:bh}
def IxR.or(h:IxR X r)(h':IxR X r'):IxR X (λx y H Q=>r x y H Q\/r' x y H Q):=by
 intro value slice pins s σ H x y v u Q I rx ry q hs;rcases q with q|q
 .exact h value slice pins s σ H x y v u Q I rx ry q hs
 .exact h' value slice pins s σ H x y v u Q I rx ry q hs
def Vy(hr:IxR X r)(ha:PE X a ta)(hb:PE X b tb)(hs:DC b):PE X (.Subscript a b pos) (qo r ta tb):=by intro pins s σ H Q I h;exact Fs (xv ha hb I h λv u s2 x y H2 I2 rx ry q=>hr a b pins s2 σ H2 x y v u Q I2 rx ry q (hs _ _))
def By(K:aq):R2:=λx y H Q=>∃p xs i v,x=.ref p/\y=.int i/\dW K H p xs/\uQ xs i=aa v/\Q v H
def Bx(K:aq):R2:=λx y H Q=>∃p xs i v,x=.ref p/\y=.int i/\fB K H p xs/\uQ xs i=aa v/\Q v H
def aAI:IxR X (By X.K):=by
 intro value slice pins s σ H x y v u Q I rx ry h hs;obtain⟨p,xs,i,z,rfl,rfl,hq,he,q⟩:=h;cases rx;obtain⟨t,rfl⟩:=ry;obtain⟨its,r,pl,hz⟩:=I.list hq;obtain⟨j,h1,h2,h3,h4,h5⟩:=MH he;obtain⟨w,ew,IT⟩:=r.get h2;have hl:=r.length;have hn:=yA;have fin:EP X pins σ Q w s:=⟨z,H,I,IT,q⟩;by_cases h0:0<=i
 .have hj:i.toNat=j:=by rw[Em h0 h5] at h1;exact dg h1
  exact item_listR pl.isList h0 (by omega) (by rw[hj];simpa using ew) fin hs
 .have hj:(i+(its.toArray.size:Int)).toNat=j:=by rw[En (by omega) h4] at h1;rw[cu,<- hl];exact dg h1
  exact a1U (x:=w) pl.isList.typeIs a0A.lookup
   (wpAny_getItem_list_neg (Q:=λr s'=>r=w/\EP X pins σ Q r s') pl.isList (by omega) (by rw[cu]<;>omega) (by omega) (by rw[hj];simpa using ew) ⟨rfl,fin⟩) hs
def Yj:IxR X (Bx X.K):=by
 intro value slice pins s σ H x y v u Q I rx ry h hs;obtain⟨p,xs,i,z,rfl,rfl,hq,he,q⟩:=h;cases rx;obtain⟨t,rfl⟩:=ry;obtain⟨its,r,pl,hz⟩:=I.tuple hq;obtain⟨j,h1,h2,h3,h4,h5⟩:=MH he;obtain⟨w,ew,IT⟩:=r.get h2;have hl:=r.length;have hn:=yA;have fin:EP X pins σ Q w s:=⟨z,H,I,IT,q⟩;exact a1U (x:=w) pl.typeIs ph.lookup
  (getItem_tuple (j:=j) (Q:=λr s'=>r=w/\EP X pins σ Q r s') pl (by omega) (by omega) (by rw[cu,<- hl];exact h1) (by simpa using ew) ⟨rfl,fin⟩) hs
def IU(its:Q0f)(n j:Nat)(u:aj):ju (·.setIfInBounds j u) {cls:=.type "list",data:=.seq its.toArray n}={cls:=.type "list",data:=.seq (its.set j u).toArray n}:=by simp[ju]
theorem Inv.lst{pins:Q0b}{σ:St}{H:Hp}{s:ao}{p:ai}{xs:List V}(I:Inv X pins σ H s)(h:H p=aa (.lst xs)):
  ∃(its:Q0f) (n:Nat),Vals xs its/\s.heap.get? p=aa {cls:=.type "list",data:=.seq its.toArray n}/\xs.length<=bg:=by
 obtain⟨z,its,n,r,e⟩:=I.hok p _ h;exact⟨its,n,r,e,z⟩
theorem Inv.Yi{pins:Q0b}{σ:St}{H:Hp}{s:ao}{p:ai}{xs ys:List V}{its its':Q0f}{n n':Nat}{f:aw->aw}(I:Inv X pins σ H s)(h:H p=aa (.lst xs))
  (ho:s.heap.get? p=aa {cls:=.type "list",data:=.seq its.toArray n}) (hf:f {cls:=.type "list",data:=.seq its.toArray n}={cls:=.type "list",data:=.seq its'.toArray n' }) (r:Vals ys its') (hz:ys.length<=bg) (t:Nat):
  Inv X pins σ (upd H p (.lst ys)) {s with heap:=s.heap.update p f,toks:=t}:=by
 have e:(s.heap.update p f).get? p=aa {cls:=.type "list",data:=.seq its'.toArray n' }:=by rw[ur f ho (by rw[hf]<;>rfl),hf]
 refine I.write (x:=p) (e:=p) (by rw[h];trivial) (.inl rfl) (λb u hb q=>(Fe _ _ (dj hb)).trans q) ⟨_,e⟩ ?_;exact⟨hz,its',n',r,e⟩
def Vx:V->V->V->Hp->(Hp->Prop)->Prop:=λo i v H Q=>∃p xs k j,o=.ref p/\i=.int k/\H p=aa (.lst xs)/\OL xs.length k=aa j/\Q (upd H p (.lst (xs.set j v)))
def set_list:Bt X Vx:=by
 intro pins s σ H o i v ov iv u Q I ro ri rv h;obtain⟨p,xs,k,j,rfl,rfl,hp,hj,q⟩:=h;cases ro;obtain⟨t,rfl⟩:=ri;obtain⟨its,n,r,ho,hz⟩:=I.lst hp;obtain⟨h1,h2,h3,h4⟩:=DB hj;have hl:=r.length;have hn:=yA;have I':Inv X pins σ (upd H p (.lst (xs.set j v))) {s with heap:=s.heap.update p (ju (·.setIfInBounds j u))} :=
  I.Yi hp ho (IU its n j u) (r.set rv j) (by rw[jd];exact hz) s.toks
 by_cases h0:0<=k
 .have hk:k.toNat=j:=by rw[Em h0 h4] at h1;exact dg h1
  exact PySem.W.ki_setAt ho h0 (by omega) (by rw[cu,<- hl];exact h4) (by rw[hk];exact⟨_,I',q⟩)
 .have hk:(k+(its.toArray.size:Int)).toNat=j:=by rw[En (by omega) h3] at h1;rw[cu,<- hl];exact dg h1
  exact PySem.W.ki_setBack ho (by omega) (by rw[cu,<- hl];exact h3) (by omega) (by rw[hk];exact⟨_,I',q⟩)
def DD(lo hi:Option Int)(n:Nat):(sliceBounds lo hi af n).1=((HT.fS n 0 lo:Nat):Int)/\(sliceBounds lo hi af n).2.1=((HT.fS n n hi:Nat):Int)/\(sliceBounds lo hi af n).2.2=1:=by
 refine⟨?_,?_,rfl⟩
 .cases lo with
  |none=>simp[sliceBounds,HT.fS]
  |some i =>
   simp only[sliceBounds,HT.fS,a2c,show(1:Int)>0 by decide,if_true];by_cases h:i<0
   .simp only[h,if_true]<;>omega
   .simp only[h,if_false]<;>omega
 .cases hi with
  |none=>simp[sliceBounds,HT.fS]
  |some i =>
   simp only[sliceBounds,HT.fS,a2c,show(1:Int)>0 by decide,if_true];by_cases h:i<0
   .simp only[h,if_true]<;>omega
   .simp only[h,if_false]<;>omega
def zR(its:Q0f)(lo hi:Option Int):slicePick its.toArray lo hi af=((its.drop (HT.fS its.length 0 lo)).take (HT.fS its.length its.length hi-HT.fS its.length 0 lo)).toArray:=by obtain⟨h1,h2,h3⟩:=DD lo hi its.toArray.size;unfold slicePick;rw[h1,h2,h3];simp only[sliceRange_one,pick_run,cu]<;>rfl
def Qb(K:aq):V->Option Int->Option Int->Hp->VK->Prop:=λx lo hi H Q=>∃a xs,x=.ref a/\dW K H a xs /\∀p,H p=af->Q (.ref p) (upd H p (.lst (GA xs lo hi)))
theorem aAJ:SlR X (Qb X.K):=by intro pins s σ H x v vl vu lo hi sl Q I rx hs pl pu h;obtain⟨a,xs,rfl,hx,q⟩:=h;cases rx;obtain⟨its,r,ht,hz⟩:=I.list hx;have hlen:=r.length;refine⟨"list",_,a0A.lookup,ht.isList.typeIs,?_⟩;refine wpAny_getItem_list_slice ht.isList hs pl pu .none (by simp) ?_ (by rw[cu]<;>omega);rw[zR,<- hlen];refine⟨.ref s.heap.objs.size,_,I.laid (t':=s.toks) (o:=.lst (GA xs lo hi)) (λb ob q=>di _ q) (bj _) ?_,rfl,q _ (I.hok.fresh (bj _))⟩;exact⟨ie (uD xs lo hi) hz,_,0,(r.drop (HT.fS xs.length 0 lo)).take (HT.fS xs.length xs.length hi-HT.fS xs.length 0 lo),f_ _ rfl⟩
noncomputable def rA:V->Bool
 |.non=>ae
 |.bl _=>ae
 |.int _=>ae
 |.str _=>ae
 |_=>ag
noncomputable def eqV:V->V->Bool
 |.non,.non=>ae
 |.bl a,.bl b=>a == b
 |.bl a,.int b=>(if a then 1 else 0) == b
 |.int a,.bl b=>a == (if b then 1 else 0)
 |.int a,.int b=>a == b
 |.str a,.str b=>a == b
 |_,_=>ag
theorem Yh(ry:RelV y u)(rx:RelV x v)(fy:rA y=ae)(fx:rA x=ae):lj A s u v (eqV y x):=by
 cases y with
 |non =>
  cases ry
  cases x with
  |non=>cases rx;exact qu _
  |bl b=>cases rx;exact a3F b
  |int b=>obtain⟨t,rfl⟩:=rx;exact a3E b t
  |str b=>obtain⟨t,rfl⟩:=rx;exact a3D b t
  |_=>exact Zw (show ag=ae from fx) bz
 |bl a =>
  cases ry
  cases x with
  |non=>cases rx;exact a3K a
  |bl b=>cases rx;exact a3M a b
  |int b=>obtain⟨t,rfl⟩:=rx;exact a3L a b t
  |str b=>obtain⟨t,rfl⟩:=rx;exact a3J a b t
  |_=>exact Zw (show ag=ae from fx) bz
 |int a =>
  obtain⟨t',rfl⟩:=ry
  cases x with
  |non=>cases rx;exact a3H a t'
  |bl b=>cases rx;exact a3I a t' b
  |int b=>obtain⟨t,rfl⟩:=rx;exact a1d a t' b t
  |str b=>obtain⟨t,rfl⟩:=rx;exact a1c a t' b t
  |_=>exact Zw (show ag=ae from fx) bz
 |str a =>
  obtain⟨t',rfl⟩:=ry
  cases x with
  |non=>cases rx;exact a3B a t'
  |bl b=>cases rx;exact a3C a t' b
  |int b=>obtain⟨t,rfl⟩:=rx;exact a1b a t' b t
  |str b=>obtain⟨t,rfl⟩:=rx;exact Fb a t' b t
  |_=>exact Zw (show ag=ae from fx) bz
 |_=>exact Zw (show ag=ae from fy) bz
def IV(x:V)(u:aj):Bool:=match u with
 |.none=>eqV .non x
 |.bool b=>eqV (.bl b) x
 |.int i _=>eqV (.int i) x
 |.str z _=>eqV (.str z) x
 |_=>ag
theorem UQ(r:RelV y u)(f:rA y=ae):IV x u=eqV y x:=by
 cases y with
 |non=>cases r;rfl
 |bl b=>cases r;rfl
 |int i=>obtain⟨t,rfl⟩:=r;rfl
 |str z=>obtain⟨t,rfl⟩:=r;rfl
 |_=>exact Zw (show ag=ae from f) bz
theorem rB:∀{xs:List V} {us:Q0f},Vals xs us->xs.all rA=ae->us.any (IV x)=xs.any λy=>eqV y x
 |_,_,.nil,_=>rfl
 |y::xs,u::us,.cons r t,f=>by rw[mj,fz] at f;rw[jq,jq,UQ r f.1,rB t f.2]
theorem mT(rx:RelV x v)(fx:rA x=ae):∀{xs:List V} {us:Q0f},Vals xs us->xs.all rA=ae ->∀u∈us,lj A s u v (IV x u)
 |_,_,.nil,_=>λu hu=>by cases hu
 |y::xs,u::us,.cons r t,f=>λu' hu=>by
  rw[mj,fz] at f;rcases cb.mp hu with rfl|hu
  .rw [UQ r f.1];exact Yh r rx f.1 fx
  .exact mT rx fx t f.2 u' hu
def inV(x:V)(xs:List V):Bool:=xs.any λy=>eqV y x
def wb(K:aq)(neg:Bool):R2:=λx y H Q=>∃p xs,y=.ref p/\(dW K H p xs\/fB K H p xs)/\rA x=ae/\xs.all rA=ae/\Q (.bl (if neg then !inV x xs else inV x xs)) H
def OM:kR X (compareOp .In) (wb X.K ag):=by
 intro pins s σ H x y v u Q I rx ry h;obtain⟨p,xs,rfl,hq,fx,fs,q⟩:=h;cases ry;rcases hq with hq|hq
 .obtain ⟨its,r,pl,hz⟩:=I.list hq;refine a09 (IV x) pl.isList (λw hw=>mT rx fx r fs w (by simpa using hw)) ⟨.bl _,H,I,rfl,?_⟩;rw[show its.toArray.any (IV x)=its.any (IV x) by simp,rB r fs];exact q
 .obtain ⟨its,r,pl,hz⟩:=I.tuple hq;refine a08 (IV x) pl (λw hw=>mT rx fx r fs w (by simpa using hw)) ⟨.bl _,H,I,rfl,?_⟩;rw[show its.toArray.any (IV x)=its.any (IV x) by simp,rB r fs];exact q
def DF:kR X (compareOp .NotIn) (wb X.K ae):=by
 intro pins s σ H x y v u Q I rx ry h;obtain⟨p,xs,rfl,hq,fx,fs,q⟩:=h;cases ry;rcases hq with hq|hq
 .obtain ⟨its,r,pl,hz⟩:=I.list hq;refine a07 (IV x) pl.isList (λw hw=>mT rx fx r fs w (by simpa using hw)) ⟨.bl _,H,I,rfl,?_⟩;rw[show its.toArray.any (IV x)=its.any (IV x) by simp,rB r fs];exact q
 .obtain ⟨its,r,pl,hz⟩:=I.tuple hq;refine a06 (IV x) pl (λw hw=>mT rx fx r fs w (by simpa using hw)) ⟨.bl _,H,I,rfl,?_⟩;rw[show its.toArray.any (IV x)=its.any (IV x) by simp,rB r fs];exact q
def DG:eT X (.builtin "len") (λxs H Q=>∃p ys,xs=[.ref p]/\(dW X.K H p ys\/fB X.K H p ys)/\Q (.int ys.length) H):=by
 intro pins s σ H xs us Q I r h;obtain⟨p,ys,rfl,hq,q⟩:=h;obtain⟨u,rfl,rx⟩:=vals1 r;cases rx;have hn:=yA;rcases hq with hq|hq
 .obtain ⟨its,r',pl,hz⟩:=I.list hq;have hlen:=r'.length;exact Calls.call_len_list pl.isList (by simp only[cu]<;>omega) ⟨.int ys.length,H,I.tok _,⟨s.toks+1,by rw[cu,hlen]⟩,q⟩
 .obtain ⟨its,r',pl,hz⟩:=I.tuple hq;have hlen:=r'.length;exact len_tuple pl (by simp only[cu]<;>omega) ⟨.int ys.length,H,I.tok _,⟨s.toks+1,by rw[cu,hlen]⟩,q⟩
theorem zS:eT X (.type "tuple") (λxs H Q=>∃p ys,xs=[.ref p]/\((dW X.K H p ys /\∀l,H l=af->Q (.ref l) (upd H l (.tup ys)))\/(fB X.K H p ys/\Q (.ref p) H))):=by
 intro pins s σ H xs us Q I r h;obtain⟨p,ys,rfl,h⟩:=h;obtain⟨u,rfl,rx⟩:=vals1 r;cases rx;rcases h with⟨hq,q⟩|⟨hq,q⟩
 .obtain ⟨its,r',pl,hz⟩:=I.list hq;have hlen:=r'.length;refine call_tuple_list pl.isList (λh' kp=>?_) (by simp only[cu]<;>omega);have I1:Inv X pins σ H {s with heap:=h' }:=I.kept (t':=s.toks) kp;have I2:Inv X pins σ (upd H h'.objs.size (.tup ys)) {s with heap:=h'.push {cls:=.type "tuple",data:=.seq its.toArray} } :=
   I1.laid (t':=s.toks) (λb o e=>di _ e) (bj _) (show c6 X.prog X.w _ _ _ (.tup ys) from⟨hz,its,r',Ft _ _,EM.new _ _⟩)
  exact⟨.ref h'.objs.size,_,I2,rfl,q _ (I1.hok.fresh (bj _))⟩
 .obtain ⟨its,r',pl,hz⟩:=I.tuple hq;exact call_tuple_same pl ⟨.ref p,H,I,rfl,q⟩
def tyV(K:aq)(T:String)(x:V)(H:Hp):Prop:=match x with
 |.str _=>T="str"
 |.int _=>T="int"
 |.ref p=>(T="list" /\∃xs,dW K H p xs)\/(T="tuple" /\∃o,K.lookup p=aa o/\o.cls=.type "tuple" /\o.dict=af) \/
   (T="dict" /\((∃kvs,H p=aa (.dK kvs)) \/∃kvs,H p=aa (.dT kvs)))\/(T="set" /\∃S n,H p=aa (.set S n))\/(T="tuple" /\∃xs,H p=aa (.tup xs))
 |_=>False
theorem Yg(I:Inv X pins σ H s)(r:RelV x v)(ty:tyV X.K T x H):
  s.TypeIs v T /\∀a,v=.ref a ->∃ob,s.heap.get? a=aa ob/\ob.dict=af:=by
 cases x with
 |str z =>
  obtain⟨t,rfl⟩:=r;cases (show T="str" from ty);exact⟨typeIs_str s z t,λ_ e=>nomatch e⟩
 |int i =>
  obtain⟨t,rfl⟩:=r;cases (show T="int" from ty);exact⟨Ek s i t,λ_ e=>nomatch e⟩
 |ref p =>
  cases r;rcases ty with⟨rfl,xs,hq⟩|⟨rfl,o,hk,hc,hd⟩|⟨rfl,hk⟩|⟨rfl,S,n,hk⟩|⟨rfl,xs,hk⟩
  .obtain ⟨its,_,pl,_⟩:=I.list hq;refine⟨pl.isList.typeIs,λa e=>?_⟩;cases e;obtain⟨o,n,e,c,hd,_⟩:=pl;exact⟨o,e,hd⟩
  .refine ⟨⟨o,I.C5 p o hk,hc⟩,λa e=>?_⟩;cases e;exact⟨o,I.C5 _ o hk,hd⟩
  .have z:∃o,s.heap.get? p=aa o/\o.ExactDict:=by
    rcases hk with⟨kvs,hk⟩|⟨kvs,hk⟩
    .obtain ⟨_,_,_,_,o,_,_,e,ex,_⟩:=I.hok p _ hk;exact⟨o,e,ex⟩
    .obtain ⟨_,_,_,_,o,_,_,e,ex,_⟩:=I.hok p _ hk;exact⟨o,e,ex⟩
   obtain⟨o,e,ex⟩:=z;refine⟨⟨o,e,ex.1⟩,λa e2=>?_⟩;cases e2;exact⟨o,e,ex.2.1⟩
  .obtain ⟨o,_,_,_,e,ex,_⟩:=I.hok p _ hk;refine⟨⟨o,e,ex.1⟩,λa e2=>?_⟩;cases e2;exact⟨o,e,ex.2.1⟩
  .obtain ⟨_,_,_,⟨o,e,c,_⟩,nd⟩:=I.hok p _ hk;refine⟨⟨o,e,c⟩,λa e2=>?_⟩;cases e2;exact⟨o,e,nd _ e⟩
 |_=>exact jr ty
def Ai(K:aq)(T:String)(r:V->List V->Hp->VK->Prop)(to:TE)(t:TA):TE:=λσ H Q=>to σ H λx H1=>tyV K T x H1/\t σ H1 λxs H2=>r x xs H2 Q
variable{o e:ar}{es:List ar}{to:TE}{t:TA}{name:ak}{apos cpos:bh}{T id:String}{r:V->List V->Hp->VK->Prop}
theorem D_(pa:PlainAttrs T)(slot:Slot T name id)(hty:typeOf (.builtin id)=pure (.type "method_descriptor"))(hm:MtR X id r)(ho:PE X o to)(ha:PA X (e::es) t)
  (hbase:attributeBase o name X.env (eval o X.env)=eval o X.env:=by rfl)
  (hfew:((d_ cpos (au (e::es) X.env)).all (λx=>!x.1)&&(backToKw cpos (ke [] X.env)).all (λx=>x.1.isSome)
   && Zv ((e::es).length+([]:List gd).length+(if([]:List gd).isEmpty then 0 else 1)<30))=ae:=by rfl)
  (hline:Q0j apos cpos:=by rfl) (hs:Zs X e es:=by rfl) (hplain:Q0k X cpos es:=by rfl):
  PE X (.Call (.Attribute o name apos) (e::es) [] cpos) (Ai X.K T r to t):=by
 intro pins s σ H Q I h;refine wpAny_Call_method_late hbase hfew hline rfl (d8 (ho pins s σ H _ I h) λv s1 ⟨x,H1,I1,r1,ty,q1⟩=>?_);obtain⟨h1,h2⟩:=Yg I1 r1 ty;refine⟨T,id,pa,slot,hty,h1,h2,?_⟩;have hA:=ha cpos pins s1 σ H1 _ I1 q1;rw[hs] at hA ⊢;refine Fl (by show(ag||(d_ cpos (au es X.env)).any (·.1))=ag;rw[hplain]<;>rfl) (a1K ?_);exact d8 hA λus s2 hq5=>by obtain⟨vs,H2,I2,r2,q2⟩:=hq5;exact hm pins s2 σ H2 x vs v us Q I2 r1 r2 q2
end
def MtM(X:Cx)(id:String)(r:V->List V->Hp->VK->Prop):Prop :=
 ∀(pins:Q0b) (s:ao) (σ:St) (H:Hp) (x:V) (xs:List V) (v:aj) (us:Q0f) (Q:VK),Inv X pins σ H s->RelV x v->Vals xs us->r x xs H Q ->
  ax (ay X.prog X.w) X.A (call (.builtin id) (v::us)) (EP X pins σ Q) X.xe s
theorem Vals.one:∀{x:V} {us:Q0f},Vals [x] us ->∃u,us=[u]/\RelV x u
 |_,_,.cons r .nil=>⟨_,rfl,r⟩
theorem Vals.eraseIdx:∀{xs:List V} {us:Q0f} (i:Nat),Vals xs us->Vals (xs.eraseIdx i) (us.eraseIdx i)
 |_,_,_,.nil=>.nil
 |_,_,0,.cons _ t=>t
 |_,_,i+1,.cons r t=>.cons r (Vals.eraseIdx i t)
theorem Vals.rep(h:Vals xs us):∀k:Nat,Vals (dh k xs).flatten (dh k us).flatten
 |0=>.nil
 |k+1=>by rw[jb,jb,qg,qg];exact Vals.append h (Vals.rep h k)
theorem BE{α:Type}:∀(l:List α) (i:Nat),(l.eraseIdx i).length<=l.length
 |[],_=>bj _
 |_::_,0=>mv _
 |_::r,i+1=>Nat.succ_le_succ (BE r i)
theorem foldl_rep(its:Q0f):∀(k:Nat) (acc:Q0f),
  Gx (λx1 x2=>x1++x2) acc.toArray (dh k its.toArray)=(acc++(dh k its).flatten).toArray
 |0,acc=>by simp
 |k+1,acc=>by
  have e:acc.toArray++its.toArray=(acc++its).toArray:=by simp
  have e2:(acc++its)++(dh k its).flatten=acc++(dh (k+1) its).flatten:=by rw[jb,qg,ng]
  rw[<- e2,<- foldl_rep its k (acc++its),<- e,jb,mh]
section
variable{X:Cx}{pins:Q0b}{σ:St}{H:Hp}{s:ao}{l b:ai}{xs ys zs:List V}
theorem Inv.xm{its its':Q0f}{n:Nat}{f:Array aj->Array aj}{t':Nat}(I:Inv X pins σ H s)(hH:H l=aa (.lst xs))
  (e:s.heap.get? l=aa {cls:=.type "list",data:=.seq its.toArray n}) (hf:f its.toArray=its'.toArray) (hv:Vals ys its') (hz:ys.length<=bg):
  Inv X pins σ (upd H l (.lst ys)) {s with heap:=s.heap.update l (ju f),toks:=t' }:=by
 have q:=a3R e f;rw[hf] at q;refine I.write (x:=l) (e:=l) (by rw[hH];exact trivial) (.inl rfl) (λb' u hb hu=>(Fe s.heap (ju f) (dj hb)).trans hu) ⟨_,q⟩ ?_;exact⟨hz,its',_,hv,q⟩
theorem Inv.Bw(I:Inv X pins σ H s)(hv:Vals ys its)(hz:ys.length<=bg):
  Inv X pins σ (upd H s.heap.objs.size (.lst ys)) {s with heap:=s.heap.push {cls:=.type "list",data:=.seq its.toArray},toks:=t' } :=
 I.laid (λ_ _ q=>di _ q) (bj _) ⟨hz,its,0,hv,f_ _ rfl⟩
def Inv.fresh(I:Inv X pins σ H s):H s.heap.objs.size=af:=I.hok.fresh (bj _)
def Inv.uR(I:Inv X pins σ H s)(hH:H l=aa (.lst xs)):xs.length<=bg /\∃(its:Q0f) (n:Nat),Vals xs its/\xs.length=its.length/\s.heap.get? l=aa {cls:=.type "list",data:=.seq its.toArray n}:=by obtain⟨z,its,n,r,e⟩:=I.hok l _ hH;exact⟨z,its,n,r,r.length,e⟩
def GB{n:Nat}(h:n<=bg):zi n=ag:=by unfold zi;exact Zy (by omega)
def MI:V->List V->Hp->VK->Prop:=λx vs H Q=>∃l xs y,x=.ref l/\vs=[y]/\H l=aa (.lst xs)/\xs.length<bg/\Q .non (upd H l (.lst (xs++[y])))
def BF:MtM X "list.append" MI:=by intro pins s σ H x vs v us Q I rx rv h;obtain⟨l,xs,y,rfl,rfl,hH,hz,q⟩:=h;cases rx;obtain⟨u,rfl,ru⟩:=rv.one;obtain⟨z,its,n,r,hl,e⟩:=I.uR hH;refine oz a1p ⟨_,e,rfl⟩ F.entry_list_append (F.args_list_append_2 _ _) (PySem.list_append l its.toArray n u (by rw[cu];omega)) ⟨e,?_⟩;refine⟨.non,_,I.xm (its':=its++[u]) hH e (by simp) (r.append (.cons ru .nil)) ?_,rfl,q⟩;rw[fu,vp];omega
def MJ:V->List V->Hp->VK->Prop:=λx vs H Q=>∃l b xs zs,x=.ref l/\vs=[.ref b]/\H l=aa (.lst xs)/\H b=aa (.lst zs)/\xs.length+zs.length<=bg/\Q .non (upd H l (.lst (xs++zs)))
def ON:MtM X "list.extend" MJ:=by
 intro pins s σ H x vs v us Q I rx rv h;obtain⟨l,b,xs,zs,rfl,rfl,hH,hB,hz,q⟩:=h;cases rx;obtain⟨u,rfl,ru⟩:=rv.one;cases ru;obtain⟨z,its,n,r,hl,e⟩:=I.uR hH;obtain⟨z2,its2,n2,r2,hl2,e2⟩:=I.uR hB;have hsz:its.toArray.size+its2.toArray.size<=bg:=by rw[cu,cu];omega
 have UR:¬ (!its.toArray.isEmpty&&zi (its.toArray.size+its2.toArray.size))=ae:=by rw[GB hsz,Bool.and_false];exact bz
 refine oz a1o ⟨_,e,rfl⟩ F.entry_list_extend (F.args_list_extend_2 _ _)
  (a4p l its.toArray n b its2.toArray n2 UR (by rw[cu];omega) (by omega)) ⟨e,e2,?_⟩
 refine⟨.non,_,I.xm (its':=its++its2) hH e (by simp) (r.append r2) ?_,rfl,q⟩;rw[fu];omega
def US:V->List V->Hp->VK->Prop:=λx vs H Q=>∃l xs i k y,x=.ref l/\vs=[.int i]/\H l=aa (.lst xs) /\ -(2^63)<=i/\i<2^63/\seqIndex? i xs.length=aa k/\xs[k]?=aa y/\Q y (upd H l (.lst (xs.eraseIdx k)))
def UT:MtM X "list.pop" US:=by
 intro pins s σ H x vs v us Q I rx rv h;obtain⟨l,xs,i,k,y,rfl,rfl,hH,h1,h2,hk,hy,q⟩:=h;cases rx;obtain⟨u,rfl,ru⟩:=rv.one;obtain⟨t,rfl⟩:=ru;obtain⟨z,its,n,r,hl,e⟩:=I.uR hH;obtain⟨w,hw,IT⟩:=r.get hy;refine oz a1m ⟨_,e,rfl⟩ F.entry_list_pop (F.args_list_pop_2 _ _)
  (a3O l its.toArray n i t k w (a0H h1 h2) (by rw[cu,<- hl];exact hk) (by rw[<- Ae];exact hw) (by rw[cu];omega)) ⟨e,?_⟩
 refine⟨y,_,I.xm (its':=its.eraseIdx k) hH e ?_ (r.eraseIdx k) ?_,IT,q⟩
 .show its.toArray.eraseIdxIfInBounds k=(its.eraseIdx k).toArray;rw[List.eraseIdxIfInBounds_toArray]
 .have:=BE xs k;omega
def Bo:R2:=λx y H Q=>∃l b xs zs,x=.ref l/\y=.ref b/\H l=aa (.lst xs)/\H b=aa (.lst zs)/\xs.length+zs.length<=bg /\∀p,H p=af->Q (.ref p) (upd H p (.lst (xs++zs)))
def UU:kR X (binaryOp .Add) Bo:=by
 intro pins s σ H x y v u Q I rx ry h;obtain⟨l,b,xs,zs,rfl,rfl,hH,hB,hz,q⟩:=h;cases rx;cases ry;obtain⟨z,its,n,r,hl,e⟩:=I.uR hH;obtain⟨z2,its2,n2,r2,hl2,e2⟩:=I.uR hB;refine PySem.P.add_list e e2 ?_ (by rw[cu,cu];omega);have ea:its.toArray++its2.toArray=(its++its2).toArray:=by simp
 rw[ea];exact⟨.ref _,_,I.Bw (t':=s.toks) (r.append r2) (by rw[fu];omega),rfl,q _ I.fresh⟩
def Qa:R2:=λx y H Q=>∃l k xs,x=.ref l/\y=.int k/\H l=aa (.lst xs) /\ -(2^63)<=k/\k<2^63/\xs.length*k.toNat<=bg /\
 ∀p,H p=af->Q (.ref p) (upd H p (.lst (dh k.toNat xs).flatten))
theorem len_rep{α:Type}(xs:List α)(k:Nat):(dh k xs).flatten.length=k*xs.length:=by
 induction k with
 |zero=>simp
 |succ k ih=>rw[jb,qg,fu,ih,F_,Nat.add_comm]
def Yf:kR X (binaryOp .Mult) Qa:=by
 intro pins s σ H x y v u Q I rx ry h;obtain⟨l,k,xs,rfl,rfl,hH,h1,h2,hz,q⟩:=h;cases rx;obtain⟨t,rfl⟩:=ry;obtain⟨z,its,n,r,hl,e⟩:=I.uR hH;have hlen:its.toArray.size*k.toNat<=bg:=by rw[cu,<- hl];exact hz
 have hcap:¬ its.toArray.size*k.toNat>(2^63-1)/8:=by
  have:(bg:Nat)<=(2^63-1)/8:=by decide
  omega
 have hfit:¬ (!Builtin.List.listFitsIndex k)=ae:=by rw[a0H h1 h2];exact bz
 have UR:¬ zi (its.toArray.size*k.toNat)=ae:=by rw[GB hlen];exact bz
 have hnew:Gx (λx1 x2=>x1++x2) #[] (dh (if its.toArray.isEmpty=ae then 0 else k.toNat) its.toArray)=(dh k.toNat its).flatten.toArray:=by
  have f0:∀m:Nat,Gx (λx1 x2=>x1++x2) #[] (dh m its.toArray)=(dh m its).flatten.toArray:=λm=>by have:=foldl_rep its m [];rw[vk] at this;exact this
  rw[f0]
  cases its with
  |nil=>simp
  |cons a r'=>rw[Zz (by simp)]
 refine wpAny_binaryOp_repeat_ref (T:="list") (U:="int") (by decide) ⟨_,e,rfl⟩ (λs'=>Ek s' k t) noFill_list_mul F.fills_int_mul a1q repeat_list F.slot_int_index.lookup
  (oz a1q (Ek s k t) F.entry_int_rmul (F.args_int_rmul_2 _ _) (int___rmul___int_list k t l its.toArray n)
   ⟨e,rfl,⟨_,e,rfl⟩,oz F.slot_list_mul ⟨_,e,rfl⟩ F.entry_list_mul (F.args_list_mul_2 _ _) (a4q l its.toArray n k t hfit hcap UR) ⟨e,?_⟩⟩)
 rw[hnew];exact⟨.ref _,_,I.Bw (t':=s.toks) (r.rep k.toNat) (by rw[len_rep,Nat.mul_comm];exact hz),rfl,q _ I.fresh⟩
end
section
variable{prog:bf}{w:ba}{A:bx}{E:Q0c}{s:ao}
set_option maxRecDepth 100000 in
end
end L2
namespace Att
open PySem.W PySem.Calls PyProof.Rows
theorem uS:∀(ns:Q0e) (vs:Q0f),WellAll P h vs (ns.map a0Y)->iy vs ns:=by
 intro ns
 induction ns with
 |nil =>
  intro vs w;rw[j_] at w;cases w;exact .nil
 |cons n ns ih =>
  intro vs w;rw[bt] at w
  cases w with
  |cons a b =>
   cases a;exact .cons _ _ (ih _ b)
theorem OO{l:qr}{n:Nat}(hn:l.most=aa n){P:Params}{h:bb}{args:List WData}{vals:Q0f}
  (hpre:l.row.toRowW.claim.pre args=ae) (hwl:WellAll P h vals args):
  ∃a vs ns,vals=[c_ a]/\args=[WData.list (ns.map a0Y)]/\h.get? a=aa {cls:=.type "list",data:=.seq vs.toArray}/\iy vs ns/\ns.length<=n:=by
 have hsh:WShape.hasAll [] args [.list .int]=ae:=(pre_splitW hpre).1;have hc:l.pre.holds [] {args:=args}=ae:=(pre_splitW hpre).2;obtain⟨d,r,rfl,h1,h2⟩:=hasAllW_cons hsh;obtain rfl:=hasAllW_nil h2;obtain⟨xs,rfl,h3⟩:=hasW_list h1;obtain⟨ns,rfl⟩:=items_int h3;have hlen:ns.length<=n:=by
  unfold OpenLaw.pre at hc;have h4:(WTm.not (.lt (.lit (.int (n:Int))) (.len (.arg 0)))).holds [] {args:=[.list (ns.map .int)]}=ae:=by have h4:=(holds_andW hc).1;rw[hn] at h4;exact h4
  have h5:=condW_of h4 (w_not (w_lt w_lit (w_len_list (w_arg rfl))));rw[a_] at h5;refine Nat.le_of_not_lt λq=>?_;have q':(n:Int)<((ns.length:Nat):Int):=by omega
  first
   | (rw[Zx q'] at h5;exact Zw h5 (by decide))
   | (simp at h5;omega)
 cases hwl with
 |cons w1 w2 =>
  cases w2
  cases w1 with
  |list ho hall=>exact⟨_,_,ns,rfl,rfl,ho,uS ns _ hall,hlen⟩
def OP(l:qr)(args:List WData):l.row.toRowW.claim.post args (.bool ae) args=ae :=
 postW_of (r:=l.row.toRowW) (X:=(ae == ae))
  (show a0X [] (.bool ae) .bool=ae by first|rfl|decide|simp[a0X,WShape.arms,WShape.armsAll])
  (show(WTm.eq .res (.lit (.bool ae))).value [] {args:=args,res:=aa (.bool ae),after:=args}=aa (.bool (ae == ae)) from w_eq_bool (w_res rfl) w_lit) rfl
theorem GC{l:qr}{n:Nat}{q:bf}{loose:Q0g}{XP:(ak->Option aj)->bb->Prop}{YP:ba->bb->Prop}{d:DefRec}
  (hn:l.most=aa n) (hdf:d.params.defaults=[])
  (call:∀(w:ba) (s₀ s₁:ao) (mg mb:Q0d) (fa:ai) (o:aw) (pm cd doc:aj) (a:ai) (vs:Q0f) (ns:Q0e),
   Ground q loose [] XP w s₀ mg mb s₁.heap->YP w s₁.heap ->
   s₁.heap.get? fa=aa o->o.data=.func (docDef d.name d.params d.body d.scope pm cd doc)->s₁.heap.CodeRec cd d.name->mg d.name=aa (.ref fa) ->
   s₁.heap.get? a=aa {cls:=.type "list",data:=.seq vs.toArray}->iy vs ns->ns.length<=n->s₁.gens=#[] ->
   kh (ay l.prog w) callerA (.call (.ref fa) ⟨[.ref a],[]⟩) (λr s'=>r=.ok (.ret (.bool ae))/\OldK s₁.heap s'.heap/\s'.os=s₁.os/\mr s'.gens) s₁):
  Ez q loose XP YP l.row.toRowW d [] (λf vs=>Es f vs):=by
 intro w s₀ s₁ mg mb G Y fa o pm cd doc dV kV ho hd hcd hD hmg hg args vals as hpre hlay hrd hwl hlo;obtain rfl:dV=.none:=Dflts.none hD hdf;obtain rfl:kV=.none:=Dflts.noKw hD;obtain⟨a,vs,ns,rfl,rfl,hobj,hints,hlen⟩:=OO hn hpre hwl;refine enter_call (uk (call w s₀ s₁ mg mb fa o pm cd doc a vs ns G Y ho (fd_plain hd) hcd hmg hobj hints hlen hg) λr s' hq=>?_);obtain⟨rfl,h2,h3,h4⟩:=hq;exact⟨.inl ⟨.bool ae,.bool ae,[],rfl,λ_=>rfl,.bool ae,OP l _,λ_=>⟨zy,λ_ hm=>(nomatch hm)⟩⟩,h2,h3,h4⟩
section
variable{prog:bf}{w:ba}{A:bx}{E:Q0c}{s:ao}{K:aq}
def yD(h:bb):bb:={h with objs:=#[]}
theorem pO(h:bb)(b:ai):(yD h).get? b=af:=by
 cases e:(yD h).get? b with
 |none=>rfl
 |some o=>exact Zw (b_ e) (Nat.not_lt_zero _)
def ledger(h:bb)(L d:ai):List (ai×aw):=(bu h.objs.size).filterMap λa=>if a=L\/a=d then af else(h.get? a).map λo=>(a,o)
def eX:(a,o)∈ledger h L d↔a≠L/\a≠d/\h.get? a=aa o:=by
 unfold ledger;rw[vn]
 constructor
 .rintro ⟨b,_,e⟩;split at e
  .cases e
  .rename_i hb;obtain⟨o',ho,e'⟩:=jk.mp e;cases e';exact⟨λq=>hb (.inl q),λq=>hb (.inr q),ho⟩
 .rintro ⟨n1,n2,ho⟩;refine⟨a,dm.mpr (b_ ho),?_⟩;rw[Zz (show ¬ (a=L\/a=d) from λq=>q.elim n1 n2),ho]<;>rfl
def UW(n:h.Ns L m):Fr (yD h) L h m :=
 ⟨n,λb o e=>(by rw[pO] at e;cases e),iz _⟩
end
end Att
namespace L2
open PySem.Spec PyProof.Rows
theorem nX:∀{vs:Q0f} {ns:Q0e},iy vs ns->Vals (ns.map V.int) vs
 |_,_,.nil=>.nil
 |_,_,.cons n t h=>.cons ⟨t,rfl⟩ (nX h)
def Only(H:Hp):Prop:=∀b,H b=af\/(∃o xs,H b=aa (.xV o (.lst xs))) \/∃q,H b=aa (.N9 q)
structure TabsOk (K:aq) (q:bf):Prop where
 nd:((eS K).map (·.2.2)).Nodup
 rc:∀t∈eS K,∃e,(recsOf q).find? (λe=>e.name == t.1)=aa e
theorem IW{K:aq}{t:ak×ai×ai}(h:t∈eS K):Et K t.1=aa (t.2.1,t.2.2):=by
 obtain⟨x,_,e⟩:=vn.mp h
 cases q:Et K x with
 |none=>rw[q] at e;cases e
 |some p=>rw[q] at e;cases e;exact q
def IX(K:aq)(a:ai)(u:Option HO):Hp:=λb=>if b=a then u else((eS K).find? λt=>t.2.2 == b).map λt=>.N9 (ZW t.1)
theorem OQ{l:List (ak×ai×ai)}(nd:(l.map (·.2.2)).Nodup){t:ak×ai×ai}(h:t∈l):l.find? (λu=>u.2.2 == t.2.2)=aa t:=by
 induction l with
 |nil=>cases h
 |cons u l ih =>
  rw[bt,gz] at nd;rw[ia];by_cases e:(u.2.2 == t.2.2)=ae
  .rw [e];rcases cb.1 h with z|z
   .rw [z]
   .exact Zw (cg.2 ⟨t,z,(eq_of_beq e).symm⟩) nd.1
  .rw [a3d] at e;rw[e];rcases cb.1 h with z|z
   .rw [z,beq_self_eq_true] at e;cases e
   .exact ih nd.2 z
theorem UX{P:bf}{w:ba}{K:aq}{mg mb:Q0d}{CX:ME}{k:Nat}{fa a:ai}{fd:gp}{x:ak}{sp:Sp}{s₁:ao}{vs:Q0f}{ns:Q0e}
  (KX:K.In s₁.heap) (hns:s₁.heap.Ns ig mg) (hb:s₁.heap.Ns builtinsNs mb) (hbb:∀x:ak,x ≠ "__name__"->mb x=bootBuiltins x) (hlim:s₁.heap.NoLimit)
  (hbm:∃bm ob,mg "__builtins__"=aa (.ref bm)/\bm≠builtinsNs/\s₁.heap.get? bm=aa ob/\ob.cls=.type "module" /\ob.dict=aa builtinsNs/\ob.data=.plain)
  (hT:∀t∈eS K,CodeHd s₁.heap t.2.1 t.2.2/\s₁.heap.get? t.2.2=aa (tabObj #[])) (hnd:((eS K).map (·.2.2)).Nodup) (hnt:noTabs K=ae) (hg:s₁.gens=#[])
  (ha:s₁.heap.get? a=aa {cls:=.type "list",data:=.seq vs.toArray}) (hi:iy vs ns) (hl:ns.length<=bg) (hr:fZ k callerA)
  (F:∀base:bb,K.In base->base.Ns ig mg->lF P w K mg base CX k fa fd [x] sp) (hbind:∀(s:ao) (u:aj),rf s fd ⟨[u],[]⟩ [(x,u)])
  (hsp:∀H:Hp,Only H->dW K H a (ns.map V.int)->sp [.ref a] H (λv _=>v=.bl ae) λ_ _ _=>False)
  (wm:∀H e s',CX [] H s₁ (λ_ _ _=>False) e s'->False):
  kh (ay P w) callerA (.call (.ref fa) ⟨[.ref a],[]⟩) (λr s'=>r=.ok (.ret (.bool ae))/\OldK s₁.heap s'.heap/\s'.os=s₁.os/\mr s'.gens) s₁:=by
 have rv:=nX hi;have lenV:=hi.length;have neA:∀t∈eS K,t.2.2≠a:=λt ht z=>by have e:=(hT t ht).2;rw[z,ha] at e;cases e
 -- a tracked address: the script or a table
 have core:∀u:Option HO,(u=af \/∃o xs,u=aa (.xV o (.lst xs)))->dW K (IX K a u) a (ns.map V.int)->(∀v,u=aa v->c6 P w (IX K a u) s₁.heap a v)->(u≠af->K.lookup a=af) ->
   kh (ay P w) callerA (.call (.ref fa) ⟨[.ref a],[]⟩) (λr s'=>r=.ok (.ret (.bool ae))/\OldK s₁.heap s'.heap/\s'.os=s₁.os/\mr s'.gens) s₁:=by
  intro u hu hS Bm hK;obtain⟨H,eH⟩:∃H,IX K a u=H:=⟨_,rfl⟩;have z9:∀t∈eS K,H t.2.2=aa (.N9 (ZW t.1)):=λt ht=>by rw[<- eH];unfold IX;rw[Zz (neA t ht),OQ hnd ht];rfl
  have tK:∀b,H b=af\/(b=a/\H b=u/\u≠af) \/∃t∈eS K,t.2.2=b/\H b=aa (.N9 (ZW t.1)):=λb=>by
   by_cases hb:b=a
   .cases hu2:u with
    |none=>left;rw[<- eH];unfold IX;rw[Z_ hb,hu2]
    |some v=>right;left;refine⟨hb,?_,by simp⟩;rw[<- eH];unfold IX;rw[Z_ hb,hu2]
   .cases q:(eS K).find? λt=>t.2.2 == b with
    |none=>left;rw[<- eH];unfold IX;rw[Zz hb,q];rfl
    |some t =>
     have e1:t.2.2=b:=eq_of_beq (List.find?_some (p:=λt:ak×ai×ai=>t.2.2 == b) q);have e2:=List.mem_of_find?_eq_some q;exact .inr (.inr ⟨t,e2,e1,by rw[<- e1];exact z9 t e2⟩)
  rw[eH] at hS Bm;have hO:Only H:=λb=>by
   rcases tK b with z|⟨_,z,_⟩|⟨t,_,_,z⟩
   .exact .inl z
   .rcases hu with y|⟨o,xs,y⟩
    .exact .inl (z.trans y)
    .exact .inr (.inl ⟨o,xs,z.trans y⟩)
   .exact .inr (.inr ⟨_,z⟩)
  have hok:oO P w H s₁.heap:=λb v e=>by
   rcases tK b with z|⟨rfl,z,_⟩|⟨t,ht,rfl,z⟩
   .rw [z] at e;cases e
   .exact Bm v (by rw[<- z];exact e)
   .rw [z] at e;cases e;exact⟨#[],(hT t ht).2,trivial,λpos cv e=>by cases e⟩
  -- an object that is neither the script nor a table is not tracked
  have UY:∀{b:ai} {o:aw},s₁.heap.get? b=aa o->o.cls≠.none->(∀ys n,o.data≠.seq ys n)->H b=af:=λ{b o} e hc hs=>by
   rcases tK b with z|⟨rfl,_,_⟩|⟨t,ht,rfl,z⟩
   .exact z
   .rw [ha] at e;cases e;exact Zw rfl (hs _ _)
   .rw [(hT t ht).2] at e;cases e;exact Zw rfl hc
  have nsN:∀{b:ai} {o:aw} {es:Array rb} {ep:Nat},s₁.heap.get? b=aa o->o.data=.dict es ep->H b=af:=λ{b o es ep} e d=>by
   rcases tK b with z|⟨rfl,_,_⟩|⟨t,ht,rfl,z⟩
   .exact z
   .rw [ha] at e;cases e;cases d
   .rw [(hT t ht).2] at e;cases e;cases d
  have vL:∀{b:ai} {o:aw},s₁.heap.get? b=aa o->H b=af->(zP s₁.heap H).get? b=aa o:=λe n=>UA e n;have nsK:∀{b:ai} {m:Q0d},s₁.heap.Ns b m->(zP s₁.heap H).Ns b m:=λ{b m} ⟨o,es,ep,e,d,r⟩=>⟨o,es,ep,vL e (nsN e d),d,r⟩;have Aw:K.In (zP s₁.heap H):=λb o e=>vL (KX b o e) (by
   rcases tK b with z|⟨rfl,_,z⟩|⟨t,ht,rfl,z⟩
   .exact z
   .rw [hK z] at e;cases e
   .have e2:=KX _ o e;rw[(hT t ht).2] at e2;cases e2;have h2:=gw.mp hnt (t.2.2,tabObj #[]) (PySem.W.mem_of_lookupK e);exact Zw (show ag=ae from h2) bz)
  have hM:Mod K mg (zP s₁.heap H):=⟨Aw,nsK hns,⟨mb,nsK hb,hbb⟩,let ⟨mc,h1,h2⟩:=hlim;⟨mc,nsK h1,h2⟩,
   let ⟨bm,ob,b1,b2,b3,b4,b5,b6⟩:=hbm;⟨bm,ob,b1,b2,vL b3 (UY b3 (by rw[b4];nofun) λys n z=>by rw[b6] at z;cases z),b4,b5,b6⟩⟩
  have Qz:ZX K (zP s₁.heap H) H:=λt ht=>by obtain⟨o,vs',file,tf,flags,tg,inF,text,tt,e1,r1,r2,r3⟩:=(hT t ht).1;exact⟨⟨o,vs',file,tf,flags,tg,inF,text,tt,vL e1 (UY e1 (by rw[r1];nofun) λys n z=>by rw[r2] at z;cases z),r1,r2,r3⟩,z9 t ht⟩
  have e0:uh P w K mg (zP s₁.heap H) callerA [] s₁ H:=⟨rfl,hM,λb o e=>ZV e,og (OA _ _),trivial,λb hb=>Zw (show b∈([]:List ai) from hb) (by simp),hok,.of_eq hg,Qz⟩;refine uk ((F _ Aw (nsK hns)).run callerA [] s₁ H ⟨[.ref a],[]⟩ [.ref a] [.ref a] _ _ hr e0 (hbind s₁ (.ref a)) (.cons rfl .nil) (hsp H hO hS)) λr s' h=>?_
  cases r with
  |error e=>exact(wm H e s' h).elim
  |ok fl =>
   cases fl with
   |next=>exact jr h
   |brk=>exact jr h
   |cont=>exact jr h
   |ret v =>
    obtain⟨y,H',os,bare,un,hok',r',q⟩:=h;have q':y=.bl ae:=q;subst q';obtain rfl:v=pf ae:=r';have old:∀b o,s₁.heap.get? b=aa o->asItWas s₁.heap s'.heap b o /\∃o',s'.heap.get? b=aa o':=λb o e=>by
     rcases tK b with z|⟨rfl,z,hne⟩|⟨t,ht,rfl,z⟩
     .have k:=un.keep b o e z (by intro z;exact Zw (show b∈([]:List ai) from z) (by simp)) (by simp);exact⟨.inl k,o,k⟩
     .rcases hu with y|⟨ob,xs,y⟩
      .exact Zw y hne
      .have z1:=z.trans y;have z2:=un.zN b ob _ z1;obtain⟨e1,_⟩:=hok b _ z1;obtain⟨e2,_⟩:=hok' b _ z2;rw[e] at e1;cases e1;exact⟨.inl e2,o,e2⟩
     .obtain ⟨ps,e2,_⟩:=hok' _ _ (un.xZ _ _ z);have e1:=(hT t ht).2;rw[e] at e1;cases e1;exact⟨.inr (.inl ⟨((hT t ht).1.tab (hT t ht).2).isCodeTable,rfl,#[],ps,rfl,by rw[e2,Array.empty_append]⟩),_,e2⟩
    exact⟨rfl,⟨λb o e=>(old b o e).1,λb o e=>(old b o e).2⟩,os,bare⟩
 cases hk:K.lookup a with
 |some o =>
  -- the script is one of the module's own objects
  have e:=KX a o hk;rw[ha] at e;cases e;exact core af (.inl rfl) (.inr ⟨_,vs.toArray,_,hk,rfl,rfl,rfl,by rw[cu,lenV];exact hl,by simpa using rv⟩) (λv z=>by cases z) λz=>Zw rfl z
 |none =>
  refine core (aa (.xV {cls:=.type "list",data:=.seq vs.toArray} (.lst (ns.map V.int)))) (.inr ⟨_,_,rfl⟩) (.inl (.inr ⟨{cls:=.type "list",data:=.seq vs.toArray},Z_ rfl⟩)) (λv z=>?_) λ_=>hk;cases z;exact⟨ha,by rw[a_];exact hl,vs,_,rv,ha⟩
abbrev KOf{K:aq}{h:bb}(_:K.In h):aq:=K
theorem aAL{l:qr}{n k:Nat}{q:bf}{loose:Q0g}{XP:(ak->Option aj)->bb->Prop}{YP:ba->bb->Prop}{d:DefRec}{K:Params->aq}{CX:ba->ME}{sp:ba->Sp}{x:ak}
  (hn:l.most=aa n) (hn2:n<=bg) (hdf:d.params.defaults=[]) (hr:fZ k callerA)
  (hY:∀(w:ba) (h:bb),YP w h->(K w.params).In h)
  (tj:∀w:ba,TabsOk (K w.params) q) (hnt:∀w:ba,noTabs (K w.params)=ae)
  (F:∀(w:ba) (mg:Q0d) (fa:ai) (h:bb),(K w.params).In h->h.Ns ig mg->mg d.name=aa (.ref fa) ->
   ∃fd:gp,(∀(s:ao) (u:aj),rf s fd ⟨[u],[]⟩ [(x,u)]) /\
    ∀base:bb,(K w.params).In base->base.Ns ig mg->lF l.prog w (K w.params) mg base (CX w) k fa fd [x] (sp w))
  (hsp:∀(w:ba) (H:Hp) (a:ai) (ns:Q0e),ns.length<=n->Only H->dW (K w.params) H a (ns.map V.int)->sp w [.ref a] H (λv _=>v=.bl ae) λ_ _ _=>False)
  (wm:∀(w:ba) (H:Hp) (s:ao) (e:aj) (s':ao),CX w [] H s (λ_ _ _=>False) e s'->False):
  Ez q loose XP YP l.row.toRowW d [] (λf vs=>Es f vs):=by
 refine Att.GC hn hdf λw s₀ s₁ mg mb fa o pm cd doc a vs ns G Y ho hd hcd hmg hobj hints hlen hg=>?_;have KX:=hY w _ Y;obtain⟨fd,hb,hF⟩:=F w mg fa _ KX G.T.g hmg;have hT:∀t∈eS (K w.params),CodeHd s₁.heap t.2.1 t.2.2/\s₁.heap.get? t.2.2=aa (tabObj #[]):=λt ht=>by obtain⟨e,he⟩:=(tj w).rc t ht;exact PySem.W.tab_of G.T KX he (IW ht)
 exact UX KX G.T.g G.T.b G.T.builtins G.T.nolimit G.T.bmain hT (tj w).nd (hnt w) hg hobj hints (ie hlen hn2) hr hF hb (λH hO hS=>hsp w H a ns hlen hO hS) λH e s'=>wm w H s₁ e s'
noncomputable def rC(s:df):Arguments:=match s with
 |.FunctionDef _ a _ _ _ _ _ _ _ _=>a
 |_=>{posonlyargs:=[],args:=[],vararg:=af,kwonlyargs:=[],kw_defaults:=[],kwarg:=af,defaults:=[]}
noncomputable def f6(s:df):List df:=match s with
 |.FunctionDef _ _ b _ _ _ _ _ _ _=>b
 |_=>[]
noncomputable def bN(s:df):gf:=match s with
 |.FunctionDef _ _ _ _ _ _ sc _ _ _=>sc
 |_=>{kind:=.function,names:=[],isGenerator:=ag,isCoroutine:=ag}
abbrev cK:ME:=λ_ _ _ _ _ _=>False
abbrev E0:XK:=λ_ _ _=>False
def UZ:Passes cK X E0:=λ_ _ _ _ _ _ _ h=>h.elim
structure Fun (K:aq) (x qual:ak) (st:df) (f:ai) (fd:gp):Prop where
 ex:∃(oc:aj) (od:Option ai) (kV doc pm:aj) (an:Option ai) (cdv ct:aj) (osl:Array (Option aj)),
  fd=fnOf x qual (rC st) (f6 st) (bN st) .none kV doc pm an cdv ct/\K.lookup f=aa ⟨oc,od,.func fd,osl⟩/\codeIn K cdv qual=ae
 kp:keepIn K (.ref f)=ae
section
variable{P:bf}{w:ba}{K:aq}{mg:Q0d}{base:bb}
theorem Fun.ok{x qual:ak}{st:df}{f:ai}{fd:gp}{N ps:Q0g}{k:Nat}{sp:Sp}(F:Fun K x qual st f fd)(S:iG N ps (bN st))(len:∀vs H Q E,sp vs H Q E->vs.length=ps.length)
  (hbody:∀(cdv:aj) (A:bx) (outer:List fw) (s:ao) (H:Hp) (vs:List V) (Q:VK) (E:XK),fZ k (A.deeper (envOfC qual (bN st) s.heap.objs.size f cdv))->sp vs H Q E ->
   ∃t,zQ (yB cK P w K mg base N qual (bN st) f cdv A outer s H E).Z4 (f6 st) t/\t {nx:=λ_ H'=>Q .non H',rt:=Q} (start N vs) H):lF P w K mg base cK (k+1) f fd ps sp:=by
 obtain⟨oc,od,kV,doc,pm,an,cdv,ct,osl,rfl,lk,hcd⟩:=F.ex;refine Wa lk hcd S len λA outer s H vs Q E hr hsp=>?_;obtain⟨t,h,q⟩:=hbody cdv A outer s H vs Q E hr hsp;exact⟨t,h.Z4,q⟩
theorem Ye{x qual:ak}{st:df}{f:ai}{oc:aj}{od an:Option ai}{osl:Array (Option aj)}{kV doc pm cdv ct:aj}(l:K.lookup f=aa ⟨oc,od,.func (fnOf x qual (rC st) (f6 st) (bN st) .none kV doc pm an cdv ct),osl⟩)
  (c:codeIn K cdv qual=ae) (k:keepIn K (.ref f)=ae):Fun K x qual st f (fnOf x qual (rC st) (f6 st) (bN st) .none kV doc pm an cdv ct):=⟨⟨oc,od,kV,doc,pm,an,cdv,ct,osl,rfl,l,c⟩,k⟩
end
def Same(H H':Hp):Prop:=∀b o,H b=aa o->H' b=aa o
def Same.refl(H:Hp):Same H H:=λ_ _ h=>h
def Same.trans{H H1 H2:Hp}(a:Same H H1)(b:Same H1 H2):Same H H2:=λc o h=>b c o (a c o h)
theorem Same.free{H H':Hp}(e:Same H H'){l:ai}(h:H' l=af):H l=af:=by
 cases q:H l with
 |none=>rfl
 |some o =>
  rw[e l o q] at h;cases h
section
variable{κ:Type}[DecidableEq κ]
def l5(kvs:List (κ×V))(k:κ):Option V:=(kvs.find? λkv=>Zv (kv.1=k)).map (·.2)
def putK(kvs:List (κ×V))(k:κ)(v:V):List (κ×V) :=
 if(kvs.any λkv=>Zv (kv.1=k))=ae then kvs.map (λkv=>if kv.1=k then(kv.1,v) else kv) else kvs++[(k,v)]
def yE{p:κ×V}{r:List (κ×V)}{k:κ}(e:p.1=k):l5 (p::r) k=aa p.2:=by simp[l5,ia,e]
def yF{p:κ×V}{r:List (κ×V)}{k:κ}(e:¬ p.1=k):l5 (p::r) k=l5 r k:=by simp[l5,ia,e]
theorem yG(k:κ):∀kvs:List (κ×V),(kvs.any λkv=>Zv (kv.1=k))=(l5 kvs k).isSome
 |[]=>rfl
 |p::r=>by
  rw[jq];by_cases e:p.1=k
  .simp only[yE e,Zx e,a3b,Option.isSome_some]
  .rw [yF e,Zy e,Ac];exact yG k r
def uE(kvs:List (κ×V))(k:κ)(v:V):(putK kvs k v).length<=kvs.length+1:=by
 unfold putK;split
 .rw [a_];omega
 .rw [fu,de,mx];omega
def U0{kvs:List (κ×V)}{k:κ}(v:V)(h:l5 kvs k=af):putK kvs k v=kvs++[(k,v)]:=by unfold putK;rw[yG,h];exact Zz (by decide)
theorem mN.nY(r:mN o u):o.isSome=u.isSome:=by
 cases o with
 |none=>cases u with
  |none=>rfl
  |some _=>exact(show False from r).elim
 |some _=>cases u with
  |none=>exact(show False from r).elim
  |some _=>rfl
theorem mN.getD{o:Option V}{u:Option aj}{d:V}{d':aj}(r:mN o u)(rd:RelV d d'):RelV (o.getD d) (u.getD d'):=by
 cases o with
 |none=>cases u with
  |none=>exact rd
  |some _=>exact(show False from r).elim
 |some _=>cases u with
  |none=>exact(show False from r).elim
  |some _=>exact r
theorem KV.val{kvs:List (κ×V)}{vs:List (κ×aj)}(r:KV kvs vs)(k:κ):mN (l5 kvs k) (valueAt vs k):=by
 unfold KV at r
 induction r with
 |nil=>exact js
 | @cons p q ps qs h t ih =>
  obtain⟨h1,h2⟩:=h;by_cases e:p.1=k
  .have e':q.1=k:=h1.symm.trans e;have b:valueAt (q::qs) k=aa q.2:=by simp[valueAt,ia,e']
   rw[yE e,b];exact h2
  .have e':¬ q.1=k:=λz=>e (h1.trans z);have b:valueAt (q::qs) k=valueAt qs k:=by simp[valueAt,ia,e']
   rw[yF e,b];exact ih
theorem KV.any{kvs:List (κ×V)}{vs:List (κ×aj)}(r:KV kvs vs)(k:κ):(kvs.any λkv=>Zv (kv.1=k))=vs.any λkv=>Zv (kv.1=k):=by
 unfold KV at r
 induction r with
 |nil=>rfl
 |cons h t ih=>rw[jq,jq,ih,h.1]
theorem KV.repl(r:KV kvs vs)(k:κ)(ry:RelV y u):
  KV (kvs.map λkv=>if kv.1=k then(kv.1,y) else kv) (vs.map λkv=>if kv.1=k then(kv.1,u) else kv):=by
 unfold KV at r ⊢
 induction r with
 |nil=>exact .nil
 | @cons p q ps qs h t ih =>
  rw[bt,bt];refine .cons ?_ ih;obtain⟨h1,h2⟩:=h;by_cases e:p.1=k
  .rw [Z_ e,Z_ (h1.symm.trans e)];exact⟨h1,ry⟩
  .rw [Zz e,Zz (λz=>e (h1.trans z))];exact⟨h1,h2⟩
def KV.put(r:KV kvs vs)(k:κ)(ry:RelV y u):KV (putK kvs k y) (stored vs k u):=by
 unfold putK stored;rw[r.any k];by_cases e:(vs.any λkv=>Zv (kv.1=k))=ae
 .rw [Z_ e,Z_ e];exact r.repl k ry
 .rw [Zz e,Zz e];exact y_ r ⟨rfl,ry⟩
def KV.length{kvs:List (κ×V)}{vs:List (κ×aj)}(r:KV kvs vs):kvs.length=vs.length:=qw r
end
theorem rD(r:RelV (kV k) u):(aW P w).is k u=ae:=by
 cases k with
 |inl i=>obtain⟨t,e⟩:=(show ∃t,u=jt i t from r);subst e;exact F4 P w i t
 |inr x=>obtain⟨t,e⟩:=(show ∃t,u=yu x t from r);subst e;exact F5 P w x t
theorem BG:∀{ks:List Key} {us:Q0f},Vals (ks.map kV) us->ItemsAre (aW P w) ks us
 |[],_,r=>by rw[j_] at r;cases r;exact .nil
 |k::ks,_,r=>by
  rw[bt] at r
  cases r with
  |cons h t=>exact .cons (rD h) (BG t)
abbrev KT(H:Hp):List (List Key×V)->List (List Key×ai×aj)->Prop:=gg λp q=>p.1=q.1/\H q.2.1=aa (.tup (p.1.map kV))/\RelV p.2 q.2.2
theorem KT.val{H:Hp}{kvs:List (List Key×V)}{xs:List (List Key×ai×aj)}(r:KT H kvs xs)(k:List Key):mN (l5 kvs k) ((atKey xs k).map (·.2)):=by
 induction r with
 |nil=>exact js
 | @cons p q ps qs h t ih =>
  obtain⟨h1,_,h2⟩:=h;by_cases e:p.1=k
  .have e':q.1=k:=h1.symm.trans e;have b:atKey (q::qs) k=aa q.2:=by simp[atKey,ia,e']
   rw[yE e,b];exact h2
  .have e':¬ q.1=k:=λz=>e (h1.trans z);have b:atKey (q::qs) k=atKey qs k:=by simp[atKey,ia,e']
   rw[yF e,b];exact ih
theorem KT.repl(r:KT H kvs xs)(k:List Key)(ry:RelV y u):
  KT H (kvs.map λkv=>if kv.1=k then(kv.1,y) else kv) (xs.map (putAt k u)):=by
 induction r with
 |nil=>exact .nil
 | @cons p q ps qs h t ih =>
  rw[bt,bt];refine .cons ?_ ih;obtain⟨h1,h2,h3⟩:=h;unfold putAt;by_cases e:p.1=k
  .rw [Z_ e,Z_ (h1.symm.trans e)];exact⟨h1,h2,ry⟩
  .rw [Zz e,Zz (λz=>e (h1.trans z))];exact⟨h1,h2,h3⟩
theorem KT.put(r:KT H kvs xs)(k:List Key)(hb:H b=aa (.tup (k.map kV)))(ry:RelV y u):
  KT H (putK kvs k y) (storedH xs k b u):=by
 have e:(kvs.any λkv=>Zv (kv.1=k))=(atKey xs k).isSome:=by rw[yG,(r.val k).nY,zl]
 unfold putK storedH;rw[e];by_cases q:(atKey xs k).isSome=ae
 .rw [Z_ q,Z_ q];exact r.repl k ry
 .rw [Zz q,Zz q];exact y_ r ⟨rfl,hb,ry⟩
def KT.keeps(r:KT H kvs xs)(ht:∀b ys,H b=aa (.tup ys)->H' b=aa (.tup ys)):KT H' kvs xs :=
 Paired.xx r λ_ _ z=>⟨z.1,ht _ _ z.2.1,z.2.2⟩
section
variable{P:bf}{w:ba}{H:Hp}{h:bb}{a:ai}
def Dz(ok:oO P w H h)(e:Rd H a u):c6 P w H h a u:=e.ok ok
def U1(ok:oO P w H h)(e:Rd H a (.dK kvs)):kvs.length<=bg/\(a == sysModules)=ag /\∃vs,KV kvs vs/\h.DictOf (aW P w) a vs :=
 show c6 P w H h a (.dK kvs) from Dz ok e
def Vh(ok:oO P w H h)(e:H a=aa (.dK kvs)):kvs.length<=bg/\(a == sysModules)=ag /\∃vs,KV kvs vs/\h.DictOf (aW P w) a vs:=U1 ok (.inl e)
def DH(ok:oO P w H h)(e:H a=aa (.tup (ks.map kV))):(tupleKind (aW P w)).is h ks a:=by obtain⟨_,its,r,⟨o,h1,h2,n,h3⟩,_⟩:=(show c6 P w H h a (.tup (ks.map kV)) from ok a _ e);exact⟨o,its.toArray,n,h1,h2,h3,by simpa using BG r⟩
theorem U2(ok:oO P w H h)(e:Rd H a (.dT kvs)):kvs.length<=bg/\(a == sysModules)=ag /\
  ∃xs,KT H kvs xs/\h.DictOfH (tupleKind (aW P w)) a xs:=by
 obtain⟨z,y,xs,r,o,es,ep,h1,h2,h3,h4,h5⟩:=(show c6 P w H h a (.dT kvs) from Dz ok e);refine⟨z,y,xs,r,o,es,ep,h1,h2,h3,h4,λx hx=>?_,h5⟩;have all:∀{l:List (List Key×V)} {m:List (List Key×ai×aj)},KT H l m ->∀x∈m,(tupleKind (aW P w)).is h x.1 x.2.1:=by
  intro l m q
  induction q with
  |nil=>intro x hx;exact nomatch hx
  | @cons p q ps qs hq t ih =>
   intro x hx;rcases cb.mp hx with e|hx
   .subst e;exact DH ok (by rw[<- hq.1];exact hq.2.1)
   .exact ih x hx
 exact all r x hx
theorem Vg(ok:oO P w H h)(e:H a=aa (.dT kvs)):kvs.length<=bg/\(a == sysModules)=ag /\
  ∃xs,KT H kvs xs/\h.DictOfH (tupleKind (aW P w)) a xs:=U2 ok (.inl e)
end
def OR(H:Hp)(a:ai)(y:V)(r:Option V):Prop :=
 (∃kvs k,Rd H a (.dK kvs)/\y=kV k/\r=l5 kvs k) \/∃kvs k b,Rd H a (.dT kvs)/\y=.ref b/\H b=aa (.tup (k.map kV))/\r=l5 kvs k
def U3(H:Hp)(a:ai)(y v:V)(H':Hp):Prop :=
 (∃kvs k,H a=aa (.dK kvs)/\y=kV k/\kvs.length<bg/\H'=upd H a (.dK (putK kvs k v))) \/
 ∃kvs k b,H a=aa (.dT kvs)/\y=.ref b/\H b=aa (.tup (k.map kV))/\kvs.length<bg/\H'=upd H a (.dT (putK kvs k v))
def OR.k{H:Hp}{a:ai}{kvs:List (Key×V)}{k:Key}(e:H a=aa (.dK kvs)):OR H a (kV k) (l5 kvs k):=.inl ⟨kvs,k,.inl e,rfl,rfl⟩
def U3.k{H:Hp}{a:ai}{kvs:List (Key×V)}{k:Key}{v:V}(e:H a=aa (.dK kvs))(hl:kvs.length<bg):U3 H a (kV k) v (upd H a (.dK (putK kvs k v))):=.inl ⟨kvs,k,e,rfl,hl,rfl⟩
section
variable{X:Cx}{pins:Q0b}{σ:St}{H:Hp}{s:ao}{a:ai}{y v:V}{u r:aj}{o:Option V}{A:bx}{E:Q0c}
def Inv.big(I:Inv X pins σ H s):sysModules<s.heap.objs.size:=by have h:ig<s.heap.objs.size:=(I.mod.glob.keeps I.bk).lt;exact a2j (by decide) h
theorem OS(hu:A.units+1<cf)(I:Inv X pins σ H s)(g:OR H a y (aa v))(ry:RelV y u)(h:∀w' s',Inv X pins σ H s'->RelV v w'->Q w' s'):
  ax (ay X.prog X.w) A (getItem (.ref a) u) Q E s:=by
 rcases g with⟨kvs,k,e,ey,l⟩|⟨kvs,k,b,e,ey,eb,l⟩
 .subst ey;obtain⟨z,hd,vs,rel,dd⟩:=U1 I.hok e;obtain⟨w',hw,IT⟩:=mN.some_of (v:=v) (o:=valueAt vs k) (by rw[l];exact rel.val k);exact a0p (rD ry) dd.mapOf hw (h w' _ (I.tok _) IT)
 .subst ey;cases (show u=c_ b from ry);obtain⟨z,hd,xs,rel,dd⟩:=U2 I.hok e;obtain⟨w',hw,IT⟩:=mN.some_of (v:=v) (o:=(atKey xs k).map (·.2)) (by rw[l];exact rel.val k);obtain⟨p,hp,hp2⟩:=jk.mp hw;refine a0q (a0z hu) (DH I.hok eb) dd hp ?_;rw[hp2];exact h w' _ (I.tok _) IT
theorem vM(I:Inv X pins σ H s)(mu:Mut (H a))(hs:nz a s.heap h')(he:∃q,h'.get? a=aa q)(new:c6 X.prog X.w (upd H a ob) h' a ob):
  Inv X pins σ (upd H a ob) {s with heap:=h',toks:=t' } :=
 I.write (x:=a) (e:=a) mu (.inl rfl) (λb q hb z=>(hs.2 b hb).trans z) he new
theorem Yd(z:kvs.length<=bg)(hd:(a == sysModules)=ag)(rel:KV kvs vs)(dd:h'.DictOf (aW P w) a vs):
  c6 P w H' h' a (.dK kvs):=⟨z,hd,vs,rel,dd⟩
theorem OT(hu:A.units+1<cf)(I:Inv X pins σ H s)(g:U3 H a y v H')(ry:RelV y u)(rv:RelV v r)(h:∀s',Inv X pins σ H' s'->Q () s'):
  ax (ay X.prog X.w) A (setItem (.ref a) u r) Q E s:=by
 rcases g with⟨kvs,k,e,ey,l,eH⟩|⟨kvs,k,b,e,ey,eb,l,eH⟩
 .subst ey eH;obtain⟨z,hd,vs,rel,dd⟩:=Vh I.hok e;have hz:vs.length<=bg:=by rw[<- rel.length];exact z
  have hl:(putK kvs k v).length<=bg:=by have:=uE kvs k v;omega
  refine a0f (hsz:=hz) (rD ry) dd λh' dd' hs=>h _ ?_;have he:∃q,h'.get? a=aa q:=let ⟨q,_,_,hq,_⟩:=dd';⟨q,hq⟩;exact vM I (by rw[e];exact js) hs he (Yd hl hd (rel.put k rv) dd')
 .subst ey eH;cases (show u=c_ b from ry);obtain⟨z,hd,xs,rel,dd⟩:=Vg I.hok e;have hz:xs.length<=bg:=by rw[<- qw rel];exact z
  have hl:(putK kvs k v).length<=bg:=by have:=uE kvs k v;omega
  refine a0g (hsz:=hz) (a0z hu) (DH I.hok eb) dd λh' dd' hs=>h _ ?_;obtain⟨q,es,ep,hq,h2,h3,h4,_,h5⟩:=dd';refine vM I (by rw[e];exact js) hs ⟨q,hq⟩ ⟨hl,hd,_,(rel.put k eb rv).keeps λc ys ec=>?_,q,es,ep,hq,h2,h3,h4,h5⟩;rw[aV (De ec e (λz=>nomatch z))];exact ec
end
def IY(i:ar):Prop:=∀ov iv,subscripted i ag ov iv=operate [ov,iv] (getItem ov iv)
theorem MK{prog:bf}{w:ba}{A:bx}{E:Q0c}{s:ao}{env:fw}{value slice:ar}{pos:bh}{T id:String}{Q:Q0c}
  (hl:typeLookup (.type T) "__getitem__"=pure (aa (.builtin id))) (hs:IY slice)
  (h:ax (ay prog w) A (eval value env) (λo s₁=>ax (ay prog w) A (eval slice env) (λi s₂=>s₂.TypeIs o T/\ax (ay prog w) A (getItem o i) Q E s₂) E s₁) E s):
  ax (ay prog w) A (eval (.Subscript value slice pos) env) Q E s:=by
 refine Fs (nk h (λo s₁ h₁=>nk h₁ (λi s₂ h₂=>?_) λ_ _ x=>x) λ_ _ x=>x);obtain⟨hT,h₂⟩:=h₂;unfold subscriptTail;refine av ?_;rw[getitemInPython_of_ne hT.not_modules];refine av (Ed hT hl ?_);have fin:ax (ay prog w) A (subscripted slice ag o i) (λr s₃=>ax (ay prog w) A (letTemporaryGo value o r >>= λ_=>pure r) Q E s₃) E s₂:=by rw[hs o i];exact wpAny_operating (nk h₂ (λr s₃ h₃=>av (wpAny_letTemporaryGo (az h₃))) λ_ _ x=>x)
 first
  |exact az (av fin)
  |exact av (az (av fin))
  |exact av fin
def GD(I:Inv X pins σ H s)(g:OR H a y o):s.TypeIs (.ref a) "dict":=by
 rcases g with⟨kvs,k,e,_,_⟩|⟨kvs,k,b,e,_,_,_⟩
 .obtain ⟨_,_,vs,_,dd⟩:=U1 I.hok e;exact dd.typeIs
 .obtain ⟨_,_,xs,_,dd⟩:=U2 I.hok e;exact dd.typeIs
def Vf(td ty:TE):TE:=λσ H Q=>td σ H λx H1=>ty σ H1 λy H2=>∃a v,x=.ref a/\OR H2 a y (aa v)/\Q v H2
def Ve(td ty tv:TE):TS:=λD σ H=>tv σ H λv H1=>td σ H1 λx H2=>ty σ H2 λy H3=>∃a H4,x=.ref a/\U3 H3 a y v H4/\D.nx σ H4
section
variable{X:Cx}{o i e value:ar}{pos pos' tpos:bh}{td ty tv:TE}
def aAM(hu:X.A.units+1<cf)(ho:PE X o td)(hi:PE X i ty)(hs:IY i):PE X (.Subscript o i pos) (Vf td ty):=by intro pins s σ H Q I h;refine MK a1u.lookup hs (d8 (ho pins s σ H _ I h) λu s1 ⟨x,H1,I1,rx,q1⟩=>d8 (hi pins s1 σ H1 _ I1 q1) λiv s2 ⟨y,H2,I2,ry,a,v,ex,g,q2⟩=>?_);subst ex;obtain rfl:u=c_ a:=rx;exact⟨GD I2 g,OS hu I2 g ry λw' s3 I3 IT=>⟨v,H2,I3,IT,q2⟩⟩
theorem aAN(hu:X.A.units+1<cf)(ho:PE X o td)(hi:PE X i ty)(hv:PE X value tv)(hs:gb value (aa (.Subscript o i pos')) pos.line X.env=pure ag):
  PS X (.Assign [.Subscript o i pos'] value pos) (Ve td ty tv):=by
 intro pins s σ H D I h;refine a0y (d8 (hv pins s σ H _ I h) λr s1 ⟨v,H1,I1,rv,q1⟩=>d8 (ho pins s1 σ H1 _ I1 q1) λu s2 ⟨x,H2,I2,rx,q2⟩=>d8 (hi pins s2 σ H2 _ I2 q2) λiv s3 ⟨y,H3,I3,ry,a,H4,ex,g,q3⟩=>?_) hs;subst ex;obtain rfl:u=c_ a:=rx;exact OT hu I3 g ry rv λs4 I4=>⟨σ,H4,I4,q3⟩
end
def U4(h:bb)(hb:sysModules<h.objs.size):c6 P w H (h.push {cls:=.type "dict",data:=.dict #[]}) h.objs.size (.dK []) :=
 ⟨iz _,beq_eq_false_iff_ne.mpr (dj (fv hb)),[],.nil,a3U h⟩
def Yc:TE:=λ_ H Q=>∀p,H p=af->Q (.ref p) (upd H p (.dK []))
section
variable{X:Cx}{pos:bh}
def U5:PE X (.Dict [] [] pos) Yc:=λpins s σ H Q I h =>
 a0w ⟨.ref s.heap.objs.size,_,I.laid (a:=s.heap.objs.size) (o:=.dK []) (t':=s.toks) (λ_ _ q=>di _ q) (bj _) (U4 s.heap I.big),rfl,h _ (I.hok.fresh (bj _))⟩
end
end L2
end
namespace L3
open L2
def Scr(K:aq)(H:Hp)(a:ai)(ns:Q0e):Prop:=(∃o,H a=aa (.xV o (.lst (ns.map V.int))))\/dW K (λ_=>af) a (ns.map V.int)
def Rw(S:ai->Prop)(H:Hp)(xs:Q0a)(p:ai):Prop:=∃as:List ai,H p=aa (.lst (as.map V.ref))/\as.Nodup/\(∀a∈as,S a)/\as.map H=xs.map λx=>aa (.lst (x.map V.int))
mutual
noncomputable def Dn(K:aq)(S:ai->Prop)(H:Hp):D->V->Prop
 |.non,v=>v=.non
 |.bl b,v=>v=.bl b
 |.int i,v=>v=.int i
 |.str x,v=>v=.str x
 |.tup ds,v=>∃a xs,v=.ref a/\H a=aa (.tup xs)/\aP K S H ds xs
 |.lst ds,v=>∃a xs,v=.ref a/\H a=aa (.lst xs)/\S a/\aP K S H ds xs
 |.rY ns,v=>∃a,v=.ref a/\Scr K H a ns
 |.jA ks ds,v=>∃a xs,v=.ref a/\H a=aa (.dK (ks.zip xs))/\S a/\ks.length=xs.length/\aP K S H ds xs
 |.c7 q ks ds,v=>∃a o kvs,v=.ref a/\H a=aa (.dX o kvs)/\S a/\(kvs.map (·.1)=ks/\q a o)/\aP K S H ds (kvs.map (·.2.2))
 |.exc _ a,v=>v=.ref a
 |.rws xs,v=>∃a,v=.ref a/\S a/\Rw S H xs a
noncomputable def aP(K:aq)(S:ai->Prop)(H:Hp):List D->List V->Prop
 |[],xs=>xs=[]
 |d::ds,xs=>∃v r,xs=v::r/\Dn K S H d v/\aP K S H ds r
end
structure Fits (K:aq) (S S':ai->Prop) (H H':Hp):Prop where
 t:∀a xs,H a=aa (.tup xs)->H' a=aa (.tup xs)
 s:∀a ns,Scr K H a ns->Scr K H' a ns
 l:∀a xs,H a=aa (.lst xs)->S a->H' a=aa (.lst xs)/\S' a
 d:∀a xs,H a=aa (.dK xs)->S a->H' a=aa (.dK xs)/\S' a
 e:∀a o xs,H a=aa (.dX o xs)->S a->H' a=aa (.dX o xs)/\S' a
section
variable{K:aq}{S S':ai->Prop}{H H':Hp}
def Rw.fits(f:Fits K S S' H H')(hp:∀ys,H p=aa (.lst ys)->H' p=aa (.lst ys))(h:Rw S H xs p):Rw S' H' xs p:=by
 obtain⟨as,h1,h2,h3,h4⟩:=h;have hl:as.length=xs.length:=by have:=congrArg my h4;simpa using this
 have at1:∀i (hi:i<as.length),H as[i]=aa (.lst ((xs[i]'(hl▸hi)).map V.int)):=λi hi=>by have:=congrArg (λl=>l[i]?) h4;simpa[hi,hl▸hi] using this
 refine⟨as,hp _ h1,h2,λa ha=>?_,List.ext_getElem (by simpa using hl) λi hi hi2=>?_⟩
 .obtain ⟨i,hi,rfl⟩:=qe ha;exact(f.l _ _ (at1 i hi) (h3 _ ha)).2
 .rw [a_] at hi;rw[a2I,a2I];exact(f.l _ _ (at1 i hi) (h3 _ (mz hi))).1
mutual
theorem Dn.fits(f:Fits K S S' H H'):∀(d:D) (v:V),Dn K S H d v->Dn K S' H' d v
 |.non,v,h=>by simpa only[Dn] using h
 |.bl b,v,h=>by simpa only[Dn] using h
 |.int i,v,h=>by simpa only[Dn] using h
 |.str x,v,h=>by simpa only[Dn] using h
 |.tup ds,v,h=>by simp only[Dn] at h ⊢;obtain⟨a,xs,e,q,r⟩:=h;exact⟨a,xs,e,f.t a xs q,aP.fits f ds xs r⟩
 |.lst ds,v,h=>by simp only[Dn] at h ⊢;obtain⟨a,xs,e,q,s,r⟩:=h;obtain⟨q',s'⟩:=f.l a xs q s;exact⟨a,xs,e,q',s',aP.fits f ds xs r⟩
 |.rY ns,v,h=>by simp only[Dn] at h ⊢;obtain⟨a,e,q⟩:=h;exact⟨a,e,f.s a ns q⟩
 |.jA ks ds,v,h=>by simp only[Dn] at h ⊢;obtain⟨a,xs,e,q,s,l,r⟩:=h;obtain⟨q',s'⟩:=f.d a _ q s;exact⟨a,xs,e,q',s',l,aP.fits f ds xs r⟩
 |.c7 _ ks ds,v,h=>by simp only[Dn] at h ⊢;obtain⟨a,o,kvs,e,q,s,l,r⟩:=h;obtain⟨q',s'⟩:=f.e a _ _ q s;exact⟨a,o,kvs,e,q',s',l,aP.fits f ds _ r⟩
 |.exc _ _,v,h=>by simpa only[Dn] using h
 |.rws xs,v,h=>by simp only[Dn] at h ⊢;obtain⟨a,e,s,r⟩:=h;obtain⟨as,h1,h2⟩:=r;exact⟨a,e,(f.l a _ h1 s).2,Rw.fits f (λys e1=>(f.l a ys e1 s).1) ⟨as,h1,h2⟩⟩
theorem aP.fits(f:Fits K S S' H H'):∀(ds:List D) (xs:List V),aP K S H ds xs->aP K S' H' ds xs
 |[],xs,h=>by simpa only[aP] using h
 |d::ds,xs,h=>by simp only[aP] at h ⊢;obtain⟨v,r,e,h1,h2⟩:=h;exact⟨v,r,e,Dn.fits f d v h1,aP.fits f ds r h2⟩
end
mutual
theorem Dn.OU:∀(d:D) (v:V),d.EL=ae->Dn K S H d v->Dn K S' H d v
 |.non,v,_,h=>by simpa only[Dn] using h
 |.bl b,v,_,h=>by simpa only[Dn] using h
 |.int i,v,_,h=>by simpa only[Dn] using h
 |.str x,v,_,h=>by simpa only[Dn] using h
 |.tup ds,v,hi,h=>by simp only[Dn] at h ⊢;obtain⟨a,xs,e,q,r⟩:=h;exact⟨a,xs,e,q,aP.OU ds xs (by simpa only[D.EL] using hi) r⟩
 |.lst _,v,hi,h=>by simp only[D.EL] at hi;cases hi
 |.rY ns,v,_,h=>by simpa only[Dn] using h
 |.jA _ _,v,hi,h=>by simp only[D.EL] at hi;cases hi
 |.c7 _ _ _,v,hi,h=>by simp only[D.EL] at hi;cases hi
 |.exc _ _,v,_,h=>by simpa only[Dn] using h
 |.rws _,v,hi,h=>by simp only[D.EL] at hi;cases hi
theorem aP.OU:∀(ds:List D) (xs:List V),zJ ds=ae->aP K S H ds xs->aP K S' H ds xs
 |[],xs,_,h=>by simpa only[aP] using h
 |d::ds,xs,hi,h=>by simp only[zJ,fz] at hi;simp only[aP] at h ⊢;obtain⟨v,r,e,h1,h2⟩:=h;exact⟨v,r,e,Dn.OU d v hi.1 h1,aP.OU ds r hi.2 h2⟩
end
def Dn.EL(hi:d.EL=ae)(h:Dn K S H d v):Dn K S' H d v:=Dn.OU d v hi h
def aP.EL(hi:zJ ds=ae)(h:aP K S H ds xs):aP K S' H ds xs:=aP.OU ds xs hi h
def dW.some(h:dW K (λ_=>af) a xs):dW K H a xs:=by
 rcases h with(h|⟨o,h⟩)|h
 .cases h
 .cases h
 .exact .inr h
def Scr.sq(h:Scr K H a ns):dW K H a (ns.map V.int):=by
 rcases h with⟨o,h⟩|h
 .exact .inl (.inr ⟨o,h⟩)
 .exact dW.some h
def Wr(H:Hp)(p:ai):Prop:=(∃xs,H p=aa (.lst xs))\/(∃xs,H p=aa (.dK xs)) \/∃o xs,H p=aa (.dX o xs)
def Wr.tup(w:Wr H p)(h:H a=aa (.tup xs)):upd H p o a=aa (.tup xs):=by
 rw[aV]
 .exact h
 .intro e;subst e;rcases w with⟨ys,w⟩|⟨ys,w⟩|⟨_,ys,w⟩<;>rw[h] at w<;>cases w
def Wr.rY(w:Wr H p)(h:Scr K H a ns):Scr K (upd H p o) a ns:=by
 rcases h with⟨ob,h⟩|h
 .refine .inl ⟨ob,?_⟩;rw[aV]
  .exact h
  .intro e;subst e;rcases w with⟨ys,w⟩|⟨ys,w⟩|⟨_,ys,w⟩<;>rw[h] at w<;>cases w
 .exact .inr h
def Fits.same(e:Same H H'):Fits K S S H H' :=
 ⟨λa xs h=>e _ _ h,λa ns h=>h.elim (λ⟨o,h⟩=>.inl ⟨o,e _ _ h⟩) .inr,λa xs h s=>⟨e _ _ h,s⟩,λa xs h s=>⟨e _ _ h,s⟩,λa _ xs h s=>⟨e _ _ h,s⟩⟩
def Fits.mono(m:∀a,S a->S' a):Fits K S S' H H :=
 ⟨λ_ _ h=>h,λ_ _ h=>h,λa _ h s=>⟨h,m a s⟩,λa _ h s=>⟨h,m a s⟩,λa _ _ h s=>⟨h,m a s⟩⟩
def Fits.fresh(hp:H p=af):Fits K S (λa=>S a/\a≠p) H H :=
 ⟨λ_ _ h=>h,λ_ _ h=>h,λa _ h s=>⟨h,s,bG h hp⟩,λa _ h s=>⟨h,s,bG h hp⟩,λa _ _ h s=>⟨h,s,bG h hp⟩⟩
def Fits.upd(w:Wr H p)(hs:¬ S p):Fits K S S H (upd H p o):=by have ne:∀a,S a->a≠p:=λa s e=>hs (e▸s);exact⟨λa xs h=>w.tup h,λa ns h=>w.rY h,λa xs h s=>⟨by rw[aV (ne a s)];exact h,s⟩,λa xs h s=>⟨by rw[aV (ne a s)];exact h,s⟩,λa _ xs h s=>⟨by rw[aV (ne a s)];exact h,s⟩⟩
def Fits.trans(a:Fits K S S' H H')(b:Fits K S' S'' H' H''):Fits K S S'' H H'' :=
 ⟨λx xs h=>b.t x xs (a.t x xs h),λx ns h=>b.s x ns (a.s x ns h),λx xs h s=>let ⟨h1,s1⟩:=a.l x xs h s;b.l x xs h1 s1,λx xs h s=>let ⟨h1,s1⟩:=a.d x xs h s;b.d x xs h1 s1,λx o xs h s=>let ⟨h1,s1⟩:=a.e x o xs h s;b.e x o xs h1 s1⟩
def aO(hp:H p=af):Same H (upd H p o):=λb u h=>by rw[aV (bG h hp)];exact h
theorem aP.len:∀{ds:List D} {xs:List V},aP K S H ds xs->ds.length=xs.length
 |[],xs,h=>by simp only[aP] at h;subst h;rfl
 |d::ds,xs,h=>by simp only[aP] at h;obtain⟨v,r,e,_,h2⟩:=h;subst e;simp[aP.len h2]
theorem aP.get:∀{ds:List D} {xs:List V} {i:Nat} {d:D},aP K S H ds xs->ds[i]?=aa d ->∃v,xs[i]?=aa v/\Dn K S H d v
 |[],xs,i,d,h,e=>by simp at e
 |d::ds,xs,i,d',h,e=>by
  simp only[aP] at h;obtain⟨v,r,e1,h1,h2⟩:=h;subst e1
  cases i with
  |zero=>simp at e;subst e;exact⟨v,by simp,h1⟩
  |succ i =>
   obtain⟨u,e2,q⟩:=aP.get (i:=i) (d:=d') h2 (by simpa using e);exact⟨u,by simpa using e2,q⟩
def aP.nil:aP K S H [] []:=by simp only[aP]
def aP.cons(h:Dn K S H d v)(t:aP K S H ds xs):aP K S H (d::ds) (v::xs):=by simp only[aP];exact⟨v,xs,rfl,h,t⟩
def aP.bH(h:aP K S H (d::ds) xs):∃v r,xs=v::r/\Dn K S H d v/\aP K S H ds r:=by simpa only[aP] using h
theorem aP.append:∀{ds es:List D} {xs ys:List V},aP K S H ds xs->aP K S H es ys->aP K S H (ds++es) (xs++ys)
 |[],es,xs,ys,h,g=>by simp only[aP] at h;subst h;exact g
 |d::ds,es,xs,ys,h,g=>by obtain⟨v,r,e,h1,h2⟩:=h.bH;subst e;exact aP.cons h1 (aP.append h2 g)
def aP.one(h:Dn K S H d v):aP K S H [d] [v]:=aP.cons h aP.nil
theorem aP.take:∀{ds:List D} {xs:List V} (n:Nat),aP K S H ds xs->aP K S H (ds.take n) (xs.take n)
 |_,_,0,_=>by simp[aP.nil]
 |[],xs,n+1,h=>by simp only[aP] at h;subst h;simp[aP.nil]
 |d::ds,xs,n+1,h=>by obtain⟨v,r,e,h1,h2⟩:=h.bH;subst e;simpa using aP.cons h1 (aP.take n h2)
theorem aP.drop:∀{ds:List D} {xs:List V} (n:Nat),aP K S H ds xs->aP K S H (ds.drop n) (xs.drop n)
 |_,_,0,h=>by simpa using h
 |[],xs,n+1,h=>by simp only[aP] at h;subst h;simp[aP.nil]
 |d::ds,xs,n+1,h=>by obtain⟨v,r,e,h1,h2⟩:=h.bH;subst e;simpa using aP.drop n h2
theorem aP.set:∀{ds:List D} {xs:List V} {d:D} {v:V} (n:Nat),Dn K S H d v->aP K S H ds xs->aP K S H (ds.set n d) (xs.set n v)
 |[],xs,d,v,n,h,g=>by simp only[aP] at g;subst g;simp[aP.nil]
 |d::ds,xs,d',v',n,h,g=>by
  obtain⟨v,r,e,h1,h2⟩:=g.bH;subst e
  cases n with
  |zero=>exact aP.cons h h2
  |succ n=>exact aP.cons h1 (aP.set n h h2)
theorem aP.erase:∀{ds:List D} {xs:List V} (n:Nat),aP K S H ds xs->aP K S H (ds.eraseIdx n) (xs.eraseIdx n)
 |[],xs,n,g=>by simp only[aP] at g;subst g;simp[aP.nil]
 |d::ds,xs,n,g=>by
  obtain⟨v,r,e,h1,h2⟩:=g.bH;subst e
  cases n with
  |zero=>exact h2
  |succ n=>exact aP.cons h1 (aP.erase n h2)
theorem aP.ints:∀{ns:Q0e} {xs:List V},aP K S H (ns.map D.int) xs↔xs=ns.map V.int
 |[],xs=>by simp[aP]
 |n::ns,xs=>by
  rw[bt,bt]
  constructor
  .intro h;obtain⟨v,r,e,h1,h2⟩:=h.bH;simp only[Dn] at h1;rw[e,h1,aP.ints.mp h2]
  .intro e;rw[e];exact aP.cons (by simp only[Dn]) (aP.ints.mpr rfl)
end
def Sl(K:aq)(S:ai->Prop)(H:Hp)(ρ:cN)(σ:St):Prop:=∀(i:Nat) (d:D),ρ[i]?=aa (aa d) ->∃v,σ[i]?=aa (aa v)/\Dn K S H d v
theorem Sl.fits{K:aq}{S S':ai->Prop}{H H':Hp}{ρ:cN}{σ:St}(f:Fits K S S' H H')(h:Sl K S H ρ σ):Sl K S' H' ρ σ:=λi d e =>
 let ⟨v,e1,q⟩:=h i d e;⟨v,e1,Dn.fits f d v q⟩
def yH(K:aq)(S:ai->Prop)(H:Hp)(d:D)(p:ai):Prop :=
 match d with
 |.lst ds=>∃xs,H p=aa (.lst xs)/\aP K S H ds xs
 |.jA ks ds=>∃xs,H p=aa (.dK (ks.zip xs))/\ks.length=xs.length/\aP K S H ds xs
 |.c7 q ks ds=>∃o kvs,H p=aa (.dX o kvs)/\(kvs.map (·.1)=ks/\q p o)/\aP K S H ds (kvs.map (·.2.2))
 |.rws xs=>Rw S H xs p
 |_=>False
def SO(S:ai->Prop)(w:Nat->ai)(ρ:bO):ai->Prop:=λa=>S a /\∀(i:Nat) (d:D),ρ[i]?=aa (Sv.ow d)->a≠w i
structure ST (K:aq) (H₀:Hp) (S:ai->Prop) (w:Nat->ai) (σ:St) (H:Hp) (ρ:bO) (G:List (D×V)):Prop where
 fc:∀a,H₀ a=af->S a
 sm:Same H₀ H
 own:∀(i:Nat) (d:D),ρ[i]?=aa (Sv.ow d)->σ[i]?=aa (aa (.ref (w i)))/\H₀ (w i)=af/\yH K (SO S w ρ) H d (w i)
 inj:∀(i j:Nat) (d e:D),ρ[i]?=aa (Sv.ow d)->ρ[j]?=aa (Sv.ow e)->w i=w j->i=j
 ro:∀(i:Nat) (d:D),ρ[i]?=aa (Sv.ro d) ->∃v,σ[i]?=aa (aa v)/\Dn K (SO S w ρ) H d v
 gh:∀g∈G,Dn K (SO S w ρ) H g.1 g.2
 rw:∀(i:Nat) (xs:Q0a),ρ[i]?=aa (Sv.ow (.rws xs)) ->∀ys,H (w i)=aa (.lst ys) ->∀a,V.ref a∈ys->H₀ a=af
section
variable{K:aq}{H₀ H H':Hp}{S S':ai->Prop}{w:Nat->ai}{σ:St}{ρ:bO}{G:List (D×V)}
theorem yH.wr(h:yH K S H d p):Wr H p:=by
 cases d with
 |lst ds=>obtain⟨xs,e,_⟩:=h;exact .inl ⟨_,e⟩
 |jA ks ds=>obtain⟨xs,e,_⟩:=h;exact .inr (.inl ⟨_,e⟩)
 |c7 q0 ks ds=>obtain⟨o,kvs,e,_⟩:=h;exact .inr (.inr ⟨_,_,e⟩)
 |rws xs=>obtain⟨_,e,_⟩:=h;exact .inl ⟨_,e⟩
 |_=>exact jr h
theorem yH.dn{d:D}{p:ai}(h:yH K S H d p)(hs:S' p)(m:∀a,S a->S' a):Dn K S' H d (.ref p):=by
 cases d with
 |lst ds=>obtain⟨xs,e,q⟩:=h;simp only[Dn];exact⟨p,xs,rfl,e,hs,aP.fits (.mono m) ds xs q⟩
 |jA ks ds=>obtain⟨xs,e,l,q⟩:=h;simp only[Dn];exact⟨p,xs,rfl,e,hs,l,aP.fits (.mono m) ds xs q⟩
 |c7 q0 ks ds=>obtain⟨o,kvs,e,l,q⟩:=h;simp only[Dn];exact⟨p,o,kvs,rfl,e,hs,l,aP.fits (.mono m) ds _ q⟩
 |rws xs=>simp only[Dn];exact⟨p,rfl,hs,Rw.fits (.mono (K:=K) m) (λ_ e=>e) h⟩
 |_=>exact jr h
theorem yH.fits{d:D}{p:ai}(f:Fits K S S' H H')(hp:∀o,H p=aa o->H' p=aa o)(h:yH K S H d p):yH K S' H' d p:=by
 cases d with
 |lst ds=>obtain⟨xs,e,q⟩:=h;exact⟨xs,hp _ e,aP.fits f ds xs q⟩
 |jA ks ds=>obtain⟨xs,e,l,q⟩:=h;exact⟨xs,hp _ e,l,aP.fits f ds xs q⟩
 |c7 q0 ks ds=>obtain⟨o,kvs,e,l,q⟩:=h;exact⟨o,kvs,hp _ e,l,aP.fits f ds _ q⟩
 |rws xs=>exact Rw.fits f (λ_ e=>hp _ e) h
 |_=>exact jr h
def ST.rwN(h:ST K H₀ S w σ H ρ G)(q:ρ[i]?=aa (Sv.ow (.rws xs)))(hp:∀o,H (w i)=aa o->H' (w i)=aa o):∀ys,H' (w i)=aa (.lst ys) ->∀a,V.ref a∈ys->H₀ a=af:=λys hy=>by obtain⟨as,e,_⟩:=(h.own i _ q).2.2;rw[hp _ e] at hy;cases hy;exact h.rw i xs q _ e
def ST.YC(h:ST K H₀ S w σ H ρ G):∀a,H a=af->S a:=λa e=>h.fc a (h.sm.free e)
def ST.Q0(h:ST K H₀ S w σ H ρ G):∀a,H a=af->SO S w ρ a:=λa e=>⟨h.YC a e,λi d q z=>by have wr:=(h.own i d q).2.2.wr;subst z;rcases wr with⟨xs,k⟩|⟨xs,k⟩|⟨_,xs,k⟩<;>rw[e] at k<;>cases k⟩
theorem zT{i:Nat}{d:D}(h:(bY ρ)[i]?=aa (aa d)):ρ[i]?=aa (Sv.ro d)\/ρ[i]?=aa (Sv.ow d):=by
 unfold bY at h;rw[ck] at h
 cases e:ρ[i]? with
 |none=>rw[e] at h;cases h
 |some s =>
  rw[e] at h
  cases s with
  |no=>cases h
  |ro d'=>cases h;exact .inl rfl
  |ow d'=>cases h;exact .inr rfl
theorem DI{i:Nat}{d:D}(h:(jR ρ)[i]?=aa (aa d)):ρ[i]?=aa (Sv.ro d):=by
 unfold jR at h;rw[ck] at h
 cases e:ρ[i]? with
 |none=>rw[e] at h;cases h
 |some s =>
  rw[e] at h
  cases s with
  |no=>cases h
  |ro d'=>cases h;rfl
  |ow d'=>cases h
def ST.all(h:ST K H₀ S w σ H ρ G):Sl K S H (bY ρ) σ:=λi d e=>by
 rcases zT e with e|e
 .obtain ⟨v,e1,q⟩:=h.ro i d e;exact⟨v,e1,Dn.fits (.mono λ_ z=>z.1) d v q⟩
 .obtain ⟨e1,e2,q⟩:=h.own i d e;exact⟨_,e1,q.dn (h.fc _ e2) λ_ z=>z.1⟩
def ST.rd(h:ST K H₀ S w σ H ρ G):Sl K (SO S w ρ) H (jR ρ) σ:=λi d e=>h.ro i d (DI e)
def ST.same(h:ST K H₀ S w σ H ρ G)(e:Same H H'):ST K H₀ S w σ H' ρ G :=
 ⟨h.fc,h.sm.trans e,λi d q=>let ⟨a,b,c⟩:=h.own i d q;⟨a,b,c.fits (.same e) λo z=>e _ o z⟩,h.inj,λi d q=>let ⟨v,a,b⟩:=h.ro i d q;⟨v,a,Dn.fits (.same e) d v b⟩,λg hg=>Dn.fits (.same e) _ _ (h.gh g hg),λi xs q=>h.rwN q λo z=>e _ o z⟩
def SO.mono{ρ':bO}(hw:∀(i:Nat) (d:D),ρ'[i]?=aa (Sv.ow d) ->∃e,ρ[i]?=aa (Sv.ow e)):∀a,SO S w ρ a->SO S w ρ' a:=λa hq6=>by obtain⟨s,n⟩:=hq6;exact⟨s,λi d e=>let ⟨d',e'⟩:=hw i d e;n i d' e'⟩
def get_set{α:Type}{l:List α}{i j:Nat}{x y:α}(h:(l.set i x)[j]?=aa y):(j=i/\y=x/\i<l.length)\/(j≠i/\l[j]?=aa y):=by
 by_cases e:j=i
 .subst e;by_cases hl:j<l.length
  .rw [oj hl] at h;exact .inl ⟨rfl,(dg h).symm,hl⟩
  .rw [gk (by simp;omega)] at h;cases h
 .rw [kc (dj e)] at h;exact .inr ⟨e,h⟩
theorem ST.mU{i:Nat}{d:D}{v:V}(h:ST K H₀ S w σ H ρ G)(hi:i<σ.length)(q:Dn K (SO S w ρ) H d v):ST K H₀ S w (σ.set i (aa v)) H (ρ.set i (.ro d)) G:=by
 have hw:∀(j:Nat) (e:D),(ρ.set i (.ro d))[j]?=aa (Sv.ow e)->j≠i/\ρ[j]?=aa (Sv.ow e):=λj e he=>by
  rcases get_set he with⟨_,z,_⟩|z
  .cases z
  .exact z
 have m:∀a,SO S w ρ a->SO S w (ρ.set i (.ro d)) a:=SO.mono λj e he=>⟨e,(hw j e he).2⟩;refine⟨h.fc,h.sm,λj e he=>?_,λj k d' e' h1 h2=>h.inj j k d' e' (hw j d' h1).2 (hw k e' h2).2,λj e he=>?_,λg hg=>Dn.fits (.mono m) _ _ (h.gh g hg),λj xs hx=>h.rw j xs (hw j _ hx).2⟩
 .obtain ⟨hj,he'⟩:=hw j e he;obtain⟨a,b,c⟩:=h.own j e he';exact⟨by rw[kc (dj hj)];exact a,b,c.fits (.mono m) λ_ z=>z⟩
 .rcases get_set he with⟨hj,z,_⟩|⟨hj,z⟩
  .cases z;subst hj;exact⟨v,oj hi,Dn.fits (.mono m) d v q⟩
  .obtain ⟨u,a,b⟩:=h.ro j e z;exact⟨u,by rw[kc (dj hj)];exact a,Dn.fits (.mono m) e u b⟩
noncomputable def freeze(ρ:bO)(i:Nat):bO:=match ρ[i]? with
 |some (.ow d)=>ρ.set i (.ro d)
 |_=>ρ
theorem ST.frozen{i:Nat}(h:ST K H₀ S w σ H ρ G):ST K H₀ S w σ H (freeze ρ i) G:=by
 unfold freeze
 cases e:ρ[i]? with
 |none=>exact h
 |some s =>
  cases s with
  |no=>exact h
  |ro d=>exact h
  |ow d =>
   dsimp only;obtain⟨a,b,c⟩:=h.own i d e;have hi:i<σ.length:=(cq.mp a).1;have hw:∀(j:Nat) (e:D),(ρ.set i (.ro d))[j]?=aa (Sv.ow e)->j≠i/\ρ[j]?=aa (Sv.ow e):=λj e he=>by
    rcases get_set he with⟨_,z,_⟩|z
    .cases z
    .exact z
   have m:∀a,SO S w ρ a->SO S w (ρ.set i (.ro d)) a:=SO.mono λj e he=>⟨e,(hw j e he).2⟩;refine⟨h.fc,h.sm,λj f hf=>?_,λj k d' e' h1 h2=>h.inj j k d' e' (hw j d' h1).2 (hw k e' h2).2,λj f hf=>?_,λg hg=>Dn.fits (.mono m) _ _ (h.gh g hg),λj xs hx=>h.rw j xs (hw j _ hx).2⟩
   .obtain ⟨a,b,c⟩:=h.own j f (hw j f hf).2;exact⟨a,b,c.fits (.mono m) λ_ z=>z⟩
   .rcases get_set hf with⟨hj,z,_⟩|⟨hj,z⟩
    .cases z;subst hj;refine⟨_,a,c.dn ⟨h.fc _ b,λk f' hk z=>?_⟩ m⟩;obtain⟨hk1,hk2⟩:=hw k f' hk;exact hk1 (h.inj _ _ _ _ e hk2 z).symm
    .obtain ⟨u,a,b⟩:=h.ro j f z;exact⟨u,a,Dn.fits (.mono m) f u b⟩
theorem ST.IZ{i:Nat}{d:D}{p:ai}(h:ST K H₀ S w σ H ρ G)(hi:i<σ.length)(e:Same H H')(hp:H p=af)(q:yH K (λa=>SO S w ρ a/\a≠p) H' d p)
  (hr:∀xs,d=.rws xs ->∀ys,H' p=aa (.lst ys) ->∀a,V.ref a∈ys->H₀ a=af:=by intro _ z;cases z):
  ST K H₀ S (λj=>if j=i then p else w j) (σ.set i (aa (.ref p))) H' (ρ.set i (.ow d)) G:=by
 have h0:H₀ p=af:=h.sm.free hp;have hw:∀(j:Nat) (e:D),j≠i->(ρ.set i (.ow d))[j]?=aa (Sv.ow e)->ρ[j]?=aa (Sv.ow e):=λj e hj he=>by
  rcases get_set he with⟨z,_,_⟩|⟨_,z⟩
  .exact Zw z hj
  .exact z
 have m:∀a,(SO S w ρ a/\a≠p)->SO S (λj=>if j=i then p else w j) (ρ.set i (.ow d)) a:=λa ⟨⟨s,n⟩,ne⟩=>⟨s,λj f hf=>by
  show a≠(if j=i then p else w j);by_cases hj:j=i
  .rw [Z_ hj];exact ne
  .rw [Zz hj];exact n j f (hw j f hj hf)⟩
 have F:Fits K (SO S w ρ) (SO S (λj=>if j=i then p else w j) (ρ.set i (.ow d))) H H':=((Fits.fresh hp).trans (.mono m)).trans (.same e);have wp:∀(j:Nat) (f:D),ρ[j]?=aa (Sv.ow f)->w j≠p:=λj f hf z=>by have wr:=(h.own j f hf).2.2.wr;rw[z] at wr;rcases wr with⟨xs,k⟩|⟨xs,k⟩|⟨_,xs,k⟩<;>rw[hp] at k<;>cases k
 refine⟨h.fc,h.sm.trans e,λj f hf=>?_,λj k d' e' h1 h2 z=>?_,λj f hf=>?_,λg hg=>Dn.fits F _ _ (h.gh g hg),λj xs hx=>?_⟩
 rotate_right
 .show ∀ys,H' (if j=i then p else w j)=aa (.lst ys)->_;by_cases hj:j=i
  .subst hj;rw[Z_ rfl];rcases get_set hx with⟨_,z,_⟩|⟨z,_⟩
   .exact hr xs (Sv.ow.inj z).symm
   .exact Zw rfl z
  .rw [Zz hj];exact h.rwN (hw j _ hj hx) λo z=>e _ o z
 .by_cases hj:j=i
  .subst hj;rcases get_set hf with⟨_,z,_⟩|⟨z,_⟩
   .cases z;rw[Z_ rfl];exact⟨oj hi,h0,q.fits (.mono m) λ_ z=>z⟩
   .exact Zw rfl z
  .rw [Zz hj];obtain⟨a,b,c⟩:=h.own j f (hw j f hj hf);exact⟨by rw[kc (dj hj)];exact a,b,c.fits F λo z=>e _ o z⟩
 .have z:(if j=i then p else w j)=(if k=i then p else w k):=z;by_cases hj:j=i
  .by_cases hk:k=i
   .rw [hj,hk]
   .rw [Z_ hj,Zz hk] at z;exact Zw z.symm (wp k e' (hw k e' hk h2))
  .by_cases hk:k=i
   .rw [Zz hj,Z_ hk] at z;exact Zw z (wp j d' (hw j d' hj h1))
   .rw [Zz hj,Zz hk] at z;exact h.inj j k d' e' (hw j d' hj h1) (hw k e' hk h2) z
 .rcases get_set hf with⟨_,z,_⟩|⟨hj,z⟩
  .cases z
  .obtain ⟨u,a,b⟩:=h.ro j f z;exact⟨u,by rw[kc (dj hj)];exact a,Dn.fits F f u b⟩
def ST.write{i:Nat}{d d':D}{o:HO}(h:ST K H₀ S w σ H ρ G)(e:ρ[i]?=aa (Sv.ow d))(q:yH K (SO S w ρ) (upd H (w i) o) d' (w i))(hr:∀xs,d'≠.rws xs:=by intro _ z;cases z):ST K H₀ S w σ (upd H (w i) o) (ρ.set i (.ow d')) G:=by
 obtain⟨a0,b0,c0⟩:=h.own i d e;have so:SO S w (ρ.set i (.ow d'))=SO S w ρ:=by
  funext a
  refine propext ⟨λ⟨s,n⟩=>⟨s,λj f hf=>?_⟩,λ⟨s,n⟩=>⟨s,λj f hf=>?_⟩⟩
  .by_cases hj:j=i
   .subst hj;exact n j d' (by rw[oj (cq.mp e).1])
   .exact n j f (by rw[kc (dj hj)];exact hf)
  .by_cases hj:j=i
   .subst hj;exact n j d e
   .exact n j f (by rw[kc (dj hj)] at hf;exact hf)
 have nS:¬ SO S w ρ (w i):=λ⟨_,n⟩=>n i d e rfl;have F:Fits K (SO S w ρ) (SO S w ρ) H (upd H (w i) o):=.upd c0.wr nS;refine⟨h.fc,λb u hb=>?_,λj f hf=>?_,λj k d1 e1 h1 h2 z=>?_,λj f hf=>?_,λg hg=>by rw[so];exact Dn.fits F _ _ (h.gh g hg),λj xs hx=>?_⟩
 rotate_right
 .rcases get_set hx with⟨_,z,_⟩|⟨hj,z⟩
  .exact Zw (Sv.ow.inj z).symm (hr xs)
  .exact h.rwN z λob hob=>by rw[aV λy=>hj (h.inj _ _ _ _ z e y)];exact hob
 .rw [aV (bG hb b0)];exact h.sm b u hb
 .rw [so];rcases get_set hf with⟨hj,z,_⟩|⟨hj,z⟩
  .cases z;subst hj;exact⟨a0,b0,q⟩
  .obtain ⟨a,b,c⟩:=h.own j f z;exact⟨a,b,c.fits F λob hob=>by rw[aV λy=>hj (h.inj _ _ _ _ z e y)];exact hob⟩
 .have g1:∃d2,ρ[j]?=aa (Sv.ow d2):=by
   rcases get_set h1 with⟨hj,_,_⟩|⟨_,z⟩
   .subst hj;exact⟨d,e⟩
   .exact ⟨_,z⟩
  have g2:∃d2,ρ[k]?=aa (Sv.ow d2):=by
   rcases get_set h2 with⟨hj,_,_⟩|⟨_,z⟩
   .subst hj;exact⟨d,e⟩
   .exact ⟨_,z⟩
  obtain⟨_,g1⟩:=g1;obtain⟨_,g2⟩:=g2;exact h.inj j k _ _ g1 g2 z
 .rw [so];rcases get_set hf with⟨_,z,_⟩|⟨hj,z⟩
  .cases z
  .obtain ⟨u,a,b⟩:=h.ro j f z;exact⟨u,a,Dn.fits F f u b⟩
def ST.ghost(h:ST K H₀ S w σ H ρ G)(hg:∀g∈G',Dn K (SO S w ρ) H g.1 g.2):ST K H₀ S w σ H ρ G':=⟨h.fc,h.sm,h.own,h.inj,h.ro,hg,h.rw⟩
end
open PySem.Spec PyProof.Rows
abbrev WE:=cN->(D->Prop)->Prop
abbrev WT:=cN->(Bool->Prop)->Prop
abbrev WA:=cN->(List D->Prop)->Prop
def lift(K:aq)(t:WE):TE:=λσ H Q=>∃(S:ai->Prop) (ρ:cN) (Q3:D->Prop),(∀a,H a=af->S a)/\Sl K S H ρ σ/\t ρ Q3 /\∀v H' d,Same H H'->Dn K S H' d v->Q3 d->Q v H'
def liftT(K:aq)(t:WT):TT:=λσ H Q=>∃(S:ai->Prop) (ρ:cN) (Q3:Bool->Prop),(∀a,H a=af->S a)/\Sl K S H ρ σ/\t ρ Q3 /\∀b H',Same H H'->Q3 b->Q b H'
def U6(K:aq)(t:WA):TA:=λσ H Q=>∃(S:ai->Prop) (ρ:cN) (Q3:List D->Prop),(∀a,H a=af->S a)/\Sl K S H ρ σ/\t ρ Q3 /\∀vs H' ds,Same H H'->aP K S H' ds vs->Q3 ds->Q vs H'
def U7(K:aq)(t:WE):TE:=λσ H Q=>∃(S:ai->Prop) (ρ:cN) (Q3:D->Prop),(∀a,H a=af->S a)/\Sl K S H ρ σ/\t ρ Q3 /\
 ∀p xs H' ds,H p=af->H' p=aa (.lst xs)->Same H H'->aP K (λa=>S a/\a≠p) H' ds xs->Q3 (.lst ds)->Q (.ref p) H'
def dA(X:Cx)(e:ar)(t:WE):Prop:=PE X e (lift X.K t)
def I0(X:Cx)(e:ar)(t:WE):Prop:=PE X e (U7 X.K t)
def zG(X:Cx)(e:ar)(t:WT):Prop:=PT X e (liftT X.K t)
def zU(X:Cx)(es:List ar)(t:WA):Prop:=PA X es (U6 X.K t)
section
variable{X:Cx}
def imp(h:PE X e t)(f:∀σ H Q,t' σ H Q->t σ H Q):PE X e t':=λpins s σ H Q I q=>h pins s σ H Q I (f σ H Q q)
def U8(h:PT X e t)(f:∀σ H Q,t' σ H Q->t σ H Q):PT X e t':=λpins s σ H Q I q=>h pins s σ H Q I (f σ H Q q)
def U9(h:PA X e t)(f:∀σ H Q,t' σ H Q->t σ H Q):PA X e t':=λpos pins s σ H Q I q=>h pos pins s σ H Q I (f σ H Q q)
def bV{H H':Hp}{S:ai->Prop}(fc:∀a,H a=af->S a)(s:Same H H'):∀a,H' a=af->S a:=λa e=>fc a (s.free e)
theorem I0.pe(h:I0 X e t):dA X e t:=imp h λσ H Q hq7=>by obtain⟨S,ρ,Q3,fc,sl,ht,k⟩:=hq7;exact⟨S,ρ,Q3,fc,sl,ht,λp xs H' ds hp hp' s dn q=>k _ H' _ s (by simp only[Dn];exact⟨p,xs,rfl,hp',fc p hp,aP.fits (.mono λ_ z=>z.1) ds xs dn⟩) q⟩
noncomputable def ug(i:Nat):WE:=λρ Q=>match ρ[i]? with
 |some (aa d)=>Q d
 |_=>False
def wC(d:D):WE:=λ_ Q=>Q d
def VA{K:aq}{i:Nat}{σ:L2.St}{H:Hp}{Q:VK}(h:lift K (ug i) σ H Q):Z0 i σ H Q:=by
 obtain⟨S,ρ,Q3,fc,sl,ht,k⟩:=h;unfold ug at ht;split at ht
 .rename_i d e;obtain⟨v,e1,q⟩:=sl i d e;exact⟨v,e1,k v H d (Same.refl H) q ht⟩
 .exact ht.elim
def x3(i:Nat)(hN:X.N[i]?=aa x:=by rfl)(hv:C4 X.env.scope x:=by walk_at "1")(hd:Zu x:=by decide)
  (hcd:Zt x:=by decide):dA X (.Name x pos) (ug i):=imp (pM hN hv hd hcd) λ_ _ _=>VA
def DJ{K:aq}{d:D}{v:V}{σ:L2.St}{H:Hp}{Q:VK}(hd:∀S H,Dn K S H d v)(h:lift K (wC d) σ H Q):tC v σ H Q:=by obtain⟨S,ρ,Q3,fc,sl,ht,k⟩:=h;exact k v H d (Same.refl H) (hd S H) ht
def i3{j pos}:dA X (.Constant (.int i) j pos) (wC (.int i)):=imp aCf λ_ _ _=>DJ (λ_ _=>by simp only[Dn])
def b3{j pos}:dA X (.Constant (.bool b) j pos) (wC (.bl b)):=imp Vw λ_ _ _=>DJ (λ_ _=>by simp only[Dn])
def n3{j pos}:dA X (.Constant .none j pos) (wC .non):=imp Zn λ_ _ _=>DJ (λ_ _=>by simp only[Dn])
def s3{j pos}:dA X (.Constant (.str x) j pos) (wC (.str x)):=imp Zm λ_ _ _=>DJ (λ_ _=>by simp only[Dn])
abbrev F2:=D->D->(D->Prop)->Prop
def g6(f:F2)(ta tb:WE):WE:=λρ Q=>ta ρ λx=>tb ρ λy=>f x y Q
def O3(K:aq)(r:R2)(f:F2):Prop:=∀(S:ai->Prop) (H:Hp) (x y:V) (dx dy:D) (Q3:D->Prop) (Q:VK),(∀a,H a=af->S a)->Dn K S H dx x->Dn K S H dy y->f dx dy Q3 ->
 (∀v H' d,Same H H'->Dn K S H' d v->Q3 d->Q v H')->r x y H Q
def rE{K:aq}{r:R2}{f:F2}{ta tb:WE}{σ:L2.St}{H:Hp}{Q:VK}(h3:O3 K r f)(h:lift K (g6 f ta tb) σ H Q):qo r (lift K ta) (lift K tb) σ H Q:=by obtain⟨S,ρ,Q3,fc,sl,ht,k⟩:=h;refine⟨S,ρ,_,fc,sl,ht,λv H1 d s1 d1 q1=>?_⟩;refine⟨S,ρ,_,bV fc s1,Sl.fits (.same s1) sl,q1,λu H2 d2 s2 d2' q2=>?_⟩;exact h3 S H2 v u d d2 Q3 Q (bV fc (s1.trans s2)) (Dn.fits (.same s2) _ _ d1) d2' q2 λv' H' d' s' dn' q'=>k v' H' d' ((s1.trans s2).trans s') dn' q'
theorem op3(ho:kR X (binaryOp op) r)(h3:O3 X.K r f)(ha:dA X a ta)(hb:dA X b tb):dA X (.BinOp a op b pos) (g6 f ta tb) :=
 imp (UL ho ha hb) λ_ _ _=>rE h3
def OV(C:Int->Int->Prop)(g:Int->Int->D):F2
 |.int i,.int j,Q=>C i j/\Q (g i j)
 |_,_,_=>False
theorem DK{K:aq}{C:Int->Int->Prop}{g:Int->Int->Int}:O3 K (rI C λi j=>.int (g i j)) (OV C λi j=>.int (g i j)):=by
 intro S H x y dx dy Q3 Q fc hx hy hf k;cases dx<;>cases dy<;>try exact hf.elim
 simp only[Dn] at hx hy;exact⟨_,_,hx,hy,hf.1,k _ H _ (Same.refl H) (by simp only[Dn]) hf.2⟩
noncomputable def yI(g:Int->Int->D):F2
 |.int i,.int j,Q=>Q (g i j)
 |_,_,_=>False
def aAP{K:aq}{g:Int->Int->Int}:O3 K (YB λi j=>.int (g i j)) (yI λi j=>.int (g i j)):=by
 intro S H x y dx dy Q3 Q fc hx hy hf k;cases dx<;>cases dy<;>try exact hf.elim
 simp only[Dn] at hx hy;exact⟨_,_,hx,hy,k _ H _ (Same.refl H) (by simp only[Dn]) hf⟩
def Qy:F2:=yI λi j=>.int (i-j)
def Qx:F2:=OV (λ_ j=>0<j) λi j=>.int (i%j)
def Qw:F2:=OV Bq λi j=>.int (i/j)
def Qu:F2:=OV Bp λi j=>.int (i^j.toNat)
section
variable{a b:ar}{pos:bh}{ta tb:WE}
def Qt(ha:dA X a ta)(hb:dA X b tb):dA X (.BinOp a .Sub b pos) (g6 Qy ta tb):=op3 Y_ aAP ha hb
def Qs(ha:dA X a ta)(hb:dA X b tb):dA X (.BinOp a .Mod b pos) (g6 Qx ta tb):=op3 Yz DK ha hb
def Qr(ha:dA X a ta)(hb:dA X b tb):dA X (.BinOp a .FloorDiv b pos) (g6 Qw ta tb):=op3 Z7 DK ha hb
def P_(ha:dA X a ta)(hb:dA X b tb):dA X (.BinOp a .Pow b pos) (g6 Qu ta tb):=op3 Yy DK ha hb
end
def Dy(K:aq):R2:=λx y H Q=>∃a b xs ys,x=.ref a/\y=.ref b/\fB K H a xs/\fB K H b ys/\xs.length+ys.length<=bg /\
 (xs=[]->Q (.ref b) H)/\(xs≠[]->ys=[]->Q (.ref a) H)/\(xs≠[]->ys≠[] ->∀p,H p=af->Q (.ref p) (upd H p (.tup (xs++ys))))
theorem VB{prog:bf}{w:ba}{A:bx}{E:Q0c}{s:ao}{t b:ai}{ws:Q0f}{Q:Q0c}(ht:g_ s.heap t #[])(hb:g_ s.heap b ws.toArray)
  (h1:Q (.ref b) s):ax (ay prog w) A (binaryOp .Add (.ref t) (.ref b)) Q E s:=by
 obtain⟨⟨cls,dd,data,sl⟩,ho,hc,n,hd⟩:=id ht;obtain⟨⟨cls2,dd2,data2,sl2⟩,ho2,hc2,n2,hd2⟩:=id hb;simp only at hc hd hc2 hd2;subst hc hd hc2 hd2;exact Er ⟨_,ho,rfl⟩ ⟨_,ho2,rfl⟩ Eo El Ff Fi (Fj _ _)
   (tuple_addW0 t b #[] ws.toArray n n2 dd dd2 sl sl2 (by simp)) ⟨ho,ho2,h1⟩
theorem VC:kR X (binaryOp .Add) (Dy X.K):=by
 intro pins s σ H x y v u Q I rx ry h;obtain⟨a,b,xs,ys,rfl,rfl,ha,hb,hz,q0,q1,q2⟩:=h;by_cases hx:xs=[]
 .cases rx;cases ry;subst hx;obtain⟨its,r1,p1,_⟩:=I.tuple ha;obtain⟨its2,r2,p2,_⟩:=I.tuple hb;cases r1;exact VB p1 p2 ⟨.ref b,H,I,rfl,q0 rfl⟩
 .exact aAH pins s σ H _ _ v u Q I rx ry ⟨a,b,xs,ys,rfl,rfl,ha,hb,hx,hz,q1 hx,q2 hx⟩
noncomputable def xl:F2
 |.int i,.int j,Q=>Q (.int (i+j))
 |.lst a,.lst b,Q=>a.length+b.length<=bg/\Q (.lst (a++b))
 |.tup a,.tup b,Q=>a.length+b.length<=bg/\Q (.tup (a++b))
 |.str a,.str b,Q=>a.length+b.length<=bg/\Q (.str (a++b))
 |_,_,_=>False
def Bl(K:aq):R2:=λx y H Q=>(YB λi j=>.int (i+j)) x y H Q\/(Bo x y H Q\/(Dy K x y H Q \/∃i j,x=.str i/\y=.str j/\i.length+j.length<=bg/\Q (.str (i++j)) H))
theorem Yb{K:aq}:O3 K (Bl K) xl:=by
 intro S H x y dx dy Q3 Q fc hx hy hf k
 cases dx with
 |int i =>
  cases dy with
  |int j=>simp only[Dn] at hx hy;exact .inl ⟨_,_,hx,hy,k _ H _ (Same.refl H) (by simp only[Dn]) hf⟩
  |_=>exact hf.elim
 |str i =>
  cases dy with
  |str j=>simp only[Dn] at hx hy;exact .inr (.inr (.inr ⟨_,_,hx,hy,hf.1,k _ H _ (Same.refl H) (by simp only[Dn]) hf.2⟩))
  |_=>exact hf.elim
 |lst ds =>
  cases dy with
  |lst es =>
   simp only[Dn] at hx hy;obtain⟨a,xs,rfl,ha,sa,da⟩:=hx;obtain⟨b,ys,rfl,hb,sb,db⟩:=hy;refine .inr (.inl ⟨a,b,xs,ys,rfl,rfl,ha,hb,by rw[<- da.len,<- db.len];exact hf.1,λp hp=>k _ _ _ (aO hp) ?_ hf.2⟩);simp only[Dn];exact⟨p,_,rfl,aQ,fc p hp,aP.fits (.same (aO hp)) _ _ (da.append db)⟩
  |_=>exact hf.elim
 |tup ds =>
  cases dy with
  |tup es =>
   simp only[Dn] at hx hy;obtain⟨a,xs,rfl,ha,da⟩:=hx;obtain⟨b,ys,rfl,hb,db⟩:=hy;refine .inr (.inr (.inl ⟨a,b,xs,ys,rfl,rfl,fB.of ha,fB.of hb,by rw[<- da.len,<- db.len];exact hf.1,λe=>?_,λ_ e=>?_,λ_ _ p hp=>?_⟩))
   .subst e;have e2:ds=[]:=qc.mp da.len;subst e2;exact k _ H _ (Same.refl H) (by simp only[Dn];exact⟨b,ys,rfl,hb,db⟩) hf.2
   .subst e;have e2:es=[]:=qc.mp db.len;subst e2;have q:=hf.2;rw[mi] at q;exact k _ H _ (Same.refl H) (by simp only[Dn];exact⟨a,xs,rfl,ha,da⟩) q
   .refine k _ _ _ (aO hp) ?_ hf.2;simp only[Dn];exact⟨p,_,rfl,aQ,aP.fits (.same (aO hp)) _ _ (da.append db)⟩
  |_=>exact hf.elim
 |_=>cases dy<;>exact hf.elim
def aAQ:kR X (binaryOp .Add) (Bl X.K):=kR.or Za (kR.or UU (kR.or VC IP))
theorem Pz(ha:dA X a ta)(hb:dA X b tb):dA X (.BinOp a .Add b pos) (g6 xl ta tb):=op3 aAQ Yb ha hb
noncomputable def Bk:F2
 |.lst a,.lst b,Q=>a.length+b.length<=bg/\Q (.lst (a++b))
 |_,_,_=>False
def Vd{a b:ar}{pos:bh}{ta tb:WE}(ha:dA X a ta)(hb:dA X b tb):I0 X (.BinOp a .Add b pos) (g6 Bk ta tb):=imp (UL UU ha hb) λσ H Q h=>by
 obtain⟨S,ρ,Q3,fc,sl,ht,k⟩:=h;refine⟨S,ρ,_,fc,sl,ht,λv H1 d s1 d1 q1=>?_⟩;refine⟨S,ρ,_,bV fc s1,Sl.fits (.same s1) sl,q1,λu H2 d2 s2 d2' q2=>?_⟩;cases d<;>cases d2<;>try exact q2.elim
 simp only[Dn] at d1 d2';obtain⟨a,xs,rfl,ha,sa,da⟩:=d1;obtain⟨b,ys,rfl,hb,sb,db⟩:=d2';have da':=aP.fits (.same s2) _ _ da;refine⟨a,b,xs,ys,rfl,rfl,s2 _ _ ha,hb,by rw[<- da.len,<- db.len];exact q2.1,λp hp=>k p _ _ _ ((s1.trans s2).free hp) aQ ((s1.trans s2).trans (aO hp)) ?_ q2.2⟩;exact aP.fits ((Fits.fresh hp).trans (.same (aO hp))) _ _ (da'.append db)
def Py:WA:=λ_ Q=>Q []
def Vc(ta:WE)(t:WA):WA:=λρ Q=>ta ρ λd=>t ρ λds=>Q (d::ds)
def Px:zU X [] Py:=U9 pN λσ H Q hq8=>by obtain⟨S,ρ,Q3,fc,sl,ht,k⟩:=hq8;exact k [] H [] (Same.refl H) aP.nil ht
def Vb{e:ar}{es:List ar}{te:WE}{t:WA}(ha:dA X e te)(hr:zU X es t)(hs:Zs X e es:=by rfl):zU X (e::es) (Vc te t) :=
 U9 (iF ha hr hs) λσ H Q hq9=>by obtain⟨S,ρ,Q3,fc,sl,ht,k⟩:=hq9;refine⟨S,ρ,_,fc,sl,ht,λv H1 d s1 d1 q1=>?_⟩;refine⟨S,ρ,_,bV fc s1,Sl.fits (.same s1) sl,q1,λus H2 ds s2 d2 q2=>?_⟩;exact k _ H2 _ (s1.trans s2) (aP.cons (Dn.fits (.same s2) _ _ d1) d2) q2
def Pw(t:WA):WE:=λρ Q=>t ρ λds=>ds.length<=bg/\Q (.tup ds)
def Pu(t:WA):WE:=λρ Q=>t ρ λds=>ds.length<=bg/\Q (.lst ds)
def Pr{x1}(h:zU X es t):dA X (.Tuple es x1 pos) (Pw t):=imp (Yp h) λσ H Q Pq=>by obtain⟨S,ρ,Q3,fc,sl,ht,k⟩:=Pq;refine⟨S,ρ,_,fc,sl,ht,λvs H1 ds s1 d1 q1=>⟨by rw[<- d1.len];exact q1.1,λp hp=>k _ _ _ (s1.trans (aO hp)) ?_ q1.2⟩⟩;simp only[Dn];exact⟨p,_,rfl,aQ,aP.fits (.same (aO hp)) _ _ d1⟩
def Pp(h:zU X es t):I0 X (.List es pos) (Pu t):=imp (Yo h) λσ H Q Po=>by obtain⟨S,ρ,Q3,fc,sl,ht,k⟩:=Po;refine⟨S,ρ,_,fc,sl,ht,λvs H1 ds s1 d1 q1=>⟨by rw[<- d1.len];exact q1.1,λp hp=>k p vs _ ds (s1.free hp) aQ (s1.trans (aO hp)) ?_ q1.2⟩⟩;exact aP.fits ((Fits.fresh hp).trans (.same (aO hp))) _ _ d1
end
section
variable{X:Cx}
noncomputable def oP(t:WE):WT:=λρ Q=>t ρ λd=>match d with
 |.bl b=>Q b
 |_=>False
theorem OW{K:aq}{t:WE}{σ:L2.St}{H:Hp}{Q:Bool->Hp->Prop}(h:liftT K (oP t) σ H Q):MD (lift K t) σ H Q:=by
 obtain⟨S,ρ,Q3,fc,sl,ht,k⟩:=h;refine⟨S,ρ,_,fc,sl,ht,λv H1 d s1 d1 q1=>?_⟩
 cases d with
 |bl b=>simp only[Dn] at d1;exact⟨b,d1,k b H1 s1 q1⟩
 |_=>exact q1.elim
def JA(f:∀σ H Q,t' σ H Q->t σ H Q)(h:MD t' σ H Q):MD t σ H Q:=f σ H _ h
def xk(ho:kR X (compareOp op) r)(h3:O3 X.K r f)(ha:dA X a ta)(hb:dA X b tb)(hm:behindInMarks op b=ag):dA X (.Compare a [op] [b] pos) (g6 f ta tb) :=
 imp (Z9 ho ha hb hm) λ_ _ _=>rE h3
def lR(ho:kR X (compareOp op) r)(h3:O3 X.K r f)(ha:dA X a ta)(hb:dA X b tb)(hm:behindInMarks op b=ag):zG X (.Compare a [op] [b] pos) (oP (g6 f ta tb)) :=
 U8 (aAA ho ha hb hm) λ_ _ _ h=>JA (λ_ _ _=>rE h3) (OW h)
theorem JB{K:aq}{g:Int->Int->Bool}:O3 K (YB λi j=>.bl (g i j)) (yI λi j=>.bl (g i j)):=by
 intro S H x y dx dy Q3 Q fc hx hy hf k;cases dx<;>cases dy<;>try exact hf.elim
 simp only[Dn] at hx hy;exact⟨_,_,hx,hy,k _ H _ (Same.refl H) (by simp only[Dn]) hf⟩
noncomputable def VD:D->D->Bool
 |.non,.non=>ae | .non,.int _=>ae | .int _,.non=>ae | .non,.bl _=>ae | .bl _,.non=>ae | .non,.str _=>ae | .str _,.non=>ae
 |.int _,.int _=>ae | .bl _,.bl _=>ae | .str _,.str _=>ae | .int _,.str _=>ae | .str _,.int _=>ae | .bl _,.str _=>ae | .str _,.bl _=>ae
 |_,_=>ag
noncomputable def eqS:D->D->Bool
 |.non,.non=>ae
 |.int i,.int j=>Zv (i=j)
 |.bl i,.bl j=>Zv (i=j)
 |.str i,.str j=>Zv (i=j)
 |_,_=>ag
def uf:F2:=λx y Q=>VD x y=ae/\Q (.bl (eqS x y))
def xj:F2:=λx y Q=>VD x y=ae/\Q (.bl (!eqS x y))
def ML{K:aq}{S:ai->Prop}{H:Hp}{x y:V}{dx dy:D}(hx:Dn K S H dx x)(hy:Dn K S H dy y)(h:VD dx dy=ae):xo x y=ae/\Zv (x=y)=eqS dx dy:=by
 cases dx<;>first
  | (exact Zw (show ag=ae from h) bz)
  |skip
 all_goals (cases dy<;>first
  | (exact Zw (show ag=ae from h) bz)
  | (simp only[Dn] at hx hy;subst hx;subst hy;exact⟨rfl,by first|exact C7|exact IL|exact C8|exact Zy (λh=>by cases h)|exact Zx rfl⟩))
def VE{K:aq}:O3 K Aj uf:=by intro S H x y dx dy Q3 Q fc hx hy hf k;obtain⟨h1,h2⟩:=ML hx hy hf.1;exact⟨h1,k _ H _ (Same.refl H) (by simp only[Dn];rw[h2]) hf.2⟩
theorem Ya{K:aq}:O3 K wa xj:=by intro S H x y dx dy Q3 Q fc hx hy hf k;obtain⟨h1,h2⟩:=ML hx hy hf.1;exact⟨h1,k _ H _ (Same.refl H) (by simp only[Dn];rw[h2]) hf.2⟩
noncomputable def allI:List D->Bool
 |[]=>ae
 |.int _::r=>allI r
 |_::_=>ag
noncomputable def zV(i:Int):List D->Bool
 |[]=>ag
 |.int j::r=>j == i||zV i r
 |_::r=>zV i r
theorem BH:∀ns:Q0e,allI (ns.map D.int)=ae
 |[]=>rfl
 |n::ns=>by rw[bt];exact BH ns
theorem BI(i:Int):∀ns:Q0e,zV i (ns.map D.int)=ns.contains i
 |[]=>rfl
 |n::ns=>by rw[bt,zV,BI i ns,a2U];congr 1;exact Bool.beq_comm
theorem DL:∀{ds:List D},allI ds=ae ->∃ns:Q0e,ds=ns.map D.int
 |[],_=>⟨[],rfl⟩
 |.int n::r,h=>by obtain⟨ns,e⟩:=DL (ds:=r) h;exact⟨n::ns,by rw[e];rfl⟩
 |.non::r,h=>Zw (show ag=ae from h) bz
 |.bl _::r,h=>Zw (show ag=ae from h) bz
 |.str _::r,h=>Zw (show ag=ae from h) bz
 |.tup _::r,h=>Zw (show ag=ae from h) bz
 |.lst _::r,h=>Zw (show ag=ae from h) bz
 |.rY _::r,h=>Zw (show ag=ae from h) bz
 |.jA _ _::r,h=>Zw (show ag=ae from h) bz
 |.c7 _ _ _::r,h=>Zw (show ag=ae from h) bz
def inF(neg:Bool):F2
 |.int i,.tup ds,Q=>allI ds=ae/\Q (.bl (if neg then !zV i ds else zV i ds))
 |.int i,.lst ds,Q=>allI ds=ae/\Q (.bl (if neg then !zV i ds else zV i ds))
 |_,_,_=>False
theorem yJ(i:Int):∀ns:Q0e,inV (.int i) (ns.map V.int)=zV i (ns.map D.int)
 |[]=>rfl
 |n::ns=>by have e:=yJ i ns;unfold inV at e ⊢;rw[bt,bt,jq,zV,e];rfl
theorem tL:∀ns:Q0e,(ns.map V.int).all rA=ae
 |[]=>rfl
 |n::ns=>by rw[bt,mj,tL ns];rfl
theorem Dx{K:aq}{neg:Bool}:O3 K (wb K neg) (inF neg):=by
 intro S H x y dx dy Q3 Q fc hx hy hf k
 cases dx with
 |int i =>
  simp only[Dn] at hx;subst hx
  cases dy with
  |tup ds =>
   simp only[Dn] at hy;obtain⟨a,xs,rfl,ha,da⟩:=hy;obtain⟨h1,h2⟩:=hf;obtain⟨ns,rfl⟩:=DL h1;have e:=aP.ints.mp da;subst e;refine⟨a,_,rfl,.inr (fB.of ha),rfl,tL ns,k _ H _ (Same.refl H) ?_ h2⟩;simp only[Dn];rw[yJ]
  |lst ds =>
   simp only[Dn] at hy;obtain⟨a,xs,rfl,ha,_,da⟩:=hy;obtain⟨h1,h2⟩:=hf;obtain⟨ns,rfl⟩:=DL h1;have e:=aP.ints.mp da;subst e;refine⟨a,_,rfl,.inl (dW.of ha),rfl,tL ns,k _ H _ (Same.refl H) ?_ h2⟩;simp only[Dn];rw[yJ]
  |_=>exact hf.elim
 |_=>cases dy<;>exact hf.elim
section
variable{a b:ar}{pos:bh}{ta tb:WE}
def ltF:F2:=yI λi j=>.bl (Zv (i<j))
def gtF:F2:=yI λi j=>.bl (Zv (i>j))
def geF:F2:=yI λi j=>.bl (Zv (i >= j))
def Pn(ha:dA X a ta)(hb:dA X b tb):dA X (.Compare a [.Eq] [b] pos) (g6 uf ta tb):=xk Dd VE ha hb (hJ _)
def in3(ha:dA X a ta)(hb:dA X b tb)(hm:behindInMarks .In b=ag:=by with_unfolding_all rfl):dA X (.Compare a [.In] [b] pos) (g6 (inF ag) ta tb):=xk OM Dx ha hb hm
def Pl(ha:dA X a ta)(hb:dA X b tb):zG X (.Compare a [.Lt] [b] pos) (oP (g6 ltF ta tb)):=lR Vl JB ha hb (hJ _)
def Pk(ha:dA X a ta)(hb:dA X b tb):zG X (.Compare a [.Gt] [b] pos) (oP (g6 gtF ta tb)):=lR Vk JB ha hb (hJ _)
def Pj(ha:dA X a ta)(hb:dA X b tb):zG X (.Compare a [.GtE] [b] pos) (oP (g6 geF ta tb)):=lR Vi JB ha hb (hJ _)
def Va(ha:dA X a ta)(hb:dA X b tb):zG X (.Compare a [.Eq] [b] pos) (oP (g6 uf ta tb)):=lR Dd VE ha hb (hJ _)
def U_(ha:dA X a ta)(hb:dA X b tb):zG X (.Compare a [.NotEq] [b] pos) (oP (g6 xj ta tb)):=lR Dc Ya ha hb (hJ _)
def Uz(ha:dA X a ta)(hb:dA X b tb)(hm:behindInMarks .NotIn b=ag:=by with_unfolding_all rfl):zG X (.Compare a [.NotIn] [b] pos) (oP (g6 (inF ae) ta tb)):=lR DF Dx ha hb hm
end
noncomputable def isD:D->Bool
 |.non=>ae
 |_=>ag
def ue:F2:=λx y Q=>isD y=ae/\Q (.bl (isD x))
def VF{K:aq}:O3 K (λx y H Q=>y=.non/\Q (.bl (Zv (x=.non))) H) ue:=by
 intro S H x y dx dy Q3 Q fc hx hy hf k;obtain⟨h1,h2⟩:=hf;cases dy<;>try exact Zw (show ag=ae from h1) bz
 simp only[Dn] at hy;refine⟨hy,k _ H _ (Same.refl H) ?_ h2⟩;cases dx<;>simp only[Dn] at hx ⊢
 all_goals first
  | (subst hx;simp[isD])
  | (obtain⟨a,xs,rfl,_⟩:=hx;simp[isD])
  | (obtain⟨a,_,xs,rfl,_⟩:=hx;simp[isD])
  | (obtain⟨a,rfl,_⟩:=hx;simp[isD])
def Uy(ha:dA X a ta)(hb:dA X b tb):zG X (.Compare a [.Is] [b] pos) (oP (g6 ue ta tb)):=lR UM VF ha hb (hJ _)
def Ph(ha:dA X a ta)(hb:dA X b tb):dA X (.Compare a [.Is] [b] pos) (g6 ue ta tb):=xk UM VF ha hb (hJ _)
def Ux(t:WT):WT:=λρ Q=>t ρ λb=>Q (!b)
def Uw(t u:WT):WT:=λρ Q=>t ρ λb=>if b=ae then u ρ Q else Q ag
def Pg(t u:WT):WT:=λρ Q=>t ρ λb=>if b=ae then Q ae else u ρ Q
def Q2(X:Cx)(e:ar)(t:WT):Prop:=PW X e (liftT X.K t)
def xi(h:PW X e t)(f:∀σ H Q,t' σ H Q->t σ H Q):PW X e t':=λwh pins s σ H Q I q=>h wh pins s σ H Q I (f σ H Q q)
section
variable{a b:ar}{rest:List ar}{pos:bh}{ta tb:WT}
def Q2.pt(h:Q2 X e t):zG X e t:=PW.pt h
def Uv(ha:zG X a ta):zG X (.UnaryOp .Not a pos) (Ux ta):=U8 (Zi ha) λσ H Q Pf=>by obtain⟨S,ρ,Q3,fc,sl,ht,k⟩:=Pf;exact⟨S,ρ,_,fc,sl,ht,λb H1 s1 q1=>k (!b) H1 s1 q1⟩
def Pe(ha:zG X a ta):Q2 X (.BoolOp .And [a] pos) ta:=Z3 ha
def or1(ha:zG X a ta):Q2 X (.BoolOp .Or [a] pos) ta:=Zk ha
theorem Uu(ha:zG X a ta)(hb:Q2 X (.BoolOp .And (b::rest) pos) tb):Q2 X (.BoolOp .And (a::b::rest) pos) (Uw ta tb):=xi (Zj ha hb) λσ H Q Pd=>by
 obtain⟨S,ρ,Q3,fc,sl,ht,k⟩:=Pd;refine⟨S,ρ,_,fc,sl,ht,λc H1 s1 q1=>?_⟩
 cases c with
 |true=>rw[Z_ rfl] at q1 ⊢;exact⟨S,ρ,Q3,bV fc s1,Sl.fits (.same s1) sl,q1,λb' H2 s2 q2=>k b' H2 (s1.trans s2) q2⟩
 |false=>rw[Zz bz] at q1 ⊢;exact k ag H1 s1 q1
theorem Pc(ha:zG X a ta)(hb:Q2 X (.BoolOp .Or (b::rest) pos) tb):Q2 X (.BoolOp .Or (a::b::rest) pos) (Pg ta tb):=xi (Vv ha hb) λσ H Q Pa=>by
 obtain⟨S,ρ,Q3,fc,sl,ht,k⟩:=Pa;refine⟨S,ρ,_,fc,sl,ht,λc H1 s1 q1=>?_⟩
 cases c with
 |false=>rw[Zz bz] at q1 ⊢;exact⟨S,ρ,Q3,bV fc s1,Sl.fits (.same s1) sl,q1,λb' H2 s2 q2=>k b' H2 (s1.trans s2) q2⟩
 |true=>rw[Z_ rfl] at q1 ⊢;exact k ae H1 s1 q1
end
noncomputable def O_(ta tb:WE):WE:=λρ Q=>ta ρ λx=>match x with
 |.bl ae=>tb ρ Q
 |.bl ag=>Q (.bl ag)
 |_=>False
noncomputable def Ol(ta:WE):WE:=λρ Q=>ta ρ λx=>match x with
 |.bl b=>Q (.bl (!b))
 |_=>False
def Hm(t:WT)(ta tb:WE):WE:=λρ Q=>t ρ λb=>if b=ae then ta ρ Q else tb ρ Q
section
variable{a b c:ar}{rest:List ar}{pos:bh}{ta tb:WE}{tc:WT}
def Oj{op}(ha:dA X a ta):dA X (.BoolOp op [a] pos) ta:=Zh ha
theorem Oi(ha:dA X a ta)(hb:dA X (.BoolOp .And (b::rest) pos) tb):dA X (.BoolOp .And (a::b::rest) pos) (O_ ta tb):=imp (Zg ha hb) λσ H Q Oh=>by
 obtain⟨S,ρ,Q3,fc,sl,ht,k⟩:=Oh;refine⟨S,ρ,_,fc,sl,ht,λv H1 d s1 d1 q1=>?_⟩
 cases d with
 |bl c =>
  simp only[Dn] at d1;refine⟨c,d1,?_⟩
  cases c with
  |true=>rw[Z_ rfl];exact⟨S,ρ,Q3,bV fc s1,Sl.fits (.same s1) sl,q1,λv' H2 d' s2 d2 q2=>k v' H2 d' (s1.trans s2) d2 q2⟩
  |false=>rw[Zz bz];exact k _ H1 (.bl ag) s1 (by simp only[Dn]) q1
 |_=>exact q1.elim
theorem Og(ha:dA X a ta):dA X (.UnaryOp .Not a pos) (Ol ta):=imp (Zf ha) λσ H Q Of=>by
 obtain⟨S,ρ,Q3,fc,sl,ht,k⟩:=Of;refine⟨S,ρ,_,fc,sl,ht,λv H1 d s1 d1 q1=>?_⟩
 cases d with
 |bl c=>simp only[Dn] at d1;exact⟨c,d1,k _ H1 (.bl (!c)) s1 (by simp only[Dn]) q1⟩
 |_=>exact q1.elim
theorem if3(hc:zG X c tc)(ha:dA X a ta)(hb:dA X b tb):dA X (.IfExp c a b pos) (Hm tc ta tb):=imp (UE hc ha hb) λσ H Q Oe=>by
 obtain⟨S,ρ,Q3,fc,sl,ht,k⟩:=Oe;refine⟨S,ρ,_,fc,sl,ht,λc H1 s1 q1=>?_⟩
 cases c with
 |true=>rw[Z_ rfl] at q1 ⊢;exact⟨S,ρ,Q3,bV fc s1,Sl.fits (.same s1) sl,q1,λv' H2 d' s2 d2 q2=>k v' H2 d' (s1.trans s2) d2 q2⟩
 |false=>rw[Zz bz] at q1 ⊢;exact⟨S,ρ,Q3,bV fc s1,Sl.fits (.same s1) sl,q1,λv' H2 d' s2 d2 q2=>k v' H2 d' (s1.trans s2) d2 q2⟩
noncomputable def Od(ta:WE):WE:=λρ Q=>ta ρ λx=>match x with
 |.int i=>Q (.int (-i))
 |_=>False
theorem Oc(ha:dA X a ta):dA X (.UnaryOp .USub a pos) (Od ta):=imp (Vm Yr ha) λσ H Q Ob=>by
 obtain⟨S,ρ,Q3,fc,sl,ht,k⟩:=Ob;refine⟨S,ρ,_,fc,sl,ht,λv H1 d s1 d1 q1=>?_⟩
 cases d with
 |int i=>simp only[Dn] at d1;exact⟨i,d1,k _ H1 (.int (-i)) s1 (by simp only[Dn]) q1⟩
 |_=>exact q1.elim
end
noncomputable def ixF:F2
 |.lst ds,.int i,Q=>(match uQ ds i with|some d=>Q d|none=>False)
 |.tup ds,.int i,Q=>(match uQ ds i with|some d=>Q d|none=>False)
 |.rY ns,.int i,Q=>(match uQ ns i with|some n=>Q (.int n)|none=>False)
 |_,_,_=>False
theorem aP.at{K:aq}{S:ai->Prop}{H:Hp}{ds:List D}{xs:List V}{i:Int}{d:D}(h:aP K S H ds xs)(e:uQ ds i=aa d):∃v,uQ xs i=aa v/\Dn K S H d v:=by
 unfold uQ at e ⊢;rw[<- h.len]
 cases q:OL ds.length i with
 |none=>rw[q] at e;cases e
 |some j =>
  rw[q] at e;obtain⟨v,e1,dn⟩:=h.get (i:=j) (d:=d) e;exact⟨v,e1,dn⟩
theorem aAT{α β:Type}(f:α->β)(xs:List α)(i:Int):uQ (xs.map f) i=(uQ xs i).map f:=by
 unfold uQ;rw[a_]
 cases OL xs.length i with
 |none=>rfl
 |some j=>simp
theorem Ut{K:aq}:O3 K (λx y H Q=>By K x y H Q\/Bx K x y H Q) ixF:=by
 intro S H x y dx dy Q3 Q fc hx hy hf k
 cases dx with
 |lst ds =>
  cases dy with
  |int i =>
   simp only[Dn] at hx hy;obtain⟨a,xs,rfl,ha,sa,da⟩:=hx;have hf:(match uQ ds i with|some d=>Q3 d|none=>False):=hf
   cases e:uQ ds i with
   |none=>rw[e] at hf;exact hf.elim
   |some d =>
    rw[e] at hf;obtain⟨v,e1,dv⟩:=da.at e;exact .inl ⟨a,xs,i,v,rfl,hy,dW.of ha,e1,k v H d (Same.refl H) dv hf⟩
  |_=>exact hf.elim
 |tup ds =>
  cases dy with
  |int i =>
   simp only[Dn] at hx hy;obtain⟨a,xs,rfl,ha,da⟩:=hx;have hf:(match uQ ds i with|some d=>Q3 d|none=>False):=hf
   cases e:uQ ds i with
   |none=>rw[e] at hf;exact hf.elim
   |some d =>
    rw[e] at hf;obtain⟨v,e1,dv⟩:=da.at e;exact .inr ⟨a,xs,i,v,rfl,hy,(fB.of ha),e1,k v H d (Same.refl H) dv hf⟩
  |_=>exact hf.elim
 |rY ns =>
  cases dy with
  |int i =>
   simp only[Dn] at hx hy;obtain⟨a,rfl,ha⟩:=hx;have hf:(match uQ ns i with|some n=>Q3 (.int n)|none=>False):=hf
   cases e:uQ ns i with
   |none=>rw[e] at hf;exact hf.elim
   |some n =>
    rw[e] at hf;exact .inl ⟨a,_,i,.int n,rfl,hy,ha.sq,by rw[aAT,e];rfl,k _ H (.int n) (Same.refl H) (by simp only[Dn]) hf⟩
  |_=>exact hf.elim
 |_=>cases dy<;>exact hf.elim
def ix3(ha:dA X a ta)(hb:dA X b tb)(hs:DC b:=by intro _ _;rfl):dA X (.Subscript a b pos) (g6 ixF ta tb) :=
 imp (Vy (aAI.or Yj) ha hb hs) λ_ _ _=>rE Ut
abbrev F1:=List D->(D->Prop)->Prop
def VG(f:F1)(t:WA):WE:=λρ Q=>t ρ λds=>f ds Q
def C3(K:aq)(r:List V->Hp->VK->Prop)(f:F1):Prop:=∀(S:ai->Prop) (H:Hp) (xs:List V) (ds:List D) (Q3:D->Prop) (Q:VK),(∀a,H a=af->S a)->aP K S H ds xs->f ds Q3 ->
 (∀v H' d,Same H H'->Dn K S H' d v->Q3 d->Q v H')->r xs H Q
def C3F(K:aq)(r:List V->Hp->VK->Prop)(f:F1):Prop:=∀(S:ai->Prop) (H:Hp) (xs:List V) (ds:List D) (Q3:D->Prop) (Q:VK),(∀a,H a=af->S a)->aP K S H ds xs->f ds Q3 ->
 (∀p ys H' es,H p=af->H' p=aa (.lst ys)->Same H H'->aP K (λa=>S a/\a≠p) H' es ys->Q3 (.lst es)->Q (.ref p) H')->r xs H Q
def MM{K:aq}{r:List V->Hp->VK->Prop}{f:F1}{t:WA}{σ:L2.St}{H:Hp}{Q:VK}(h3:C3 K r f)(h:lift K (VG f t) σ H Q):sy r (U6 K t) σ H Q:=by obtain⟨S,ρ,Q3,fc,sl,ht,k⟩:=h;refine⟨S,ρ,_,fc,sl,ht,λvs H1 ds s1 d1 q1=>?_⟩;exact h3 S H1 vs ds Q3 Q (bV fc s1) d1 q1 λv H' d s' d' q'=>k v H' d (s1.trans s') d' q'
def VH{K:aq}{r:List V->Hp->VK->Prop}{f:F1}{t:WA}{σ:L2.St}{H:Hp}{Q:VK}(h3:C3F K r f)(h:U7 K (VG f t) σ H Q):sy r (U6 K t) σ H Q:=by obtain⟨S,ρ,Q3,fc,sl,ht,k⟩:=h;refine⟨S,ρ,_,fc,sl,ht,λvs H1 ds s1 d1 q1=>?_⟩;exact h3 S H1 vs ds Q3 Q (bV fc s1) d1 q1 λp ys H' es hp hp' s' d' q'=>k p ys H' es (s1.free hp) hp' (s1.trans s') d' q'
def tM{x:ak}{p pos:bh}{e:ar}{es:List ar}{t:WA}{id:String}{r:List V->Hp->VK->Prop}{f:F1}(hc:eT X (.builtin id) r)(h3:C3 X.K r f)(hv:bootBuiltins x=aa (.builtin id))(hg:Gl X x)(hm:X.mg x=af)(ha:zU X (e::es) t)(hn:x ≠ "__name__":=by decide)(hdb:Zu x:=by decide)
  (he:Zs X e es:=by rfl) (hpl:Q0k X pos es:=by rfl):dA X (.Call (.Name x p) (e::es) [] pos) (VG f t) :=
 imp (mS hc hg hm hv ha hn hdb he hpl) λ_ _ _=>MM h3
def vN{x:ak}{p pos:bh}{e:ar}{es:List ar}{t:WA}{id:String}{r:List V->Hp->VK->Prop}{f:F1}(hc:eT X (.builtin id) r)(h3:C3F X.K r f)(hv:bootBuiltins x=aa (.builtin id))(hg:Gl X x)(hm:X.mg x=af)(ha:zU X (e::es) t)(hn:x ≠ "__name__":=by decide)(hdb:Zu x:=by decide)
  (he:Zs X e es:=by rfl) (hpl:Q0k X pos es:=by rfl):I0 X (.Call (.Name x p) (e::es) [] pos) (VG f t) :=
 imp (mS hc hg hm hv ha hn hdb he hpl) λ_ _ _=>VH h3
theorem aAU(hc:eT X (.type T) r)(h3:C3 X.K r f)(hv:bootBuiltins x=aa (.type T))(hg:Gl X x)(hm:X.mg x=af)(ha:zU X (e::es) t)(hn:x ≠ "__name__":=by decide)(hdb:Zu x:=by decide)
  (he:Zs X e es:=by rfl) (hpl:Q0k X pos es:=by rfl):dA X (.Call (.Name x p) (e::es) [] pos) (VG f t) :=
 imp (tJ hc hg hm hv ha hn hdb he hpl) λ_ _ _=>MM h3
noncomputable def GF:F1
 |[.lst ds],Q=>Q (.int ds.length)
 |[.tup ds],Q=>Q (.int ds.length)
 |[.rY ns],Q=>Q (.int ns.length)
 |_,_=>False
theorem Yx{K:aq}:C3 K (λxs H Q=>∃p ys,xs=[.ref p]/\(dW K H p ys\/fB K H p ys)/\Q (.int ys.length) H) GF:=by
 intro S H xs ds Q3 Q fc hd hf k
 match ds,hf with
 |[.lst es],hf =>
  obtain⟨v,r,rfl,h1,h2⟩:=hd.bH;simp only[aP] at h2;subst h2;simp only[Dn] at h1;obtain⟨a,ys,rfl,ha,sa,da⟩:=h1;exact⟨a,ys,rfl,.inl (dW.of ha),k _ H _ (Same.refl H) (by simp only[Dn];rw[da.len]) hf⟩
 |[.tup es],hf =>
  obtain⟨v,r,rfl,h1,h2⟩:=hd.bH;simp only[aP] at h2;subst h2;simp only[Dn] at h1;obtain⟨a,ys,rfl,ha,da⟩:=h1;exact⟨a,ys,rfl,.inr (fB.of ha),k _ H _ (Same.refl H) (by simp only[Dn];rw[da.len]) hf⟩
 |[.rY ns],hf =>
  obtain⟨v,r,rfl,h1,h2⟩:=hd.bH;simp only[aP] at h2;subst h2;simp only[Dn] at h1;obtain⟨a,rfl,ha⟩:=h1;exact⟨a,_,rfl,.inl ha.sq,k _ H _ (Same.refl H) (by simp only[Dn];rw[a_]) hf⟩
theorem Oa(hm:X.mg "len"=af)(ha:zU X [e] t)(hg:Gl X "len":=by rfl)
  (he:Zs X e []:=by rfl):dA X (.Call (.Name "len" p) [e] [] pos) (VG GF t):=tM DG Yx a0O hg hm ha (by decide) (by decide) he (by rfl)
noncomputable def JC:F1
 |[.lst ds],Q=>Q (.tup ds)
 |[.tup ds],Q=>Q (.tup ds)
 |_,_=>False
theorem VI{K:aq}:C3 K (λxs H Q=>∃p ys,xs=[.ref p]/\((dW K H p ys /\∀l,H l=af->Q (.ref l) (upd H l (.tup ys)))\/(fB K H p ys/\Q (.ref p) H))) JC:=by
 intro S H xs ds Q3 Q fc hd hf k
 match ds,hf with
 |[.lst es],hf =>
  obtain⟨v,r,rfl,h1,h2⟩:=hd.bH;simp only[aP] at h2;subst h2;simp only[Dn] at h1;obtain⟨a,ys,rfl,ha,sa,da⟩:=h1;refine⟨a,ys,rfl,.inl ⟨dW.of ha,λl hl=>k _ _ _ (aO hl) ?_ hf⟩⟩;simp only[Dn];exact⟨l,ys,rfl,aQ,aP.fits (.same (aO hl)) _ _ da⟩
 |[.tup es],hf =>
  obtain⟨v,r,rfl,h1,h2⟩:=hd.bH;simp only[aP] at h2;subst h2;have h1':=h1;simp only[Dn] at h1;obtain⟨a,ys,rfl,ha,da⟩:=h1;exact⟨a,ys,rfl,.inr ⟨(fB.of ha),k _ H _ (Same.refl H) h1' hf⟩⟩
def Yw(hm:X.mg "tuple"=af)(hv:bootBuiltins "tuple"=aa (.type "tuple"))(ha:zU X [e] t)(hg:Gl X "tuple":=by rfl)
  (he:Zs X e []:=by rfl):dA X (.Call (.Name "tuple" p) [e] [] pos) (VG JC t):=aAU zS VI hv hg hm ha (by decide) (by decide) he (by rfl)
abbrev Spec:=List D->(D->Prop)->Prop
def sp3(K:aq)(R:Spec):Sp:=λvs H Q _=>∃(S:ai->Prop) (ds:List D) (Q3:D->Prop),(∀a,H a=af->S a)/\aP K S H ds vs/\R ds Q3 /\∀v H' d,Same H H'->Dn K S H' d v->Q3 d->Q v H'
theorem Us(F:lF X.prog X.w X.K X.mg X.base cK k f fd ps (sp3 X.K R))(hr:fZ k X.A)(hm:X.mg x=aa (.ref f))(hk:keepIn X.K (.ref f)=ae)(hb:Binds X.K fd ps [])
  (ha:zU X (e::es) t) (hg:Gl X x:=by rfl) (hdb:Zu x:=by decide) (he:Zs X e es:=by rfl) (hpl:Q0k X pos es:=by rfl):
  dA X (.Call (.Name x p) (e::es) [] pos) (VG R t):=imp (C9 F hr hg hm hk hb .nil UZ ha hdb he hpl) λσ H Q N_=>by
 obtain⟨S,ρ,Q3,fc,sl,ht,k⟩:=N_;refine⟨S,ρ,_,fc,sl,ht,λvs H1 ds s1 d1 q1=>?_⟩;show sp3 X.K R (vs++[]) H1 Q E0;rw[mi];exact⟨S,ds,Q3,bV fc s1,d1,q1,λv H' d s' d' q'=>k v H' d (s1.trans s') d' q'⟩
end
structure DE where
 nx:bO->Prop
 rt:D->Prop
 bk:bO->Prop:=λ_=>False
 ct:bO->Prop:=λ_=>False
 ex:ak->Prop:=λ_=>False
abbrev WS:=DE->bO->Prop
structure Yv (X:Cx) (pins:Q0b) (H:Hp) (s:ao) (e:ai) (cls a0:aj) (P:List ai):Prop where
 mem:e∈P
 free:∀q∈P,H q=af
 new:∀q∈P,X.s₀.heap.get? q=af
 fld:∀q∈P,∃o vs,s.heap.get? q=aa o/\o.data=.fields vs
 pin:∀q∈P,∀p∈X.pn++pins,p.1≠q
 tr:(∃oe vs,s.heap.get? e=aa oe/\oe.cls=cls/\oe.data=.fields vs/\vs[1]?=aa .none/\vs[0]?=aa a0) \/
  (∃oe vs T oT ts,s.heap.get? e=aa oe/\(oe.cls=cls/\vs[0]?=aa a0)/\oe.data=.fields vs/\vs[1]?=aa (.ref T)/\T∈P/\T≠e/\s.heap.get? T=aa oT/\oT.data=.fields ts/\ts[3]?=aa .none)
def XC(X:Cx)(c:ak)(H:Hp):Prop:=∃C:ai,X.mg c=aa (.ref C) /\∀(pins:Q0b) (σ:L2.St) (s:ao) (e:ai) (a0:aj) (P:List ai),Inv X pins σ H s->Yv X pins H s e (.ref C) a0 P->X.xe (.ref e) s
structure Yu (K:aq) (xc:ak->Hp->Prop) (n:Nat) (H₀:Hp) (S:ai->Prop) (G:List (D×V)) (E:DE) (B:Ends):Prop where
 nx:∀w σ H ρ,σ.length=n->ST K H₀ S w σ H ρ G->E.nx ρ->B.nx σ H
 rt:∀v H d,Same H₀ H->Dn K S H d v->E.rt d->B.rt v H
 bk:∀w σ H ρ,σ.length=n->ST K H₀ S w σ H ρ G->E.bk ρ->B.bk σ H
 ct:∀w σ H ρ,σ.length=n->ST K H₀ S w σ H ρ G->E.ct ρ->B.ct σ H
 ex:∀c H,Same H₀ H->E.ex c->xc c H
def yK(K:aq)(xc:ak->Hp->Prop)(n:Nat)(t:WS):TS:=λB σ H=>∃(H₀:Hp) (S:ai->Prop) (w:Nat->ai) (ρ:bO) (G:List (D×V)) (E:DE),σ.length=n/\ST K H₀ S w σ H ρ G/\t E ρ/\Yu K xc n H₀ S G E B
def EN(X:Cx)(st:df)(t:WS):Prop:=PS X st (yK X.K (XC X) X.N.length t)
def uT(X:Cx)(st:List df)(t:WS):Prop:=zQ X st (yK X.K (XC X) X.N.length t)
section
variable{X:Cx}
def lG{e:df}{t t':TS}(h:PS X e t)(f:∀B σ H,t' B σ H->t B σ H):PS X e t':=λpins s σ H B I q=>h pins s σ H B I (f B σ H q)
def GG(h:zQ X e t)(f:∀B σ H,t' B σ H->t B σ H):zQ X e t':=λpins s σ H B I q=>h pins s σ H B I (f B σ H q)
def Ur:WS:=λE ρ=>E.nx ρ
def xt(t u:WS):WS:=λE ρ=>t {E with nx:=u E} ρ
def Nz:uT X [] Ur:=GG Z5 λB σ H Ny=>by obtain⟨H₀,S,w,ρ,G,E,hl,st,ht,ok⟩:=Ny;exact ok.nx w σ H ρ hl st ht
def Nw{st:df}{rest:List df}{t u:WS}(h1:EN X st t)(h2:uT X rest u):uT X (st::rest) (xt t u):=GG (x8 h1 h2) λB σ H Nv=>by obtain⟨H₀,S,w,ρ,G,E,hl,sT,ht,ok⟩:=Nv;exact⟨H₀,S,w,ρ,G,{E with nx:=u E},hl,sT,ht,⟨λw' σ' H' ρ' hl' st' q=>⟨H₀,S,w',ρ',G,E,hl',st',q,ok⟩,ok.rt,ok.bk,ok.ct,ok.ex⟩⟩
def Uq{st:df}{t:WS}(h1:EN X st t):uT X [st] t:=GG (LZ h1) λ_ _ _ h=>h
def Nu(t:WE):WS:=λE ρ=>t (bY ρ) E.rt
def Nt(h:dA X e t):EN X (.Return (aa e) pos) (Nu t):=lG (UG h) λB σ H Nr=>by obtain⟨H₀,S,w,ρ,G,E,hl,st,ht,ok⟩:=Nr;exact⟨S,bY ρ,E.rt,st.YC,st.all,ht,λv H' d s' d' q'=>ok.rt v H' d (st.sm.trans s') d' q'⟩
def Nq(c:WT)(t u:WS):WS:=λE ρ=>c (bY ρ) λb=>if b=ae then t E ρ else u E ρ
theorem Np(hc:zG X c tc)(ha:uT X a t)(hb:uT X b u):EN X (.If c a b pos) (Nq tc t u):=lG (Vq hc ha hb) λB σ H Nm=>by
 obtain⟨H₀,S,w,ρ,G,E,hl,st,ht,ok⟩:=Nm;refine⟨S,bY ρ,_,st.YC,st.all,ht,λd H1 s1 q1=>?_⟩
 cases d with
 |true=>rw[Z_ rfl] at q1 ⊢;exact⟨H₀,S,w,ρ,G,E,hl,st.same s1,q1,ok⟩
 |false=>rw[Zz bz] at q1 ⊢;exact⟨H₀,S,w,ρ,G,E,hl,st.same s1,q1,ok⟩
def xr(i:Nat)(t:WE):WS:=λE ρ=>t (jR ρ) λd=>E.nx (ρ.set i (.ro d))
def Nl(i:Nat)(t:WE):WS:=λE ρ=>t (jR ρ) λd=>E.nx (ρ.set i (.ow d))
section
variable{i:Nat}{x:ak}{e:ar}{t:WE}{pos pos':bh}
def jO{N:Q0g}{i:Nat}{x:ak}(h:N[i]?=aa x):i<N.length:=(cq.mp h).1
def Nk(hN:X.N.Nodup)(he:dA X e t)(hi:X.N[i]?=aa x:=by rfl)(hx:Loc X.env.scope x:=by walk_at "0")(hs:Si X e x pos' pos:=by rfl)(hf:Zq X x:=by walk_at "0"):
  EN X (.Assign [.Name x pos'] e pos) (xr i t):=lG (tH hN hi hx he hs hf) λB σ H Ni=>by
 obtain⟨H₀,S,w,ρ,G,E,hl,st,ht,ok⟩:=Ni;exact⟨_,jR ρ,_,st.Q0,st.rd,ht,λv H' d s' d' q'=>ok.nx w _ H' _ (by rw[jd];exact hl) ((st.same s').mU (by rw[hl];exact jO hi) d') q'⟩
def Oz(hN:X.N.Nodup)(he:I0 X e t)(hi:X.N[i]?=aa x:=by rfl)(hx:Loc X.env.scope x:=by walk_at "0")(hs:Si X e x pos' pos:=by rfl)(hf:Zq X x:=by walk_at "0"):
  EN X (.Assign [.Name x pos'] e pos) (Nl i t):=lG (tH hN hi hx he hs hf) λB σ H Oy=>by
 obtain⟨H₀,S,w,ρ,G,E,hl,st,ht,ok⟩:=Oy;exact⟨_,jR ρ,_,st.Q0,st.rd,ht,λp xs H' ds hp hp' s' d' q'=>ok.nx _ _ H' _ (by rw[jd];exact hl) (st.IZ (d:=.lst ds) (by rw[hl];exact jO hi) s' hp ⟨xs,hp',d'⟩) q'⟩
end
def mV(N:Q0g)(ds:List D):bO:=ds.map Sv.ro++dh (N.length-ds.length) Sv.no
def VJ{K:aq}{H:Hp}{S:ai->Prop}{N:Q0g}{ds:List D}{vs:List V}(fc:∀a,H a=af->S a)(h:aP K S H ds vs):ST K H S (λ_=>0) (L2.start N vs) H (mV N ds) []:=by
 have no:∀(i:Nat) (d:D),(mV N ds)[i]?≠aa (Sv.ow d):=λi d e=>by
  unfold mV at e;by_cases hi:i<ds.length
  .rw [jo (by simpa using hi),ck] at e
   cases q:ds[i]? with
   |none=>rw[q] at e;cases e
   |some a=>rw[q] at e;cases e
  .rw [jn (by simpa using hi),kr] at e;split at e<;>cases e
 have so:∀a,S a->SO S (λ_=>0) (mV N ds) a:=λa s=>⟨s,λi d e=>Zw e (no i d)⟩;refine⟨fc,Same.refl H,λi d e=>Zw e (no i d),λi j d e h1=>Zw h1 (no i d),λi d e=>?_,λg hg=>(nomatch hg),λi _ e=>Zw e (no i _)⟩;unfold mV at e;by_cases hi:i<ds.length
 .rw [jo (by simpa using hi),ck] at e
  cases q:ds[i]? with
  |none=>rw[q] at e;cases e
  |some a =>
   rw[q] at e;cases e;obtain⟨v,e1,dv⟩:=h.get q;refine⟨v,?_,Dn.fits (.mono so) _ _ dv⟩;unfold L2.start;have hv:i<vs.length:=(cq.mp e1).1;rw[jo (by simpa using hv),ck,e1];rfl
 .rw [jn (by simpa using hi),kr] at e;split at e<;>cases e
theorem Ox{P:bf}{w:ba}{K:aq}{mg:Q0d}{base:bb}{x qual:ak}{st:df}{f:ai}{fd:gp}{N ps:Q0g}{k:Nat}{R:Spec}(F:Fun K x qual st f fd)(S:iG N ps (bN st))(len:∀ds Q,R ds Q->ds.length=ps.length)
  (hbody:∀(cdv:aj) (A:bx) (outer:List fw) (s:ao) (H:Hp) (E:XK),fZ k (A.deeper (envOfC qual (bN st) s.heap.objs.size f cdv)) ->
   ∃t:WS,uT (yB cK P w K mg base N qual (bN st) f cdv A outer s H E).Z4 (f6 st) t /\∀ds Q,R ds Q->t {nx:=λ_=>Q .non,rt:=Q} (mV N ds)):lF P w K mg base cK (k+1) f fd ps (sp3 K R):=by
 refine F.ok S (λvs H Q E h=>?_) λcdv A outer s H vs Q E hr h=>?_
 .obtain ⟨S',ds,Q3,fc,dn,r,_⟩:=h;rw[<- dn.len];exact len ds Q3 r
 .obtain ⟨t,ht,hq⟩:=hbody cdv A outer s H E hr;obtain⟨S',ds,Q3,fc,dn,r,kk⟩:=h;refine⟨_,ht,H,S',λ_=>0,mV N ds,[],{nx:=λ_=>Q3 .non,rt:=Q3},?_,VJ fc dn,hq ds Q3 r,⟨λw' σ' H' ρ' _ st' q=>?_,λv H' d s' d' q=>kk v H' d s' d' q,λ_ _ _ _ _ _ q=>q,λ_ _ _ _ _ _ q=>q,λ_ _ _ q=>q.elim⟩⟩
  .have hl:=len ds Q3 r;have hl2:=dn.len;have hp:ps.length<=N.length:=by have:=congrArg my S.pre;rw[jm] at this;omega
   unfold L2.start;show _=N.length;rw[fu,a_,qa];omega
  .exact kk .non H' .non st'.sm (by simp only[Dn]) q
end
abbrev WX:=bO->(bO->D->Prop)->Prop
def VL(K:aq)(n:Nat)(t:WX):TE:=λσ H Q=>∃(H₀:Hp) (S:ai->Prop) (w:Nat->ai) (ρ:bO) (G:List (D×V)) (Q3:bO->D->Prop),σ.length=n/\ST K H₀ S w σ H ρ G/\t ρ Q3 /\
 ∀w' v H' ρ' d,ST K H₀ S w' σ H' ρ' G->Dn K (SO S w' ρ') H' d v->Q3 ρ' d->Q v H'
def HH(X:Cx)(e:ar)(t:WX):Prop:=PE X e (VL X.K X.N.length t)
def Uo(t:WE):WX:=λρ Q=>t (bY ρ) λd=>d.EL=ae/\Q ρ d
def Yt(t:WE):WX:=λρ Q=>t (jR ρ) λd=>Q ρ d
section
variable{X:Cx}
def px3(h:dA X e t):HH X e (Uo t):=imp h λσ H Q Ow=>by obtain⟨H₀,S,w,ρ,G,Q3,hl,st,ht,k⟩:=Ow;exact⟨S,bY ρ,_,st.YC,st.all,ht,λv H' d s' d' q'=>k w v H' ρ d (st.same s') (Dn.EL q'.1 d') q'.2⟩
def Ov(h:dA X e t):HH X e (Yt t):=imp h λσ H Q Ou=>by obtain⟨H₀,S,w,ρ,G,Q3,hl,st,ht,k⟩:=Ou;exact⟨_,jR ρ,_,st.Q0,st.rd,ht,λv H' d s' d' q'=>k w v H' ρ d (st.same s') d' q'⟩
def Um(t:WX):WS:=λE ρ=>t ρ λρ' _=>E.nx ρ'
theorem Ud(he:HH X e t)(hs:gb e af pos.line X.env=pure ag:=by rfl):EN X (.Expr e pos) (Um t):=lG (MA he hs) λB σ H Ot=>by obtain⟨H₀,S,w,ρ,G,E,hl,st,ht,ok⟩:=Ot;exact⟨H₀,S,w,ρ,G,_,hl,st,ht,λw' v H' ρ' d st' d' q'=>ok.nx w' _ H' _ hl st' q'⟩
noncomputable def ou(i:Nat)(f:List D->D->(List D->D->Prop)->Prop)(t:WX):WX:=λρ Q=>(match ρ[i]? with|some (.ow (.lst _))=>True|_=>False)/\t ρ λρ' d=>match ρ'[i]? with
 |some (.ow (.lst ds))=>f ds d λds' r=>Q (ρ'.set i (.ow (.lst ds'))) r
 |_=>False
def M3(K:aq)(r:V->List V->Hp->VK->Prop)(f:List D->D->(List D->D->Prop)->Prop):Prop:=∀(S:ai->Prop) (H:Hp) (p:ai) (xs:List V) (ds:List D) (y:V) (d:D) (Q3:List D->D->Prop) (Q:VK),
 H p=aa (.lst xs)->aP K S H ds xs->Dn K S H d y->f ds d Q3->(∀ys ds' v d',aP K S H ds' ys->Dn K S H d' v->Q3 ds' d'->Q v (upd H p (.lst ys)))->r (.ref p) [y] H Q
theorem aAV{K:aq}{n i:Nat}{r:V->List V->Hp->VK->Prop}{f:List D->D->(List D->D->Prop)->Prop}{t:WX}{σ:L2.St}{H:Hp}{Q:VK}(h3:M3 K r f)(h:VL K n (ou i f t) σ H Q):
  Ai K "list" r (Z0 i) (C_ (VL K n t) Bz) σ H Q:=by
 obtain⟨H₀,S,w,ρ,G,Q3,hl,st,⟨h0,ht⟩,k⟩:=h;split at h0
 .rename_i ds e;obtain⟨a,b,c⟩:=st.own i _ e;obtain⟨xs,hp,dn⟩:=c;refine⟨_,a,.inl ⟨rfl,xs,dW.of hp⟩,H₀,S,w,ρ,G,_,hl,st,ht,λw' v H' ρ' d st' d' q'=>?_⟩;split at q'
  .rename_i ds' e';obtain⟨a',b',c'⟩:=st'.own i _ e';obtain⟨xs',hp',dn'⟩:=c';have ew:w i=w' i:=by have z:=a.symm.trans a';have z1:=dg (dg z);injection z1
   rw[ew];refine h3 _ H' (w' i) xs' ds' v d _ Q hp' dn' d' q' λys ds2 v2 d2 DM dv2 q2=>?_;have nS:¬ SO S w' ρ' (w' i):=λ⟨_,z⟩=>z i _ e' rfl;have F:Fits K (SO S w' ρ') (SO S w' ρ') H' (upd H' (w' i) (.lst ys)):=.upd (.inl ⟨_,hp'⟩) nS;have so:∀a,SO S w' ρ' a->SO S w' (ρ'.set i (.ow (.lst ds2))) a:=SO.mono λj f hf=>by
    rcases get_set hf with⟨hj,_,_⟩|⟨_,z⟩
    .subst hj;exact⟨_,e'⟩
    .exact ⟨_,z⟩
   exact k w' v2 _ _ d2 (st'.write (d':=.lst ds2) e' ⟨ys,aQ,aP.fits F _ _ DM⟩) (Dn.fits (F.trans (.mono so)) _ _ dv2) q2
  .exact q'.elim
 .exact h0.elim
theorem m1{i:Nat}{x:ak}{id:String}{name:ak}{e:ar}{p apos cpos:bh}{r:V->List V->Hp->VK->Prop}{f:List D->D->(List D->D->Prop)->Prop}{t:WX}(slot:Slot "list" name id)(hty:typeOf (.builtin id)=pure (.type "method_descriptor"))(hm:MtR X id r)(h3:M3 X.K r f)(he:HH X e t)
  (hN:X.N[i]?=aa x:=by rfl) (hv:C4 X.env.scope x:=by walk_at "1") (hd:Zu x:=by decide) (hcd:Zt x:=by decide)
  (hbase:attributeBase (.Name x p) name X.env (eval (.Name x p) X.env)=eval (.Name x p) X.env:=by rfl)
  (hfew:Zp X cpos e:=by rfl)
  (hline:Q0j apos cpos:=by rfl) (hs:Zs X e []:=by rfl):
  HH X (.Call (.Attribute (.Name x p) name apos) [e] [] cpos) (ou i f t) :=
 imp (D_ a1w slot hty hm (pM hN hv hd hcd) (iF he pN hs) hbase hfew hline hs (by rfl)) λ_ _ _ h=>aAV h3 h
def xq:List D->D->(List D->D->Prop)->Prop:=λds d Q=>ds.length<bg/\Q (ds++[d]) .non
theorem Ys{K:aq}:M3 K MI xq:=by intro S H p xs ds y d Q3 Q hp dn dy hf k;exact⟨p,xs,y,rfl,rfl,hp,by rw[<- dn.len];exact hf.1,k _ _ _ _ (dn.append (aP.one dy)) (by simp only[Dn]) hf.2⟩
noncomputable def xp:List D->D->(List D->D->Prop)->Prop
 |ds,.int k,Q=>(-(2^63)<=k/\k<2^63)/\(match OL ds.length k with|some j=>(match ds[j]? with|some d=>Q (ds.eraseIdx j) d|none=>False)|none=>False)
 |_,_,_=>False
theorem X_{K:aq}:M3 K US xp:=by
 intro S H p xs ds y d Q3 Q hp dn dy hf k
 cases d with
 |int i =>
  simp only[Dn] at dy;subst dy;obtain⟨⟨h1,h2⟩,hf⟩:=hf;split at hf
  .rename_i j ej;split at hf
   .rename_i dd ed;obtain⟨v,ev,dv⟩:=dn.get ed;obtain⟨g1,_⟩:=DB ej;exact⟨p,xs,i,j,v,rfl,rfl,hp,h1,h2,by rw[<- dn.len];exact g1,ev,k _ _ _ _ (dn.erase j) dv hf⟩
   .exact hf.elim
  .exact hf.elim
 |_=>exact hf.elim
section
variable{i:Nat}{x:ak}{e:ar}{p apos cpos:bh}{t:WX}
def Oq(he:HH X e t)(hN:X.N[i]?=aa x:=by rfl)(hv:C4 X.env.scope x:=by walk_at "1")(hd:Zu x:=by decide)(hcd:Zt x:=by decide)
  (hbase:attributeBase (.Name x p) "append" X.env (eval (.Name x p) X.env)=eval (.Name x p) X.env:=by rfl)
  (hfew:Zp X cpos e:=by rfl)
  (hline:Q0j apos cpos:=by rfl) (hs:Zs X e []:=by rfl):
  HH X (.Call (.Attribute (.Name x p) "append" apos) [e] [] cpos) (ou i xq t):=m1 a1p PySem.F.type_list_append BF Ys he hN hv hd hcd hbase hfew hline hs
def Oo(he:HH X e t)(hN:X.N[i]?=aa x:=by rfl)(hv:C4 X.env.scope x:=by walk_at "1")(hd:Zu x:=by decide)(hcd:Zt x:=by decide)
  (hbase:attributeBase (.Name x p) "pop" X.env (eval (.Name x p) X.env)=eval (.Name x p) X.env:=by rfl)
  (hfew:Zp X cpos e:=by rfl)
  (hline:Q0j apos cpos:=by rfl) (hs:Zs X e []:=by rfl):
  HH X (.Call (.Attribute (.Name x p) "pop" apos) [e] [] cpos) (ou i xp t):=m1 a1m PySem.F.type_list_pop UT X_ he hN hv hd hcd hbase hfew hline hs
end
def xh(ρ:bO)(i:Nat):Prop:=match ρ[i]? with
 |some (.ow (.lst _))=>True
 |_=>False
def Om(i:Nat)(t:WX)(tk:WE):WS:=λE ρ=>t ρ λρ' d=>xh ρ' i/\tk (bY ρ') λk=>match ρ'[i]?,k with
 |some (.ow (.lst ds)),.int k=>(match OL ds.length k with|some j=>E.nx (ρ'.set i (.ow (.lst (ds.set j d))))|none=>False)
 |_,_=>False
theorem put3(he:HH X e t)(hk:dA X k tk)
  (hN:X.N[i]?=aa x:=by rfl) (hv:C4 X.env.scope x:=by walk_at "1") (hd:Zu x:=by decide) (hcd:Zt x:=by decide)
  (ha:∀v,assign (.Subscript (.Name x p) k pos') X.env v=(do
   let ov <- holding [v] (eval (.Name x p) X.env)
   let iv <- holding [v,ov] (eval k X.env)
   standAt pos'
   holding [v,ov,iv] (setItem ov iv v)
   release [v,ov,iv] []):=by intro _;rfl)
  (hs:swapsWithSole [.Subscript (.Name x p) k pos'] e pos.line X.env=pure ag:=by rfl) (hw:swappedStores [.Subscript (.Name x p) k pos'] e X.env=pure af:=by rfl)
  (h1:(e_ [.Subscript (.Name x p) k pos'] X.env).map (·.2)=[assign (.Subscript (.Name x p) k pos') X.env]:=by rfl):
  EN X (.Assign [.Subscript (.Name x p) k pos'] e pos) (Om i t tk):=lG (Zd he (Ze (pM hN hv hd hcd) hk set_list ha) hs hw h1) λB σ H Nh=>by
 obtain⟨H₀,S,w,ρ,G,E,hl,st,ht,ok⟩:=Nh;refine⟨H₀,S,w,ρ,G,_,hl,st,ht,λw' v H' ρ' d st' d' q'=>?_⟩;obtain⟨q0,q'⟩:=q';unfold xh at q0;split at q0
 .rename_i ds0 e0;obtain⟨a0,_,_⟩:=st'.own i _ e0;refine⟨_,a0,S,bY ρ',_,st'.YC,st'.all,q',λkv H2 dk s2 dk2 q2=>?_⟩;split at q2
  .rename_i ds k' e1;simp only[Dn] at dk2;split at q2
   .rename_i j ej;have st2:=st'.same s2;obtain⟨a,b,c⟩:=st2.own i _ e1;obtain⟨xs,hp,dn⟩:=c;have nS:¬ SO S w' ρ' (w' i):=λ⟨_,z⟩=>z i _ e1 rfl;have F:Fits X.K (SO S w' ρ') (SO S w' ρ') H2 (upd H2 (w' i) (.lst (xs.set j v))):=.upd (.inl ⟨_,hp⟩) nS;exact⟨w' i,xs,k',j,rfl,dk2,hp,by rw[<- dn.len];exact ej,ok.nx w' σ _ _ hl (st2.write (d':=.lst (ds.set j d)) e1 ⟨_,aQ,aP.fits F _ _ (dn.set j (Dn.fits (.same s2) _ _ d'))⟩) q2⟩
   .exact q2.elim
  .exact q2.elim
 .exact q0.elim
end
structure Wlk (K:aq) (J:It) (ds:List D) (G:List (D×V)):Prop where
 go:∀(S:ai->Prop) (H:Hp),(∀a,H a=af->S a)->(∀g∈G,Dn K S H g.1 g.2) ->∀(i:Nat) (d:D),ds[i]?=aa d->J.go i H /\∀x H',J.yld i H x H'->Same H H'/\Dn K S H' d x
 stop:∀(S:ai->Prop) (H:Hp),(∀g∈G,Dn K S H g.1 g.2) ->∀i:Nat,ds.length=i->J.stop i H
abbrev WI:=cN->(List D->Prop)->Prop
def Cy(K:aq)(t:WI):TI:=λσ H R=>∃(S:ai->Prop) (ρ:cN) (Q3:List D->Prop),(∀a,H a=af->S a)/\Sl K S H ρ σ/\t ρ Q3 /\
 ∀J H' ds G,Same H H'->(∀g∈G,Dn K S H' g.1 g.2)->Wlk K J ds G->Q3 ds->R J H'
def Q4(X:Cx)(tg iter:ar)(t:WI):Prop:=PI X tg iter (Cy X.K t)
section
variable{X:Cx}{tg:ar}
theorem JD(h:PI X tg e t)(f:∀σ H R,t' σ H R->t σ H R):PI X tg e t':=λpins s σ H R I q=>h pins s σ H R I (f σ H R q)
noncomputable def Uc(t:WE):WI:=λρ Q=>t ρ λd=>match d with
 |.lst ds=>Q ds
 |.tup ds=>Q ds
 |_=>False
theorem VM{K:aq}{a:ai}{ds:List D}:Wlk K (Itl K a) ds [(.lst ds,.ref a)] where
 go:=λS H fc hg i d e=>by have h:=hg _ (cp.mpr rfl);simp only[Dn] at h;obtain⟨b,xs,eb,hb,sb,dn⟩:=h;injection eb with eb;subst eb;obtain⟨v,ev,dv⟩:=dn.get e;refine⟨⟨xs,v,dW.of hb,ev⟩,λx H' y=>?_⟩;obtain⟨e1,y⟩:=y;subst e1;have ex:=y xs (dW.of hb);rw[ev] at ex;cases ex;exact⟨Same.refl _,dv⟩
 stop:=λS H hg i hi=>by have h:=hg _ (cp.mpr rfl);simp only[Dn] at h;obtain⟨b,xs,eb,hb,sb,dn⟩:=h;injection eb with eb;subst eb;exact⟨xs,dW.of hb,by rw[<- dn.len];exact og hi⟩
theorem aAW{K:aq}{a:ai}{ds:List D}:Wlk K (Itt K a) ds [(.tup ds,.ref a)] where
 go:=λS H fc hg i d e=>by have h:=hg _ (cp.mpr rfl);simp only[Dn] at h;obtain⟨b,xs,eb,hb,dn⟩:=h;injection eb with eb;subst eb;obtain⟨v,ev,dv⟩:=dn.get e;refine⟨⟨xs,v,(fB.of hb),ev⟩,λx H' y=>?_⟩;obtain⟨e1,y⟩:=y;subst e1;have ex:=y xs (fB.of hb);rw[ev] at ex;cases ex;exact⟨Same.refl _,dv⟩
 stop:=λS H hg i hi=>by have h:=hg _ (cp.mpr rfl);simp only[Dn] at h;obtain⟨b,xs,eb,hb,dn⟩:=h;injection eb with eb;subst eb;exact⟨xs,(fB.of hb),by rw[<- dn.len];exact og hi⟩
def Xz(hl:PE X l tl):PI X tg l (λσ H R=>tl σ H λx H1=>∃a,x=.ref a/\(((∃xs,dW X.K H1 a xs)/\R (Itl X.K a) H1)\/((∃xs,fB X.K H1 a xs)/\R (Itt X.K a) H1))):=by
 intro pins s σ H R I h;refine d8 (hl pins s σ H _ I h) λv s1 Ng=>?_;obtain⟨x,H1,I1,r1,q1⟩:=Ng;obtain⟨a,e,q⟩:=q1;subst e;cases r1;rcases q with⟨⟨xs,hq⟩,q⟩|⟨⟨xs,hq⟩,q⟩
 .obtain ⟨its,rv,p,hz⟩:=I1.list hq;refine Ef p.isList ?_;refine⟨s1.heap.objs.size,[s1.heap.objs.size],_,_,H1,rfl,I1.kept (t':=s1.toks) λb o e=>di _ e,OC a _,⟨_,f_ _ rfl,rfl,rfl⟩,λb hb=>?_,q⟩;have e:b=s1.heap.objs.size:=by simpa using hb
  subst e;exact I1.C6 (bj _) (I1.hok.fresh (bj _))
 .obtain ⟨its,rv,p,hz⟩:=I1.tuple hq;refine ui (show s1.heap.IsTuple a its.toArray from p) ?_;refine⟨s1.heap.objs.size,[s1.heap.objs.size],_,_,H1,rfl,I1.kept (t':=s1.toks) λb o e=>di _ e,IJ a _,⟨_,f_ _ rfl,rfl,rfl⟩,λb hb=>?_,q⟩;have e:b=s1.heap.objs.size:=by simpa using hb
  subst e;exact I1.C6 (bj _) (I1.hok.fresh (bj _))
theorem Ub(h:dA X l t):Q4 X tg l (Uc t):=JD (Xz h) λσ H R Nf=>by
 obtain⟨S,ρ,Q3,fc,sl,ht,k⟩:=Nf;refine⟨S,ρ,_,fc,sl,ht,λv H1 d s1 d1 q1=>?_⟩
 cases d with
 |lst ds =>
  have d1':=d1;simp only[Dn] at d1;obtain⟨a,xs,rfl,ha,sa,da⟩:=d1;exact⟨a,rfl,.inl ⟨⟨xs,dW.of ha⟩,k _ H1 ds [(.lst ds,.ref a)] s1 (λg hg=>by cases cp.mp hg;exact d1') VM q1⟩⟩
 |tup ds =>
  have d1':=d1;simp only[Dn] at d1;obtain⟨a,xs,rfl,ha,da⟩:=d1;exact⟨a,rfl,.inr ⟨⟨xs,(fB.of ha)⟩,k _ H1 ds [(.tup ds,.ref a)] s1 (λg hg=>by cases cp.mp hg;exact d1') aAW q1⟩⟩
 |_=>exact q1.elim
def tN(lo:Int)(n:Nat):List Int:=(bu n).map λk:Nat=>lo+(k:Int)
def uF(lo:Int)(n:Nat):(tN lo n).length=n:=by simp[tN]
def VN{lo:Int}{n i:Nat}:(tN lo n)[i]?=if i<n then aa (lo+(i:Int)) else af:=by
 unfold tN;rw[ck];by_cases h:i<n
 .rw [Z_ h,mf h];rfl
 .rw [Zz h,gk (by simpa using h)];rfl
theorem BJ{K:aq}{lo:Int}{n:Nat}:Wlk K (Itr lo n) ((tN lo n).map D.int) [] where
 go:=λS H fc hg i d e=>by
  rw[ck,VN] at e;by_cases h:i<n
  .rw [Z_ h] at e;cases e;refine⟨h,λx H' y=>?_⟩;obtain⟨e1,e2⟩:=y;subst e1;exact⟨Same.refl _,by simp only[Dn];exact e2⟩
  .rw [Zz h] at e;cases e
 stop:=λS H hg i hi=>by rw[a_,uF] at hi;exact og hi
noncomputable def Xy(t:WA):WI:=λρ Q=>t ρ λds=>match ds with
 |[.int j]=>(-(2^62)<=j/\j<2^62)/\Q ((tN 0 j.toNat).map D.int)
 |_=>False
noncomputable def aAX(t:WA):WI:=λρ Q=>t ρ λds=>match ds with
 |[.int i,.int j]=>(-(2^62)<=i/\i<2^62 /\ -(2^62)<=j/\j<2^62)/\Q ((tN i (j-i).toNat).map D.int)
 |_=>False
def Xx(hm:X.mg "range"=af)(ha:zU X [a] t)(hg:Gl X "range":=by rfl)(hs:au [a] X.env=[(ag,eval a X.env)]:=by rfl):Q4 X tg (.Call (.Name "range" p) [a] [] pos) (Xy t) :=
 JD (OD hg hm ha hs) λσ H R Nd=>by
  obtain⟨S,ρ,Q3,fc,sl,ht,k⟩:=Nd;refine⟨S,ρ,_,fc,sl,ht,λvs H1 ds s1 d1 q1=>?_⟩;split at q1
  .rename_i j;obtain⟨v,r,rfl,h1,h2⟩:=d1.bH;simp only[aP] at h2;subst h2;simp only[Dn] at h1;subst h1;exact⟨j,rfl,q1.1.1,q1.1.2,k _ H1 _ [] s1 (λg hg=>nomatch hg) BJ q1.2⟩
  .exact q1.elim
def aAY(hm:X.mg "range"=af)(ha:zU X [a,b] t)(hg:Gl X "range":=by rfl)(hs:au [a,b] X.env=[(ag,eval a X.env),(ag,eval b X.env)]:=by rfl)(hs2:au [b] X.env=[(ag,eval b X.env)]:=by rfl):Q4 X tg (.Call (.Name "range" p) [a,b] [] pos) (aAX t) :=
 JD (OE hg hm ha hs hs2) λσ H R Nc=>by
  obtain⟨S,ρ,Q3,fc,sl,ht,k⟩:=Nc;refine⟨S,ρ,_,fc,sl,ht,λvs H1 ds s1 d1 q1=>?_⟩;split at q1
  .rename_i i j;obtain⟨v,r,rfl,h1,h2⟩:=d1.bH;obtain⟨v2,r2,rfl,h3,h4⟩:=h2.bH;simp only[aP] at h4;subst h4;simp only[Dn] at h1 h3;subst h1 h3;exact⟨i,j,rfl,q1.1,k _ H1 _ [] s1 (λg hg=>nomatch hg) BJ q1.2⟩
  .exact q1.elim
abbrev WG:=D->bO->(bO->Prop)->Prop
def Ua(K:aq)(n:Nat)(g:WG):TG:=λv σ H Q=>∃(H₀:Hp) (S:ai->Prop) (w:Nat->ai) (ρ:bO) (G:List (D×V)) (d:D) (Q3:bO->Prop),σ.length=n/\ST K H₀ S w σ H ρ G/\Dn K (SO S w ρ) H d v/\g d ρ Q3 /\
 ∀σ' H' ρ',σ'.length=n->ST K H₀ S w σ' H' ρ' G->Q3 ρ'->Q σ' H'
def PG3(X:Cx)(tg:ar)(g:WG):Prop:=PG X tg (Ua X.K X.N.length g)
def OX(h:PG X e t)(f:∀v σ H Q,t' v σ H Q->t v σ H Q):PG X e t':=λpins s σ H v u Q I r q=>h pins s σ H v u Q I r (f v σ H Q q)
def gN(i:Nat):WG:=λd ρ Q=>Q (ρ.set i (.ro d))
theorem T_(hN:X.N.Nodup)(hi:X.N[i]?=aa x:=by rfl)(hx:Loc X.env.scope x:=by walk_at "0")(hf:Zq X x:=by walk_at "0"):PG3 X (.Name x pos) (gN i) :=
 OX (nW hN hi hx hf) λv σ H Q Nb=>by obtain⟨H₀,S,w,ρ,G,d,Q3,hl,st,dn,hg,k⟩:=Nb;exact k _ H _ (by rw[jd];exact hl) (st.mU (by rw[hl];exact jO hi) dn) hg
noncomputable def g2(i j:Nat):WG:=λd ρ Q=>match d with
 |.tup [d1,d2]=>Q ((ρ.set i (.ro d1)).set j (.ro d2))
 |_=>False
def TM(hc:X.calm=ae)(hN:X.N.Nodup)(hi:X.N[i]?=aa x:=by rfl)(hj:X.N[j]?=aa y:=by rfl)(hx:Loc X.env.scope x:=by walk_at "0")(hy:Loc X.env.scope y:=by walk_at "0")
  (hf:Zq X x:=by walk_at "0") (hf2:Zq X y:=by walk_at "0")
  (hn:Q0i X x y px py:=by rfl) (hst:Q0h X x y px py:=by rfl)
  (hs1:H0 X x y px py:=by rfl) (hs2:gV X y py:=by rfl):
  PG3 X (.Tuple [.Name x px,.Name y py] k pos) (g2 i j) :=
 OX (UI (n:=2) hc (qW (nW hN hi hx hf) (qW (nW hN hj hy hf2) MB hs2) hs1) hn hst) λv σ H Q Na=>by
  obtain⟨H₀,S,w,ρ,G,d,Q3,hl,st,dn,hg,k⟩:=Na;unfold g2 at hg;split at hg
  .rename_i d1 d2;simp only[Dn] at dn;obtain⟨a,xs,rfl,ha,da⟩:=dn;obtain⟨v1,r1,rfl,h1,h2⟩:=da.bH;obtain⟨v2,r2,rfl,h3,h4⟩:=h2.bH;simp only[aP] at h4;subst h4;refine⟨a,_,rfl,(fB.of ha),rfl,v1,[v2],rfl,v2,[],rfl,rfl,?_⟩;have st1:=st.mU (i:=i) (by rw[hl];exact jO hi) h1;have m:∀a,SO S w ρ a->SO S w (ρ.set i (.ro d1)) a:=SO.mono λn f hf=>by
    rcases get_set hf with⟨_,z,_⟩|⟨_,z⟩
    .cases z
    .exact ⟨_,z⟩
   have st2:=st1.mU (i:=j) (d:=d2) (v:=v2) (by rw[jd,hl];exact jO hj) (Dn.fits (.mono m) _ _ h3);exact k _ H _ (by rw[jd,jd];exact hl) st2 hg
  .exact hg.elim
def M_(ti:WI)(g:WG)(tb:WS):WS:=λE ρ=>ti (jR ρ) λds=>∃Inv:Nat->bO->Prop,Inv 0 ρ /\
 (∀(i:Nat) (d:D) (ρ':bO),ds[i]?=aa d->Inv i ρ'->g d ρ' λρ2=>tb {E with nx:=Inv (i+1),ct:=Inv (i+1),bk:=E.nx} ρ2) /\∀ρ',Inv ds.length ρ'->E.nx ρ'
theorem Mz(hc:X.calm=ae)(hp:qv (ay X.prog X.w) X.A X.env X.xe)(hi:Q4 X tg iter ti)(hg:PG3 X tg g)(hb:uT X body tb)
  (hs:Zo X iter:=by intro _;rfl):EN X (.For tg iter body [] pos) (M_ ti g tb):=lG (Zb hp hc hi hg hb hs) λB σ H My=>by
 obtain⟨H₀,S,w,ρ,G,E,hl,st,ht,ok⟩:=My;refine⟨_,jR ρ,_,st.Q0,st.rd,ht,λJ H1 ds G1 s1 hg1 wk q1=>?_⟩;obtain⟨Iv,h0,turn,fin⟩:=q1;have stG:∀{w σ H ρ},ST X.K H₀ S w σ H ρ (G1++G)->ST X.K H₀ S w σ H ρ G:=λst=>st.ghost λg hg=>st.gh g (jl _ hg);refine⟨λi m σ H=>m=ds.length-i/\i<=ds.length/\σ.length=X.N.length /\∃w ρ,ST X.K H₀ S w σ H ρ (G1++G)/\Iv i ρ,
  ⟨_,rfl,iz _,hl,w,ρ,(st.same s1).ghost λg hg=>(h_.mp hg).elim (λz=>hg1 g z) λz=>(st.same s1).gh g z,h0⟩,?_⟩
 rintro i m σ2 H2 ⟨rfl,hi2,hl2,w2,ρ2,st2,iv⟩;by_cases hlt:i<ds.length
 .refine .inr ?_;obtain⟨g1,g2⟩:=wk.go _ H2 st2.Q0 (λg hg=>st2.gh g (md _ hg)) i ds[i] (by simp[hlt]);refine⟨g1,λσ' H'=>σ'.length=X.N.length /\∃w ρ,ST X.K H₀ S w σ' H' ρ (G1++G)/\Iv (i+1) ρ,λσ' H' ⟨hl',w',ρ',st',iv'⟩=>⟨ds.length-(i+1),by omega,rfl,hlt,hl',w',ρ',st',iv'⟩,λx H' y=>?_⟩;obtain⟨s3,dx⟩:=g2 x H' y;refine⟨H₀,S,w2,ρ2,G1++G,ds[i],_,hl2,st2.same s3,dx,turn i ds[i] ρ2 (by simp[hlt]) iv,λσ4 H4 ρ4 hl4 st4 q4=>?_⟩;exact⟨H₀,S,w2,ρ4,G1++G,_,hl4,st4,q4,⟨λw' σ' H' ρ' hl' st' q=>⟨hl',w',ρ',st',q⟩,λv H' d s' d' q=>ok.rt v H' d s' d' q,λw' σ' H' ρ' hl' st' q=>ok.nx w' σ' H' ρ' hl' (stG st') q,λw' σ' H' ρ' hl' st' q=>⟨hl',w',ρ',st',q⟩,ok.ex⟩⟩
 .have e:i=ds.length:=by omega
  subst e;exact .inl ⟨wk.stop _ H2 (λg hg=>st2.gh g (md _ hg)) _ rfl,ok.nx w2 σ2 H2 ρ2 hl2 (stG st2) (fin ρ2 iv)⟩
end
theorem JE(h:∀x∈scope.names,x.2=.free ->∃c,env.cells.lookup x.1=aa c):
  ∃cl,closureFor scope env=pure cl/\(∀x∈scope.names,x.2=.free->cl.lookup x.1=env.cells.lookup x.1) /\∀x c,cl.lookup x=aa c->env.cells.lookup x=aa c:=by
 have go:∀(l:List (ak×iw)) (acc:List (ak×ai)),(∀x∈l,x.2=.free ->∃c,env.cells.lookup x.1=aa c)->(∀x c,acc.lookup x=aa c->env.cells.lookup x=aa c) ->
   ∃cl,(forIn l acc λ(x:ak×iw) (cs:List (ak×ai))=>(match x with|(name,kind)=>if(kind == jv)=ae then(do let c <- cellOf env name;pure (nh ((name,c)::cs))) else pure (nh cs):Sem (ForInStep (List (ak×ai)))))=pure cl /\
    (∀x c,acc.lookup x=aa c->cl.lookup x=aa c)/\(∀x∈l,x.2=.free->cl.lookup x.1=env.cells.lookup x.1) /\∀x c,cl.lookup x=aa c->env.cells.lookup x=aa c:=by
  intro l
  induction l with
  |nil=>intro acc _ ha;exact⟨acc,by rw[zu],λ_ _ z=>z,λx hx=>(nomatch hx),ha⟩
  |cons y l ih =>
   intro acc hf ha;by_cases hk:y.2=.free
   .obtain ⟨c,hc⟩:=hf y cn hk;have ha':∀x c',((y.1,c)::acc).lookup x=aa c'->env.cells.lookup x=aa c':=λx c' hx=>by
     rw[rn] at hx;split at hx
     .rename_i e;cases hx;rw[eq_of_beq e];exact hc
     .exact ha x c' hx
    obtain⟨cl,e,h1,h2,h3⟩:=ih ((y.1,c)::acc) (λx hx=>hf x (dq _ hx)) ha';refine⟨cl,?_,λx c' hx=>?_,λx hx hfx=>?_,h3⟩
    .rw [r9,<- e];have e1:(y.2 == jv)=ae:=by rw[hk];rfl
     have e2:cellOf env y.1=pure c:=by unfold cellOf;rw[hc]
     obtain⟨yn,yk⟩:=y;dsimp only at e1 e2 ⊢;rw[Z_ e1,e2];rfl
    .by_cases hxy:x=y.1
     .subst hxy;have e3:((y.1,c)::acc).lookup y.1=aa c:=by simp
      have e4:=ha _ _ hx;rw[hc] at e4;cases e4;exact h1 _ _ e3
     .refine h1 x c' ?_;rw[rn];have:(x == y.1)=ag:=by simpa using hxy
      rw[this];exact hx
    .rcases cb.mp hx with rfl|hx
     .rw [hc];exact h1 _ _ (by simp)
     .exact h2 x hx hfx
   .obtain ⟨cl,e,h1,h2,h3⟩:=ih acc (λx hx=>hf x (dq _ hx)) ha;refine⟨cl,?_,h1,λx hx hfx=>?_,h3⟩
    .rw [r9,<- e];have e1:¬ (y.2 == jv)=ae:=by simpa using hk
     obtain⟨yn,yk⟩:=y;dsimp only at e1 ⊢;rw[Zz e1];rfl
    .rcases cb.mp hx with rfl|hx
     .exact Zw hfx hk
     .exact h2 x hx hfx
 obtain⟨cl,e,_,h2,h3⟩:=go scope.names [] h (λx c z=>by simp at z);refine⟨cl,?_,h2,h3⟩;have e':=congrArg (λt=>t >>= λr=>(pure r:Sem (List (ak×ai)))) e;exact e'
theorem gS:∀(l:List (ak×iw)) (n:Nat) (own cl:List (ak×ai)),cellsFrom n l (own++cl)=cellsFrom n l own++cl
 |[],_,_,_=>rfl
 | (x,k)::r,n,own,cl=>by
  unfold cellsFrom;split
  .exact gS r (n+1) ((x,n)::own) cl
  .exact gS r n own cl
theorem i5:∀(l:List (ak×iw)) (n:Nat) (own:List (ak×ai)) (p:ak×ai),p∈cellsFrom n l own->p∈own\/(p.1,kl)∈l
 |[],_,_,_,h=>.inl h
 | (x,k)::r,n,own,p,h=>by
  unfold cellsFrom at h;split at h
  .rename_i hk;rcases i5 r _ _ p h with h|h
   .rcases cb.1 h with rfl|h
    .exact .inr (by rw[<- eq_of_beq hk];exact cn)
    .exact .inl h
   .exact .inr (dq _ h)
  .rcases i5 r _ _ p h with h|h
   .exact .inl h
   .exact .inr (dq _ h)
theorem jT:∀(l:List (ak×iw)) (n:Nat) (own:List (ak×ai)) (x:ak),((∃c,own.lookup x=aa c)\/(x,kl)∈l) ->∃c,(cellsFrom n l own).lookup x=aa c
 |[],_,_,_,h=>h.elim id λz=>(nomatch z)
 | (y,k)::r,n,own,x,h=>by
  unfold cellsFrom;split
  .refine jT r _ _ x ?_;by_cases e:x=y
   .exact .inl ⟨n,by rw[e,rn,beq_self_eq_true]⟩
   .rcases h with⟨c,h⟩|h
    .exact .inl ⟨c,by rw[rn,beq_eq_false_iff_ne.mpr e];exact h⟩
    .rcases cb.mp h with z|z
     .exact Zw (a2a z).1 e
     .exact .inr z
  .rename_i hk;refine jT r _ _ x (h.imp_right λz=>?_);rcases cb.mp z with z|z
   .rw [<- (a2a z).2] at hk;exact Zw rfl hk
   .exact z
theorem OY{M:Model}{A:bx}{E:Q0c}{s:ao}{sc:gf}{g:ai}{cl:List (ak×ai)}{q:ak}{f:Option ai}{code:aj}{env:fw}{bl:ai}{Q:fw->ao->Prop}
  (h:∀h4:bb,h4.Ns s.heap.objs.size (λ_=>af)->(∀b o,s.heap.get? b=aa o->h4.get? b=aa o)->CellsOk h4 (s.heap.objs.size+1) (cellsFrom (s.heap.objs.size+1) sc.names []) ->
   Q (newEnv sc s.heap.objs.size g (cellsFrom (s.heap.objs.size+1) sc.names cl) q f code (aa env) bl) {s with heap:=h4}):
  ax M A (newFunctionEnv sc g cl [] q f code (aa env) bl) Q E s:=by
 unfold newFunctionEnv;refine av (a0v (av (wpAny_layCells _ (λx k c=>by cases e:k == kl<;>simp[e]) _ _ _ _ ?_)));have hz:∀o:aw,(s.heap.push o).objs.size=s.heap.objs.size+1:=λo=>qz ..;have ok:=λo=>cellsFrom_ok sc.names (s.heap.push o) (s.heap.objs.size+1) [] ⟨λ_ _ z=>(nomatch z),.nil⟩ (by rw[hz];exact bj _);simp only[hz] at ok ⊢;rw[zu];exact av (az (az (h _ ((Heap.Ns.new s.heap _).keeps (a0C _ _)) (λb o e=>a0C _ _ b o (di _ e)) (ok _))))
def blk(X:Cx)(N:Q0g)(sc:gf)(cl:List (ak×ai))(C:ai)(pn:Q0b)(ex:List ai)(s₀:ao)(H₀:Hp):Cx :=
 {X with N:=N,s₀:=s₀,H₀:=H₀,env:=compEnvC sc cl C X.env,outer:=X.stack,stack:=X.stack,ex:=ex,fn:=λx=>sc.names.lookup x == aa kl,pn:=pn,xe:=λ_ _=>False}
def GH(nl:Nat)(fr:List Nat)(σ:L2.St):L2.St:=dh nl af++fr.map λj=>(σ[j]?).join
structure GI (X:Cx) (ls fs:Q0g) (fr:List Nat) (sc:gf):Prop where
 kind:sc.kind=.function
 nd:(ls++fs).Nodup
 uniq:∀x∈sc.names,sc.names.lookup x.1=aa x.2
 free:∀x∈sc.names,x.2=.free->X.env.kindOf x.1=aa .cell\/X.env.kindOf x.1=aa .free
 slot:∀(k:Nat) (x:ak),fs[k]?=aa x ->∃j,fr[k]?=aa j/\X.N[j]?=aa x/\(x,jv)∈sc.names/\sc.names.lookup x=aa .free
 GF:fr.length=fs.length
section
variable{X:Cx}
theorem uG(t:ak->iw->iw)(x:ak):∀l:List (ak×iw),(l.map λp=>(p.1,t p.1 p.2)).lookup x=(l.lookup x).map (t x)
 |[]=>rfl
 | (n,k)::r=>by
  rw[bt,rn,rn];by_cases hx:(x == n)=ae
  .rw [hx,eq_of_beq hx];rfl
  .rw [a3d] at hx;rw[hx];exact uG t x r
theorem yL{sc:gf}{env:fw}{x:ak}{l:List (ak×iw)}:(l.map λ(n,k)=>if(k == jv&&env.scope.kind == .function&&env.kindOf n == aa .cell) then(n,kl) else(n,k)).lookup x =
  (l.lookup x).map λk=>if(k == jv&&env.scope.kind == .function&&env.kindOf x == aa .cell) then kl else k:=by
 rw[<- uG (λy k=>if(k == jv&&env.scope.kind == .function&&env.kindOf y == aa .cell) then kl else k) x l];refine congrArg (List.lookup x) (gq λp _=>?_);dsimp only;split<;>rfl
def ne_size{b c:ai}{h:bb}{o:aw}(e:h.get? b=aa o)(hc:c=h.objs.size):b≠c:=λz=>ik _ (by have q:=b_ e;rw[z,hc] at q;exact q)
def GJ{b c:ai}{n:Nat}(h:b<n)(hc:n<=c):b≠c:=λz=>ik c (gc (z▸h) hc)
theorem aAZ{ls fs:Q0g}{fr:List Nat}{sc:gf}{cl:List (ak×ai)}{C:ai}{pins:Q0b}{ex:List ai}{σ:L2.St}{H:Hp}{s s4:ao}(B:GI X ls fs fr sc)(I:Inv X pins σ H s)
  (hcl:∀x∈sc.names,x.2=.free->cl.lookup x.1=X.env.cells.lookup x.1) (DN:∀x c,cl.lookup x=aa c->X.env.cells.lookup x=aa c\/(C<c/\s4.heap.IsCell c af)) (Bf:∀x∈sc.names,x.2=.cell ->∃c,cl.lookup x.1=aa c/\C<c)
  (hinj:∀x y c,cl.lookup x=aa c->cl.lookup y=aa c->x=y) (hex:∀b∈ex,oB X pins H b/\b<s.heap.objs.size)
  (hC:C=s.heap.objs.size) {m:Q0d} (hn:s4.heap.Ns C m) (hk:∀b o,s.heap.get? b=aa o->s4.heap.get? b=aa o) (ho:s4.os=s.os) (hg:s4.gens=s.gens):
  Inv (blk X (ls++fs) sc cl C (X.pn++pins) ex s H) [] (GH ls.length fr σ) H s4:=by
 have ltC:∀{b:ai} {o:aw},s.heap.get? b=aa o->b≠C:=λe=>ne_size e hC;have aLx:∀x c,cl.lookup x=aa c->c≠C:=λx c e=>by
  rcases DN x c e with e|⟨e,_⟩
  .obtain ⟨v,o,ho,_⟩:=I.cell x c e;exact ltC ho
  .exact i_ e
 have Av:∀x,(compEnvC sc cl C X.env).kindOf x=(sc.names.lookup x).map λk=>if(k == jv&&X.env.scope.kind == .function&&X.env.kindOf x == aa .cell) then kl else k:=λx=>yL (sc:=sc)
 have okX:(blk X (ls++fs) sc cl C (X.pn++pins) ex s H).Ok:=by
  refine⟨I.ok.mod,B.kind,I.ok.glob,I.ok.blt,(by show s.heap.objs.size<=C;rw[hC];exact bj _),hinj,λx hx=>?_,λx c hf hl=>?_,I.ok.hd,I.ok.frames,.inl rfl,λb hb=>?_,λb o e=>I.bs b o e,ie I.ok.ZY I.sz,λb o e hb=>?_,λb hb=>?_,I.stack,I.LX,I.tab⟩
  ·-- a cell or free name of the block
   have hx':∃k,sc.names.lookup x=aa k/\((if(k == jv&&X.env.scope.kind == .function&&X.env.kindOf x == aa .cell) then kl else k)=.cell\/(if(k == jv&&X.env.scope.kind == .function&&X.env.kindOf x == aa .cell) then kl else k)=.free):=by
    have hx:(compEnvC sc cl C X.env).kindOf x=aa .cell\/(compEnvC sc cl C X.env).kindOf x=aa .free:=hx;rw[Av] at hx
    cases e:sc.names.lookup x with
    |none=>rw[e] at hx;rcases hx with hx|hx<;>cases hx
    |some k=>rw[e] at hx;exact⟨k,rfl,hx.imp (λz=>dg z) λz=>dg z⟩
   obtain⟨k,e,hk'⟩:=hx';have hm:=k_ e;by_cases kf:k=.free
   .subst kf;have q:=hcl _ hm rfl;obtain⟨c,hc⟩:=I.ok.has x (B.free _ hm rfl);exact⟨c,q.trans hc⟩
   .have e2:(k == jv)=ag:=by simpa using kf
    rw[e2] at hk';simp only[Ad,sr,if_false] at hk';rcases hk' with z|z
    .obtain ⟨c,hc,_⟩:=Bf _ hm z;exact⟨c,hc⟩
    .exact Zw z kf
  ·-- an own cell is new
   obtain⟨c',hc',hlt⟩:=Bf _ (k_ (eq_of_beq hf)) rfl;have hc':cl.lookup x=aa c':=hc';have hl:cl.lookup x=aa c:=hl;rw[hl] at hc';cases hc';rw[hC] at hlt;exact ko hlt
  .refine ⟨GJ (hex b hb).2 (og hC.symm),λx c e=>?_⟩;rcases DN x c e with e|⟨e,_⟩
   .exact (hex b hb).1.2.2.2.2.1 x c e
   .exact dj (GJ (hex b hb).2 (by rw[<- hC];exact ko e))
  .obtain ⟨⟨_,_,_,f3,_,_⟩,_⟩:=hex b hb;rcases f3 with f3|f3
   .exact I.ok.UC b o e f3
   .exact Zw (gc (b_ e) (ie I.ok.ZY f3)) (ik _)
  .intro z;obtain⟨⟨_,f1,f2,_,_,_⟩,_⟩:=hex b hb;rcases cb.mp (I.x6 b z) with z|z
   .exact f1 z
   .exact f2 z
 refine⟨okX,ho,by rw[hg];exact I.bare,Un.kept hk,⟨m,hn,λi x v h1 h2 h3=>?_⟩,λx c e=>?_,?_,λx c e=>?_,λp hp=>?_,I.hok.kept hk,?_⟩
 ·-- a name with a value is one from around
  have hi:¬ i<ls.length:=λhi=>by unfold GH at h2;rw[jo (by simpa using hi),kr,Z_ hi] at h2;cases h2
  have e1:fs[i-ls.length]?=aa x:=by have h1:(ls++fs)[i]?=aa x:=h1;rw[jn (by omega)] at h1;exact h1
  obtain⟨j,ej,eN,hm,hlk⟩:=B.slot _ _ e1;have e2:(σ[j]?).join=aa v:=by unfold GH at h2;rw[jn (by simpa using hi),ck,qa,ej] at h2;exact dg h2
  have e3:σ[j]?=aa (aa v):=by
   cases q:σ[j]? with
   |none=>rw[q] at e2;cases e2
   |some o=>rw[q] at e2;rw[show o=aa v from e2]
  have hfr:=B.free _ hm rfl;have vis:C4 X.env.scope x:=.inr hfr;obtain⟨mm,hnm,hl⟩:=I.loc;obtain⟨u,r,l⟩:=hl j x v eN e3 vis;refine⟨u,r,?_⟩;rcases l with⟨k1,_⟩|⟨k1,c,ec,zc⟩
  .have k1:X.env.kindOf x=aa .local:=k1;rcases hfr with z|z<;>rw[k1] at z<;>cases z
  .refine .inr ⟨?_,c,(hcl _ hm rfl).trans ec,?_⟩
   .show (compEnvC sc cl C X.env).kindOf x=aa .cell\/(compEnvC sc cl C X.env).kindOf x=aa .free;rw[Av,hlk];dsimp only[Option.map];split
    .exact .inl rfl
    .exact .inr rfl
   .obtain ⟨oc,hoc,hd⟩:=zc;exact⟨oc,hk _ _ hoc,hd⟩
 .rcases DN x c e with e|⟨_,e⟩
  .obtain ⟨v,oc,hoc,hd⟩:=I.cell x c e;exact⟨v,oc,hk _ _ hoc,hd⟩
  .exact ⟨af,e⟩
 .show H C=af;rw[hC];exact I.hok.fresh (bj _)
 .rcases DN x c e with e|⟨e,_⟩
  .exact I.mP x c e
  .exact I.hok.fresh (by rw[<- hC];exact ko e)
 .have hp:p∈(X.pn++pins)++[]:=hp;rw[mi] at hp;obtain⟨e,n,ne,nf,d⟩:=I.pin p hp;refine⟨hk _ _ e,n,ltC e,λz=>?_,d⟩;rcases cb.mp (I.x6 _ z) with z|z
  .exact ne z
  .exact nf z
 .show (GH ls.length fr σ).length=(ls++fs).length;unfold GH;rw[fu,fu,qa,a_,B.GF]
theorem VO{ls fs:Q0g}{sc:gf}{cl:List (ak×ai)}{C:ai}{pins UD:Q0b}{ex:List ai}{σ σ':L2.St}{H H':Hp}{s s':ao}{h':bb}(I:Inv X pins σ H s)
  (J:Inv (blk X (ls++fs) sc cl C (X.pn++pins) ex s H) UD σ' H' s') (hex:∀b∈ex,oB X pins H b) (hC:C=s.heap.objs.size) (hs:nz C s'.heap h'):Inv X pins σ H' {s' with heap:=h' }:=by
 have ltC:∀{b:ai} {o:aw},s.heap.get? b=aa o->b≠C:=λe=>ne_size e hC;have fr:H' C=af:=J.free;have un:Un (frs X.stack) ex H H' s.heap s'.heap:=J.base;refine I.call' (s':={s' with heap:=h' }) (ch:=ex) J.os ⟨λb o e n hb hx=>(hs.2 b (ltC e)).trans (un.keep b o e n hb hx),λb o e n hb hx=>?_,un.free,λb o e hx=>?_,un.tups,un.zN,un.xZ⟩ ?_ J.bare λb hb=>?_
 .obtain ⟨sl,q⟩:=un.slot b o e n hb hx;exact⟨sl,(hs.2 b (ltC e)).trans q⟩
 .obtain ⟨o',q⟩:=un.there b o e hx;exact⟨o',(hs.2 b (ltC e)).trans q⟩
 .intro b ob e;refine(J.hok b ob e).stay (λc u hc q=>(hs.2 c ?_).trans q) (λ_ q=>q) λ_ _ q=>q;intro z;rcases hc with hc|hc
  .rw [z] at hc;rw[<- hc,fr] at e;cases e
  .rw [z,fr] at hc;cases hc
 .obtain ⟨_,f1,_,f3,f4,f5⟩:=hex b hb;exact⟨f3,f1,f4,f5⟩
abbrev Xw(ifs:List ar)(env:fw):Sem Bool:=forIn ifs ae λc r=>if r=ae then(do let b <- isTrue c env (eval c env);pure (nh b)) else pure (nh r)
abbrev Calm(prog:bf)(w:ba)(A:bx){α:Type}(t:Sem α)(Q:α->ao->Prop)(s:ao):Prop:=ax (ay prog w) A t Q (λ_ _=>False) s
theorem mW(Iv:Nat->ao->Prop)
  (turn:∀n s,Iv n s->Calm prog w A (pyNext it) (λgot s1=>match got with
   |none=>R (.ok .next) s1
   |some v=>Calm prog w A (letOwnedTupleGo tg it v) (λ_ s2=>Calm prog w A (assign tg env v) (λ_ s3=>Calm prog w A (Xw ifs env) (λok s4 =>
     if ok=ae then Calm prog w A (eval el env) (λx s5=>Calm prog w A (call (.builtin "list.append") [acc,x]) (λ_ s6=>∃m,m<n/\Iv m s6) s5) s4 else ∃m,m<n/\Iv m s4) s3) s2) s1) s)
  (n:Nat) (h:Iv n s):kh (ay prog w) A (.compLoop (.ListComp el [⟨tg,src,ifs,0⟩] bs at_) 0 it acc env) R s:=by
 have no:∀{α:Type} {E:Q0c} {t:Sem α} {Q Q':α->ao->Prop} {s:ao},Calm prog w A t Q s->(∀a s,Q a s->Q' a s)->ax (ay prog w) A t Q' E s:=λh f=>nk h f λ_ _ z=>z.elim;refine codeAny_loop rfl Iv (λn s hI=>?_) n h;refine wpAny_noted (m:=compTurn (.ListComp el [⟨tg,src,ifs,0⟩] bs at_) 0 it acc env) ?_;rw[compTurn_list];refine av (Ec (av (no (turn n s hI) λgot s1 h1=>?_)))
 match got,h1 with
 |none,h1=>exact az h1
 |some v,h1 =>
  refine av (no h1 λ_ _ h2=>av (no h2 λ_ _ h3=>av (no h3 λok s4 h4=>?_)))
  match ok,h4 with
  |false,h4=>exact az (Ag rfl h4)
  |true,h4=>exact av (av (no h4 λ_ _ h5=>av (no h5 λ_ _ h6=>az (az (Ag rfl h6)))))
abbrev TFk:=L2.St->Hp->(Bool->Hp->Prop)->Prop
def PIf(X:Cx)(ifs:List ar)(t:TFk):Prop :=
 ∀(pins:Q0b) (s:ao) (σ:L2.St) (H:Hp) (Q:Bool->Hp->Prop),Inv X pins σ H s->t σ H Q ->
  ax (ay X.prog X.w) X.A (forIn ifs ae λc r=>if r=ae then do let ok <- isTrue c X.env (eval c X.env);pure (nh ok) else pure (nh r)) (TP X pins σ Q) X.xe s
def aA0:PIf X [] (λ_ H Q=>Q ae H):=λpins s σ H Q I h=>by rw[zu];exact az ⟨H,I,h⟩
def Xv(h:PT X c t):PIf X [c] t:=λpins s σ H Q I hw=>by rw[r9];refine av ?_;rw[Z_ rfl];refine av (d8 (h pins s σ H Q I hw) λb s1 q=>az ?_);dsimp only;rw[zu];exact az q
def MN(nl:Nat)(fr:List Nat)(wi:TI)(g:TG)(tf:TFk)(te:TE):TE:=λσ H Q=>wi σ H λJ H1=>∀acc,H1 acc=af ->∃W:Nat->Nat->Hp->List V->Prop,(∃m,W 0 m (upd H1 acc (.lst [])) []) /\
 ∀i m H ys,W i m H ys->H acc=aa (.lst ys)/\((J.stop i H/\Q (.ref acc) H)\/(J.go i H /\∀x H',J.yld i H x H'->g x (GH nl fr σ) H' λσ2 H2=>(σ2.drop nl=fr.map λj=>(σ[j]?).join)/\tf σ2 H2 λb H3 =>
  if b=ae then te σ2 H3 λy H4=>H4 acc=aa (.lst ys)/\ys.length<bg /\∃m',m'<m/\W (i+1) m' (upd H4 acc (.lst (ys++[y]))) (ys++[y]) else ∃m',m'<m/\W (i+1) m' H3 ys))
theorem GK{ls fs:Q0g}{fr:List Nat}{sc:gf}{tg iter elt:ar}{ifs:List ar}{pos p2:bh}{wi:TI}{g:TG}{tf:TFk}{te:TE}{pins:Q0b}{σ:L2.St}{H:Hp}{s:ao}{Qe:VK}{use:Option (aj->Sem Unit)}{Qv:Q0c}
  (hc:X.calm=ae) (B:GI X ls fs fr sc) (hi:PI X tg iter wi) (hg:∀cl C pn ex s H,PG (blk X (ls++fs) sc cl C pn ex s H) tg g) (hf:∀cl C pn ex s H,PIf (blk X (ls++fs) sc cl C pn ex s H) ifs tf) (he:∀cl C pn ex s H,PE (blk X (ls++fs) sc cl C pn ex s H) elt te)
  (hs:Zo X iter) (I:Inv X pins σ H s) (h:MN ls.length fr wi g tf te σ H Qe)
  (fin:∀acc C s' H',Inv X pins σ H' s'->(∃m,s'.heap.Ns C m)->oB X pins H' C->Qe (.ref acc) H'->compPost (ay X.prog X.w) X.A X.xe use Qv (.ref acc) C (.ok .next) s'):
  ax (ay X.prog X.w) X.A (comprehension (.ListComp elt [⟨tg,iter,ifs,0⟩] sc pos) sc X.env p2 (newList []) ag (eval iter X.env) use) Qv X.xe s:=by
 obtain⟨cl,ecl,hcl,DN⟩:=JE (scope:=sc) (env:=X.env) λx hx hf=>I.ok.has x.1 (B.free x hx hf);refine wpAny_comprehension_free (g:=⟨tg,iter,ifs,0⟩) (gs:=[]) rfl hs ecl B.kind (λx hx e=>(B.uniq x hx).trans (congrArg aa e)) ?_;refine d8 (hi pins s σ H _ I h) λv s1 h1=>d8 h1 λitv s2 h2=>?_;obtain⟨it,fp,tn,J,H2,e,I2,T,st2,f2,h2⟩:=h2;subst e;refine uj ?_ (by show([]:Q0f).toArray.size<=bg;simp);have hacc:H2 s2.heap.objs.size=af:=I2.hok.fresh (bj _);have I3:Inv X pins σ (upd H2 s2.heap.objs.size (.lst [])) {s2 with heap:=s2.heap.push {cls:=.type "list",data:=.seq ([]:Q0f).toArray} } :=
  I2.laid (t':=s2.toks) (λb o e=>di _ e) (bj _) ⟨by simp,[],0,.nil,f_ _ rfl⟩
 have hfp:∀b∈fp,b<s2.heap.objs.size:=λb hb=>by obtain⟨o,e,_⟩:=T.obj _ _ st2 b hb;exact b_ e
 obtain⟨W,⟨m0,w0⟩,turn⟩:=h2 _ hacc;generalize GL:s2.heap.objs.size=acc at hacc I3 w0 turn ⊢;have Mx:∀b∈fp,b≠acc:=λb hb=>GJ (hfp b hb) (og GL);have f3:∀b∈fp,oB X pins (upd H2 acc (.lst [])) b:=λb hb=>⟨by rw[aV (Mx b hb)];exact(f2 b hb).1,(f2 b hb).2⟩;generalize hs3:({s2 with heap:=s2.heap.push {cls:=.type "list",data:=.seq ([]:Q0f).toArray} }:ao)=s3 at I3;have hsz3:s3.heap.objs.size=acc+1:=by rw[<- hs3];show(s2.heap.push _).objs.size=_;rw[qz,GL]
 have st3:tn 0 s3.heap:=T.keep _ _ _ st2 λb hb o e=>by rw[<- hs3];exact di _ e
 refine OY λh4 hn4 hk4 co=>?_;generalize hC:s3.heap.objs.size=C at hn4 co ⊢;have eC:cellsFrom (C+1) sc.names cl=cellsFrom (C+1) sc.names []++cl:=gS sc.names (C+1) [] cl;generalize hcs:cellsFrom (C+1) sc.names []=cs at co eC;have own:∀x c,cs.lookup x=aa c->(x,kl)∈sc.names/\C<c/\h4.IsCell c af:=λx c e=>by
  have m:=k_ e;refine⟨?_,(co.empty x c m).2,(co.empty x c m).1⟩;rw[<- hcs] at m;rcases i5 _ _ _ _ m with z|z
  .cases z
  .exact z
 generalize hdl:cellsFrom (C+1) sc.names cl=dl at eC ⊢;have two:∀x c,dl.lookup x=aa c->cs.lookup x=aa c\/(cs.lookup x=af/\cl.lookup x=aa c):=λx c e=>by
  rw[eC,Gv] at e
  cases q:cs.lookup x with
  |none=>rw[q] at e;exact .inr ⟨rfl,e⟩
  |some d=>rw[q] at e;exact .inl e
 have Mw:∀x∈sc.names,x.2=.free->dl.lookup x.1=X.env.cells.lookup x.1:=λx hx e=>by
  rw[<- hcl x hx e,eC,Gv]
  cases q:cs.lookup x.1 with
  |none=>rfl
  |some d =>
   have z:=B.uniq _ (own _ _ q).1;rw[B.uniq x hx,e] at z;cases z
 have Be:∀x c,dl.lookup x=aa c->X.env.cells.lookup x=aa c\/(C<c/\h4.IsCell c af):=λx c e=>by
  rcases two x c e with e|⟨_,e⟩
  .exact .inr (own x c e).2
  .exact .inl (DN x c e)
 have Mv:∀x∈sc.names,x.2=.cell ->∃c,dl.lookup x.1=aa c/\C<c:=λx hx e=>by obtain⟨c,hc⟩:=jT sc.names (C+1) [] x.1 (.inr (by rw[<- e];exact hx));rw[hcs] at hc;exact⟨c,by rw[eC,Gv,hc];rfl,(own _ _ hc).2.1⟩
 have low:∀x c,cl.lookup x=aa c->c<C:=λx c e=>by obtain⟨v,o,ho,_⟩:=I3.cell x c (DN x c e);rw[<- hC];exact b_ ho
 have Mu:∀x y c,dl.lookup x=aa c->dl.lookup y=aa c->x=y:=λx y c e e'=>by
  rcases two x c e with e|⟨_,e⟩<;>rcases two y c e' with e' | ⟨_,e'⟩
  .exact a0D co.apart (k_ e) (k_ e')
  .exact Zw (own _ _ e).2.1 (a2l (low _ _ e'))
  .exact Zw (own _ _ e').2.1 (a2l (low _ _ e))
  .exact I3.ok.inj x y c (DN x c e) (DN y c e')
 have I4:Inv (blk X (ls++fs) sc dl C (X.pn++pins) fp s3 (upd H2 acc (.lst []))) [] (GH ls.length fr σ) (upd H2 acc (.lst [])) {s3 with heap:=h4} :=
  aAZ B I3 Mw Be Mv Mu (λb hb=>⟨f3 b hb,by rw[hsz3,<- GL];exact rk (hfp b hb)⟩) hC.symm hn4 hk4 rfl rfl
 generalize hX:blk X (ls++fs) sc dl C (X.pn++pins) fp s3 (upd H2 acc (.lst []))=Y at I4;have pY:Y.prog=X.prog:=by rw[<- hX];rfl
 have wY:Y.w=X.w:=by rw[<- hX];rfl
 have kY:Y.K=X.K:=by rw[<- hX];rfl
 have AY:Y.A=X.A:=by rw[<- hX];rfl
 have cY:Y.calm=ae:=by rw[<- hX];exact hc
 have eY:Y.env=compEnvC sc dl C X.env:=by rw[<- hX];rfl
 have xY:Y.xe=λ_ _=>False:=by rw[<- hX];rfl
 have VP:∀{H':Hp},(∀b∈fp,H' b=af) ->∀b∈fp,oB Y [] H' b:=λhn b hb=>by
  rw[<- hX];obtain⟨_,f1,f2',_,f4,f5⟩:=f3 b hb;refine⟨hn b hb,λz=>?_,λz=>?_,.inl hb,λx c e=>?_,λp hp=>f5 p ?_⟩
  .exact Zw z (GJ (hfp b hb) (by rw[<- hC,hsz3,GL];exact mv _))
  .rcases cb.mp (I3.x6 b z) with z|z
   .exact f1 z
   .exact f2' z
  .rcases Be x c e with e|⟨e,_⟩
   .exact f4 x c e
   .exact dj (GJ (hfp b hb) (by rw[GL];exact ko (a2j (by rw[<- hC,hsz3];exact rj _) e)))
  .have hp:p∈(X.pn++pins)++[]:=hp;rw[mi] at hp;exact hp
 have st4:tn 0 h4:=T.keep _ _ _ st3 λb hb o e=>hk4 b o e;have loop:∀s5:ao,(∃i H',Inv Y [] (GH ls.length fr σ) H' s5/\tn i s5.heap/\(∀b∈fp,H' b=af) /\∃m ys,W i m H' ys)->kh (ay X.prog X.w) X.A (.compLoop (.ListComp elt [⟨tg,iter,ifs,0⟩] sc pos) 0 (.ref it) (.ref acc) (compEnvC sc dl C X.env)) (compPost (ay X.prog X.w) X.A X.xe use Qv (.ref acc) C) s5:=by
  rintro s5 ⟨i,H',I5,st5,fr5,m,ys,w5⟩;refine mW (λn s'=>∃i H' ys,Inv Y [] (GH ls.length fr σ) H' s'/\tn i s'.heap/\(∀b∈fp,H' b=af)/\W i n H' ys) ?_ m ⟨i,H',ys,I5,st5,fr5,w5⟩;rintro n s6 ⟨i,H6,ys,I6,st6,fr6,w6⟩;obtain⟨ha6,alt⟩:=turn i n H6 ys w6;rcases alt with⟨stop,qn⟩|⟨go,step⟩
  .have q:=T.done Y pY wY kY cY i [] s6 _ H6 (λ_ _=>False) I6 (VP fr6) st6 stop;rw[AY] at q;refine d8 q λr s7 Mt=>?_;obtain⟨hr,I7⟩:=Mt;subst hr;have fr7:H6 C=af:=by have:=I7.free;rw[eY] at this;exact this
   refine fin acc C s7 H6 ?_ ?_ (I3.C6 (og hC) fr7) qn
   .rw [<- hX] at I7;exact VO I3 I7 (λb hb=>f3 b hb) hC.symm (.refl ..)
   .obtain ⟨m,hm,_⟩:=I7.loc;rw[eY] at hm;exact⟨m,hm⟩
  .have q:=T.item Y pY wY kY cY i [] s6 _ H6 (λ_ _=>False) I6 (VP fr6) st6 go;rw[AY] at q;refine d8 q λr s7 Ms=>?_;obtain⟨u,hr,h7⟩:=Ms;subst hr;refine d8 h7 λ_ s8 Mr=>?_;obtain⟨x,H8,I8,r8,y8,st8,fr8⟩:=Mr;have I8':=I8.pinned (VP fr8) (T.obj _ _ st8);have hgY:=hg dl C (X.pn++pins) fp s3 (upd H2 acc (.lst []));have hfY:=hf dl C (X.pn++pins) fp s3 (upd H2 acc (.lst []));have heY:=he dl C (X.pn++pins) fp s3 (upd H2 acc (.lst []));rw[hX] at hgY hfY heY;have q8:=hgY _ s8 _ H8 x u _ I8' r8 (step x H8 y8);rw[pY,wY,AY,eY,xY] at q8;refine d8 q8 λ_ s9 Mq=>?_;obtain⟨σ9,H9,I9,hσ9,q9⟩:=Mq;have ni:=hfY _ s9 σ9 H9 _ I9 q9;rw[pY,wY,AY,eY,xY] at ni;refine d8 ni λok Ht Mp=>?_;obtain⟨H10,I10,ni⟩:=Mp;have bl:∀{H7:Hp} {s7:ao},Inv Y ([]++x9 fp s8.heap) σ9 H7 s7->(∃m',m'<n /\∃ys',W (i+1) m' H7 ys') ->∃m,m<n /\∃i H' ys,Inv Y [] (GH ls.length fr σ) H' s7/\tn i s7.heap/\(∀b∈fp,H' b=af)/\W i m H' ys:=λ{H7 s7} I7 ⟨m',hm,ys',w7⟩=>by
    refine⟨m',hm,i+1,H7,ys',?_,T.keep _ _ _ st8 λb hb o e=>(I7.pin (b,o) (jl _ (jl _ (lD hb e)))).1,λb hb=>?_,w7⟩
    .refine I7.qX.weak ?_ λk v e=>?_
     .rw [I7.len,<- I6.len]
     .by_cases hk:k<ls.length
      .unfold GH at e;rw[jo (by simpa using hk),kr,Z_ hk] at e;cases e
      .have e2:(σ9.drop ls.length)[k-ls.length]?=aa (aa v):=by rw[hσ9];unfold GH at e;rw[jn (by simpa using hk),qa] at e;exact e
       rw[zt] at e2;rw[show ls.length+(k-ls.length)=k by omega] at e2;exact e2
    .obtain ⟨o,e,d⟩:=T.obj _ _ st8 b hb;exact(I7.pin (b,o) (jl _ (jl _ (lD hb e)))).2.1
   cases ok with
   |false =>
    rw[Zz bz] at ni ⊢;obtain⟨m',hm,w'⟩:=ni;exact bl I10 ⟨m',hm,ys,w'⟩
   |true =>
    rw[Z_ rfl] at ni ⊢;have Al:=heY _ Ht σ9 H10 _ I10 ni;rw[pY,wY,AY,eY,xY] at Al;refine d8 Al λyv Hs Mo=>?_;obtain⟨y,H11,I11,Hu,Xu,Mn,m',hm,w'⟩:=Mo;have Ak:=(BF (X:=Y)) _ Hs σ9 H11 (.ref acc) [y] (.ref acc) [yv] (λ_ H'=>H'=upd H11 acc (.lst (ys++[y]))) I11 rfl (.cons Hu .nil) ⟨acc,ys,y,rfl,rfl,Xu,Mn,rfl⟩;rw[pY,wY,AY,xY] at Ak;refine d8 Ak λ_ s12 Mm=>?_;obtain⟨_,H12,I12,_,Jf⟩:=Mm;subst Jf;exact bl I12 ⟨m',hm,_,w'⟩
 have L0:=loop _ ⟨0,_,I4,st4,λb hb=>(f3 b hb).1,m0,[],w0⟩;refine codeAny_compStart_list L0 (T.self _ 0 _ _ _ st4 L0)
theorem aA1
  (hc:X.calm=ae) (B:GI X ls fs fr sc) (hi:PI X tg iter wi) (hg:∀cl C pn ex s H,PG (blk X (ls++fs) sc cl C pn ex s H) tg g) (hf:∀cl C pn ex s H,PIf (blk X (ls++fs) sc cl C pn ex s H) ifs tf) (he:∀cl C pn ex s H,PE (blk X (ls++fs) sc cl C pn ex s H) elt te)
  (hs:Zo X iter:=by intro _;rfl):PE X (.ListComp elt [⟨tg,iter,ifs,0⟩] sc pos) (MN ls.length fr wi g tf te):=by
 intro pins s σ H Q I h;rw[eval_ListComp];refine GK (use:=af) hc B hi hg hf he hs I h λacc C s' H' I' hm fp q=>?_;obtain⟨m,hm⟩:=hm;obtain⟨f0,f1,_,f3,f4,f5⟩:=fp;exact⟨m,hm,λh' hsb=>⟨.ref acc,H',I'.turned (t':=s'.toks) (λb o hb e=>(hsb.2 b hb).trans e) f0 f1 f3 f4 f5,rfl,q⟩⟩
theorem yM(hN:X.N.Nodup)(hx0:X.N[i]?=aa x)(hx:X.env.scope.names.lookup x=aa .local)
  (hc:X.calm=ae) (B:GI X ls fs fr sc) (hi:PI X tg iter wi) (hg:∀cl C pn ex s H,PG (blk X (ls++fs) sc cl C pn ex s H) tg g) (hf:∀cl C pn ex s H,PIf (blk X (ls++fs) sc cl C pn ex s H) ifs tf) (he:∀cl C pn ex s H,PE (blk X (ls++fs) sc cl C pn ex s H) elt te)
  (hsw:Rv X elt tg iter ifs sc pos x pos' spos)
  (hs:Zo X iter:=by intro _;rfl):PS X (.Assign [.Name x pos'] (.ListComp elt [⟨tg,iter,ifs,0⟩] sc pos) spos) (xw (MN ls.length fr wi g tf te) (UH i)):=by
 intro pins s σ H D I h;rw[exec_Assign_Name_used _ _ _ _ hsw];refine av (Ec (av ?_));show ax _ X.A (do let _ <- comprehension (.ListComp elt [⟨tg,iter,ifs,0⟩] sc pos) sc X.env _ (newList []) ag (eval iter X.env) (aa (assign (.Name x pos') X.env))) _ _ s;refine av (nk (GK (use:=aa (assign (.Name x pos') X.env)) (Qv:=λ_ s'=>SP X pins D .next s') hc B hi hg hf he hs I h λacc C s' H' I' hm fp q=>?_) (λ_ s' hq=>az (az hq)) λ_ _ e=>e);obtain⟨m,hm⟩:=hm;obtain⟨f0,f1,_,f3,f4,f5⟩:=fp;refine a0u (A9 I' hN hx0 (.inl hx) (v:=.ref acc) rfl (λs'' I'' hsb=>?_) (.inr hx));obtain⟨a,hsb,ha⟩:=hsb;have haC:a≠C:=by
  rcases ha with rfl|ha
  .exact dj f1
  .exact f4 x a ha
 exact⟨m,hm.sameBut hsb (dj haC),λh' hs'=>⟨_,H',I''.turned (t':=s''.toks) (λb o hb e=>(hs'.2 b hb).trans e) f0 f1 f3 f4 f5,q⟩⟩
end
def chk(outer:List (ak×iw))(sc:gf)(N ls fs:Q0g)(fr:List Nat):Bool :=
 (sc.kind == .function)&&Zv (ls++fs).Nodup&&sc.names.all (λx=>Zv (sc.names.lookup x.1=aa x.2)) &&
 sc.names.all (λx=>Zv (x.2=.free->(outer.lookup x.1=aa .cell\/outer.lookup x.1=aa .free)))&&Zv (fr.length=fs.length) &&
 (fs.zip fr).all (λx=>Zv (N[x.2]?=aa x.1)&&sc.names.contains (x.1,jv)&&Zv (sc.names.lookup x.1=aa .free))
def lH(h:chk X.env.scope.names sc X.N ls fs fr=ae):GI X ls fs fr sc:=by
 unfold chk at h;simp only[fz,gw,decide_eq_true_eq] at h;obtain⟨⟨⟨⟨⟨h1,h2⟩,h3⟩,h5⟩,h6⟩,h7⟩:=h;refine⟨eq_of_beq h1,h2,h3,h5,λk x e=>?_,h6⟩;have hk:k<fs.length:=(cq.mp e).1;have hm:(x,fr[k]'(by omega))∈fs.zip fr:=by
  have:(fs.zip fr)[k]?=aa (x,fr[k]'(by omega)):=by rw[qf];exact⟨e,by simp⟩
  exact jz this
 obtain⟨⟨a,b⟩,c⟩:=h7 _ hm;exact⟨fr[k]'(by omega),by simp,a,by simpa using b,c⟩
abbrev GE:=D->cN->(cN->Prop)->Prop
def yN(K:aq)(nl n:Nat)(g:GE):TG:=λv σ H Q=>∃(S:ai->Prop) (ρ:cN) (d:D) (Q3:cN->Prop),σ.length=n/\(∀a,H a=af->S a)/\Sl K S H ρ σ/\Dn K S H d v/\g d ρ Q3 /\
 ∀σ' ρ',Sl K S H ρ' σ'->σ'.drop nl=σ.drop nl->Q3 ρ'->Q σ' H
def PG4(X:Cx)(nl:Nat)(tg:ar)(g:GE):Prop:=PG X tg (yN X.K nl X.N.length g)
theorem Sl.set{K:aq}{S:ai->Prop}{H:Hp}{ρ:cN}{σ:L2.St}{i:Nat}{d:D}{v:V}(h:Sl K S H ρ σ)(hi:i<σ.length)(q:Dn K S H d v):Sl K S H (ρ.set i (aa d)) (σ.set i (aa v)):=λj e he=>by
 rcases get_set he with⟨hj,z,_⟩|⟨hj,z⟩
 .cases z;subst hj;exact⟨v,oj hi,q⟩
 .obtain ⟨u,a,b⟩:=h j e z;exact⟨u,by rw[kc (dj hj)];exact a,b⟩
def hN(i:Nat):GE:=λd ρ Q=>Q (ρ.set i (aa d))
noncomputable def h2(i j:Nat):GE:=λd ρ Q=>match d with
 |.tup [d1,d2]=>Q ((ρ.set i (aa d1)).set j (aa d2))
 |_=>False
def drop_set{α:Type}{l:List α}{i n:Nat}{x:α}(h:i<n):(l.set i x).drop n=l.drop n:=by rw[List.drop_set,Z_ h]
section
variable{X:Cx}
def Tz{nl i:Nat}{x:ak}{pos:bh}(nd:X.N.Nodup)(hil:i<nl)(hi:X.N[i]?=aa x:=by rfl)(hx:Loc X.env.scope x:=by walk_at "0")(hfx:Zq X x:=by walk_at "2"):PG4 X nl (.Name x pos) (hN i) :=
 OX (nW nd hi hx hfx) λv σ H Q Ml=>by obtain⟨S,ρ,d,Q3,hl,fc,sl,dn,hg,k⟩:=Ml;exact k _ _ (sl.set (by rw[hl];exact jO hi) dn) (drop_set hil) hg
def Tx{nl i j:Nat}{x y:ak}{kk:Nat}{pos px py:bh}(hc:X.calm=ae)(nd:X.N.Nodup)(hil:i<nl)(hjl:j<nl)(hi:X.N[i]?=aa x:=by rfl)(hj:X.N[j]?=aa y:=by rfl)(hx:Loc X.env.scope x:=by walk_at "0")(hfx:Zq X x:=by walk_at "2")(hy:Loc X.env.scope y:=by walk_at "0")(hfy:Zq X y:=by walk_at "2")
  (hn:Q0i X x y px py:=by rfl) (hst:Q0h X x y px py:=by rfl)
  (hs1:H0 X x y px py:=by rfl) (hs2:gV X y py:=by rfl):
  PG4 X nl (.Tuple [.Name x px,.Name y py] kk pos) (h2 i j) :=
 OX (UI (n:=2) hc (qW (nW nd hi hx hfx) (qW (nW nd hj hy hfy) MB hs2) hs1) hn hst) λv σ H Q Mb=>by
  obtain⟨S,ρ,d,Q3,hl,fc,sl,dn,hg,k⟩:=Mb;unfold h2 at hg;split at hg
  .rename_i d1 d2;simp only[Dn] at dn;obtain⟨a,xs,rfl,ha,da⟩:=dn;obtain⟨v1,r1,rfl,h1,h2⟩:=da.bH;obtain⟨v2,r2,rfl,h3,h4⟩:=h2.bH;simp only[aP] at h4;subst h4;refine⟨a,_,rfl,(fB.of ha),rfl,v1,[v2],rfl,v2,[],rfl,rfl,?_⟩;exact k _ _ ((sl.set (by rw[hl];exact jO hi) h1).set (by rw[jd,hl];exact jO hj) h3) (by rw[drop_set hjl,drop_set hil]) hg
  .exact hg.elim
def OZ(X:Cx)(ifs:List ar)(t:WT):Prop:=PIf X ifs (liftT X.K t)
def Tw:WT:=λ_ Q=>Q ae
def Ma:OZ X [] Tw:=λpins s σ H Q I L_=>by obtain⟨S,ρ,Q3,fc,sl,ht,k⟩:=L_;exact aA0 pins s σ H Q I (k ae H (Same.refl H) ht)
theorem Tv(h:zG X c t):OZ X [c] t:=Xv h
noncomputable def rF(g:GE)(tf:WT)(te:WE)(ρ:cN):List D->List D->(D->Prop)->Prop
 |[],acc,Q=>Q (.lst acc)
 |d::r,acc,Q=>g d ρ λρ2=>tf ρ2 λb=>if b=ae then te ρ2 λy=>acc.length<bg/\rF g tf te ρ r (acc++[y]) Q else rF g tf te ρ r acc Q
def benv(nl:Nat)(fr:List Nat)(ρ:cN):cN:=dh nl af++fr.map λj=>(ρ[j]?).join
def GN(nl:Nat)(fr:List Nat)(ti:WI)(g:GE)(tf:WT)(te:WE):WE:=λρ Q=>ti ρ λds=>rF g tf te (benv nl fr ρ) ds [] Q
def aA2{K:aq}{S:ai->Prop}{H:Hp}{ρ:cN}{σ:L2.St}{nl:Nat}{fr:List Nat}(h:Sl K S H ρ σ):Sl K S H (benv nl fr ρ) (GH nl fr σ):=λi d e=>by
 unfold benv at e;unfold GH;by_cases hi:i<nl
 .rw [jo (by simpa using hi),kr,Z_ hi] at e;cases e
 .rw [jn (by simpa using hi),ck,qa] at e ⊢
  cases q:fr[i-nl]? with
  |none=>rw[q] at e;cases e
  |some j =>
   rw[q] at e;have e1:(ρ[j]?).join=aa d:=dg e;have e2:ρ[j]?=aa (aa d):=by
    cases z:ρ[j]? with
    |none=>rw[z] at e1;cases e1
    |some o=>rw[z] at e1;rw[show o=aa d from e1]
   obtain⟨v,ev,dv⟩:=h j d e2;exact⟨v,by show aa ((σ[j]?).join)=_;rw[ev];rfl,dv⟩
def tO{K:aq}{nl n:Nat}{fr:List Nat}{ti:WI}{g:GE}{tf:WT}{te:WE}{σ:L2.St}{H:Hp}{Q:VK}(hn:nl+fr.length=n)(h:U7 K (GN nl fr ti g tf te) σ H Q):MN nl fr (Cy K ti) (yN K nl n g) (liftT K tf) (lift K te) σ H Q:=by
 obtain⟨S,ρ,Q3,fc,sl,ht,k⟩:=h;refine⟨S,ρ,_,fc,sl,ht,λJ H1 ds G s1 hG wk q1=>?_⟩;intro acc hacc;have h0:H acc=af:=s1.free hacc;have fc1:=bV fc s1;have ok:∀{H2:Hp},Same H1 H2->(∃ys,H2 acc=aa (.lst ys))->(∀a,H2 a=af->S a/\a≠acc)/\Sl K (λa=>S a/\a≠acc) H2 (benv nl fr ρ) (GH nl fr σ) /\∀g∈G,Dn K (λa=>S a/\a≠acc) H2 g.1 g.2:=λ{H2} s2 hy=>by
  refine⟨λa e=>⟨bV fc1 s2 a e,λz=>?_⟩,?_,λg hg=>Dn.fits ((Fits.fresh hacc).trans (.same s2)) _ _ (hG g hg)⟩
  .subst z;obtain⟨ys,hy⟩:=hy;rw[e] at hy;cases hy
  .exact aA2 (Sl.fits ((Fits.fresh h0).trans (.same (s1.trans s2))) sl)
 refine⟨λi m H2 ys=>m=ds.length-i/\i<=ds.length/\Same H1 H2/\H2 acc=aa (.lst ys) /\∃aD,aP K (λa=>S a/\a≠acc) H2 aD ys/\rF g tf te (benv nl fr ρ) (ds.drop i) aD Q3,
  ⟨_,rfl,iz _,aO hacc,aQ,[],aP.nil,q1⟩,?_⟩
 rintro i m H2 ys ⟨rfl,hi,s2,hy,aD,dn,cw⟩;obtain⟨fc2,sl2,gh2⟩:=ok s2 ⟨ys,hy⟩;refine⟨hy,?_⟩;by_cases hlt:i<ds.length
 .refine .inr ?_;obtain⟨g1,g2⟩:=wk.go _ H2 fc2 gh2 i ds[i] (by simp[hlt]);refine⟨g1,λx H' y=>?_⟩;obtain⟨s3,dx⟩:=g2 x H' y;rw[vw hlt,rF] at cw;refine⟨λa=>S a/\a≠acc,benv nl fr ρ,ds[i],_,?_,bV fc2 s3,Sl.fits (.same s3) sl2,dx,cw,λσ' ρ' sl' hd q'=>?_⟩
  .unfold GH;rw[fu,qa,a_];exact hn
  .refine ⟨by rw[hd];unfold GH;rw[List.drop_append_of_le_length (by simp),List.drop_replicate];simp,λa=>S a/\a≠acc,ρ',_,bV fc2 s3,sl',q',λb H3 s4 q4=>?_⟩
   cases b with
   |false =>
    rw[Zz bz] at q4 ⊢;exact⟨_,by omega,rfl,hlt,(s2.trans s3).trans s4,(s3.trans s4) _ _ hy,aD,aP.fits (.same (s3.trans s4)) _ _ dn,q4⟩
   |true =>
    rw[Z_ rfl] at q4 ⊢;refine⟨λa=>S a/\a≠acc,ρ',_,bV fc2 (s3.trans s4),Sl.fits (.same s4) sl',q4,λv H4 d s5 d5 q5=>?_⟩;have hy4:H4 acc=aa (.lst ys):=((s3.trans s4).trans s5) _ _ hy;have F:Fits K (λa=>S a/\a≠acc) (λa=>S a/\a≠acc) H4 (upd H4 acc (.lst (ys++[v]))):=.upd (.inl ⟨_,hy4⟩) λz=>z.2 rfl;refine⟨hy4,by rw[<- dn.len];exact q5.1,_,by omega,rfl,hlt,λb u hb=>?_,aQ,aD++[d],aP.fits F _ _ ((aP.fits (.same ((s3.trans s4).trans s5)) _ _ dn).append (aP.one d5)),q5.2⟩;rw[aV (bG hb hacc)];exact(((s2.trans s3).trans s4).trans s5) _ _ hb
 .have e:i=ds.length:=by omega
  subst e;rw[a2Q,rF] at cw;exact .inl ⟨wk.stop _ H2 gh2 _ rfl,k acc ys H2 aD h0 hy (s1.trans s2) dn cw⟩
theorem Tu{ls fs:Q0g}{fr:List Nat}{sc:gf}{tg iter elt:ar}{ifs:List ar}{pos:bh}{ti:WI}{g:GE}{tf:WT}{te:WE}(hc:X.calm=ae)(hi:Q4 X tg iter ti)
  (hg:∀cl C pn ex s H,(blk X (ls++fs) sc cl C pn ex s H).N.Nodup->PG4 (blk X (ls++fs) sc cl C pn ex s H) ls.length tg g) (hf:∀cl C pn ex s H,OZ (blk X (ls++fs) sc cl C pn ex s H) ifs tf) (he:∀cl C pn ex s H,dA (blk X (ls++fs) sc cl C pn ex s H) elt te)
  (B:chk X.env.scope.names sc X.N ls fs fr=ae:=by rfl) (hs:Zo X iter:=by intro _;rfl):I0 X (.ListComp elt [⟨tg,iter,ifs,0⟩] sc pos) (GN ls.length fr ti g tf te) :=
 imp (aA1 (g:=yN X.K ls.length (ls++fs).length g) (tf:=liftT X.K tf) (te:=lift X.K te) hc (lH B) hi (λcl C pn ex s H=>hg cl C pn ex s H (lH B).nd) hf he hs) λσ H Q h=>tO (n:=(ls++fs).length) (by rw[fu,(lH B).GF]) h
theorem O0{i:Nat}{x:ak}{ls fs:Q0g}{fr:List Nat}{sc:gf}{tg iter elt:ar}{ifs:List ar}{pos spos pos':bh}{ti:WI}{g:GE}{tf:WT}{te:WE}(nd:X.N.Nodup)(hc:X.calm=ae)(hi:Q4 X tg iter ti)
  (hg:∀cl C pn ex s H,(blk X (ls++fs) sc cl C pn ex s H).N.Nodup->PG4 (blk X (ls++fs) sc cl C pn ex s H) ls.length tg g) (hf:∀cl C pn ex s H,OZ (blk X (ls++fs) sc cl C pn ex s H) ifs tf) (he:∀cl C pn ex s H,dA (blk X (ls++fs) sc cl C pn ex s H) elt te)
  (hx0:X.N[i]?=aa x:=by rfl) (hx:X.env.scope.names.lookup x=aa .local:=by rfl) (hsw:Rv X elt tg iter ifs sc pos x pos' spos:=by rfl)
  (B:chk X.env.scope.names sc X.N ls fs fr=ae:=by rfl) (hs:Zo X iter:=by intro _;rfl):EN X (.Assign [.Name x pos'] (.ListComp elt [⟨tg,iter,ifs,0⟩] sc pos) spos) (xr i (GN ls.length fr ti g tf te)) :=
 lG (yM (g:=yN X.K ls.length (ls++fs).length g) (tf:=liftT X.K tf) (te:=lift X.K te) nd hx0 hx hc (lH B) hi (λcl C pn ex s H=>hg cl C pn ex s H (lH B).nd) hf he hsw hs) λBd σ H Lz=>by
 obtain⟨H₀,S,w,ρ,G,E,hl,st,ht,ok⟩:=Lz;exact tO (n:=(ls++fs).length) (by rw[fu,(lH B).GF]) ⟨_,jR ρ,_,st.Q0,st.rd,ht,λp xs H' ds hp hp' s' d' q'=>ok.nx w _ H' _ (by rw[jd];exact hl) ((st.same s').mU (d:=.lst ds) (by rw[hl];exact jO hx0) (by simp only[Dn];exact⟨p,xs,rfl,hp',st.Q0 p hp,aP.fits (.mono λ_ z=>z.1) _ _ d'⟩)) q'⟩
noncomputable def tyD:D->String
 |.non => "NoneType"
 |.bl _ => "bool"
 |.int _ => "int"
 |.str _ => "str"
 |.tup _ => "tuple"
 |.lst _ => "list"
 |.rY _ => "list"
 |.jA _ _ => "dict"
 |.c7 _ _ _ => "dict"
 |.exc _ _ => "NoneType"
 |.rws _ => "NoneType"
inductive DO:String->Prop
 |t:DO "tuple"
 |b:DO "bool"
 |i:DO "int"
 |s:DO "str"
def isT(T:String)(d:D):Bool:=tyD d == T||(T == "int"&&tyD d == "bool")
def Ly(K:aq)(T:String):List V->Hp->VK->Prop:=λxs H Q=>∃x t b,xs=[x,.ty T]/\(qY K H x t\/(t=.type "tuple" /\∃a ys,x=.ref a/\fB K H a ys)\/(t=.type "list" /\∃a ys,x=.ref a/\dW K H a ys))/\kitOne K t (.type T)=aa b/\Q (.bl b) H
theorem VQ:eT X (.builtin "isinstance") (Ly X.K T):=by
 intro pins s σ H xs us Q I r h;obtain⟨x,t,b,rfl,ty,e,q⟩:=h;obtain⟨u,w',rfl,r1,r2⟩:=vals2 r;obtain rfl:w'=ny T:=r2;rcases ty with ty|⟨rfl,a,ys,rfl,hq⟩|⟨rfl,a,ys,rfl,hq⟩
 .exact OJ I r1 ty e λtk=>⟨.bl b,H,I.tok tk,rfl,q⟩
 .cases r1;obtain⟨its,_,p,_⟩:=I.tuple hq;obtain⟨o,h1,h2,_⟩:=p;exact ji a0T I.C5 ⟨o,h1,h2⟩ e (λz=>nomatch z) λtk=>⟨.bl b,H,I.tok tk,rfl,q⟩
 .cases r1;obtain⟨its,_,p,_⟩:=I.list hq;obtain⟨o,n,h1,h2,_⟩:=p;exact ji Eu I.C5 ⟨o,h1,h2⟩ e (λz=>nomatch z) λtk=>⟨.bl b,H,I.tok tk,rfl,q⟩
noncomputable def Cw:D->Prop
 |.exc _ _=>False
 |.c7 _ _ _=>False
 |.rws _=>False
 |_=>True
def Lx(T:String)(t:WE):WE:=λρ Q=>t ρ λd=>Cw d/\Q (.bl (isT T d))
def Lw{K:aq}{T:String}(h:DO T)(d:D):kitOne K (.type (tyD d)) (.type T)=aa (isT T d):=by cases h<;>cases d<;>with_unfolding_all rfl
def Tt{K:aq}{S:ai->Prop}{H:Hp}{d:D}{v:V}(hne:Cw d)(h:Dn K S H d v):∃t,t=ny (tyD d)/\(qY K H v t\/(t=.type "tuple" /\∃a ys,v=.ref a/\fB K H a ys)\/(t=.type "list" /\∃a ys,v=.ref a/\dW K H a ys)):=by
 refine⟨_,rfl,?_⟩;cases d<;>simp only[Dn] at h
 .subst h;exact .inl .non
 .subst h;exact .inl (.bl _)
 .subst h;exact .inl (.int _)
 .subst h;exact .inl (.str _)
 .obtain ⟨a,xs,rfl,hq,_⟩:=h;exact .inr (.inl ⟨rfl,a,xs,rfl,(fB.of hq)⟩)
 .obtain ⟨a,xs,rfl,hq,_⟩:=h;exact .inl (.lst hq)
 .obtain ⟨a,rfl,hq⟩:=h;exact .inr (.inr ⟨rfl,a,_,rfl,hq.sq⟩)
 .obtain ⟨a,xs,rfl,hq,_⟩:=h;exact .inl (.dK hq)
 .exact hne.elim
 .exact hne.elim
 .exact hne.elim
theorem Lv{T:String}{x:ak}{e:ar}{t:WE}{p p2 pos:bh}(hT:DO T)(hm:X.mg "isinstance"=af)(hmT:X.mg x=af)(hv:bootBuiltins x=aa (.type T))(he:dA X e t)(hg:Gl X "isinstance":=by rfl)(hgT:Gl X x:=by rfl)(hn:x ≠ "__name__":=by decide)(hdb:Zu x:=by decide)
  (hs:au [e,.Name x p2] X.env=(ag,eval e X.env)::au [.Name x p2] X.env:=by rfl) (hs2:au [.Name x p2] X.env=(ag,eval (.Name x p2) X.env)::au [] X.env:=by rfl) (hpl:(d_ pos (au [.Name x p2] X.env)).any (·.1)=ag:=by rfl):
  dA X (.Call (.Name "isinstance" p) [e,.Name x p2] [] pos) (Lx T t) :=
 imp (mS (VQ (T:=T)) hg hm a4x (iF he (iF (Z2 (v:=.ty T) hgT hmT hv rfl hn hdb) pN hs2) hs) (by decide) (by decide) hs hpl) λσ H Q Lu=>by obtain⟨S,ρ,Q3,fc,sl,ht,k⟩:=Lu;refine⟨S,ρ,_,fc,sl,ht,λv H1 d s1 d1 q1=>?_⟩;obtain⟨tt,e1,e2⟩:=Tt q1.1 d1;refine⟨v,tt,isT T d,rfl,e2,?_,k _ H1 (.bl _) s1 (by simp only[Dn]) q1.2⟩;rw[e1];exact Lw hT d
noncomputable def Cv:List D->Option (List Bool)
 |[]=>aa []
 |.bl b::r=>(Cv r).map (b :: ·)
 |_::_=>af
theorem range_all(bs:List Bool):(bu bs.length).all (λi=>bs.getD i ae)=bs.all id:=by
 induction bs with
 |nil=>rfl
 |cons b bs ih=>rw[de,ve,mj,sh,mj,<- ih];rfl
theorem range_any(bs:List Bool):(bu bs.length).any (λi=>bs.getD i ae)=bs.any id:=by
 induction bs with
 |nil=>rfl
 |cons b bs ih=>rw[de,ve,jq,sg,jq,<- ih];rfl
def blF(f:List Bool->Bool):F1
 |[.lst ds],Q=>(match Cv ds with|some bs=>Q (.bl (f bs))|none=>False)
 |_,_=>False
def GO:List V->Hp->VK->Prop:=λxs H Q=>∃a ns,xs=[.ref a]/\H a=aa (.lst (ns.map V.int))/\ns.length<64 /\∀ns':Q0e,ns'.Perm ns->ns'.Pairwise (· <= ·) ->∀p,H p=af->Q (.ref p) (upd H p (.lst (ns'.map V.int)))
theorem lI:eT X (.builtin "sorted") GO:=by
 intro pins s σ H xs us Q I r h;obtain⟨a,ns,rfl,ha,fq,q⟩:=h;obtain⟨u,rfl,ru⟩:=vals1 r;cases ru;obtain⟨its,rv,p,hz⟩:=I.list (dW.of ha);have hi:=intsAre_of rv;have hlen:its.length=ns.length:=by have:=rv.length;rw[a_] at this;exact this.symm
 refine sorted_ints p.isList hi (by omega) λout ns' a1 a2 a3=>?_;have hfr:H (s.heap.objs.size+1)=af:=I.hok.fresh (mv _);obtain⟨e1,hat⟩:=Fo s.heap its out;have hz2:ns'.length<=bg:=by rw[a2.length_eq,gr];omega
 have I1:Inv X pins σ (upd H (s.heap.objs.size+1) (.lst (ns'.map V.int))) {s with heap:=sortedAll s.heap its out} :=
  I.laid (t':=s.toks) (λb o e=>Fn e) (mv _) ⟨by rw[a_];exact hz2,out.toList,e1,nX a1,by simpa[seqObj] using hat⟩
 exact⟨.ref _,_,I1,rfl,q ns' a2 a3 _ hfr⟩
def intsOf:List D->Option (List Int)
 |[]=>aa []
 |.int b::r=>(intsOf r).map (b :: ·)
 |_::_=>af
theorem dI:∀bs:Q0e,intsOf (bs.map D.int)=aa bs
 |[]=>rfl
 |b::bs=>by rw[bt,intsOf,dI bs];rfl
theorem tP:∀{ds:List D} {bs:Q0e},intsOf ds=aa bs->ds=bs.map D.int
 |[],bs,h=>by cases h;rfl
 |.int b::r,bs,h=>by
  rw[intsOf] at h
  cases q:intsOf r with
  |none=>rw[q] at h;cases h
  |some cs=>rw[q] at h;cases h;rw[bt,tP q]
 |.non::r,bs,h=>by cases h
 |.bl _::r,bs,h=>by cases h
 |.str _::r,bs,h=>by cases h
 |.tup _::r,bs,h=>by cases h
 |.lst _::r,bs,h=>by cases h
 |.rY _::r,bs,h=>by cases h
 |.jA _ _::r,bs,h=>by cases h
 |.c7 _ _ _::r,bs,h=>by cases h
def VR:F1
 |[.lst ds],Q=>(match intsOf ds with|some ns=>ns.length<64 /\∀ns':Q0e,ns'.Perm ns->ns'.Pairwise (· <= ·)->Q (.lst (ns'.map D.int))|none=>False)
 |_,_=>False
theorem aA3{K:aq}:C3F K GO VR:=by
 intro S H xs ds Q3 Q fc hd hf k
 match ds,hf with
 |[.lst es],hf =>
  obtain⟨v,r,rfl,h1,h2⟩:=hd.bH;simp only[aP] at h2;subst h2;simp only[Dn] at h1;obtain⟨a,ys,rfl,ha,sa,da⟩:=h1;have hf2:(match intsOf es with|some ns=>ns.length<64 /\∀ns':Q0e,ns'.Perm ns->ns'.Pairwise (· <= ·)->Q3 (.lst (ns'.map D.int))|none=>False):=hf
  clear hf
  cases q:intsOf es with
  |none=>rw[q] at hf2;exact hf2.elim
  |some ns =>
   rw[q] at hf2;have e:=tP q;subst e;have e2:=aP.ints.mp da;subst e2;exact⟨a,ns,rfl,ha,hf2.1,λns' h1 h2 p hp=>k p _ _ _ hp aQ (aO hp) (aP.ints.mpr rfl) (hf2.2 ns' h1 h2)⟩
def aA4(hm:X.mg "sorted"=af)(ha:zU X [e] t)(hg:Gl X "sorted":=by rfl)
  (he:Zs X e []:=by rfl):I0 X (.Call (.Name "sorted" p) [e] [] pos) (VG VR t):=vN lI aA3 uv hg hm ha (by decide) (by decide) he (by rfl)
end
section
variable{X:Cx}
def O1(hg:Gl X "range")(hm:X.mg "range"=af)(ha:PA X [a] ta)(hs:au [a] X.env=[(ag,eval a X.env)]:=by rfl):
  PE X (.Call (.Name "range" p) [a] [] pos) (λσ H Q=>ta σ H λvs H1=>∃j:Int,vs=[.int j] /\∀p,H1 p=af->Q (.ref p) (upd H1 p (.rng 0 j))):=by
 intro pins s σ H Q I h;refine uw (mQ I hg hm Fp (rh (d8 (ha pos pins s σ H _ I h) λus s1 ⟨vs,H1,I1,r1,q1⟩=>?_) hs rfl));obtain⟨j,e,q⟩:=q1;subst e;obtain⟨u,rfl,ru⟩:=vals1 r1;obtain⟨t,rfl⟩:=ru;refine a0L ?_;exact⟨.ref s1.heap.objs.size,_,I1.laid (o:=.rng 0 j) (λb o e=>di _ e) (bj _) ⟨_,_,_,f_ _ rfl⟩,rfl,q _ (I1.hok.fresh (bj _))⟩
def qR{lo:Int}{n:Nat}{acc:Array aj}(h:ItemsOf (λi v=>∃t,v=.int (lo+(i:Nat)*1) t) acc n):Vals ((tN lo n).map V.int) acc.toList:=by
 obtain⟨hz,hv⟩:=h;have key:∀(l:Q0f) (k:Nat) (m:Nat),l.length=m->(∀(j:Nat) (v:aj),l[j]?=aa v ->∃t,v=jt (lo+((k+j:Nat):Int)) t)->Vals (((List.range' k m).map λi:Nat=>lo+(i:Int)).map V.int) l:=by
  intro l
  induction l with
  |nil=>intro k m hm _;subst hm;exact .nil
  |cons v l ih =>
   intro k m hm hh;subst hm;rw[de,List.range'_succ,bt,bt];refine .cons ?_ (ih (k+1) l.length rfl λj w e=>?_)
   .obtain ⟨t,e⟩:=hh 0 v (by simp);exact⟨t,by simpa using e⟩
   .obtain ⟨t,e2⟩:=hh (j+1) w (by simpa using e);exact⟨t,by rw[e2];congr 1;congr 1;congr 1;omega⟩
 have:=key acc.toList 0 n (by simpa using hz) λj v e=>by obtain⟨t,e2⟩:=hv j v (by simpa using e);exact⟨t,by rw[e2];simp⟩
 unfold tN;rw[List.range_eq_range'];exact this
theorem zW(hc:X.calm=ae):eT X (.type "list") (λxs H Q=>∃p j,xs=[.ref p]/\H p=aa (.rng 0 j) /\ -(2^62)<=j/\j<=16777216 /\∀l,H l=af->Q (.ref l) (upd H l (.lst ((tN 0 j.toNat).map V.int)))):=by
 intro pins s σ H xs us Q I r h;obtain⟨p,j,rfl,hp,h0,h1,q⟩:=h;obtain⟨u,rfl,ru⟩:=vals1 r;cases ru;obtain⟨t,u,v,e⟩:=I.hok p _ hp;have hsz:a1R 0 j 1=(j.toNat:Int):=by rw[a0B];split<;>omega
 refine call_list_range (a:=0) (b:=j) (c:=1) (n:=j.toNat) (I.ok.hd hc) e (small_one (by omega) (by omega) (by omega) (by omega)) hsz (by omega) λh' tk acc' c' kp hn hit=>?_;have hfr:H s.heap.objs.size=af:=I.hok.fresh (bj _);have hv:Vals ((tN 0 j.toNat).map V.int) acc'.toList:=qR hit;refine⟨.ref s.heap.objs.size,_,I.laid (o:=.lst ((tN 0 j.toNat).map V.int)) kp (bj _) ⟨?_,acc'.toList,c',hv,by simpa using hn⟩,rfl,q _ hfr⟩;rw[a_,uF,gr];omega
noncomputable def Xt(t:WA):WE:=λρ Q=>t ρ λds=>match ds with
 |[.int j]=>(-(2^62)<=j/\j<=16777216)/\Q (.lst ((tN 0 j.toNat).map D.int))
 |_=>False
def JF(hc:X.calm=ae)(hm:X.mg "list"=af)(hmr:X.mg "range"=af)(ha:zU X [a] t)(hg:Gl X "list":=by rfl)(hgr:Gl X "range":=by rfl)(hs:au [a] X.env=[(ag,eval a X.env)]:=by rfl)
  (he:au [.Call (.Name "range" p2) [a] [] pos2] X.env=(ag,eval (.Call (.Name "range" p2) [a] [] pos2) X.env)::au [] X.env:=by rfl):
  I0 X (.Call (.Name "list" p) [.Call (.Name "range" p2) [a] [] pos2] [] pos) (Xt t) :=
 imp (tJ (zW hc) hg hm a4w (iF (O1 hgr hmr ha hs) pN he) (by decide) (by decide) he (by rfl)) λσ H Q Ls=>by
  obtain⟨S,ρ,Q3,fc,sl,ht,k⟩:=Ls;refine⟨S,ρ,_,fc,sl,ht,λvs H1 ds s1 d1 q1=>?_⟩;split at q1
  .rename_i j;obtain⟨v,r,rfl,h1,h2⟩:=d1.bH;simp only[aP] at h2;subst h2;simp only[Dn] at h1;subst h1;refine⟨j,rfl,λp hp=>⟨p,j,rfl,aQ,q1.1.1,q1.1.2,λl hl=>?_⟩⟩;have hl1:H1 l=af:=(aO hp).free hl;exact k l _ _ _ (s1.free hl1) aQ ((s1.trans (aO hp)).trans (aO hl)) (aP.ints.mpr rfl) q1.2
  .exact q1.elim
def jP(ks:List Key)(ds:List D)(k:Key):Option D:=((ks.zip ds).find? λkv=>Zv (kv.1=k)).map (·.2)
theorem yO{K:aq}{S:ai->Prop}{H:Hp}{k:Key}:∀{ks:List Key} {ds:List D} {xs:List V},ks.length=xs.length->aP K S H ds xs ->
  (∀d,jP ks ds k=aa d ->∃v,l5 (ks.zip xs) k=aa v/\Dn K S H d v)/\(jP ks ds k=af->l5 (ks.zip xs) k=af)
 |[],ds,xs,_,_=>by
  refine⟨λd e=>?_,λ_=>?_⟩
  .simp [jP] at e
  .simp [l5]
 |q::ks,ds,xs,hl,dn=>by
  cases ds with
  |nil=>simp only[aP] at dn;subst dn;simp at hl
  |cons d0 ds =>
   obtain⟨v,r,rfl,h1,h2⟩:=dn.bH;have ih:=yO (k:=k) (ks:=ks) (ds:=ds) (xs:=r) (by simpa using hl) h2;by_cases e:q=k
   .refine ⟨λd ed=>?_,λed=>?_⟩
    .simp only[jP,Gg,ia,e,decide_true,pj] at ed;cases ed;exact⟨v,by simp[l5,e],h1⟩
    .simp [jP,e] at ed
   .refine ⟨λd ed=>?_,λed=>?_⟩
    .have ed':jP ks ds k=aa d:=by simpa[jP,e] using ed
     obtain⟨u,eu,du⟩:=ih.1 d ed';exact⟨u,by simpa[l5,e] using eu,du⟩
    .have ed':jP ks ds k=af:=by simpa[jP,e] using ed
     simpa[l5,e] using ih.2 ed'
theorem VS(hN:X.N.Nodup)(hi:X.N[i]?=aa x:=by rfl)(hx:Loc X.env.scope x:=by walk_at "0")(hs:gb (.Dict [] [] p) (aa (.Name x pos')) pos.line X.env=pure ag:=by rfl)(hf:Zq X x:=by walk_at "0"):
  EN X (.Assign [.Name x pos'] (.Dict [] [] p) pos) (λE ρ=>E.nx (ρ.set i (.ow (.jA [] [])))):=lG (tH hN hi hx U5 hs hf) λB σ H ⟨H₀,S,w,ρ,G,E,hl,st,ht,ok⟩=>λp hp =>
 ok.nx _ _ _ _ (by rw[jd];exact hl) (st.IZ (d:=.jA [] []) (by rw[hl];exact jO hi) (aO hp) hp ⟨[],aQ,rfl,aP.nil⟩) ht
noncomputable def GP:D->Option Key
 |.int i=>aa (.inl i)
 |.str x=>aa (.inr x)
 |_=>af
theorem VT{K:aq}{S:ai->Prop}{H:Hp}{d:D}{v:V}{k:Key}(h:Dn K S H d v)(e:GP d=aa k):v=kV k:=by cases d<;>simp only[GP] at e<;>cases e<;>simp only[Dn] at h<;>exact h
def xg:F2:=λx y Q=>match x,GP y with
 |.jA ks ds,aa k=>(match jP ks ds k with|some d=>Q d|none=>False)
 |_,_=>False
theorem Lq{o i:ar}{pos:bh}{to ti:WE}(hu:X.A.units+1<cf)(ho:dA X o to)(hi:dA X i ti)(hs:IY i:=by intro _ _;rfl):dA X (.Subscript o i pos) (g6 xg to ti):=imp (aAM hu ho hi hs) λσ H Q Lp=>by
 obtain⟨S,ρ,Q3,fc,sl,ht,k⟩:=Lp;refine⟨S,ρ,_,fc,sl,ht,λv H1 d s1 d1 q1=>?_⟩;refine⟨S,ρ,_,bV fc s1,Sl.fits (.same s1) sl,q1,λu H2 d2 s2 DM q2=>?_⟩;unfold xg at q2;split at q2
 .rename_i ks ds kk ek;have d1':=Dn.fits (.same s2) _ _ d1;simp only[Dn] at d1';obtain⟨a,xs,rfl,ha,sa,hl,da⟩:=d1';split at q2
  .rename_i d3 e3;obtain⟨v3,ev,dv⟩:=(yO hl da).1 d3 e3;have eu:=VT DM ek;subst eu;refine⟨a,v3,rfl,?_,k v3 H2 d3 (s1.trans s2) dv q2⟩;have g:=OR.k (k:=kk) ha;rw[ev] at g;exact g
  .exact q2.elim
 .exact q2.elim
def Ts(i:Nat)(t:WX)(tk:WE):WS:=λE ρ=>t ρ λρ' d=>(match ρ'[i]? with|some (.ow (.jA _ _))=>True|_=>False)/\tk (bY ρ') λkd=>match ρ'[i]?,GP kd with
 |some (.ow (.jA ks ds)),aa k=>(jP ks ds k=af/\ds.length<bg)/\E.nx (ρ'.set i (.ow (.jA (ks++[k]) (ds++[d]))))
 |_,_=>False
theorem Tr{i:Nat}{x:ak}{e k:ar}{t:WX}{tk:WE}{pos pos' p:bh}(hu:X.A.units+1<cf)(he:HH X e t)(hk:dA X k tk)
  (hN:X.N[i]?=aa x:=by rfl) (hv:C4 X.env.scope x:=by walk_at "1") (hd:Zu x:=by decide) (hcd:Zt x:=by decide)
  (hs:gb e (aa (.Subscript (.Name x p) k pos')) pos.line X.env=pure ag:=by rfl):
  EN X (.Assign [.Subscript (.Name x p) k pos'] e pos) (Ts i t tk):=lG (aAN hu (pM hN hv hd hcd) hk he hs) λB σ H Lo=>by
 obtain⟨H₀,S,w,ρ,G,E,hl,st,ht,ok⟩:=Lo;refine⟨H₀,S,w,ρ,G,_,hl,st,ht,λw' v H' ρ' d st' d' q'=>?_⟩;obtain⟨q0,q'⟩:=q';split at q0
 .rename_i ks0 ds0 e0;obtain⟨a0,_,_⟩:=st'.own i _ e0;refine⟨_,a0,S,bY ρ',_,st'.YC,st'.all,q',λkv H2 dk s2 dk2 q2=>?_⟩;split at q2
  .rename_i ks ds kk e1 ek;have st2:=st'.same s2;obtain⟨a,b,c⟩:=st2.own i _ e1;obtain⟨xs,hp,hlen,dn⟩:=c;have eu:=VT dk2 ek;subst eu;have hno:=(yO (k:=kk) hlen dn).2 q2.1.1;have nS:¬ SO S w' ρ' (w' i):=λ⟨_,z⟩=>z i _ e1 rfl;have hz:(ks.zip xs).length<bg:=by rw[a2E,hlen,Nat.min_self,<- dn.len];exact q2.1.2
   have Ln:putK (ks.zip xs) kk v=(ks++[kk]).zip (xs++[v]):=by rw[U0 v hno,a2n hlen];rfl
   have F:Fits X.K (SO S w' ρ') (SO S w' ρ') H2 (upd H2 (w' i) (.dK (putK (ks.zip xs) kk v))):=.upd (.inr (.inl ⟨_,hp⟩)) nS;refine⟨w' i,_,rfl,U3.k hp hz,ok.nx w' σ _ _ hl (st2.write (d':=.jA (ks++[kk]) (ds++[d])) e1 ⟨xs++[v],?_,by simp[hlen],aP.fits F _ _ (dn.append (aP.one (Dn.fits (.same s2) _ _ d')))⟩) q2.2⟩;rw[aQ,Ln]
  .exact q2.elim
 .exact q0.elim
def Cu(i:Nat)(t:WE):WS:=λE ρ=>t (bY ρ) λd=>(match d with | .lst ds=>zJ ds=ae|_=>False)/\E.nx (ρ.set i (.ro d))
def Tq(hN:X.N.Nodup)(he:I0 X e t)(hi:X.N[i]?=aa x:=by rfl)(hx:Loc X.env.scope x:=by walk_at "0")(hs:Si X e x pos' pos:=by rfl)(hf:Zq X x:=by walk_at "0"):
  EN X (.Assign [.Name x pos'] e pos) (Cu i t):=lG (tH hN hi hx he hs hf) λB σ H Lm=>by
 obtain⟨H₀,S,w,ρ,G,E,hl,st,ht,ok⟩:=Lm;exact⟨_,bY ρ,_,st.YC,st.all,ht,λp xs H' ds hp hp' s' d' q'=>ok.nx w _ H' _ (by rw[jd];exact hl) ((st.same s').mU (d:=.lst ds) (by rw[hl];exact jO hi) (by simp only[Dn];exact⟨p,xs,rfl,hp',st.Q0 p hp,aP.EL q'.1 d'⟩)) q'.2⟩
def Xs(c:WT)(tb:WS):WS:=λE ρ=>∃(Inv:bO->Prop) (μ:bO->Nat),Inv ρ /\∀ρ',Inv ρ'->c (bY ρ') λb=>if b=ae then tb {E with nx:=λρ2=>Inv ρ2/\μ ρ2<μ ρ',ct:=λρ2=>Inv ρ2/\μ ρ2<μ ρ',bk:=E.nx} ρ' else E.nx ρ'
theorem Xr(hp:qv (ay X.prog X.w) X.A X.env X.xe)(hc:zG X c tc)(hb:uT X body tb):EN X (.While c body [] pos) (Xs tc tb):=lG (UJ hp hc hb) λB σ H Lj=>by
 obtain⟨H₀,S,w,ρ,G,E,hl,st,⟨Iv,μ,h0,turn⟩,ok⟩:=Lj;refine⟨λm σ H=>∃w ρ,σ.length=X.N.length/\ST X.K H₀ S w σ H ρ G/\Iv ρ/\m=μ ρ,⟨_,w,ρ,hl,st,h0,rfl⟩,?_⟩;rintro m σ2 H2 ⟨w2,ρ2,hl2,st2,iv,rfl⟩;refine⟨S,bY ρ2,_,st2.YC,st2.all,turn ρ2 iv,λb H3 s3 q3=>?_⟩
 cases b with
 |false=>rw[Zz bz] at q3 ⊢;exact ok.nx w2 σ2 H3 ρ2 hl2 (st2.same s3) q3
 |true =>
  rw[Z_ rfl] at q3 ⊢;refine⟨λσ' H'=>∃w ρ,σ'.length=X.N.length/\ST X.K H₀ S w σ' H' ρ G/\Iv ρ/\μ ρ<μ ρ2,λσ' H' ⟨w',ρ',hl',st',iv',hm⟩=>⟨_,hm,w',ρ',hl',st',iv',rfl⟩,?_⟩;exact⟨H₀,S,w2,ρ2,G,_,hl2,st2.same s3,q3,⟨λw' σ' H' ρ' hl' st' q=>⟨w',ρ',hl',st',q.1,q.2⟩,λv H' d s' d' q=>ok.rt v H' d s' d' q,λw' σ' H' ρ' hl' st' q=>ok.nx w' σ' H' ρ' hl' st' q,λw' σ' H' ρ' hl' st' q=>⟨w',ρ',hl',st',q.1,q.2⟩,ok.ex⟩⟩
noncomputable def xf:List D->D->(List D->D->Prop)->Prop
 |ds,.lst es,Q=>ds.length+es.length<=bg/\Q (ds++es) .non
 |_,_,_=>False
theorem Xq{K:aq}:M3 K MJ xf:=by
 intro S H p xs ds y d Q3 Q hp dn dy hf k
 cases d with
 |lst es =>
  simp only[Dn] at dy;obtain⟨b,zs,rfl,hb,sb,db⟩:=dy;exact⟨p,b,xs,zs,rfl,rfl,hp,hb,by rw[<- dn.len,<- db.len];exact hf.1,k _ _ _ _ (dn.append db) (by simp only[Dn]) hf.2⟩
 |_=>exact hf.elim
section
variable{i:Nat}{x:ak}{e:ar}{p apos cpos:bh}{t:WX}
def aA5(he:HH X e t)(hN:X.N[i]?=aa x:=by rfl)(hv:C4 X.env.scope x:=by walk_at "1")(hd:Zu x:=by decide)(hcd:Zt x:=by decide)
  (hbase:attributeBase (.Name x p) "extend" X.env (eval (.Name x p) X.env)=eval (.Name x p) X.env:=by rfl)
  (hfew:Zp X cpos e:=by rfl)
  (hline:Q0j apos cpos:=by rfl) (hs:Zs X e []:=by rfl):
  HH X (.Call (.Attribute (.Name x p) "extend" apos) [e] [] cpos) (ou i xf t):=m1 a1o PySem.F.type_list_extend ON Xq he hN hv hd hcd hbase hfew hline hs
end
end
section
variable{X:Cx}{pins:Q0b}{σ:L2.St}{H:Hp}{s:ao}{h':bb}
theorem turnT{t':Nat}{ch:List ai}{T:ai}{xs:List V}{its:Q0f}(I:Inv X pins σ H s)(k:∀b o,b∉ch->s.heap.get? b=aa o->h'.get? b=aa o)(hf:∀b∈ch,oB X pins H b)
  (hT:s.heap.objs.size<=T) (hv:Vals xs its) (hz:xs.length<=bg) (ht:g_ h' T its.toArray) (nd:EM h' T):Inv X pins σ (upd H T (.tup xs)) {s with heap:=h',toks:=t' }:=by
 have fr:H T=af:=I.hok.fresh hT;have nT:∀{b:ai} {o:aw},s.heap.get? b=aa o->b≠T:=λ{b} {o} e z=>ik _ (gc (b_ e) (z▸hT));have live:∀{b:ai} {u:HO},H b=aa u->b∉ch:=λ{b} {u} e z=>by rw[(hf _ z).1] at e;cases e
 refine I.call' (s':={s with heap:=h',toks:=t' }) (ch:=ch) rfl ⟨λb o e _ _ hx=>k b o hx e,λb o e _ _ hx=>⟨o.slots,k b o hx e⟩,λb o e n _=>by rw[aV (nT e)];exact n,λb o e hx=>⟨o,k b o hx e⟩,
  λb ys e=>by rw[aV (bG e fr)];exact e,λb o u e=>by rw[aV (bG e fr)];exact e,λb ps e=>by rw[aV (bG e fr),e]⟩ ?_ I.bare λb hb=>?_
 .intro b u e;by_cases hb:b=T
  .subst hb;rw[aQ] at e;cases e;exact⟨hz,its,hv,ht,nd⟩
  .rw [aV hb] at e;refine(I.hok b u e).stay (λc v hc q=>k c v ?_ q) (λc q=>by rw[aV (bG q fr)];exact q) (λc ys q=>by rw[aV (bG q fr)];exact q) λc o u q=>by rw[aV (bG q fr)];exact q
   rcases hc with rfl|hc
   .exact live e
   .exact live hc
 .obtain ⟨_,f1,_,f3,f4,f5⟩:=hf b hb;exact⟨f3,f1,f4,f5⟩
def GQ{t':Nat}{ch:List ai}(I:Inv X pins σ H s)(k:∀b o,b∉ch->s.heap.get? b=aa o->h'.get? b=aa o)(hf:∀b∈ch,oB X pins H b):Inv X pins σ H {s with heap:=h',toks:=t' }:=by
 have live:∀{b:ai} {u:HO},H b=aa u->b∉ch:=λ{b} {u} e z=>by rw[(hf _ z).1] at e;cases e
 refine I.call' (s':={s with heap:=h',toks:=t' }) (ch:=ch) rfl ⟨λb o e _ _ hx=>k b o hx e,λb o e _ _ hx=>⟨o.slots,k b o hx e⟩,λb o e n _=>n,λb o e hx=>⟨o,k b o hx e⟩,
  λb ys e=>e,λb o u e=>e,λb ps e=>e⟩ ?_ I.bare λb hb=>?_
 .intro b u e;refine(I.hok b u e).stay (λc v hc q=>k c v ?_ q) (λc q=>q) λc ys q=>q;rcases hc with rfl|hc
  .exact live e
  .exact live hc
 .obtain ⟨_,f1,_,f3,f4,f5⟩:=hf b hb;exact⟨f3,f1,f4,f5⟩
end
def Itp(go:Nat->Hp->Prop)(Y:Nat->Hp->List V->Prop)(stop:Nat->Hp->Prop):It:=⟨go,λi H x H'=>∃T vs,x=.ref T/\H T=af/\H'=upd H T (.tup vs)/\Y i H vs,stop⟩
def MO(P:bf)(w:ba)(A:bx)(it:ai)(wr:List ai)(n:Nat)(Pt:Nat->Array aj->Prop)(St:Nat->bb->Prop)(Mid:Nat->ai->bb->Prop):Prop :=
 ∀i (s:ao) (Q:Option aj->ao->Prop) (E:Q0c),i<n->St i s.heap ->
  (∀T vals h' tk,Pt i vals->s.heap.objs.size<=T->h'.IsTuple T vals->EM h' T->Mid i T h'->(∀b o,b∉wr->s.heap.get? b=aa o->h'.get? b=aa o)->Q (aa (.ref T)) {s with heap:=h',toks:=tk}) ->
  ax (ay P w) A (pyNext (.ref it)) Q E s
theorem pP{P:bf}{w:ba}{K:aq}{es:List ar}{kk:Nat}{tp:bh}{go:Nat->Hp->Prop}{Y:Nat->Hp->List V->Prop}{stop:Nat->Hp->Prop}{fp:List ai}{it:ai}{tn:Nat->bb->Prop}(mem:it∈fp)
  (obj:∀i h,tn i h ->∀b∈fp,∃o,h.get? b=aa o /\∀v,o.data≠.cell v) (keep:∀i h h',tn i h->(∀b∈fp,∀o,h.get? b=aa o->h'.get? b=aa o)->tn i h')
  (wk:∀(X:Cx),X.prog=P->X.w=w->X.K=K->X.calm=ae ->∀(i:Nat) (pins:Q0b) (s:ao) (σ:L2.St) (H:Hp),Inv X pins σ H s->tn i s.heap->go i H\/stop i H ->
   ∃fp2 wr n Pt St Mid,(WalksT P w X.A it fp2 wr n Pt St Mid/\MO P w X.A it wr n Pt St Mid)/\St i s.heap/\(∀b∈wr,b∈fp)/\(∀h,St (i+1) h->tn (i+1) h) /\
    (go i H->i<n /\∀vals,Pt i vals ->∃vs,vs.length<=bg/\Vals vs vals.toList/\Y i H vs)/\(stop i H->i=n))
  (self:∀(A:bx) (i:Nat) (s:ao) (Q:Q0c) (E:Q0c),tn i s.heap->Q (.ref it) s->ax (ay P w) A (pyIter (.ref it)) Q E s):
  Turn P w K (.Tuple es kk tp) (Itp go Y stop) fp it tn where
 mem:=mem
 obj:=obj
 keep:=keep
 self:=self
 item:=by intro X hP hw hK hc i pins s σ H E I hf st hg;obtain⟨fp2,wr,n,Pt,St,Mid,⟨W,J2⟩,hs,sub,nx,ok,_⟩:=wk X hP hw hK hc i pins s σ H I st (.inl hg);obtain⟨hi,ok⟩:=ok hg;refine J2 i s _ _ hi hs λT vals h1 tk hp hT ht nd hm k1=>⟨.ref T,rfl,W.go es kk tp i T _ _ _ hm λh2 s2 k2=>?_⟩;obtain⟨vs,hz,hv,hy⟩:=ok vals hp;obtain⟨o,eo,c,d⟩:=ht;have ht2:g_ h2 T vals.toList.toArray:=⟨o,k2 T o (W.apart i T _ hm) eo,c,by simpa using d⟩;have I2:Inv X pins σ (upd H T (.tup vs)) {s with heap:=h2,toks:=tk}:=turnT (t':=tk) (ch:=wr) I (λb o hb e=>k2 b o hb (k1 b o hb e)) (λb hb=>hf b (sub b hb)) hT hv hz ht2 (nd.at eo (k2 T o (W.apart i T _ hm) eo));refine⟨.ref T,upd H T (.tup vs),I2,rfl,⟨T,vs,rfl,I.hok.fresh hT,rfl,hy⟩,nx h2 s2,λb hb=>?_⟩;obtain⟨ob,eb,_⟩:=obj _ _ st b hb;have nb:b≠T:=λz=>ik _ (gc (b_ eb) (z▸hT));rw[aV nb];exact(hf b hb).1
 done:=by intro X hP hw hK hc i pins s σ H E I hf st hg;obtain⟨fp2,wr,n,Pt,St,Mid,⟨W,_⟩,hs,sub,nx,_,ok⟩:=wk X hP hw hK hc i pins s σ H I st (.inr hg);obtain rfl:=ok hg;exact W.done s _ _ hs λh2 tk k2=>⟨rfl,GQ (t':=tk) (ch:=wr) I k2 λb hb=>hf b (sub b hb)⟩
def Iel(K:aq)(l:ai):It:=Itp (λi H=>∃xs v,dW K H l xs/\xs[i]?=aa v) (λi H vs=>∃v,vs=[.int i,v] /\∀xs,dW K H l xs->xs[i]?=aa v) (λi H=>∃xs,dW K H l xs/\xs.length=i)
def Iet(K:aq)(l:ai):It:=Itp (λi H=>∃xs v,fB K H l xs/\xs[i]?=aa v) (λi H vs=>∃v,vs=[.int i,v] /\∀xs,fB K H l xs->xs[i]?=aa v) (λi H=>∃xs,fB K H l xs/\xs.length=i)
def rG:[V.int 0,V.int 0].length<=bg:=by rw[gr];decide
theorem GR(e it l:ai)(hei:e≠it)(hle:l≠e)(hli:l≠it)(items:Array aj):MO prog w A e [e,it] items.size (λi vals=>∃t x,items[i]?=aa x/\vals=#[.int i t,x])
  (λi h=>(∃old,uo h e it i old)/\h.IsListIter it l i/\h.IsList l items) (λi T h=>(∃x,IsEnumOut h e it ((i:Int)+1) x T)/\h.IsListIter it l (i+1)/\h.IsList l items/\T≠e/\T≠it):=by
 intro i s Q E hi ⟨⟨old,a1⟩,a2,a3⟩ q;have ix:items[i]?=aa items[i]:=kz hi;refine wpAny_pyNext_enum_item a1 a2 a3 ix hei λg b1 b2 b3 _ kp=>?_;have l1:e<s.heap.objs.size:=b_ a1;have l2:it<s.heap.objs.size:=by obtain⟨_,y,_⟩:=a2;exact b_ y
 refine q s.heap.objs.size #[.int i s.toks,items[i]] g (s.toks+1) ⟨_,_,ix,rfl⟩ (bj _) ⟨_,b3,rfl,_,rfl⟩ (EM.is b3 rfl) ⟨⟨_,b1⟩,b2,a3.at λo y=>kp l o hle hli y,i_ l1,i_ l2⟩ λb o hb y=>?_;simp only[cb,oh,or_false,not_or] at hb;exact kp b o hb.1 hb.2 y
theorem GS{prog:bf}{w:ba}{A:bx}{it:ai}{fp:List ai}{n:Nat}{P:Nat->aj->Prop}{St:Nat->bb->Prop}(D:Draws prog w A.in1 it fp n P St)(e:ai)(hei:e≠it)(hef:e∉fp):
  MO prog w A e [e,it] n (λi vals=>∃t x,P i x/\vals=#[.int i t,x]) (λi h=>(∃old,uo h e it i old)/\St i h) (λi T h=>(∃x,IsEnumOut h e it ((i:Int)+1) x T)/\St (i+1) h/\T≠e/\T≠it):=by
 intro i s Q E hi ⟨⟨old,a1⟩,a2⟩ q;refine wpAny_pyNext_enum_itemD D a1 a2 hi hei hef λx g tk px b1 b2 b3 _ kp=>?_;have l1:e<s.heap.objs.size:=b_ a1;have l2:it<s.heap.objs.size:=by obtain⟨_,y⟩:=D.live _ _ a2;exact b_ y
 refine q s.heap.objs.size #[.int i tk,x] g (tk+1) ⟨_,_,px,rfl⟩ (bj _) ⟨_,b3,rfl,_,rfl⟩ (EM.is b3 rfl) ⟨⟨_,b1⟩,b2,i_ l1,i_ l2⟩ λb o hb y=>?_;simp only[cb,oh,or_false,not_or] at hb;exact kp b o hb.1 hb.2 y
theorem JG(z TI TO i1 i2 l1 l2:ai)(D:ZipApart z TI TO i1 i2 l1 l2)(xs ys:Array aj):
  MO prog w A z [z,TO,i1,i2] (min xs.size ys.size) (λi vals=>∃x y,xs[i]?=aa x/\ys[i]?=aa y/\vals=#[x,y])
   (λi h=>IsZip h z TI TO .none/\qx h TI (.ref i1) (.ref i2)/\(∃a b,qx h TO a b)/\h.IsListIter i1 l1 i/\h.IsListIter i2 l2 i/\h.IsList l1 xs/\h.IsList l2 ys)
   (λi T h=>IsZip h z TI TO (rawInt T)/\qx h TI (.ref i1) (.ref i2)/\(∃a b,qx h TO a b)/\h.IsListIter i1 l1 (i+1)/\h.IsListIter i2 l2 (i+1)/\h.IsList l1 xs/\h.IsList l2 ys/\T≠z/\T≠TO/\T≠i1/\T≠i2):=by
 intro i s Q E hi ⟨a1,a2,⟨x,y,a3⟩,a4,a5,a6,a7⟩ q;have n1:i<xs.size:=by omega
 have n2:i<ys.size:=by omega
 refine wpAny_pyNext_zip_item D a1 a2 a3 a4 a5 a6 a7 (kz n1) (kz n2) λg b1 b2 b3 b4 b5 _ kp=>?_;have fresh:∀{c:ai} {o:aw},s.heap.get? c=aa o->s.heap.objs.size≠c:=λe=>i_ (b_ e);refine q s.heap.objs.size #[xs[i],ys[i]] g s.toks ⟨_,_,kz n1,kz n2,rfl⟩ (bj _) ⟨_,b5,rfl,_,rfl⟩ (EM.is b5 rfl)
  ⟨b1,kp _ _ D.TIz D.TITO D.TIi1 D.TIi2 a2,⟨_,_,b2⟩,b3,b4,a6.at λo e=>kp _ o D.l1z D.l1TO D.l1i1 D.l1i2 e,a7.at λo e=>kp _ o D.l2z D.l2TO D.l2i1 D.l2i2 e,fresh a1,fresh a3,(by obtain⟨_,e,_⟩:=a4;exact fresh e),(by obtain⟨_,e,_⟩:=a5;exact fresh e)⟩ λb o hb e=>?_
 simp only[cb,oh,or_false,not_or] at hb;exact kp b o hb.1 hb.2.1 hb.2.2.1 hb.2.2.2 e
theorem JH{P:bf}{w:ba}{K:aq}{es:List ar}{kk:Nat}{tp:bh}{e it l:ai}(hei:e≠it)(hle:l≠e)(hli:l≠it):
  Turn P w K (.Tuple es kk tp) (Iel K l) [e,it] e (λi h=>(∃old,uo h e it i old)/\h.IsListIter it l i):=by
 refine pP (by simp) (λi h st b hb=>?_) (λi h h2 st k=>?_) (λX hP hw hK hc i pins s σ H I st hg=>?_) (λA i s Q E st q=>?_)
 .obtain ⟨⟨old,a⟩,o,c,d1,d2⟩:=st;rcases cb.mp hb with rfl|hq
  .exact ⟨_,a,λv z=>by cases z⟩
  .rw [cp.mp hq];exact⟨o,c,λv z=>by rw[d2] at z;cases z⟩
 .obtain ⟨⟨old,a⟩,b⟩:=st;exact⟨⟨old,k e (by simp) _ a⟩,b.at λo q=>k it (by simp) o q⟩
 .subst hP hw hK;have hq:∃xs,dW X.K H l xs:=by rcases hg with⟨xs,_,a,_⟩|⟨xs,a,_⟩<;>exact⟨xs,a⟩
  obtain⟨xs,hq⟩:=hq;obtain⟨its,rv,p,hz⟩:=I.list hq;have hl:=rv.length;refine⟨_,_,_,_,_,_,⟨WalksT.enumerate (I.ok.hd hc) e it l hei hle hli its.toArray,GR e it l hei hle hli its.toArray⟩,⟨st.1,st.2,p.isList⟩,λb hb=>hb,λh q=>⟨q.1,q.2.1⟩,λg=>?_,λg=>?_⟩
  .obtain ⟨ys,v,hy,hv⟩:=g;obtain rfl:=I.fG hy hq;obtain⟨u,hu,ru⟩:=rv.get hv;have hlt:i<ys.length:=(cq.mp hv).1;refine⟨by rw[cu,<- hl];exact hlt,λvals q=>?_⟩;obtain⟨t,x,hx,rfl⟩:=q;have ex:x=u:=by
    have:its[i]?=aa x:=by simpa using hx
    rw[hu] at this;exact(dg this).symm
   subst ex;exact⟨[.int i,v],rG,.cons ⟨t,rfl⟩ (.cons ru .nil),v,rfl,λzs hzs=>by rw[I.fG hzs hq];exact hv⟩
  .obtain ⟨ys,hy,e2⟩:=g;obtain rfl:=I.fG hy hq;rw[cu,<- hl,e2]
 .obtain ⟨⟨old,a⟩,b⟩:=st;exact yo a q
def Izl(K:aq)(l m:ai):It:=Itp (λi H=>∃xs ys v u,dW K H l xs/\dW K H m ys/\xs[i]?=aa v/\ys[i]?=aa u) (λi H vs=>∃v u,vs=[v,u]/\(∀xs,dW K H l xs->xs[i]?=aa v) /\∀ys,dW K H m ys->ys[i]?=aa u)
 (λi H=>∃xs ys,dW K H l xs/\dW K H m ys/\min xs.length ys.length=i)
theorem VU{P:bf}{w:ba}{K:aq}{es:List ar}{kk:Nat}{tp:bh}{z TI TO i1 i2 l m:ai}(D:ZipApart z TI TO i1 i2 l m):
  Turn P w K (.Tuple es kk tp) (Izl K l m) [z,TI,TO,i1,i2] z (λi h=>IsZip h z TI TO .none/\qx h TI (.ref i1) (.ref i2)/\(∃a b,qx h TO a b)/\h.IsListIter i1 l i/\h.IsListIter i2 m i):=by
 refine pP (by simp) (λi h st b hb=>?_) (λi h h2 st k=>?_) (λX hP hw hK hc i pins s σ H I st hg=>?_) (λA i s Q E st q=>?_)
 .obtain ⟨a1,a2,⟨x,y,a3⟩,⟨o4,c4,_,d4⟩,o5,c5,_,d5⟩:=st;simp only[cb,or_false,oh] at hb;rcases hb with rfl|rfl|rfl|rfl|rfl
  .exact ⟨_,a1,λv z=>by cases z⟩
  .exact ⟨_,a2,λv z=>by cases z⟩
  .exact ⟨_,a3,λv z=>by cases z⟩
  .exact ⟨o4,c4,λv z=>by rw[d4] at z;cases z⟩
  .exact ⟨o5,c5,λv z=>by rw[d5] at z;cases z⟩
 .obtain ⟨a1,a2,⟨x,y,a3⟩,a4,a5⟩:=st;exact⟨k z (by simp) _ a1,k TI (by simp) _ a2,⟨x,y,k TO (by simp) _ a3⟩,a4.at λo q=>k i1 (by simp) o q,a5.at λo q=>k i2 (by simp) o q⟩
 .subst hP hw hK;have hq:∃xs ys,dW X.K H l xs/\dW X.K H m ys:=by rcases hg with⟨xs,ys,_,_,a,b,_⟩|⟨xs,ys,a,b,_⟩<;>exact⟨xs,ys,a,b⟩
  obtain⟨xs,ys,hq,hq2⟩:=hq;obtain⟨its,rv,p,hz⟩:=I.list hq;obtain⟨its2,rv2,p2,hz2⟩:=I.list hq2;have hl:=rv.length;have hl2:=rv2.length;refine⟨_,_,_,_,_,_,⟨WalksT.zip2 (I.ok.hd hc) z TI TO i1 i2 l m D its.toArray its2.toArray,JG z TI TO i1 i2 l m D its.toArray its2.toArray⟩,⟨st.1,st.2.1,st.2.2.1,st.2.2.2.1,st.2.2.2.2,p.isList,p2.isList⟩,λb hb=>?_,λh q=>⟨q.1,q.2.1,q.2.2.1,q.2.2.2.1,q.2.2.2.2.1⟩,λg=>?_,λg=>?_⟩
  .simp only[cb,oh,or_false] at hb ⊢;rcases hb with rfl|rfl|rfl|rfl<;>simp
  .obtain ⟨x',y',v,u,hy,hy2,hv,hu⟩:=g;obtain rfl:=I.fG hy hq;obtain rfl:=I.fG hy2 hq2;obtain⟨r,er,rr⟩:=rv.get hv;obtain⟨r2,er2,rr2⟩:=rv2.get hu;have hlt:i<x'.length:=(cq.mp hv).1;have hlt2:i<y'.length:=(cq.mp hu).1;refine⟨by rw[cu,cu,<- hl,<- hl2];omega,λvals q=>?_⟩;obtain⟨x,y,hx,hy',rfl⟩:=q;have ex:x=r:=by
    have:its[i]?=aa x:=by simpa using hx
    rw[er] at this;exact(dg this).symm
   have ey:y=r2:=by
    have:its2[i]?=aa y:=by simpa using hy'
    rw[er2] at this;exact(dg this).symm
   subst ex ey;exact⟨[v,u],rG,.cons rr (.cons rr2 .nil),v,u,rfl,λzs hzs=>by rw[I.fG hzs hq];exact hv,λzs hzs=>by rw[I.fG hzs hq2];exact hu⟩
  .obtain ⟨x',y',hy,hy2,e2⟩:=g;obtain rfl:=I.fG hy hq;obtain rfl:=I.fG hy2 hq2;rw[cu,cu,<- hl,<- hl2,e2]
 .exact a0k st.1 q
section
variable{prog:bf}{w:ba}{A:bx}{E:Q0c}{s:ao}
theorem VV(hit:s.heap.IsTupleIter it t i)(ht:s.heap.IsTuple t items)(hx:items[i]?=aa x)
  (hQ:∀h',h'.IsTupleIter it t (i+1)->nz it s.heap h'->Q x {s with heap:=h' }):ax (ay prog w) A (a1P (.ref it)) Q E s:=by
 obtain⟨⟨ol,hol,_,nl,hdl⟩,o,ho,hc,hd⟩:=Ag ht hit;refine av (m:=callSpecial? _ _) (qp hit.typeIs zd (jh zd hit.typeIs a1y ?_ (a1E _)));refine av (m:=field _ 0) (oy ho hd (x:=.ref t) rfl ?_);show ax _ _ (if ag=ae then _ else _) _ _ s;rw[Zz bz];refine av (m:=field _ 1) (oy ho hd (x:=.int i 0) rfl (av (m:=seqItems? _) (Ee hol hdl ?_)));simp only[hx,jf];refine av (a0h ho hd (by simp) (az ⟨x,rfl,az (hQ _ ⟨_,ur _ ho (a1f (a1g hd _)),(Obj.cls_mapFields ..).trans hc,?_⟩ (q_ ..))⟩));rw[a1g hd];simp[rawInt]
theorem O2(hh:A.handled=af)(hit:s.heap.IsTupleIter it t i)(ht:s.heap.IsTuple t items)(hx:items[i]?=af)
  (hE:∀h' e,a1k it s.heap h'->(∃o,h'.get? e=aa o/\o.cls=.type "StopIteration")->E (.ref e) {s with heap:=h' }):ax (ay prog w) A (a1P (.ref it)) Q E s:=by
 obtain⟨⟨ol,hol,_,nl,hdl⟩,o,ho,hc,hd⟩:=Ag ht hit;refine av (m:=callSpecial? _ _) (qp hit.typeIs zd (jh zd hit.typeIs a1y ?_ (a1E _)));refine av (m:=field _ 0) (oy ho hd (x:=.ref t) rfl ?_);show ax _ _ (if ag=ae then _ else _) _ _ s;rw[Zz bz];refine av (m:=field _ 1) (oy ho hd (x:=.int i 0) rfl (av (m:=seqItems? _) (Ee hol hdl ?_)));simp only[hx,jf];refine av (mq (av (m:=setField _ _ _) (a0h ho hd (by simp) ?_)));have YD:A.in1.handled=af:=hh
 wp_walk
 unfold raiseNew;apply av;apply a0o;rw[YD];exact av (az (a0d (hE _ _ (((q_ ..).extBut.push _).push _) ⟨_,f_ _ rfl,rfl⟩)))
theorem Xp(hh:A.handled=af)(it t:ai)(hne:t≠it)(items:Array aj):Draws prog w A it [it,t] items.size (λi v=>items[i]?=aa v) (λi h=>h.IsTupleIter it t i/\h.IsTuple t items) where
 live:=λi h st=>by obtain⟨⟨o,ho,_⟩,_⟩:=st;exact⟨o,ho⟩
 frame:=λi h h' st k=>by obtain⟨⟨o,ho,r⟩,o2,ho2,r2⟩:=st;exact⟨⟨o,k it (by simp) o ho,r⟩,o2,k t (by simp) o2 ho2,r2⟩
 item:=λi s Q E hi st q=>VV st.1 st.2 (x:=items[i]) (kz hi) λh' a b=>q _ h' s.toks (kz hi) ⟨a,st.2.extBut b.extBut hne⟩ b
 done:=λs Q E st q=>O2 hh st.1 st.2 (a3f (bj _)) q
theorem O4(l:ai)(items:Array aj):Meets (Builtin.«enumerate.__new__» ⟨[.type "enumerate",.ref l],[]⟩) (λ_ R s=>s.heap.IsTuple l items /\
  R (.ok (.ret (.ref (s.heap.push {cls:=.type "tuple_iterator",data:=.fields #[.ref l,.int 0 0]}).objs.size))) {s with heap:=(s.heap.push {cls:=.type "tuple_iterator",data:=.fields #[.ref l,.int 0 0]}).push {cls:=.type "enumerate",data:=.fields #[.none,.bool ag,.ref s.heap.objs.size,rawInt 0,.none,.none]} }):=by
 refine .of_wp λp0 w0 A0 R0 s h=>?_;obtain⟨hl,h⟩:=h;obtain⟨hp0,g0,d,tk,os⟩:=s;have hsub:=sub_enumerate
 wp_walk using ui hl
 refine wpAny_stack_any λ_=>az ?_;split<;>first
  | (rename_i c _ _ _ _ _;cases (c == ny "enumerate")<;>(wp_walk using ui hl;exact⟨_,rfl,h⟩))
  | (wp_walk using ui hl;exact⟨_,rfl,h⟩)
theorem JI(hT:s.heap.IsTuple l items)
  (h:∀h',uo h' (s.heap.objs.size+1) s.heap.objs.size 0 .none->h'.IsTupleIter s.heap.objs.size l 0->(∀b o,s.heap.get? b=aa o->h'.get? b=aa o)->Q (.ref (s.heap.objs.size+1)) {s with heap:=h' }):ax (ay prog w) A (call (.type "enumerate") [.ref l]) Q E s:=by
 refine callType_new F.called_enumerate (by decide) (F.typeCall_enumerate_1 _) (F.newCall_enumerate_1 _) (λobj=>F.args_object_init_2 obj _) F.entry_enumerate_new (O4 l items) ⟨hT,?_⟩;generalize hh1:s.heap.push {cls:=.type "tuple_iterator",data:=.fields #[.ref l,.int 0 0]}=h1;have e1:h1.objs.size=s.heap.objs.size+1:=by rw[<- hh1,qz]
 have g1:h1.get? s.heap.objs.size=aa {cls:=.type "tuple_iterator",data:=.fields #[.ref l,.int 0 0]}:=by rw[<- hh1];exact f_ _ rfl
 have k1:∀b o,s.heap.get? b=aa o->h1.get? b=aa o:=λb o e=>by rw[<- hh1];exact di _ e
 generalize YD:h1.push {cls:=.type "enumerate",data:=.fields #[.none,.bool ag,.ref s.heap.objs.size,rawInt 0,.none,.none]}=h2;have g2:h2.get? h1.objs.size=aa {cls:=.type "enumerate",data:=.fields #[.none,.bool ag,.ref s.heap.objs.size,rawInt 0,.none,.none]}:=by rw[<- YD];exact f_ _ rfl
 have k2:∀b o,h1.get? b=aa o->h2.get? b=aa o:=λb o e=>by rw[<- YD];exact di _ e
 refine⟨⟨_,g2,rfl⟩,?_⟩;rw[e1] at g2 ⊢;exact h h2 g2 ⟨_,k2 _ _ g1,rfl,rfl⟩ λb o e=>k2 b o (k1 b o e)
end
theorem JJ{P:bf}{w:ba}{K:aq}{es:List ar}{kk:Nat}{tp:bh}{e it l:ai}(hei:e≠it)(hle:l≠e)(hli:l≠it):
  Turn P w K (.Tuple es kk tp) (Iet K l) [e,it] e (λi h=>(∃old,uo h e it i old)/\h.IsTupleIter it l i):=by
 refine pP (by simp) (λi h st b hb=>?_) (λi h h2 st k=>?_) (λX hP hw hK hc i pins s σ H I st hg=>?_) (λA i s Q E st q=>?_)
 .obtain ⟨⟨old,a⟩,o,c,d1,d2⟩:=st;rcases cb.mp hb with rfl|hq
  .exact ⟨_,a,λv z=>by cases z⟩
  .rw [cp.mp hq];exact⟨o,c,λv z=>by rw[d2] at z;cases z⟩
 .obtain ⟨⟨old,a⟩,o,b,r⟩:=st;exact⟨⟨old,k e (by simp) _ a⟩,o,k it (by simp) o b,r⟩
 .subst hP hw hK;have hq:∃xs,fB X.K H l xs:=by rcases hg with⟨xs,_,a,_⟩|⟨xs,a,_⟩<;>exact⟨xs,a⟩
  obtain⟨xs,hq⟩:=hq;obtain⟨its,rv,p,hz⟩:=I.tuple hq;have hl:=rv.length;have D:Draws X.prog X.w X.A.in1 it [it,l] its.toArray.size (λi v=>its.toArray[i]?=aa v) (λi h=>h.IsTupleIter it l i/\h.IsTuple l its.toArray):=Xp (show X.A.in1.handled=af from I.ok.hd hc) it l hli its.toArray;have hef:e∉[it,l]:=λz=>by
   rcases cb.mp z with z1|z1
   .exact hei z1
   .exact hle (cp.mp z1).symm
  refine⟨_,_,_,_,_,_,⟨WalksT.enumerateD D e hei hef (by simp),GS D e hei hef⟩,⟨st.1,st.2,p⟩,λb hb=>hb,λh q=>⟨q.1,q.2.1⟩,λg=>?_,λg=>?_⟩
  .obtain ⟨ys,v,hy,hv⟩:=g;obtain rfl:=I.iL hy hq;obtain⟨u,hu,ru⟩:=rv.get hv;have hlt:i<ys.length:=(cq.mp hv).1;refine⟨by rw[cu,<- hl];exact hlt,λvals q=>?_⟩;obtain⟨t,x,hx,rfl⟩:=q;have ex:x=u:=by
    have:its[i]?=aa x:=by simpa using hx
    rw[hu] at this;exact(dg this).symm
   subst ex;exact⟨[.int i,v],rG,.cons ⟨t,rfl⟩ (.cons ru .nil),v,rfl,λzs hzs=>by rw[I.iL hzs hq];exact hv⟩
  .obtain ⟨ys,hy,e2⟩:=g;obtain rfl:=I.iL hy hq;rw[cu,<- hl,e2]
 .obtain ⟨⟨old,a⟩,b⟩:=st;exact yo a q
section
variable{X:Cx}{es:List ar}{kk:Nat}{tp:bh}
def aA6{a:ar}{ta:TA}{p pos:bh}(hg:Gl X "enumerate")(hm:X.mg "enumerate"=af)(ha:PA X [a] ta)(hs:au [a] X.env=[(ag,eval a X.env)]:=by rfl):
  PI X (.Tuple es kk tp) (.Call (.Name "enumerate" p) [a] [] pos) (λσ H R=>ta σ H λvs H1=>∃l,vs=[.ref l]/\(((∃xs,dW X.K H1 l xs)/\R (Iel X.K l) H1)\/((∃xs,fB X.K H1 l xs)/\R (Iet X.K l) H1))):=by
 intro pins s σ H R I h;refine uw (mQ I hg hm boot_enumerate (rh (d8 (ha pos pins s σ H _ I h) λus s1 ⟨vs,H1,I1,r1,q1⟩=>?_) hs rfl));obtain⟨l,e,q⟩:=q1;subst e;obtain⟨u,rfl,ru⟩:=vals1 r1;cases ru;have fo:∀b∈[s1.heap.objs.size+1,s1.heap.objs.size],oB X pins H1 b:=λb hb=>by
  have hle:s1.heap.objs.size<=b:=by
   simp only[cb,or_false,oh] at hb;rcases hb with rfl|rfl
   .exact mv _
   .exact bj _
  exact I1.C6 hle (I1.hok.fresh hle)
 rcases q with⟨⟨xs,hq⟩,q⟩|⟨⟨xs,hq⟩,q⟩
 .obtain ⟨its,rv,pl,hz⟩:=I1.list hq;have hlt:l<s1.heap.objs.size:=by obtain⟨o,n,e,_⟩:=pl;exact b_ e
  refine call_enumerate_list pl.isList λh' he hi hsz hk=>yo he ?_;exact⟨s1.heap.objs.size+1,_,_,_,H1,rfl,I1.kept (t':=s1.toks) hk,JH (a2g _) (fv (rk hlt)) (fv hlt),⟨⟨_,he⟩,hi⟩,fo,q⟩
 .obtain ⟨its,rv,pl,hz⟩:=I1.tuple hq;have hlt:l<s1.heap.objs.size:=pl.lt;refine JI (items:=its.toArray) pl λh' he hi hk=>yo he ?_;exact⟨s1.heap.objs.size+1,_,_,_,H1,rfl,I1.kept (t':=s1.toks) hk,JJ (a2g _) (fv (rk hlt)) (fv hlt),⟨⟨_,he⟩,hi⟩,fo,q⟩
def Xo{a b:ar}{ta:TA}{p pos:bh}(hg:Gl X "zip")(hm:X.mg "zip"=af)(ha:PA X [a,b] ta)(hs:au [a,b] X.env=[(ag,eval a X.env),(ag,eval b X.env)]:=by rfl)(hs2:au [b] X.env=[(ag,eval b X.env)]:=by rfl):
  PI X (.Tuple es kk tp) (.Call (.Name "zip" p) [a,b] [] pos) (λσ H R=>ta σ H λvs H1=>∃l m xs ys,vs=[.ref l,.ref m]/\dW X.K H1 l xs/\dW X.K H1 m ys/\R (Izl X.K l m) H1):=by
 intro pins s σ H R I h;refine uw (mQ I hg hm boot_zip (rh (d8 (ha pos pins s σ H _ I h) λus s1 ⟨vs,H1,I1,r1,q1⟩=>?_) (by rw[hs,hs2]) (by rw[hs2];rfl)));obtain⟨l,m,xs,ys,e,hq,hq2,q⟩:=q1;subst e;obtain⟨u,u2,rfl,ru,ru2⟩:=vals2 r1;cases ru;cases ru2;obtain⟨its,rv,pl,hz⟩:=I1.list hq;obtain⟨its2,rv2,pl2,hz2⟩:=I1.list hq2;have hlt:l<s1.heap.objs.size:=by obtain⟨o,n,e,_⟩:=pl;exact b_ e
 have hlt2:m<s1.heap.objs.size:=by obtain⟨o,n,e,_⟩:=pl2;exact b_ e
 refine call_zip_2 pl.isList pl2.isList λh' hZ Jd Jc hi1 hi2 hsz hk=>a0k hZ ?_;refine⟨s1.heap.objs.size+4,_,_,_,H1,rfl,I1.kept (t':=s1.toks) hk,VU (zipApart_new hlt hlt2),⟨hZ,Jd,⟨_,_,Jc⟩,hi1,hi2⟩,λb hb=>?_,q⟩;have hle:s1.heap.objs.size<=b:=by
  simp only[cb,or_false,oh] at hb;rcases hb with rfl|rfl|rfl|rfl|rfl
  .exact ma _ 4
  .exact ma _ 2
  .exact ma _ 3
  .exact bj _
  .exact ma _ 1
 exact I1.C6 hle (I1.hok.fresh hle)
def uH(ds:List D):List D:=ds.zipIdx.map λp=>.tup [.int (p.2:Int),p.1]
def VW(a b:List D):List D:=(a.zip b).map λp=>.tup [p.1,p.2]
theorem BK{ds:List D}{i:Nat}{d:D}(h:(uH ds)[i]?=aa d):∃d0,ds[i]?=aa d0/\d=.tup [.int (i:Int),d0]:=by
 unfold uH at h;rw[ck,vq] at h
 cases q:ds[i]? with
 |none=>rw[q] at h;cases h
 |some d0 =>
  rw[q] at h;simp at h;exact⟨d0,rfl,h.symm⟩
theorem VX{a b:List D}{i:Nat}{d:D}(h:(VW a b)[i]?=aa d):∃x y,a[i]?=aa x/\b[i]?=aa y/\d=.tup [x,y]:=by
 unfold VW at h;rw[ck] at h
 cases q:(a.zip b)[i]? with
 |none=>rw[q] at h;cases h
 |some xy =>
  rw[q] at h;obtain⟨h1,h2⟩:=qf.mp q;exact⟨xy.1,xy.2,h1,h2,(dg h).symm⟩
def DP{K:aq}{S:ai->Prop}{H:Hp}{T:ai}{x y:V}{dx dy:D}(fr:H T=af)(hx:Dn K S H dx x)(hy:Dn K S H dy y):Dn K S (upd H T (.tup [x,y])) (.tup [dx,dy]) (.ref T):=by simp only[Dn];exact⟨T,[x,y],rfl,aQ,aP.fits (.same (aO fr)) _ _ (aP.cons hx (aP.one hy))⟩
theorem O5{K:aq}{a:ai}{ds:List D}:Wlk K (Iel K a) (uH ds) [(.lst ds,.ref a)] where
 go:=λS H fc hg i d e=>by have h:=hg _ (cp.mpr rfl);simp only[Dn] at h;obtain⟨b,xs,eb,hb,sb,dn⟩:=h;injection eb with eb;subst eb;obtain⟨d0,e0,rfl⟩:=BK e;obtain⟨v,ev,dv⟩:=dn.get e0;refine⟨⟨xs,v,dW.of hb,ev⟩,λx H' y=>?_⟩;obtain⟨T,vs,rfl,fr,rfl,v',rfl,hy⟩:=y;have ex:=hy xs (dW.of hb);rw[ev] at ex;cases ex;exact⟨aO fr,DP fr (by simp only[Dn]) dv⟩
 stop:=λS H hg i hi=>by have h:=hg _ (cp.mpr rfl);simp only[Dn] at h;obtain⟨b,xs,eb,hb,sb,dn⟩:=h;injection eb with eb;subst eb;exact⟨xs,dW.of hb,by rw[<- dn.len,<- hi];simp[uH]⟩
theorem O6{K:aq}{a:ai}{ds:List D}:Wlk K (Iet K a) (uH ds) [(.tup ds,.ref a)] where
 go:=λS H fc hg i d e=>by have h:=hg _ (cp.mpr rfl);simp only[Dn] at h;obtain⟨b,xs,eb,hb,dn⟩:=h;injection eb with eb;subst eb;obtain⟨d0,e0,rfl⟩:=BK e;obtain⟨v,ev,dv⟩:=dn.get e0;refine⟨⟨xs,v,(fB.of hb),ev⟩,λx H' y=>?_⟩;obtain⟨T,vs,rfl,fr,rfl,v',rfl,hy⟩:=y;have ex:=hy xs (fB.of hb);rw[ev] at ex;cases ex;exact⟨aO fr,DP fr (by simp only[Dn]) dv⟩
 stop:=λS H hg i hi=>by have h:=hg _ (cp.mpr rfl);simp only[Dn] at h;obtain⟨b,xs,eb,hb,dn⟩:=h;injection eb with eb;subst eb;exact⟨xs,(fB.of hb),by rw[<- dn.len,<- hi];simp[uH]⟩
theorem aA7{K:aq}{a c:ai}{ds es:List D}:Wlk K (Izl K a c) (VW ds es) [(.lst ds,.ref a),(.lst es,.ref c)] where
 go:=λS H fc hg i d e=>by have h:=hg (.lst ds,.ref a) (by simp);have h2:=hg (.lst es,.ref c) (by simp);simp only[Dn] at h h2;obtain⟨b,xs,eb,hb,sb,dn⟩:=h;obtain⟨b2,ys,eb2,hb2,sb2,DM⟩:=h2;injection eb with eb;injection eb2 with eb2;subst eb eb2;obtain⟨x0,y0,e0,e1,rfl⟩:=VX e;obtain⟨v,ev,dv⟩:=dn.get e0;obtain⟨u,eu,du⟩:=DM.get e1;refine⟨⟨xs,ys,v,u,dW.of hb,dW.of hb2,ev,eu⟩,λx H' y=>?_⟩;obtain⟨T,vs,rfl,fr,rfl,v',u',rfl,hy,hy2⟩:=y;have ex:=hy xs (dW.of hb);have ex2:=hy2 ys (dW.of hb2);rw[ev] at ex;rw[eu] at ex2;cases ex;cases ex2;exact⟨aO fr,DP fr dv du⟩
 stop:=λS H hg i hi=>by have h:=hg (.lst ds,.ref a) (by simp);have h2:=hg (.lst es,.ref c) (by simp);simp only[Dn] at h h2;obtain⟨b,xs,eb,hb,sb,dn⟩:=h;obtain⟨b2,ys,eb2,hb2,sb2,DM⟩:=h2;injection eb with eb;injection eb2 with eb2;subst eb eb2;exact⟨xs,ys,dW.of hb,dW.of hb2,by rw[<- dn.len,<- DM.len,<- hi];simp[VW]⟩
noncomputable def Tp(t:WA):WI:=λρ Q=>t ρ λds=>match ds with
 |[.lst es]=>Q (uH es)
 |[.tup es]=>Q (uH es)
 |_=>False
noncomputable def Li(t:WA):WI:=λρ Q=>t ρ λds=>match ds with
 |[.lst a,.lst b]=>Q (VW a b)
 |_=>False
def JK(hm:X.mg "enumerate"=af)(ha:zU X [a] t)(hg:Gl X "enumerate":=by rfl)(hs:au [a] X.env=[(ag,eval a X.env)]:=by rfl):Q4 X (.Tuple es kk tp) (.Call (.Name "enumerate" p) [a] [] pos) (Tp t) :=
 JD (aA6 hg hm ha hs) λσ H R Lh=>by
  obtain⟨S,ρ,Q3,fc,sl,ht,k⟩:=Lh;refine⟨S,ρ,_,fc,sl,ht,λvs H1 ds s1 d1 q1=>?_⟩;split at q1
  .obtain ⟨v,r,rfl,h1,h2⟩:=d1.bH;simp only[aP] at h2;subst h2;have h1':=h1;simp only[Dn] at h1;obtain⟨l,xs,rfl,hl,sl',da⟩:=h1;exact⟨l,rfl,.inl ⟨⟨xs,dW.of hl⟩,k _ H1 _ [(_,.ref l)] s1 (λg hg=>by cases cp.mp hg;exact h1') O5 q1⟩⟩
  .obtain ⟨v,r,rfl,h1,h2⟩:=d1.bH;simp only[aP] at h2;subst h2;have h1':=h1;simp only[Dn] at h1;obtain⟨l,xs,rfl,hl,da⟩:=h1;exact⟨l,rfl,.inr ⟨⟨xs,(fB.of hl)⟩,k _ H1 _ [(_,.ref l)] s1 (λg hg=>by cases cp.mp hg;exact h1') O6 q1⟩⟩
  .exact q1.elim
def Lg{a b:ar}{t:WA}{p pos:bh}(hm:X.mg "zip"=af)(ha:zU X [a,b] t)(hg:Gl X "zip":=by rfl)(hs:au [a,b] X.env=[(ag,eval a X.env),(ag,eval b X.env)]:=by rfl)(hs2:au [b] X.env=[(ag,eval b X.env)]:=by rfl):
  Q4 X (.Tuple es kk tp) (.Call (.Name "zip" p) [a,b] [] pos) (Li t) :=
 JD (Xo hg hm ha hs hs2) λσ H R Mj=>by
  obtain⟨S,ρ,Q3,fc,sl,ht,k⟩:=Mj;refine⟨S,ρ,_,fc,sl,ht,λvs H1 ds s1 d1 q1=>?_⟩;split at q1
  .obtain ⟨v,r,rfl,h1,h2⟩:=d1.bH;obtain⟨v2,r2,rfl,h3,h4⟩:=h2.bH;simp only[aP] at h4;subst h4;have h1':=h1;have h3':=h3;simp only[Dn] at h1 h3;obtain⟨l,xs,rfl,hl,sl',da⟩:=h1;obtain⟨m,ys,rfl,hl2,sl2,da2⟩:=h3;refine⟨l,m,xs,ys,rfl,dW.of hl,dW.of hl2,k _ H1 _ [(_,.ref l),(_,.ref m)] s1 (λg hg=>?_) aA7 q1⟩;rcases cb.mp hg with rfl|hg
   .exact h1'
   .cases cp.mp hg;exact h3'
  .exact q1.elim
variable{a b:ar}{pos:bh}{ta tb:WE}
def aA8:kR X (binaryOp .Mult) (rI uq λi j=>.int (i*j)):=opI λ_ _ _ _ _ _ _ hc q=>mul_int q hc
def To:F2:=OV uq λi j=>.int (i*j)
def Tn(ha:dA X a ta)(hb:dA X b tb):dA X (.BinOp a .Mult b pos) (g6 To ta tb):=op3 aA8 DK ha hb
end
theorem aA9(hi:i.natAbs<2^m)(hj:j.natAbs<2^n)(h:m+n<=134217728):uq i j:=by exact mulOk_of_bits (intBits_le hi) (intBits_le hj) h
section
variable{X:Cx}
noncomputable def aMM(t:WE):WT:=λρ Q=>t ρ λd=>match d with
 |.lst ds=>Q (!ds.isEmpty)
 |.tup ds=>Q (!ds.isEmpty)
 |_=>False
def aP.empty{K:aq}{S:ai->Prop}{H:Hp}{ds:List D}{xs:List V}(h:aP K S H ds xs):ds.isEmpty=xs.isEmpty:=by have:=h.len;cases ds<;>cases xs<;>simp at this ⊢
def Bj:List V->Hp->VK->Prop:=λxs H Q=>∃(a:ai) (ns:Q0e),xs=[.ref a]/\H a=aa (.lst (ns.map V.int))/\Q (.int ns.sum) H
theorem O7(hc:X.calm=ae):eT X (.builtin "sum") Bj:=by
 intro pins s σ H xs us Q I r h;obtain⟨a,ns,rfl,ha,q⟩:=h;obtain⟨u,rfl,ru⟩:=vals1 r;cases ru;obtain⟨its,rv,p,hz⟩:=I.list (dW.of ha);have hi:=intsAre_of rv;obtain⟨zs,ez⟩:=hi.allInts.items;have en:zs.toList.map (·.1)=ns:=by rw[<- nums_intItems,<- ez];exact hi.numsOf
 have ev:preSum (numAt zs) zs.size=ns.sum:=by rw[preSum_eq,vd (by simp),en]
 refine sum_intListG (I.ok.hd hc) (ez▸p.isList) λh' tk t' hk=>⟨.int ns.sum,H,I.kept hk,⟨t',by rw[ev]⟩,q⟩
def sumF:F1
 |[.lst ds],Q=>(match intsOf ds with|some ns=>Q (.int ns.sum)|none=>False)
 |_,_=>False
def O8{ns:Q0e}{Q:D->Prop}:sumF [.lst (ns.map D.int)] Q=Q (.int ns.sum):=by show(match intsOf (ns.map D.int) with|some ns=>Q (.int ns.sum)|none=>False)=_;rw[dI]
theorem Xn{K:aq}:C3 K Bj sumF:=by
 intro S H xs ds Q3 Q fc hd hf k
 match ds,hf with
 |[.lst es],hf =>
  obtain⟨v,r,rfl,h1,h2⟩:=hd.bH;simp only[aP] at h2;subst h2;simp only[Dn] at h1;obtain⟨a,ys,rfl,ha,sa,da⟩:=h1;have hf2:(match intsOf es with|some ns=>Q3 (.int ns.sum)|none=>False):=hf
  clear hf
  cases q:intsOf es with
  |none=>rw[q] at hf2;exact hf2.elim
  |some ns =>
   rw[q] at hf2;have e:=tP q;subst e;have e2:=aP.ints.mp da;subst e2;exact⟨a,ns,rfl,ha,k _ H _ (Same.refl H) (by simp only[Dn]) hf2⟩
theorem Mi(hc:X.calm=ae)(hm:X.mg "sum"=af)(ha:zU X [e] t)(hg:Gl X "sum":=by rfl)
  (he:Zs X e []:=by rfl):dA X (.Call (.Name "sum" p) [e] [] pos) (VG sumF t):=tM (O7 hc) Xn a4s hg hm ha (by decide) (by decide) he (by rfl)
abbrev WO:=cN->(Option Int->Prop)->Prop
def Ul(K:aq)(t:WO):TO:=λσ H Q=>∃(S:ai->Prop) (ρ:cN) (Q3:Option Int->Prop),(∀a,H a=af->S a)/\Sl K S H ρ σ/\t ρ Q3 /\∀o H',Same H H'->Q3 o->Q o H'
def PO3(X:Cx)(e:Option ar)(t:WO):Prop:=PO X e (Ul X.K t)
def aAa:WO:=λ_ Q=>Q af
noncomputable def Uk(t:WE):WO:=λρ Q=>t ρ λd=>match d with
 |.int i=>Q (aa i)
 |_=>False
def Mh:PO3 X af aAa:=λpins s σ H Q I Mg=>by obtain⟨S,ρ,Q3,fc,sl,ht,k⟩:=Mg;exact aAF pins s σ H Q I (k af H (Same.refl H) ht)
theorem po3(h:dA X e t):PO3 X (aa e) (Uk t):=λpins s σ H Q I Mf=>by
 obtain⟨S,ρ,Q3,fc,sl,ht,k⟩:=Mf;refine aAG h pins s σ H Q I ⟨S,ρ,_,fc,sl,ht,λv H1 d s1 d1 q1=>?_⟩
 cases d with
 |int i=>simp only[Dn] at d1;exact⟨i,d1,k _ H1 s1 q1⟩
 |_=>exact q1.elim
def cutD(xs:List D)(lo hi:Option Int):List D:=(xs.drop (HT.fS xs.length 0 lo)).take (HT.fS xs.length xs.length hi-HT.fS xs.length 0 lo)
def aP.cut{K:aq}{S:ai->Prop}{H:Hp}{ds:List D}{xs:List V}{lo hi:Option Int}(h:aP K S H ds xs):aP K S H (cutD ds lo hi) (GA xs lo hi):=by unfold cutD GA;rw[h.len];exact(h.drop _).take _
theorem VY{prog:bf}{w:ba}{A:bx}{E:Q0c}{s:ao}{t sl:ai}{items:Array aj}{vl vu:aj}{lo hi:Option Int}{Q:Q0c}(ht:g_ s.heap t items)(hs:s.heap.IsSliceOf sl vl vu .none)(pl:lp vl lo)(pu:lp vu hi)
  (h0:HT.fS items.size 0 lo=0) (h1:HT.fS items.size items.size hi=items.size) (h:Q (.ref t) s):ax (ay prog w) A (getItem (.ref t) (.ref sl)) Q E s:=by
 have hT:s.TypeIs (.ref sl) "slice":=by obtain⟨o,a,b,_⟩:=hs;exact⟨o,a,b⟩
 unfold getItem
 try with_reducible refine ip ?_
 first|refine av (az ?_)|skip
 apply av;refine a0i ht.typeIs (by decide) (av (qp ht.typeIs ph (jh ph ht.typeIs a11 ?_ (a15 _ _))));refine av (m:=a1N _) (a1S ht (av (Eb hT ?_)));rw[Z_ (by decide)];refine av (HT.kF (n:=items.size) hs pl pu ?_);rw[h0,h1];show ax _ _ (if((((0:Nat):Int) == 0)&&((1:Int) == 1)&&((items.size-0) == items.size))=ae then _ else _) _ _ s;rw[Z_ (by simp)];refine av (m:=a4i _) (av (Eb ht.typeIs (az ?_)));show ax _ _ (if ae=ae then _ else _) _ _ s;rw[Z_ rfl];exact av (mq (az ⟨_,rfl,az h⟩))
def Me(K:aq):V->Option Int->Option Int->Hp->VK->Prop:=λx lo hi H Q=>∃a xs,x=.ref a/\fB K H a xs/\(HT.fS xs.length 0 lo=0/\HT.fS xs.length xs.length hi=xs.length)/\Q (.ref a) H
theorem aAb:SlR X (Me X.K):=by
 intro pins s σ H x v vl vu lo hi sl Q I rx hs pl pu h;obtain⟨a,xs,rfl,hx,hw,q⟩:=h;cases rx;obtain⟨its,r,ht,hz⟩:=I.tuple hx;have hlen:its.toArray.size=xs.length:=by rw[cu];exact r.length.symm
 exact⟨"tuple",_,ph.lookup,ht.typeIs,VY ht hs pl pu (by rw[hlen];exact hw.1) (by rw[hlen];exact hw.2) ⟨.ref a,H,I,rfl,q⟩⟩
def Hl(te:WE)(tl th:WO):WE:=λρ Q=>te ρ λd=>tl ρ λlo=>th ρ λhi=>match d with
 |.lst ds=>Q (.lst (cutD ds lo hi))
 |.tup ds=>Q (.tup (cutD ds lo hi))
 |_=>False
def sl3{e:ar}{lo hi:Option ar}{p2 pos:bh}{te:WE}{tl th:WO}(he:dA X e te)(hl:PO3 X lo tl)(hh:PO3 X hi th):dA X (.Subscript e (.Slice lo hi af p2) pos) (Hl te tl th) :=
 imp (UP (aAJ.or (Yk.or aAb)) he hl hh) λσ H Q Md=>by
  obtain⟨S,ρ,Q3,fc,sl,ht,k⟩:=Md;refine⟨S,ρ,_,fc,sl,ht,λv H1 d s1 d1 q1=>?_⟩;refine⟨S,ρ,_,bV fc s1,Sl.fits (.same s1) sl,q1,λo H2 s2 q2=>?_⟩;refine⟨S,ρ,_,bV fc (s1.trans s2),Sl.fits (.same (s1.trans s2)) sl,q2,λo2 H3 s3 q3=>?_⟩;have d3:=Dn.fits (.same (s2.trans s3)) _ _ d1;have sa:=(s1.trans s2).trans s3
  cases d with
  |lst ds =>
   simp only[Dn] at d3;obtain⟨a,xs,rfl,ha,sa',da⟩:=d3;refine .inl ⟨a,xs,rfl,dW.of ha,λp hp=>k _ _ _ (sa.trans (aO hp)) ?_ q3⟩;simp only[Dn];exact⟨p,_,rfl,aQ,bV fc sa p hp,aP.fits (.same (aO hp)) _ _ da.cut⟩
  |tup ds =>
   simp only[Dn] at d3;obtain⟨a,xs,rfl,ha,da⟩:=d3;have hl:=da.len;by_cases hw:HT.fS xs.length 0 o=0/\HT.fS xs.length xs.length o2=xs.length
   .refine .inr (.inr ⟨a,xs,rfl,(fB.of ha),hw,k _ _ _ sa ?_ q3⟩);have e:cutD ds o o2=ds:=by unfold cutD;rw[hl,hw.1,hw.2,r_,uz,vd (og hl)]
    rw[e];simp only[Dn];exact⟨a,xs,rfl,ha,da⟩
   .refine .inr (.inl ⟨a,xs,rfl,(fB.of ha),hw,λp hp=>k _ _ _ (sa.trans (aO hp)) ?_ q3⟩);simp only[Dn];exact⟨p,_,rfl,aQ,aP.fits (.same (aO hp)) _ _ da.cut⟩
  |_=>exact q3.elim
end
end L3
namespace L4
open PySem.Spec PyProof.Rows L2 L3
def wE(f:EF):WE:=λρ Q=>∃d,f ρ=aa d/\Q d
def wT(f:TF):WT:=λρ Q=>∃d,f ρ=aa d/\Q d
def wA(f:AF):WA:=λρ Q=>∃d,f ρ=aa d/\Q d
def wI(f:AF):WI:=λρ Q=>∃d,f ρ=aa d/\Q d
def wO(f:OF):WO:=λρ Q=>∃d,f ρ=aa d/\Q d
def wX(f:XF):WX:=λρ Q=>∃p,f ρ=aa p/\Q p.1 p.2
noncomputable def wS(f:SF):WS:=λE ρ=>match f ρ with
 |.nx ρ'=>E.nx ρ'
 |.rt d=>E.rt d
 |.ex c=>E.ex c
 |.no=>False
def wG(g:GSF):WG:=λd ρ Q=>∃ρ',g d ρ=aa ρ'/\Q ρ'
def v_(g:YJ):GE:=λd ρ Q=>∃ρ',g d ρ=aa ρ'/\Q ρ'
abbrev cD(X:Cx)(e:ar)(f:EF):Prop:=dA X e (wE f)
abbrev fT(X:Cx)(e:ar)(f:EF):Prop:=I0 X e (wE f)
abbrev uU(X:Cx)(e:ar)(f:TF):Prop:=zG X e (wT f)
abbrev DQ(X:Cx)(e:ar)(f:TF):Prop:=Q2 X e (wT f)
abbrev zH(X:Cx)(es:List ar)(f:AF):Prop:=zU X es (wA f)
abbrev YE(X:Cx)(tg e:ar)(f:AF):Prop:=Q4 X tg e (wI f)
abbrev PO4(X:Cx)(e:Option ar)(f:OF):Prop:=PO3 X e (wO f)
abbrev Q5(X:Cx)(e:ar)(f:XF):Prop:=HH X e (wX f)
abbrev yP(X:Cx)(st:df)(f:SF):Prop:=EN X st (wS f)
abbrev zX(X:Cx)(st:List df)(f:SF):Prop:=uT X st (wS f)
section
variable{X:Cx}
def cE{e:ar}{t t':WE}(h:dA X e t)(c:∀ρ Q,t' ρ Q->t ρ Q):dA X e t':=imp h λ_ _ _ Mc=>by obtain⟨S,ρ,Q3,fc,sl,ht,k⟩:=Mc;exact⟨S,ρ,Q3,fc,sl,c ρ Q3 ht,k⟩
def cF(h:I0 X e t)(c:∀ρ Q,t' ρ Q->t ρ Q):I0 X e t':=imp h λ_ _ _ Lf=>by obtain⟨S,ρ,Q3,fc,sl,ht,k⟩:=Lf;exact⟨S,ρ,Q3,fc,sl,c ρ Q3 ht,k⟩
def cT{e:ar}{t t':WT}(h:zG X e t)(c:∀ρ Q,t' ρ Q->t ρ Q):zG X e t':=U8 h λ_ _ _ Le=>by obtain⟨S,ρ,Q3,fc,sl,ht,k⟩:=Le;exact⟨S,ρ,Q3,fc,sl,c ρ Q3 ht,k⟩
def cW{e:ar}{t t':WT}(h:Q2 X e t)(c:∀ρ Q,t' ρ Q->t ρ Q):Q2 X e t':=xi h λ_ _ _ Ld=>by obtain⟨S,ρ,Q3,fc,sl,ht,k⟩:=Ld;exact⟨S,ρ,Q3,fc,sl,c ρ Q3 ht,k⟩
def cA(h:zU X e t)(c:∀ρ Q,t' ρ Q->t ρ Q):zU X e t':=U9 h λ_ _ _ Lc=>by obtain⟨S,ρ,Q3,fc,sl,ht,k⟩:=Lc;exact⟨S,ρ,Q3,fc,sl,c ρ Q3 ht,k⟩
def cI(h:Q4 X tg e t)(c:∀ρ Q,t' ρ Q->t ρ Q):Q4 X tg e t':=JD h λ_ _ _ Lb=>by obtain⟨S,ρ,Q3,fc,sl,ht,k⟩:=Lb;exact⟨S,ρ,Q3,fc,sl,c ρ Q3 ht,k⟩
def cX(h:HH X e t)(c:∀ρ Q,t' ρ Q->t ρ Q):HH X e t':=imp h λ_ _ _ La=>by obtain⟨H₀,S,w,ρ,G,Q3,hl,st,ht,k⟩:=La;exact⟨H₀,S,w,ρ,G,Q3,hl,st,c ρ Q3 ht,k⟩
def cS(h:EN X e t)(c:∀E ρ,t' E ρ->t E ρ):EN X e t':=lG h λ_ _ _ K_=>by obtain⟨H₀,S,w,ρ,G,E,hl,st,ht,ok⟩:=K_;exact⟨H₀,S,w,ρ,G,E,hl,st,c E ρ ht,ok⟩
def Ay(h:uT X e t)(c:∀E ρ,t' E ρ->t E ρ):uT X e t':=GG h λ_ _ _ Kz=>by obtain⟨H₀,S,w,ρ,G,E,hl,st,ht,ok⟩:=Kz;exact⟨H₀,S,w,ρ,G,E,hl,st,c E ρ ht,ok⟩
def DQ.pt(h:DQ X e f):uU X e f:=Q2.pt h
def fT.pe(h:fT X e f):cD X e f:=I0.pe h
theorem bnd{α β:Type}{o:Option α}{f:α->Option β}{b:β}(h:o.bind f=aa b):∃a,o=aa a/\f a=aa b:=by
 cases o with
 |none=>cases h
 |some a=>exact⟨a,rfl,h⟩
theorem lJ{α β:Type}{o:Option α}{f:α->β}{b:β}(h:o.map f=aa b):∃a,o=aa a/\f a=b:=by
 cases o with
 |none=>cases h
 |some a=>exact⟨a,rfl,dg h⟩
theorem x4(i:Nat)(hN:X.N[i]?=aa x:=by rfl)(hv:C4 X.env.scope x:=by walk_at "1")(hd:Zu x:=by decide)
  (hcd:Zt x:=by decide):cD X (.Name x pos) (aB i):=cE (x3 i hN hv hd hcd) λρ Q Ky=>by
 obtain⟨d,e,q⟩:=Ky;unfold aB at e;unfold ug
 cases h:ρ[i]? with
 |none=>rw[h] at e;cases e
 |some o =>
  rw[h] at e
  cases o with
  |none=>cases e
  |some d'=>cases e;exact q
def i4{j pos}:cD X (.Constant (.int i) j pos) (eC (.int i)):=cE i3 λ_ _ Kx=>by obtain⟨_,e,q⟩:=Kx;cases e;exact q
def b4{j pos}:cD X (.Constant (.bool b) j pos) (eC (.bl b)):=cE b3 λ_ _ Kw=>by obtain⟨_,e,q⟩:=Kw;cases e;exact q
def n4{j pos}:cD X (.Constant .none j pos) (eC .non):=cE n3 λ_ _ Kv=>by obtain⟨_,e,q⟩:=Kv;cases e;exact q
def s4{j pos}:cD X (.Constant (.str x) j pos) (eC (.str x)):=cE s3 λ_ _ Ku=>by obtain⟨_,e,q⟩:=Ku;cases e;exact q
def Tells(f:F2)(g:D->D->Option D):Prop:=∀(x y d:D) (Q:D->Prop),g x y=aa d->Q d->f x y Q
def kG{f:F2}{g:D->D->Option D}(h:Tells f g){fa fb:EF}(ρ:cN)(Q:D->Prop)(w:wE (aE g fa fb) ρ Q):g6 f (wE fa) (wE fb) ρ Q:=by obtain⟨d,e,q⟩:=w;obtain⟨x,ex,e⟩:=bnd e;obtain⟨y,ey,e⟩:=bnd e;exact⟨x,ex,y,ey,h x y d Q e q⟩
def nZ:Tells (yI g) (HJ g):=λx y d Q e q=>by
 cases x<;>first|(cases e;done)|skip
 all_goals (cases y<;>first|(cases e;done)|skip)
 cases e;exact q
def lK(h:∀i j,c i j=ae->C i j):Tells (OV C g) (oI c g):=λx y d Q e q=>by
 cases x<;>first|(cases e;done)|skip
 all_goals (cases y<;>first|(cases e;done)|skip)
 rename_i i j;have e:(if c i j=ae then aa (g i j) else af)=aa d:=e;by_cases hc:c i j=ae
 .rw [Z_ hc] at e;cases e;exact⟨h i j hc,q⟩
 .rw [Zz hc] at e;cases e
def szl{n:Nat}{α:Type}{x d:α}{Q:α->Prop}(e:(if n<=oH then aa x else af)=aa d)(q:Q d):n<=bg/\Q x:=by
 by_cases h:n<=oH
 .rw [Z_ h] at e;cases e;exact⟨by rw[gr];exact h,q⟩
 .rw [Zz h] at e;cases e
def O9:Tells xl dG:=λx y d Q e q=>by
 cases x<;>first|(cases e;done)|skip
 all_goals (cases y<;>first|(cases e;done)|skip)
 .cases e;exact q
 .exact szl (x:=D.str _) e q
 .exact szl (x:=D.tup _) e q
 .exact szl (x:=D.lst _) e q
def PB:Tells Bk NJ:=λx y d Q e q=>by
 cases x<;>first|(cases e;done)|skip
 all_goals (cases y<;>first|(cases e;done)|skip)
 exact szl (x:=D.lst _) e q
def Xm(h:vU i j=ae):uq i j:=by
 unfold vU at h;simp only[vy,decide_eq_true_eq] at h;rcases h with(h|h)|h
 .exact Z6.ok (.inl ⟨by omega,by omega⟩)
 .exact Z6.ok (.inr ⟨by omega,by omega⟩)
 .refine aA9 (m:=i.natAbs.log2+1) (n:=j.natAbs.log2+1) ?_ ?_ (by omega)
  .exact a2k
  .exact a2k
section
variable{a b:ar}{pos:bh}{fa fb:EF}
def gT(ha:cD X a fa)(hb:cD X b fb):cD X (.BinOp a .Add b pos) (aE dG fa fb):=cE (Pz ha hb) (kG O9)
def pQ(ha:cD X a fa)(hb:cD X b fb):cD X (.BinOp a .Sub b pos) (aE gH fa fb):=cE (Qt ha hb) (kG nZ)
def tQ(ha:cD X a fa)(hb:cD X b fb):cD X (.BinOp a .Mult b pos) (aE mulM fa fb):=cE (Tn ha hb) (kG (lK λ_ _ h=>Xm h))
def uV(ha:cD X a fa)(hb:cD X b fb):cD X (.BinOp a .Mod b pos) (aE lW fa fb):=cE (Qs ha hb) (kG (lK λ_ _ h=>by simpa using h))
def VZ(ha:cD X a fa)(hb:cD X b fb):cD X (.BinOp a .FloorDiv b pos) (aE vV fa fb):=cE (Qr ha hb) (kG (lK λi j h=>by simp only[fz,decide_eq_true_eq] at h;exact⟨h.1,by omega⟩))
def ud(ha:cD X a fa)(hb:cD X b fb):cD X (.BinOp a .Pow b pos) (aE vW fa fb):=cE (P_ ha hb) (kG (lK λi j h=>by simp only[fz,decide_eq_true_eq] at h;exact⟨h.1.1,by omega,h.2⟩))
def Uj(ha:cD X a fa)(hb:cD X b fb):fT X (.BinOp a .Add b pos) (aE NJ fa fb):=cF (Vd ha hb) (kG PB)
def tells_eq:Tells uf u5:=λx y d Q e q=>by
 cases x<;>first|(cases e;done)|skip
 all_goals (cases y<;>first|(cases e;done)|skip)
 all_goals (cases e;exact⟨rfl,q⟩)
def V0:Tells xj NH:=λx y d Q e q=>by
 cases x<;>first|(cases e;done)|skip
 all_goals (cases y<;>first|(cases e;done)|skip)
 all_goals (cases e;exact⟨rfl,q⟩)
theorem ints_of:∀{ds:List D} {ns:Q0e},intsOf ds=aa ns->ds=ns.map D.int
 |[],ns,h=>by cases h;rfl
 |d::ds,ns,h=>by
  cases d<;>first|cases h;done|skip
  obtain⟨m,e,rfl⟩:=lJ h;rw[ints_of e];rfl
def GU{neg:Bool}:Tells (inF neg) (mB neg):=λx y d Q e q=>by
 cases x<;>first|(cases e;done)|skip
 all_goals (cases y<;>first|(cases e;done)|skip)
 all_goals
  obtain⟨ns,e1,rfl⟩:=lJ e;have:=ints_of e1;subst this;exact⟨BH ns,by rw[BI];exact q⟩
def GV:Tells ue X8:=λx y d Q e q=>by
 unfold X8 at e;split at e
 .rename_i h;cases e;refine⟨(by cases y<;>first|rfl|cases h),?_⟩;have:isD x=pZ x:=by cases x<;>rfl
  rw[this];exact q
 .cases e
def eq4(ha:cD X a fa)(hb:cD X b fb):cD X (.Compare a [.Eq] [b] pos) (aE u5 fa fb):=cE (Pn ha hb) (kG tells_eq)
def in4(ha:cD X a fa)(hb:cD X b fb)(hm:behindInMarks .In b=ag:=by with_unfolding_all rfl):cD X (.Compare a [.In] [b] pos) (aE (mB ag) fa fb):=cE (in3 ha hb hm) (kG GU)
def is4(ha:cD X a fa)(hb:cD X b fb):cD X (.Compare a [.Is] [b] pos) (aE X8 fa fb):=cE (Ph ha hb) (kG GV)
def lT{f:F2}{g:D->D->Option D}(h:Tells f g)(hb:∀x y d,g x y=aa d ->∃b,d=.bl b){fa fb:EF}(ρ:cN)(Q:Bool->Prop)(w:wT (tV (aE g fa fb)) ρ Q):oP (g6 f (wE fa) (wE fb)) ρ Q:=by obtain⟨b,e,q⟩:=w;obtain⟨d,e1,e2⟩:=bnd e;obtain⟨x,ex,e1⟩:=bnd e1;obtain⟨y,ey,e1⟩:=bnd e1;obtain⟨c,rfl⟩:=hb x y d e1;cases e2;exact⟨x,ex,y,ey,h x y _ _ e1 q⟩
def JL{g:Int->Int->Bool}(x y d:D)(e:HJ (λi j=>.bl (g i j)) x y=aa d):∃b,d=.bl b:=by
 cases x<;>first|(cases e;done)|skip
 all_goals (cases y<;>first|(cases e;done)|skip)
 cases e;exact⟨_,rfl⟩
def Ui(x y d:D)(e:u5 x y=aa d):∃b,d=.bl b:=by obtain⟨b,_,rfl⟩:=lJ e;exact⟨_,rfl⟩
def Uh(x y d:D)(e:NH x y=aa d):∃b,d=.bl b:=by obtain⟨b,_,rfl⟩:=lJ e;exact⟨_,rfl⟩
def Ug{neg:Bool}(x y d:D)(e:mB neg x y=aa d):∃b,d=.bl b:=by
 cases x<;>first|(cases e;done)|skip
 all_goals (cases y<;>first|(cases e;done)|skip)
 all_goals (obtain⟨b,_,rfl⟩:=lJ e;exact⟨_,rfl⟩)
def Ue(x y d:D)(e:X8 x y=aa d):∃b,d=.bl b:=by
 unfold X8 at e;split at e
 .cases e;exact⟨_,rfl⟩
 .cases e
def uc(ha:cD X a fa)(hb:cD X b fb):uU X (.Compare a [.Lt] [b] pos) (tV (aE YI fa fb)):=cT (Pl ha hb) (lT nZ JL)
def ub(ha:cD X a fa)(hb:cD X b fb):uU X (.Compare a [.Gt] [b] pos) (tV (aE KS fa fb)):=cT (Pk ha hb) (lT nZ JL)
def xb(ha:cD X a fa)(hb:cD X b fb):uU X (.Compare a [.GtE] [b] pos) (tV (aE geM fa fb)):=cT (Pj ha hb) (lT nZ JL)
def JM(ha:cD X a fa)(hb:cD X b fb):uU X (.Compare a [.Eq] [b] pos) (tV (aE u5 fa fb)):=cT (Va ha hb) (lT tells_eq Ui)
def JN(ha:cD X a fa)(hb:cD X b fb):uU X (.Compare a [.NotEq] [b] pos) (tV (aE NH fa fb)):=cT (U_ ha hb) (lT V0 Uh)
def MP(ha:cD X a fa)(hb:cD X b fb)(hm:behindInMarks .NotIn b=ag:=by with_unfolding_all rfl):uU X (.Compare a [.NotIn] [b] pos) (tV (aE (mB ae) fa fb)):=cT (Uz ha hb hm) (lT GU Ug)
def Bi(ha:cD X a fa)(hb:cD X b fb):uU X (.Compare a [.Is] [b] pos) (tV (aE X8 fa fb)):=cT (Uy ha hb) (lT GV Ue)
end
section
variable{a b c:ar}{rest:List ar}{pos:bh}{fa fb:EF}{ta tb tc:TF}
def rH(ha:uU X a ta):uU X (.UnaryOp .Not a pos) (lU ta):=cT (Uv ha) λρ Q Kt=>by obtain⟨b,e,q⟩:=Kt;obtain⟨c,ec,rfl⟩:=lJ e;exact⟨c,ec,q⟩
def MQ(ha:uU X a ta):DQ X (.BoolOp .And [a] pos) ta:=Pe ha
def JO(ha:uU X a ta):DQ X (.BoolOp .Or [a] pos) ta:=or1 ha
theorem MR(ha:uU X a ta)(hb:DQ X (.BoolOp .And (b::rest) pos) tb):DQ X (.BoolOp .And (a::b::rest) pos) (lV ta tb):=cW (Uu ha hb) λρ Q Ks=>by
 obtain⟨d,e,q⟩:=Ks;obtain⟨c,ec,e⟩:=bnd e;refine⟨c,ec,?_⟩
 cases c with
 |true=>rw[Z_ rfl] at e ⊢;exact⟨d,e,q⟩
 |false=>rw[Zz bz] at e ⊢;cases e;exact q
theorem zY(ha:uU X a ta)(hb:DQ X (.BoolOp .Or (b::rest) pos) tb):DQ X (.BoolOp .Or (a::b::rest) pos) (z8 ta tb):=cW (Pc ha hb) λρ Q Kr=>by
 obtain⟨d,e,q⟩:=Kr;obtain⟨c,ec,e⟩:=bnd e;refine⟨c,ec,?_⟩
 cases c with
 |true=>rw[Z_ rfl] at e ⊢;cases e;exact q
 |false=>rw[Zz bz] at e ⊢;exact⟨d,e,q⟩
def ua{op}(ha:cD X a fa):cD X (.BoolOp op [a] pos) fa:=Oj ha
theorem V1(ha:cD X a fa)(hb:cD X (.BoolOp .And (b::rest) pos) fb):cD X (.BoolOp .And (a::b::rest) pos) (pX fa fb):=cE (Oi ha hb) λρ Q Kq=>by
 obtain⟨d,e,q⟩:=Kq;obtain⟨x,ex,e1⟩:=bnd e;obtain⟨c,ec,e⟩:=bnd e1
 clear e1
 refine⟨x,ex,?_⟩;cases x<;>first|cases ec;done|skip
 cases ec
 cases c with
 |true=>rw[Z_ rfl] at e;exact⟨d,e,q⟩
 |false=>rw[Zz bz] at e;cases e;exact q
def Bh(ha:cD X a fa):cD X (.UnaryOp .Not a pos) (vS fa):=cE (Og ha) λρ Q Kp=>by
 obtain⟨d,e,q⟩:=Kp;obtain⟨x,ex,e⟩:=bnd e;obtain⟨c,ec,rfl⟩:=lJ e;refine⟨x,ex,?_⟩;cases x<;>first|cases ec;done|skip
 cases ec;exact q
theorem if4(hc:uU X c tc)(ha:cD X a fa)(hb:cD X b fb):cD X (.IfExp c a b pos) (KR tc fa fb):=cE (if3 hc ha hb) λρ Q Ko=>by
 obtain⟨d,e,q⟩:=Ko;obtain⟨c,ec,e⟩:=bnd e;refine⟨c,ec,?_⟩
 cases c with
 |true=>rw[Z_ rfl] at e ⊢;exact⟨d,e,q⟩
 |false=>rw[Zz bz] at e ⊢;exact⟨d,e,q⟩
def Kn(ha:cD X a fa):cD X (.UnaryOp .USub a pos) (Q7 fa):=cE (Oc ha) λρ Q Km=>by
 obtain⟨d,e,q⟩:=Km;obtain⟨x,ex,e⟩:=bnd e;refine⟨x,ex,?_⟩;cases x<;>first|cases e;done|skip
 cases e;exact q
def l6{e:ar}{f:EF}(h:cD X e f)(he:∀whole,isTrue e X.env whole=(do let v <- whole;standAt e.pos;holding [v] (truthy v)):=by intro _;rfl):uU X e (tV f) :=
 U8 (UN h he) λσ H Q Kl=>by
  obtain⟨S,ρ,Q3,fc,sl,⟨b,hb,q3⟩,k⟩:=Kl;obtain⟨d0,ed,et⟩:=bnd hb;refine⟨S,ρ,λd=>d=d0,fc,sl,⟨d0,ed,rfl⟩,λv H1 d s1 d1 q1=>?_⟩;subst q1
  cases d with
  |bl c=>cases et;simp only[Dn] at d1;subst d1;exact⟨_,rfl,k _ H1 s1 q3⟩
  |lst ds =>
   cases et;simp only[Dn] at d1;obtain⟨a,xs,rfl,ha,sa,da⟩:=d1;exact⟨_,.inl ⟨xs,dW.of ha,by rw[<- da.empty]⟩,k _ H1 s1 q3⟩
  |tup ds =>
   cases et;simp only[Dn] at d1;obtain⟨a,xs,rfl,ha,da⟩:=d1;exact⟨_,.inr (.inl ⟨xs,(fB.of ha),by rw[<- da.empty]⟩),k _ H1 s1 q3⟩
  |_=>cases et
end
end
section
variable{X:Cx}
def aH:zH X [] aF:=cA Px λ_ _ Kk=>by obtain⟨_,e,q⟩:=Kk;cases e;exact q
def aC(ha:cD X e fe)(hr:zH X es t)(hs:Zs X e es:=by rfl):zH X (e::es) (aA fe t):=cA (Vb ha hr hs) λρ Q Kj=>by obtain⟨ds,e,q⟩:=Kj;obtain⟨d,ed,e⟩:=bnd e;obtain⟨r,er,e⟩:=bnd e;cases e;exact⟨d,ed,r,er,q⟩
def jD{x1}(h:zH X es t):cD X (.Tuple es x1 pos) (dP t):=cE (Pr h) λρ Q Ki=>by obtain⟨d,e,q⟩:=Ki;obtain⟨ds,ed,e⟩:=bnd e;exact⟨ds,ed,szl (x:=D.tup ds) e q⟩
def mX(h:zH X es t):fT X (.List es pos) (fQ t):=cF (Pp h) λρ Q Ka=>by obtain⟨d,e,q⟩:=Ka;obtain⟨ds,ed,e⟩:=bnd e;exact⟨ds,ed,szl (x:=D.lst ds) e q⟩
def V2:Tells ixF dC:=λx y d Q e q=>by
 cases x<;>first|(cases e;done)|skip
 all_goals (cases y<;>first|(cases e;done)|skip)
 .have e:uQ _ _=aa d:=e;show(match uQ _ _ with|some d=>Q d|none=>False);rw[e];exact q
 .have e:uQ _ _=aa d:=e;show(match uQ _ _ with|some d=>Q d|none=>False);rw[e];exact q
 .obtain ⟨n,e1,rfl⟩:=lJ e;have e1:uQ _ _=aa n:=e1;show(match uQ _ _ with|some n=>Q (.int n)|none=>False);rw[e1];exact q
def jE(ha:cD X a fa)(hb:cD X b fb)(hs:DC b:=by intro _ _;rfl):cD X (.Subscript a b pos) (aE dC fa fb):=cE (ix3 ha hb hs) (kG V2)
def PD:Tells xg vY:=λx y d Q e q=>by
 cases x<;>first|cases e;done|skip
 rename_i ks ds;obtain⟨k,ek,e⟩:=bnd e;have ek:GP y=aa k:=by cases y<;>first|exact ek|cases ek
 have e:jP ks ds k=aa d:=e
 show(match D.jA ks ds,GP y with
  |.jA ks ds,aa k=>(match jP ks ds k with|some d=>Q d|none=>False)
  |_,_=>False)
 rw[ek];dsimp only;rw[e];exact q
def Bd(hu:X.A.units+1<cf)(ho:cD X o fo)(hi:cD X i fi)(hs:IY i:=by intro _ _;rfl):cD X (.Subscript o i pos) (aE vY fo fi):=cE (Lq hu ho hi hs) (kG PD)
def mY(f:F1)(g:List D->Option D):Prop:=∀(ds:List D) (d:D) (Q:D->Prop),g ds=aa d->Q d->f ds Q
def yQ(h:mY f g)(ρ:cN)(Q:D->Prop)(w:wE (bX g t) ρ Q):VG f (wA t) ρ Q:=by obtain⟨d,e,q⟩:=w;obtain⟨ds,ed,e⟩:=bnd e;exact⟨ds,ed,h ds d Q e q⟩
theorem PF:mY GF cM:=λds d Q e q=>by
 cases ds with
 |nil=>cases e
 |cons a ds =>
  cases a<;>first|(cases e;done)|skip
  all_goals (cases ds<;>first|(cases e;exact q)|(cases e;done))
theorem GW:mY JC cQ:=λds d Q e q=>by
 cases ds with
 |nil=>cases e
 |cons a ds =>
  cases a<;>first|(cases e;done)|skip
  all_goals (cases ds<;>first|(cases e;exact q)|(cases e;done))
def fA(hm:X.mg "len"=af)(ha:zH X [e] t)(hg:Gl X "len":=by rfl)(he:Zs X e []:=by rfl):cD X (.Call (.Name "len" p) [e] [] pos) (bX cM t):=cE (Oa hm ha hg he) (yQ PF)
def i6(hm:X.mg "tuple"=af)(ha:zH X [e] t)(hg:Gl X "tuple":=by rfl)(he:Zs X e []:=by rfl):cD X (.Call (.Name "tuple" p) [e] [] pos) (bX cQ t):=cE (Yw hm uu ha hg he) (yQ GW)
theorem BL:∀ds:List D,L3.intsOf ds=L4.intsOf ds
 |[]=>rfl
 |d::ds=>by
  cases d<;>first|rfl|skip
  show(L3.intsOf ds).map _=(L4.intsOf ds).map _;rw[BL ds]
theorem pR(a:Int):∀l:Q0e,(insI a l).Perm (a::l)
 |[]=>.refl _
 |b::l=>by
  unfold insI;split
  .exact .refl _
  .exact ((pR a l).cons b).trans (.swap a b l)
theorem mZ:∀l:Q0e,(sortI l).Perm l
 |[]=>.refl _
 |a::l=>(pR a (sortI l)).trans ((mZ l).cons a)
theorem rJ(a:Int):∀l:Q0e,l.Pairwise (· <= ·)->(insI a l).Pairwise (· <= ·)
 |[],_=>by simp[insI]
 |b::l,h=>by
  unfold insI;split
  .rename_i hab;refine ft.mpr ⟨λc hc=>?_,h⟩;rcases cb.mp hc with e|e
   .subst e;exact hab
   .exact zz hab ((ft.mp h).1 c e)
  .rename_i hab;refine ft.mpr ⟨λc hc=>?_,rJ a l (ft.mp h).2⟩;rcases cb.mp ((pR a l).mem_iff.mp hc) with e|e
   .subst e;omega
   .exact (ft.mp h).1 c e
theorem jU:∀l:Q0e,(sortI l).Pairwise (· <= ·)
 |[]=>zy
 |a::l=>rJ a _ (jU l)
theorem pS:∀{l m:Q0e},l.Perm m->l.Pairwise (· <= ·)->m.Pairwise (· <= ·)->l=m
 |[],m,p,_,_=>by rw[p.nil_eq]
 |a::l,[],p,_,_=>by have:=p.length_eq;simp at this
 |a::l,b::m,p,h1,h2=>by
  have e:a=b:=by
   have m1:=p.mem_iff.mp (cn (a:=a) (l:=l));have m2:=p.mem_iff.mpr (cn (a:=b) (l:=m));rcases cb.mp m1 with e|e
   .exact e
   .rcases cb.mp m2 with e2|e2
    .exact e2.symm
    .have:=(ft.mp h2).1 a e;have:=(ft.mp h1).1 b e2;omega
  subst e;rw[pS p.cons_inv (ft.mp h1).2 (ft.mp h2).2]
def DR:mY VR eQ:=λds d Q e q=>by
 unfold eQ at e;split at e
 .rename_i a;obtain⟨ns,e1,e⟩:=bnd e;by_cases hl:ns.length<64
  .rw [Z_ hl] at e;cases e;show(match L3.intsOf a with|some ns=>ns.length<64 /\∀ns':Q0e,ns'.Perm ns->ns'.Pairwise (· <= ·)->Q (.lst (ns'.map D.int))|none=>False);rw[BL,e1];refine⟨hl,λns' p s=>?_⟩;rw[pS (p.trans (mZ ns).symm) s (jU ns)];exact q
  .rw [Zz hl] at e;cases e
 .cases e
def DS(hm:X.mg "sorted"=af)(ha:zH X [e] t)(hg:Gl X "sorted":=by rfl)(he:Zs X e []:=by rfl):fT X (.Call (.Name "sorted" p) [e] [] pos) (bX eQ t):=cF (aA4 hm ha hg he) (yQ DR)
def PH:mY sumF NI:=λds d Q e q=>by
 unfold NI at e;split at e
 .rename_i a;obtain⟨ns,e1,rfl⟩:=lJ e;have:=ints_of e1;subst this;rw[O8];exact q
 .cases e
def J_(hc:X.calm=ae)(hm:X.mg "sum"=af)(ha:zH X [e] t)(hg:Gl X "sum":=by rfl)(he:Zs X e []:=by rfl):cD X (.Call (.Name "sum" p) [e] [] pos) (bX NI t):=cE (Mi hc hm ha hg he) (yQ PH)
def Xl(T:String)(d:D):HK T d=isT T d:=by cases d<;>rfl
theorem uW(hT:DO T)(hm:X.mg "isinstance"=af)(hmT:X.mg x=af)(hv:bootBuiltins x=aa (.type T))(he:cD X e f)(hg:Gl X "isinstance":=by rfl)(hgT:Gl X x:=by rfl)(hn:x ≠ "__name__":=by decide)(hdb:Zu x:=by decide)
  (hs:au [e,.Name x p2] X.env=(ag,eval e X.env)::au [.Name x p2] X.env:=by rfl) (hs2:au [.Name x p2] X.env=(ag,eval (.Name x p2) X.env)::au [] X.env:=by rfl) (hpl:(d_ pos (au [.Name x p2] X.env)).any (·.1)=ag:=by rfl):
  cD X (.Call (.Name "isinstance" p) [e,.Name x p2] [] pos) (jB T f):=cE (Lv hT hm hmT hv he hg hgT hn hdb hs hs2 hpl) λρ Q Jz=>by
 obtain⟨d,e,q⟩:=Jz;obtain⟨x,ex,e⟩:=bnd e;by_cases hx:HL x=ae
 .rw [Z_ hx] at e;cases e;exact⟨x,ex,(by cases x<;>first|trivial|cases hx),by show Q (.bl (isT T x));rw[<- Xl];exact q⟩
 .rw [Zz hx] at e;cases e
def dE(K:aq)(R:iH):Sp:=sp3 K λds Q=>∃d,R ds=.ok d/\Q d
inductive Cl (P:bf) (w:ba) (K:aq) (mg:Q0d) (base:bb) (CX:ME) (k:Nat) (x:ak) (ps:Q0g) (sp:Sp):Prop
 |mk {f:ai} {fd:gp} (F:lF P w K mg base CX k f fd ps sp) (m:mg x=aa (.ref f)) (kp:keepIn K (.ref f)=ae) (b:Binds K fd ps []):Cl P w K mg base CX k x ps sp
theorem Cl.up{P:bf}{w:ba}{K:aq}{mg:Q0d}{base:bb}{CX:ME}{j k:Nat}{x:ak}{ps:Q0g}{sp:Sp}(c:Cl P w K mg base CX j x ps sp)(h:j<=k:=by decide):Cl P w K mg base CX k x ps sp:=by obtain⟨F,m,q,b⟩:=c;exact⟨F.mono h,m,q,b⟩
inductive Df (K:aq) (mg:Q0d) (x:ak) (st:df) (ps:Q0g):Prop
 |mk {f:ai} {fd:gp} (a:a0S K ig x=aa (aa (.ref f))) (F:Fun K x x st f fd) (m:mg x=aa (.ref f)) (b:Binds K fd ps []):Df K mg x st ps
theorem aGb{K:aq}{mg:Q0d}{h:bb}{x:ak}{st:df}{ps:Q0g}{f:ai}{oc:aj}{od an:Option ai}{osl:Array (Option aj)}{kV doc pm cdv ct:aj}(X:K.In h)(G:h.Ns ig mg)
  (b:∀us:Q0f,us.length=ps.length->bindArgs (fnOf x x (rC st) (f6 st) (bN st) .none kV doc pm an cdv ct) ⟨us,[]⟩=pure (ps.zip us)) (a:a0S K ig x=aa (aa (.ref f)))
  (l:K.lookup f=aa ⟨oc,od,.func (fnOf x x (rC st) (f6 st) (bN st) .none kV doc pm an cdv ct),osl⟩) (c:codeIn K cdv x=ae) (k:keepIn K (.ref f)=ae):Df K mg x st ps:=⟨a,Ye l c k,PySem.W.mg_of X G a,.all b⟩
def u1(r:fZ k A):A.units+1<cf:=by have:=r.units;omega
def u2(r:fZ k A):A.units+2<cf:=by have:=r.units;omega
def u9(r:fZ k A):A.units+9<cf:=by have:=r.units;omega
theorem aZ(C:Cl X.prog X.w X.K X.mg X.base cK k x ps (dE X.K R))(hr:fZ k X.A)
  (ha:zH X (e::es) t) (hg:Gl X x:=by rfl) (hdb:Zu x:=by decide) (he:Zs X e es:=by rfl) (hpl:Q0k X pos es:=by rfl):
  cD X (.Call (.Name x p) (e::es) [] pos) (aI R t):=by
 obtain⟨F,hm,hk,hb⟩:=C;refine cE (Us F hr hm hk hb ha hg hdb he hpl) λρ Q Jy=>?_;obtain⟨d,e,q⟩:=Jy;obtain⟨ds,ed,e⟩:=bnd e;refine⟨ds,ed,d,?_,q⟩
 cases h:R ds with
 |ok d'=>rw[h] at e;cases e;rfl
 |no=>rw[h] at e;cases e
 |ex c=>rw[h] at e;cases e
def JP(hc:X.calm=ae)(hm:X.mg "list"=af)(hmr:X.mg "range"=af)(ha:zH X [a] t)(hg:Gl X "list":=by rfl)(hgr:Gl X "range":=by rfl)(hs:au [a] X.env=[(ag,eval a X.env)]:=by rfl)
  (he:au [.Call (.Name "range" p2) [a] [] pos2] X.env=(ag,eval (.Call (.Name "range" p2) [a] [] pos2) X.env)::au [] X.env:=by rfl):
  fT X (.Call (.Name "list" p) [.Call (.Name "range" p2) [a] [] pos2] [] pos) (HM t):=cF (JF hc hm hmr ha hg hgr hs he) λρ Q Jx=>by
 obtain⟨d,e,q⟩:=Jx;obtain⟨ds,ed,e⟩:=bnd e;refine⟨ds,ed,?_⟩;split at e
 .rename_i j;by_cases h:j.natAbs<=16777216
  .rw [Z_ h] at e;cases e;exact⟨⟨by omega,by omega⟩,q⟩
  .rw [Zz h] at e;cases e
 .cases e
section
variable{tg:ar}
def f7(h:cD X l f):YE X tg l (bE f):=cI (Ub h) λρ Q Jw=>by
 obtain⟨ds,e,q⟩:=Jw;obtain⟨d,ed,e⟩:=bnd e;refine⟨d,ed,?_⟩;cases d<;>first|cases e;done|skip
 all_goals (cases e;exact q)
def V3(h:aA fa aF ρ=aa as):∃a,fa ρ=aa a/\as=[a]:=by obtain⟨a,ea,e⟩:=bnd h;cases e;exact⟨a,ea,rfl⟩
def Xk(h:aA fa (aA fb aF) ρ=aa as):∃a b,fa ρ=aa a/\fb ρ=aa b/\as=[a,b]:=by obtain⟨a,ea,e⟩:=bnd h;obtain⟨r,er,e⟩:=bnd e;obtain⟨b,eb,rfl⟩:=V3 er;cases e;exact⟨a,b,ea,eb,rfl⟩
def dF(hm:X.mg "range"=af)(ha:cD X a fa)(hg:Gl X "range":=by rfl)(hs:au [a] X.env=[(ag,eval a X.env)]:=by rfl):YE X tg (.Call (.Name "range" p) [a] [] pos) (bA (aA fa aF)):=cI (Xx hm (aC ha aH hs) hg hs) λρ Q Jv=>by
 obtain⟨ds,e,q⟩:=Jv;obtain⟨as,ea,e⟩:=bnd e;refine⟨as,ea,?_⟩;obtain⟨a,ha',rfl⟩:=V3 ea
 clear ea ha'
 cases a<;>first|cases e;done|skip
 rename_i j;by_cases h:j.natAbs<4611686018427387904
 .have e:(if j.natAbs<4611686018427387904 then aa ((bI 0 j.toNat).map D.int) else af)=aa ds:=e;rw[Z_ h] at e;cases e;exact⟨⟨by omega,by omega⟩,q⟩
 .have e:(if j.natAbs<4611686018427387904 then aa ((bI 0 j.toNat).map D.int) else af)=aa ds:=e;rw[Zz h] at e;cases e
def aAg(hm:X.mg "range"=af)(ha:cD X a fa)(hb:cD X b fb)(hg:Gl X "range":=by rfl)(hs:au [a,b] X.env=[(ag,eval a X.env),(ag,eval b X.env)]:=by rfl)(hs2:au [b] X.env=[(ag,eval b X.env)]:=by rfl):
  YE X tg (.Call (.Name "range" p) [a,b] [] pos) (bA (aA fa (aA fb aF))):=cI (aAY hm (aC ha (aC hb aH hs2) (hs.trans (by rw[hs2]))) hg hs hs2) λρ Q Ju=>by
 obtain⟨ds,e,q⟩:=Ju;obtain⟨as,ea,e⟩:=bnd e;refine⟨as,ea,?_⟩;obtain⟨a,b,ha',hb',rfl⟩:=Xk ea
 clear ea ha' hb'
 cases a<;>first|(cases e;done)|skip
 all_goals (cases b<;>first|(cases e;done)|skip)
 rename_i i j;by_cases h:i.natAbs<4611686018427387904/\j.natAbs<4611686018427387904
 .have e:(if i.natAbs<4611686018427387904/\j.natAbs<4611686018427387904 then aa ((bI i (j-i).toNat).map D.int) else af)=aa ds:=e;rw[Z_ h] at e;cases e;exact⟨⟨by omega,by omega,by omega,by omega⟩,q⟩
 .have e:(if i.natAbs<4611686018427387904/\j.natAbs<4611686018427387904 then aa ((bI i (j-i).toNat).map D.int) else af)=aa ds:=e;rw[Zz h] at e;cases e
end
def i7(hm:X.mg "enumerate"=af)(ha:zH X [a] t)(hg:Gl X "enumerate":=by rfl)(hs:au [a] X.env=[(ag,eval a X.env)]:=by rfl):YE X (.Tuple es kk tp) (.Call (.Name "enumerate" p) [a] [] pos) (jG t):=cI (JK hm ha hg hs) λρ Q Jt=>by obtain⟨ds,e,q⟩:=Jt;obtain⟨as,ea,e⟩:=bnd e;refine⟨as,ea,?_⟩;unfold AA at e;split at e<;>first|(cases e;exact q)|cases e
theorem yR:∀(ds acc ys:List D) (Q:D->Prop),gY g t e ρ ds=aa ys->acc.length+ds.length<=bg->Q (.lst (acc++ys))->rF (v_ g) (wT t) (wE e) ρ ds acc Q
 |[],acc,ys,Q,h,_,q=>by cases h;rw[rF];simpa using q
 |d::ds,acc,ys,Q,h,hl,q=>by
  rw[rF];obtain⟨ρ1,e1,h⟩:=bnd h;obtain⟨b,e2,h⟩:=bnd h;simp only[de] at hl;refine⟨ρ1,e1,b,e2,?_⟩
  cases b with
  |true =>
   rw[Z_ rfl] at h ⊢;obtain⟨y,e3,h⟩:=bnd h;obtain⟨zs,e4,rfl⟩:=lJ h;exact⟨y,e3,by omega,yR ds (acc++[y]) zs Q e4 (by simp;omega) (by simpa using q)⟩
  |false =>
   rw[Zz bz] at h ⊢;exact yR ds acc ys Q h (by omega) q
def JQ(ρ:cN)(Q:D->Prop)(w:wE (a9 nl fr it g t e) ρ Q):GN nl fr (wI it) (v_ g) (wT t) (wE e) ρ Q:=by
 obtain⟨d,h,q⟩:=w;obtain⟨ds,e1,h⟩:=bnd h;refine⟨ds,e1,?_⟩;by_cases hl:ds.length<=oH
 .rw [Z_ hl] at h;obtain⟨ys,e2,rfl⟩:=lJ h;exact yR ds [] ys Q e2 (by rw[gr,mx,ux];exact hl) (by simpa using q)
 .rw [Zz hl] at h;cases h
abbrev V4(X:Cx)(nl:Nat)(tg:ar)(g:YJ):Prop:=PG4 X nl tg (v_ g)
abbrev V5(X:Cx)(ifs:List ar)(t:TF):Prop:=OZ X ifs (wT t)
def cG(h:PG4 X nl tg g)(c:∀d ρ Q,g' d ρ Q->g d ρ Q):PG4 X nl tg g':=OX h λ_ _ _ _ Js=>by obtain⟨S,ρ,d,Q3,hl,fc,sl,dn,hg,k⟩:=Js;exact⟨S,ρ,d,Q3,hl,fc,sl,dn,c d ρ Q3 hg,k⟩
def eF(nd:X.N.Nodup)(hil:i<nl)(hi:X.N[i]?=aa x:=by rfl)(hx:Loc X.env.scope x:=by walk_at "0")(hfx:Zq X x:=by walk_at "2"):V4 X nl (.Name x pos) (g1 i):=cG (Tz nd hil hi hx hfx) λd ρ Q Jr=>by obtain⟨ρ',e,q⟩:=Jr;cases e;exact q
theorem MS(h:AB d=aa p):d=.tup [p.1,p.2]:=by
 cases d<;>first|(cases h;done)|skip
 rename_i l
 cases l with
 |nil=>cases h
 |cons a l =>
  cases l with
  |nil=>cases h
  |cons b l =>
   cases l with
   |nil=>cases h;rfl
   |cons c l=>cases h
def jV(hc:X.calm=ae)(nd:X.N.Nodup)(hil:i<nl)(hjl:j<nl)(hi:X.N[i]?=aa x:=by rfl)(hj:X.N[j]?=aa y:=by rfl)(hx:Loc X.env.scope x:=by walk_at "0")(hfx:Zq X x:=by walk_at "2")(hy:Loc X.env.scope y:=by walk_at "0")(hfy:Zq X y:=by walk_at "2")
  (hn:Q0i X x y px py:=by rfl) (hst:Q0h X x y px py:=by rfl)
  (hs1:H0 X x y px py:=by rfl) (hs2:gV X y py:=by rfl):
  V4 X nl (.Tuple [.Name x px,.Name y py] kk pos) (g2 i j):=cG (Tx hc nd hil hjl hi hj hx hfx hy hfy hn hst hs1 hs2) λd ρ Q Jq=>by
 obtain⟨ρ',e,q⟩:=Jq;obtain⟨p,ep,rfl⟩:=lJ e;rw[MS ep];exact q
def fP:V5 X [] bP:=λpins s σ H Q I Jp=>by obtain⟨S,ρ,Q3,fc,sl,⟨_,e,q⟩,k⟩:=Jp;cases e;exact Ma pins s σ H Q I ⟨S,ρ,Q3,fc,sl,q,k⟩
def lL(h:uU X c t):V5 X [c] t:=Tv h
section
variable{ls fs:Q0g}{fr:List Nat}{sc:gf}{tg iter elt:ar}{ifs:List ar}{pos:bh}{it:AF}{g:YJ}{t:TF}{e:EF}
theorem eK(hc:X.calm=ae)(hi:YE X tg iter it)
  (hg:∀cl C pn ex s H,(blk X (ls++fs) sc cl C pn ex s H).N.Nodup->V4 (blk X (ls++fs) sc cl C pn ex s H) ls.length tg g) (hf:∀cl C pn ex s H,V5 (blk X (ls++fs) sc cl C pn ex s H) ifs t) (he:∀cl C pn ex s H,cD (blk X (ls++fs) sc cl C pn ex s H) elt e)
  (B:chk X.env.scope.names sc X.N ls fs fr=ae:=by rfl) (hs:Zo X iter:=by intro _;rfl):fT X (.ListComp elt [⟨tg,iter,ifs,0⟩] sc pos) (a9 ls.length fr it g t e):=cF (Tu hc hi hg hf he B hs) JQ
variable{i:Nat}{x:ak}{spos pos':bh}
theorem tR(nd:X.N.Nodup)(hc:X.calm=ae)(hi:YE X tg iter it)
  (hg:∀cl C pn ex s H,(blk X (ls++fs) sc cl C pn ex s H).N.Nodup->V4 (blk X (ls++fs) sc cl C pn ex s H) ls.length tg g) (hf:∀cl C pn ex s H,V5 (blk X (ls++fs) sc cl C pn ex s H) ifs t) (he:∀cl C pn ex s H,cD (blk X (ls++fs) sc cl C pn ex s H) elt e)
  (hx0:X.N[i]?=aa x:=by rfl) (hx:X.env.scope.names.lookup x=aa .local:=by rfl) (hsw:Rv X elt tg iter ifs sc pos x pos' spos:=by rfl)
  (B:chk X.env.scope.names sc X.N ls fs fr=ae:=by rfl) (hs:Zo X iter:=by intro _;rfl):yP X (.Assign [.Name x pos'] (.ListComp elt [⟨tg,iter,ifs,0⟩] sc pos) spos) (bD i (a9 ls.length fr it g t e)) :=
 cS (O0 nd hc hi hg hf he hx0 hx hsw B hs) λE ρ w=>by
  unfold wS bD at w;unfold xr
  cases h:a9 ls.length fr it g t e (jR ρ) with
  |none=>rw[h] at w;exact w.elim
  |some d=>rw[h] at w;exact JQ _ _ ⟨d,h,w⟩
end
end
section
variable{X:Cx}
def cO(h:PO3 X e t)(c:∀ρ Q,t' ρ Q->t ρ Q):PO3 X e t':=λpins s σ H Q I Jo=>by obtain⟨S,ρ,Q3,fc,sl,ht,k⟩:=Jo;exact h pins s σ H Q I ⟨S,ρ,Q3,fc,sl,c ρ Q3 ht,k⟩
def no4:PO4 X af Q9:=cO Mh λ_ _ Jn=>by obtain⟨_,e,q⟩:=Jn;cases e;exact q
def po4(h:cD X e f):PO4 X (aa e) (oE f):=cO (po3 h) λρ Q Jm=>by
 obtain⟨o,e,q⟩:=Jm;obtain⟨d,ed,e⟩:=bnd e;obtain⟨i,ei,rfl⟩:=lJ e;refine⟨d,ed,?_⟩;cases d<;>first|cases ei;done|skip
 cases ei;exact q
def sl4{e:ar}{lo hi:Option ar}{p2 pos:bh}{f:EF}{fl fh:OF}(he:cD X e f)(hl:PO4 X lo fl)(hh:PO4 X hi fh):cD X (.Subscript e (.Slice lo hi af p2) pos) (QY f fl fh):=cE (sl3 he hl hh) λρ Q Jl=>by
 obtain⟨r,e,q⟩:=Jl;obtain⟨d,ed,e⟩:=bnd e;obtain⟨l,el,e⟩:=bnd e;obtain⟨h,eh,e⟩:=bnd e;refine⟨d,ed,l,el,h,eh,?_⟩;cases d<;>first|cases e;done|skip
 all_goals (cases e;exact q)
def px4(h:cD X e f):Q5 X e (RA f):=cX (px3 h) λρ Q Tj=>by
 obtain⟨p,e,q⟩:=Tj;obtain⟨d,ed,e⟩:=bnd e;refine⟨d,ed,?_⟩;by_cases hi:d.EL=ae
 .rw [Z_ hi] at e;cases e;exact⟨hi,q⟩
 .rw [Zz hi] at e;cases e
def yS(h:cD X e f):Q5 X e (bK f):=cX (Ov h) λρ Q Ti=>by obtain⟨p,e,q⟩:=Ti;obtain⟨d,ed,e⟩:=bnd e;cases e;exact⟨d,ed,q⟩
def JR(h:oV o=aa ds):o=aa (.ow (.lst ds)):=by
 unfold oV at h;split at h
 .cases h;rfl
 .cases h
def DT(f:List D->D->(List D->D->Prop)->Prop)(m:List D->D->Option (List D×D)):Prop:=∀ds d q (Q:List D->D->Prop),m ds d=aa q->Q q.1 q.2->f ds d Q
def xa(h:DT f m)(ρ:bO)(Q:bO->D->Prop)(w:wX (oX i m x) ρ Q):ou i f (wX x) ρ Q:=by obtain⟨r,e,q⟩:=w;obtain⟨ds0,e0,e⟩:=bnd e;obtain⟨p,ep,e⟩:=bnd e;obtain⟨ds,e1,e⟩:=bnd e;obtain⟨z,ez,rfl⟩:=lJ e;have o0:=JR e0;have o1:=JR e1;refine⟨by rw[o0];trivial,p,ep,?_⟩;show(match p.1[i]? with|some (.ow (.lst ds))=>f ds p.2 λds' r=>Q (p.1.set i (.ow (.lst ds'))) r|_=>False);rw[o1];exact h ds p.2 z _ ez q
def PJ:DT xq iN:=λds d q Q e k=>by
 unfold iN at e;by_cases h:ds.length<oH
 .rw [Z_ h] at e;cases e;exact⟨by rw[gr];exact h,k⟩
 .rw [Zz h] at e;cases e
def PK:DT xp YK:=λds d q Q e k=>by
 cases d<;>first|cases e;done|skip
 rename_i i;have e:(if i.natAbs<9223372036854775808 then(Q8 ds.length i).bind λj=>(ds[j]?).map λd=>(ds.eraseIdx j,d) else af)=aa q:=e;by_cases h:i.natAbs<9223372036854775808
 .rw [Z_ h] at e;obtain⟨j,ej,e⟩:=bnd e;obtain⟨d,ed,rfl⟩:=lJ e;have ej:OL ds.length i=aa j:=ej;refine⟨⟨by omega,by omega⟩,?_⟩;show(match OL ds.length i with|some j=>(match ds[j]? with|some d=>Q (ds.eraseIdx j) d|none=>False)|none=>False);rw[ej];dsimp only;rw[ed];exact k
 .rw [Zz h] at e;cases e
def PM:DT xf NL:=λds d q Q e k=>by
 cases d<;>first|cases e;done|skip
 rename_i es;have e:(if ds.length+es.length<=oH then aa (ds++es,D.non) else af)=aa q:=e;by_cases h:ds.length+es.length<=oH
 .rw [Z_ h] at e;cases e;exact⟨by rw[gr];exact h,k⟩
 .rw [Zz h] at e;cases e
section
variable{i:Nat}{x:ak}{e:ar}{p apos cpos:bh}{f:XF}
def JS(he:Q5 X e f)(hN:X.N[i]?=aa x:=by rfl)(hv:C4 X.env.scope x:=by walk_at "1")(hd:Zu x:=by decide)(hcd:Zt x:=by decide)
  (hbase:attributeBase (.Name x p) "append" X.env (eval (.Name x p) X.env)=eval (.Name x p) X.env:=by rfl)
  (hfew:Zp X cpos e:=by rfl)
  (hline:Q0j apos cpos:=by rfl) (hs:Zs X e []:=by rfl):
  Q5 X (.Call (.Attribute (.Name x p) "append" apos) [e] [] cpos) (oX i iN f):=cX (Oq he hN hv hd hcd hbase hfew hline hs) (xa PJ)
def Jk(he:Q5 X e f)(hN:X.N[i]?=aa x:=by rfl)(hv:C4 X.env.scope x:=by walk_at "1")(hd:Zu x:=by decide)(hcd:Zt x:=by decide)
  (hbase:attributeBase (.Name x p) "pop" X.env (eval (.Name x p) X.env)=eval (.Name x p) X.env:=by rfl)
  (hfew:Zp X cpos e:=by rfl)
  (hline:Q0j apos cpos:=by rfl) (hs:Zs X e []:=by rfl):
  Q5 X (.Call (.Attribute (.Name x p) "pop" apos) [e] [] cpos) (oX i YK f):=cX (Oo he hN hv hd hcd hbase hfew hline hs) (xa PK)
def aAh(he:Q5 X e f)(hN:X.N[i]?=aa x:=by rfl)(hv:C4 X.env.scope x:=by walk_at "1")(hd:Zu x:=by decide)(hcd:Zt x:=by decide)
  (hbase:attributeBase (.Name x p) "extend" X.env (eval (.Name x p) X.env)=eval (.Name x p) X.env:=by rfl)
  (hfew:Zp X cpos e:=by rfl)
  (hline:Q0j apos cpos:=by rfl) (hs:Zs X e []:=by rfl):
  Q5 X (.Call (.Attribute (.Name x p) "extend" apos) [e] [] cpos) (oX i NL f):=cX (aA5 he hN hv hd hcd hbase hfew hline hs) (xa PM)
end
def fR:zX X [] dQ:=Ay Nz λ_ _ w=>w
theorem Th(E:DE)(ρ:bO)(w:wS (aK f g) E ρ):xt (wS f) (wS g) E ρ:=by
 unfold wS aK at w;unfold xt wS
 cases h:f ρ with
 |nx ρ'=>rw[h] at w;exact w
 |rt d=>rw[h] at w;exact w
 |no=>rw[h] at w;exact w
 |ex c=>rw[h] at w;exact w
def aU{st:df}{rest:List df}{f g:SF}(h1:yP X st f)(h2:zX X rest g):zX X (st::rest) (aK f g):=Ay (Nw h1 h2) Th
def aL{st:df}{f:SF}(h1:yP X st f):zX X [st] f:=Uq h1
theorem cB(h:cD X e f):yP X (.Return (aa e) pos) (bF f):=cS (Nt h) λE ρ w=>by
 unfold wS bF at w
 cases h:f (bY ρ) with
 |none=>rw[h] at w;exact w.elim
 |some d=>rw[h] at w;exact⟨d,h,w⟩
theorem fK(hc:uU X c t)(ha:zX X a f)(hb:zX X b g):yP X (.If c a b pos) (gI t f g):=cS (Np hc ha hb) λE ρ w=>by
 unfold wS gI at w
 cases h:t (bY ρ) with
 |none=>rw[h] at w;exact w.elim
 |some c =>
  rw[h] at w;refine⟨c,h,?_⟩
  cases c with
  |true=>rw[Z_ rfl];exact w
  |false=>rw[Zz bz];exact w
section
variable{i:Nat}{x:ak}{e:ar}{f:EF}{pos pos':bh}
theorem dB(hN:X.N.Nodup)(he:cD X e f)(hi:X.N[i]?=aa x:=by rfl)(hx:Loc X.env.scope x:=by walk_at "0")(hs:Si X e x pos' pos:=by rfl)(hf:Zq X x:=by walk_at "0"):
  yP X (.Assign [.Name x pos'] e pos) (bD i f):=cS (Nk hN he hi hx hs hf) λE ρ w=>by
 unfold wS bD at w
 cases h:f (jR ρ) with
 |none=>rw[h] at w;exact w.elim
 |some d=>rw[h] at w;exact⟨d,h,w⟩
theorem DU(hN:X.N.Nodup)(he:fT X e f)(hi:X.N[i]?=aa x:=by rfl)(hx:Loc X.env.scope x:=by walk_at "0")(hs:Si X e x pos' pos:=by rfl)(hf:Zq X x:=by walk_at "0"):
  yP X (.Assign [.Name x pos'] e pos) (lX i f):=cS (Oz hN he hi hx hs hf) λE ρ w=>by
 unfold wS lX at w
 cases h:f (jR ρ) with
 |none=>rw[h] at w;exact w.elim
 |some d=>rw[h] at w;exact⟨d,h,w⟩
theorem Tg(hN:X.N.Nodup)(he:fT X e f)(hi:X.N[i]?=aa x:=by rfl)(hx:Loc X.env.scope x:=by walk_at "0")(hs:Si X e x pos' pos:=by rfl)(hf:Zq X x:=by walk_at "0"):
  yP X (.Assign [.Name x pos'] e pos) (lP i f):=cS (Tq hN he hi hx hs hf) λE ρ w=>by
 unfold wS lP at w
 cases h:f (bY ρ) with
 |none=>rw[h] at w;exact w.elim
 |some d =>
  rw[h] at w;dsimp only at w;by_cases hl:oY d=ae
  .rw [Z_ hl] at w;refine⟨d,h,?_,w⟩;cases d<;>first|exact hl|cases hl
  .rw [Zz hl] at w;exact w.elim
def V6(hN:X.N.Nodup)(hi:X.N[i]?=aa x:=by rfl)(hx:Loc X.env.scope x:=by walk_at "0")(hs:gb (.Dict [] [] p) (aa (.Name x pos')) pos.line X.env=pure ag:=by rfl)(hf:Zq X x:=by walk_at "0"):
  yP X (.Assign [.Name x pos'] (.Dict [] [] p) pos) (EV i):=cS (VS hN hi hx hs hf) λE ρ w=>w
end
theorem uI(he:Q5 X e f)(hs:gb e af pos.line X.env=pure ag:=by rfl):yP X (.Expr e pos) (sX f):=cS (Ud he hs) λE ρ w=>by
 unfold wS sX at w
 cases h:f ρ with
 |none=>rw[h] at w;exact w.elim
 |some d=>rw[h] at w;exact⟨d,h,w⟩
theorem Jj(he:Q5 X e f)(hk:cD X k fk)
  (hN:X.N[i]?=aa x:=by rfl) (hv:C4 X.env.scope x:=by walk_at "1") (hd:Zu x:=by decide) (hcd:Zt x:=by decide)
  (ha:∀v,assign (.Subscript (.Name x p) k pos') X.env v=(do
   let ov <- holding [v] (eval (.Name x p) X.env)
   let iv <- holding [v,ov] (eval k X.env)
   standAt pos'
   holding [v,ov,iv] (setItem ov iv v)
   release [v,ov,iv] []):=by intro _;rfl)
  (hs:swapsWithSole [.Subscript (.Name x p) k pos'] e pos.line X.env=pure ag:=by rfl) (hw:swappedStores [.Subscript (.Name x p) k pos'] e X.env=pure af:=by rfl)
  (h1:(e_ [.Subscript (.Name x p) k pos'] X.env).map (·.2)=[assign (.Subscript (.Name x p) k pos') X.env]:=by rfl):
  yP X (.Assign [.Subscript (.Name x p) k pos'] e pos) (NM i f fk):=cS (put3 he hk hN hv hd hcd ha hs hw h1) λE ρ w=>by
 unfold wS NM at w
 cases h:((f ρ).bind λp=>(oV p.1[i]?).bind λds=>(fk (bY p.1)).bind λkd=>(asInt kd).bind λkk=>(Q8 ds.length kk).map λj=>p.1.set i (.ow (.lst (ds.set j p.2)))) with
 |none=>rw[h] at w;exact w.elim
 |some ρ' =>
  rw[h] at w;obtain⟨q,eq,h⟩:=bnd h;obtain⟨ds,ed,h⟩:=bnd h;obtain⟨kd,ek,h⟩:=bnd h;obtain⟨kk,e2,h⟩:=bnd h;obtain⟨j,ej,rfl⟩:=lJ h;have o:=JR ed;refine⟨q,eq,by unfold xh;rw[o];trivial,kd,ek,?_⟩;cases kd<;>first|cases e2;done|skip
  cases e2;have ej:OL ds.length kk=aa j:=ej
  show(match q.1[i]?,D.int kk with
   |some (.ow (.lst ds)),.int k=>(match OL ds.length k with|some j=>E.nx (q.1.set i (.ow (.lst (ds.set j q.2))))|none=>False)
   |_,_=>False)
  rw[o];dsimp only;rw[ej];exact w
def PN(h:vZ o=aa p):o=aa (.ow (.jA p.1 p.2)):=by
 unfold vZ at h;split at h
 .cases h;rfl
 .cases h
theorem Tf(hu:X.A.units+1<cf)(he:Q5 X e f)(hk:cD X k fk)
  (hN:X.N[i]?=aa x:=by rfl) (hv:C4 X.env.scope x:=by walk_at "1") (hd:Zu x:=by decide) (hcd:Zt x:=by decide)
  (hs:gb e (aa (.Subscript (.Name x p) k pos')) pos.line X.env=pure ag:=by rfl):
  yP X (.Assign [.Subscript (.Name x p) k pos'] e pos) (KU i f fk):=cS (Tr hu he hk hN hv hd hcd hs) λE ρ w=>by
 unfold wS KU at w;cases h:((f ρ).bind λp=>(vZ p.1[i]?).bind λkd=>(fk (bY p.1)).bind λkv=>(vX kv).bind λkk =>
  if(jF kd.1 kd.2 kk).isNone=ae/\kd.2.length<oH then aa (p.1.set i (.ow (.jA (kd.1++[kk]) (kd.2++[p.2])))) else af) with
 |none=>rw[h] at w;exact w.elim
 |some ρ' =>
  rw[h] at w;obtain⟨q,eq,h⟩:=bnd h;obtain⟨kd,ed,h⟩:=bnd h;obtain⟨kv,ek,h⟩:=bnd h;obtain⟨kk,e2,h⟩:=bnd h;have o:=PN ed;by_cases hc:(jF kd.1 kd.2 kk).isNone=ae/\kd.2.length<oH
  .rw [Z_ hc] at h;cases h;refine⟨q,eq,by rw[o];trivial,kv,ek,?_⟩;have e3:GP kv=aa kk:=by cases kv<;>first|exact e2|cases e2
   show(match q.1[i]?,GP kv with
    |some (.ow (.jA ks ds)),aa k=>(jP ks ds k=af/\ds.length<bg)/\E.nx (q.1.set i (.ow (.jA (ks++[k]) (ds++[q.2]))))
    |_,_=>False)
   rw[o,e3];refine⟨⟨?_,by rw[gr];exact hc.2⟩,w⟩;have:=hc.1
   cases hl:jF kd.1 kd.2 kk with
   |none=>exact hl
   |some d=>rw[hl] at this;cases this
  .rw [Zz hc] at h;cases h
def Az(h:PG3 X tg g)(c:∀d ρ Q,g' d ρ Q->g d ρ Q):PG3 X tg g':=OX h λ_ _ _ _ Te=>by obtain⟨H₀,S,w,ρ,G,d,Q3,hl,st,dn,hg,k⟩:=Te;exact⟨H₀,S,w,ρ,G,d,Q3,hl,st,dn,c d ρ Q3 hg,k⟩
def iA(hN:X.N.Nodup)(hi:X.N[i]?=aa x:=by rfl)(hx:Loc X.env.scope x:=by walk_at "0")(hf:Zq X x:=by walk_at "0"):PG3 X (.Name x pos) (wG (mC i)) :=
 Az (T_ hN hi hx hf) λd ρ Q Td=>by obtain⟨ρ',e,q⟩:=Td;cases e;exact q
def MT(hc:X.calm=ae)(hN:X.N.Nodup)(hi:X.N[i]?=aa x:=by rfl)(hj:X.N[j]?=aa y:=by rfl)(hx:Loc X.env.scope x:=by walk_at "0")(hy:Loc X.env.scope y:=by walk_at "0")
  (hf:Zq X x:=by walk_at "0") (hf2:Zq X y:=by walk_at "0")
  (hn:Q0i X x y px py:=by rfl) (hst:Q0h X x y px py:=by rfl)
  (hs1:H0 X x y px py:=by rfl) (hs2:gV X y py:=by rfl):
  PG3 X (.Tuple [.Name x px,.Name y py] k pos) (wG (NN i j)):=Az (TM hc hN hi hj hx hy hf hf2 hn hst hs1 hs2) λd ρ Q Tc=>by
 obtain⟨ρ',e,q⟩:=Tc;obtain⟨p,ep,rfl⟩:=lJ e;rw[MS ep];exact q
theorem kH(hc:X.calm=ae)(hp:qv (ay X.prog X.w) X.A X.env X.xe)(hi:YE X tg iter it)(hg:PG3 X tg (wG g))(hb:zX X body b)
  (hs:Zo X iter:=by intro _;rfl):yP X (.For tg iter body [] pos) (dY it g b):=cS (Mz hc hp hi hg hb hs) λE ρ w=>by
 unfold wS dY at w
 cases h:it (jR ρ) with
 |none=>rw[h] at w;exact w.elim
 |some ds =>
  rw[h] at w;refine⟨ds,h,λi ρ'=>wS (eR g b (ds.drop i)) E ρ',(by show wS (eR g b (ds.drop 0)) E ρ;rw[r_];exact w),λi d ρ' hd iv=>?_,λρ' iv=>?_⟩
  .have hi:i<ds.length:=(cq.mp hd).1;have e1:ds[i]=d:=(cq.mp hd).2;have iv:wS (eR g b (ds.drop i)) E ρ':=iv;rw[vw hi,e1] at iv;unfold wS eR at iv
   cases hg:g d ρ' with
   |none=>rw[hg] at iv;exact iv.elim
   |some ρ1 =>
    rw[hg] at iv;dsimp only at iv;refine⟨ρ1,hg,?_⟩;unfold wS
    cases hb:b ρ1 with
    |nx ρ2=>rw[hb] at iv;dsimp only;rw[hb];exact iv
    |rt d=>rw[hb] at iv;dsimp only;rw[hb];exact iv
    |no=>rw[hb] at iv;dsimp only;rw[hb];exact iv
    |ex c=>rw[hb] at iv;dsimp only;rw[hb];exact iv
  .have iv:wS (eR g b (ds.drop ds.length)) E ρ':=iv;rw[a2Q] at iv;exact iv
theorem Xf(hp:qv (ay X.prog X.w) X.A X.env X.xe)(hc:uU X c t)(hb:zX X body b):yP X (.While c body [] pos) (RD n t b):=cS (Xr hp hc hb) λE ρ w=>by
 have least:∀{p:Nat->Prop},(∃n,p n) ->∃n,p n /\∀m,p m->n<=m:=λ{p} ⟨n,hn⟩=>by
  induction n using zo with
  |ind n ih =>
   by_cases h:∃m,m<n/\p m
   .obtain ⟨m,hm,pm⟩:=h;exact ih m hm pm
   .exact ⟨n,hn,λm pm=>by apply Aa;intro z;exact h ⟨m,by omega,pm⟩⟩
 refine⟨λρ'=>∃m,wS (eB t b m) E ρ',λρ'=>(a3a λm=>wS (eB t b m) E ρ' /\∀k,wS (eB t b k) E ρ'->m<=k),⟨n,w⟩,λρ' iv=>?_⟩;obtain⟨m0,hm0⟩:=least iv;have hm:=a29 (p:=λm=>wS (eB t b m) E ρ' /\∀k,wS (eB t b k) E ρ'->m<=k) ⟨m0,hm0⟩;dsimp only;generalize (a3a λm=>wS (eB t b m) E ρ' /\∀k,wS (eB t b k) E ρ'->m<=k)=m at hm ⊢
 cases m with
 |zero=>exact hm.1.elim
 |succ m =>
  have h1:=hm.1;unfold wS eB at h1
  cases ht:t (bY ρ') with
  |none=>rw[ht] at h1;exact h1.elim
  |some c =>
   rw[ht] at h1;refine⟨c,ht,?_⟩
   cases c with
   |false=>rw[Zz bz];exact h1
   |true =>
    rw[Z_ rfl];dsimp only at h1;unfold wS
    cases hb:b ρ' with
    |nx ρ2 =>
     rw[hb] at h1;have h2:wS (eB t b m) E ρ2:=h1;refine⟨⟨m,h2⟩,?_⟩;obtain⟨k0,hk0⟩:=least (p:=λm=>wS (eB t b m) E ρ2) ⟨m,h2⟩;have hk:=a29 (p:=λm=>wS (eB t b m) E ρ2 /\∀k,wS (eB t b k) E ρ2->m<=k) ⟨k0,hk0⟩;exact Nat.lt_succ_of_le (hk.2 m h2)
    |rt d=>rw[hb] at h1;exact h1
    |no=>rw[hb] at h1;exact h1
    |ex c=>rw[hb] at h1;exact h1
end
theorem Bc{P:bf}{w:ba}{K:aq}{mg:Q0d}{base:bb}{x qual:ak}{st:df}{f:ai}{fd:gp}{N ps:Q0g}{k n np:Nat}{b:SF}(F:Fun K x qual st f fd)(S:iG N ps (bN st))(hn:N.length=n)(hp:ps.length=np)
  (hbody:∀(cdv:aj) (A:bx) (outer:List fw) (s:ao) (H:Hp) (E:XK),fZ k (A.deeper (envOfC qual (bN st) s.heap.objs.size f cdv)) ->
   zX (yB cK P w K mg base N qual (bN st) f cdv A outer s H E).Z4 (f6 st) b):lF P w K mg base cK (k+1) f fd ps (dE K (c8 n np b)):=by
 subst hn hp;refine Ox F S (λds Q ⟨d,e,q⟩=>?_) λcdv A outer s H E hr=>⟨_,hbody cdv A outer s H E hr,λds Q ⟨d,e,q⟩=>?_⟩
 .unfold c8 at e;by_cases h:ds.length=ps.length
  .exact h
  .rw [Zz h] at e;cases e
 .unfold c8 at e;by_cases h:ds.length=ps.length
  .rw [Z_ h] at e;have e2:mV N ds=dZ N.length ds:=rfl;unfold wS;rw[e2]
   cases hb:b (dZ N.length ds) with
   |rt d'=>rw[hb] at e;cases e;exact q
   |nx ρ=>rw[hb] at e;cases e;exact q
   |no=>rw[hb] at e;cases e
   |ex c=>rw[hb] at e;cases e
  .rw [Zz h] at e;cases e
theorem kT{P:bf}{w:ba}{K:aq}{mg:Q0d}{base:bb}{x:ak}{st:df}{N ps:Q0g}{k n np:Nat}{b:SF}(D:Df K mg x st ps)
  (h:∀{f:ai} {cdv:aj} {A:bx} {outer:List fw} {s:ao} {H:Hp} {E:XK},fZ k (A.deeper (envOfC x (bN st) s.heap.objs.size f cdv))->N.Nodup->zX (yB cK P w K mg base N x (bN st) f cdv A outer s H E).Z4 (f6 st) b)
  (S:iG N ps (bN st):=by exact⟨rfl,rfl,rfl,by decide+kernel,rfl,by decide+kernel,by decide+kernel⟩) (hn:N.length=n:=by rfl) (hp:ps.length=np:=by rfl):Cl P w K mg base cK (k+1) x ps (dE K (c8 n np b)):=by
 obtain⟨_,F,m,q⟩:=D;exact⟨Bc F S hn hp λ_ _ _ _ _ _ hr=>h hr S.nd,m,F.kp,q⟩
def Tb{P:bf}{w:ba}{K:aq}{mg:Q0d}{base:bb}{k:Nat}{f:ai}{fd:gp}{ps:Q0g}:lF P w K mg base cK k f fd ps (dE K λ_=>.no) :=
 ⟨λ_ _ _ _ h=>(by obtain⟨_,_,_,_,_,⟨_,e,_⟩,_⟩:=h;cases e),λ_ _ _ _ _ _ _ _ _ _ _ _ _ h=>(by obtain⟨_,_,_,_,_,⟨_,e,_⟩,_⟩:=h;cases e)⟩
def nn4{P:bf}{w:ba}{K:aq}{mg:Q0d}{base:bb}{k:Nat}{x:ak}{st:df}{ps:Q0g}(D:Df K mg x st ps):Cl P w K mg base cK k x ps (dE K λ_=>.no):=by obtain⟨_,F,m,q⟩:=D;exact⟨Tb,m,F.kp,q⟩
section
variable{X:Cx}{pins:Q0b}{σ:L2.St}{H:Hp}
theorem uJ(I:Inv X pins σ H s)(rx:RelV x v)(e:x=.bl k\/(∃p xs,x=.ref p/\(dW X.K H p xs\/fB X.K H p xs)/\k=!xs.isEmpty))
  (q:∀tk,Q k {s with toks:=tk}):ax (ay X.prog X.w) A (truthy v) Q E s:=by
 have hs:bg=16777216:=gr;rcases e with rfl|⟨p,xs,rfl,hx,rfl⟩
 .cases rx;exact mn (q s.toks)
 .cases rx;rcases hx with hx|hx
  .obtain ⟨its,r,pl,hz⟩:=I.list hx;have hlen:=r.length;exact a0c pl.isList (by simp only[cu];omega) (by rw[lE r];exact q _)
  .obtain ⟨its,r,pl,hz⟩:=I.tuple hx;have hlen:=r.length;exact a1T pl (by simp only[cu];omega) (by rw[lE r];exact q _)
def TrV(K:aq)(H:Hp)(x:V)(k:Bool):Prop:=x=.bl k\/(∃p xs,x=.ref p/\(dW K H p xs\/fB K H p xs)/\k=!xs.isEmpty)
def BM(h:j<n):(bu n).drop j=j::(bu n).drop (j+1):=by
 have hl:j<(bu n).length:=by rw[kq];exact h
 rw[vw hl,List.getElem_range]
section
variable{it:ai}{fp wr:List ai}{n:Nat}{P:Nat->aj->Prop}{St:Nat->bb->Prop}{R:Result->ao->Prop}{tr:Nat->Bool}
theorem BN(W:Walks X.prog X.w X.A.in1 it fp wr n P St)(hf:∀b∈wr,oB X pins H b)(ht:∀j v,P j v ->∃x,RelV x v/\TrV X.K H x (tr j)):
  ∀(m j:Nat) (st:ao),m+j=n->Inv X pins σ H st->St j st.heap->(∀st',Inv X pins σ H st'->R (.ok (.ret (.bool (((bu n).drop j).any tr)))) st')->kh (ay X.prog X.w) X.A (.builtin "any.loop" ⟨[.ref it],[]⟩) R st
 |0,j,st,hj,I,hS,k=>by
  obtain rfl:j=n:=by omega
  refine kg (a1C) ?_;rw[lr ze];refine av (W.done st _ _ hS λh2 t2 kp=>av (mq (az ?_)));have:=k _ (GQ (t':=t2) I kp hf)
  rwa [Ha (by simp)] at this
 |m+1,j,st,hj,I,hS,k=>by
  have hjn:j<n:=by omega
  refine kg (a1C) ?_;rw[lr ze];refine av (W.item j st _ _ hjn hS λv h2 t2 pv wg kp=>?_);have I2:Inv X pins σ H {st with heap:=h2,toks:=t2}:=GQ (t':=t2) I kp hf;obtain⟨x,rx,hx⟩:=ht j v pv;rw[BM hjn,jq] at k;refine av (ip (uJ I2 rx hx λt3=>av (a0m ?_)));have I3:Inv X pins σ H {st with heap:=h2,toks:=t3}:=I2.tok t3
  cases hb:tr j with
  |false =>
   rw[hb,Ac] at k;rw[Zz bz];exact az ⟨nq ze _,BN W hf ht m (j+1) _ (by omega) I3 wg k⟩
  |true =>
   rw[hb,a3b] at k;rw[Z_ rfl];exact av (mq (az (k _ I3)))
theorem BO(W:Walks X.prog X.w X.A.in1 it fp wr n P St)(hf:∀b∈wr,oB X pins H b)(ht:∀j v,P j v ->∃x,RelV x v/\TrV X.K H x (tr j)):
  ∀(m j:Nat) (st:ao),m+j=n->Inv X pins σ H st->St j st.heap->(∀st',Inv X pins σ H st'->R (.ok (.ret (.bool (((bu n).drop j).all tr)))) st')->kh (ay X.prog X.w) X.A (.builtin "all.loop" ⟨[.ref it],[]⟩) R st
 |0,j,st,hj,I,hS,k=>by
  obtain rfl:j=n:=by omega
  refine kg (a1D) ?_;rw[lr zf];refine av (W.done st _ _ hS λh2 t2 kp=>av (mq (az ?_)));have:=k _ (GQ (t':=t2) I kp hf)
  rwa [Ha (by simp)] at this
 |m+1,j,st,hj,I,hS,k=>by
  have hjn:j<n:=by omega
  refine kg (a1D) ?_;rw[lr zf];refine av (W.item j st _ _ hjn hS λv h2 t2 pv wg kp=>?_);have I2:Inv X pins σ H {st with heap:=h2,toks:=t2}:=GQ (t':=t2) I kp hf;obtain⟨x,rx,hx⟩:=ht j v pv;rw[BM hjn,mj] at k;refine av (ip (uJ I2 rx hx λt3=>av (a0m ?_)));have I3:Inv X pins σ H {st with heap:=h2,toks:=t3}:=I2.tok t3
  cases hb:tr j with
  |true =>
   rw[hb,ku] at k;rw[Z_ rfl];exact az ⟨nq zf _,BO W hf ht m (j+1) _ (by omega) I3 wg k⟩
  |false =>
   rw[hb,Ad] at k;rw[Zz bz];exact av (mq (az (k _ I3)))
end
def w_(f:List Bool->Bool)(K:aq):List V->Hp->VK->Prop:=λxs H Q=>∃a ys bs,xs=[.ref a]/\H a=aa (.lst ys)/\bs.length=ys.length/\(∀(j:Nat) (y:V) (b:Bool),ys[j]?=aa y->bs[j]?=aa b->TrV K H y b)/\Q (.bl (f bs)) H
def PQ(hc:X.calm=ae):eT X (.builtin "any") (w_ (λbs=>bs.any id) X.K):=by
 intro pins s σ H xs us Q I r h;obtain⟨a,ys,bs,rfl,ha,hl,ht,q⟩:=h;obtain⟨u,rfl,ru⟩:=vals1 r;cases ru;obtain⟨its,rv,p,hz⟩:=I.list (dW.of ha);have hlt:a<s.heap.objs.size:=by obtain⟨o,n,e,_⟩:=p;exact b_ e
 have hn:its.length=ys.length:=rv.length.symm;have ht2:∀j v,its.toArray[j]?=aa v ->∃x,RelV x v/\TrV X.K H x (bs.getD j ae):=λj v e=>by
  have e1:its[j]?=aa v:=by simpa using e
  have hj:j<ys.length:=by have:=(cq.mp e1).1;omega
  obtain⟨u,e2,ru⟩:=rv.get (bc hj);rw[e1] at e2;cases e2;refine⟨_,ru,ht j _ _ (bc hj) ?_⟩;rw[fm,bc (by omega)];rfl
 refine a0N (F.kind_any) F.plain_any F.entry_any (F.args_any1 _) ?_;unfold Builtin.«any»;refine av (m:=oneArg "any" _) (az (av (Ef p.isList (az ⟨nq ze _,?_⟩))));have hfr:H s.heap.objs.size=af:=I.hok.fresh (bj _);have I1:Inv X pins σ H {s with heap:=s.heap.push {cls:=.type "list_iterator",data:=.fields #[.ref a,rawInt 0]} }:=I.kept (t':=s.toks) λb o e=>di _ e;refine BN (X:=X) (pins:=pins) (σ:=σ) (H:=H) (tr:=λj=>bs.getD j ae) (a0Q (A:=X.A.in1) (show X.A.in1.handled=af from I.ok.hd hc) s.heap.objs.size a (fv hlt) its.toArray) (λb hb=>?_) ht2 its.toArray.size 0 _ rfl I1
  ⟨⟨_,f_ _ rfl,rfl,rfl⟩,p.isList.at λo e=>di _ e⟩ λst' I'=>?_
 .cases cp.mp hb;exact I.C6 (bj _) hfr
 .refine ⟨.bl _,H,I',rfl,?_⟩;rw[r_,show its.toArray.size=bs.length by simp[hn,hl],range_any];exact q
def PR(hc:X.calm=ae):eT X (.builtin "all") (w_ (λbs=>bs.all id) X.K):=by
 intro pins s σ H xs us Q I r h;obtain⟨a,ys,bs,rfl,ha,hl,ht,q⟩:=h;obtain⟨u,rfl,ru⟩:=vals1 r;cases ru;obtain⟨its,rv,p,hz⟩:=I.list (dW.of ha);have hlt:a<s.heap.objs.size:=by obtain⟨o,n,e,_⟩:=p;exact b_ e
 have hn:its.length=ys.length:=rv.length.symm;have ht2:∀j v,its.toArray[j]?=aa v ->∃x,RelV x v/\TrV X.K H x (bs.getD j ae):=λj v e=>by
  have e1:its[j]?=aa v:=by simpa using e
  have hj:j<ys.length:=by have:=(cq.mp e1).1;omega
  obtain⟨u,e2,ru⟩:=rv.get (bc hj);rw[e1] at e2;cases e2;refine⟨_,ru,ht j _ _ (bc hj) ?_⟩;rw[fm,bc (by omega)];rfl
 refine a0N (F.kind_all) F.plain_all F.entry_all (F.args_all1 _) ?_;unfold Builtin.«all»;refine av (m:=oneArg "all" _) (az (av (Ef p.isList (az ⟨nq zf _,?_⟩))));have hfr:H s.heap.objs.size=af:=I.hok.fresh (bj _);have I1:Inv X pins σ H {s with heap:=s.heap.push {cls:=.type "list_iterator",data:=.fields #[.ref a,rawInt 0]} }:=I.kept (t':=s.toks) λb o e=>di _ e;refine BO (X:=X) (pins:=pins) (σ:=σ) (H:=H) (tr:=λj=>bs.getD j ae) (a0Q (A:=X.A.in1) (show X.A.in1.handled=af from I.ok.hd hc) s.heap.objs.size a (fv hlt) its.toArray) (λb hb=>?_) ht2 its.toArray.size 0 _ rfl I1
  ⟨⟨_,f_ _ rfl,rfl,rfl⟩,p.isList.at λo e=>di _ e⟩ λst' I'=>?_
 .cases cp.mp hb;exact I.C6 (bj _) hfr
 .refine ⟨.bl _,H,I',rfl,?_⟩;rw[r_,show its.toArray.size=bs.length by simp[hn,hl],range_all];exact q
theorem Ct{K:aq}{S:ai->Prop}{H:Hp}:∀{es:List D} {ys:List V} {bs:List Bool},aP K S H es ys->oU es=aa bs->bs.length=ys.length /\∀(j:Nat) (y:V) (b:Bool),ys[j]?=aa y->bs[j]?=aa b->TrV K H y b
 |[],ys,bs,dn,h=>by simp only[aP] at dn;subst dn;cases h;exact⟨rfl,λj y b e=>by simp at e⟩
 |d::es,ys,bs,dn,h=>by
  obtain⟨v,r,rfl,h1,h2⟩:=dn.bH;obtain⟨b,eb,h⟩:=bnd h;obtain⟨bs',e2,rfl⟩:=lJ h;obtain⟨hl,ih⟩:=Ct h2 e2;refine⟨by simp[hl],λj y c ey ec=>?_⟩
  cases j with
  |zero =>
   simp at ey ec;subst ey ec;cases d<;>first|cases eb;done|skip
   .cases eb;simp only[Dn] at h1;exact .inl h1
   .cases eb;simp only[Dn] at h1;obtain⟨a,xs,rfl,ha,da⟩:=h1;exact .inr ⟨a,xs,rfl,.inr (fB.of ha),by rw[<- da.empty]⟩
   .cases eb;simp only[Dn] at h1;obtain⟨a,xs,rfl,ha,_,da⟩:=h1;exact .inr ⟨a,xs,rfl,.inl (dW.of ha),by rw[<- da.empty]⟩
  |succ j=>exact ih j y c (by simpa using ey) (by simpa using ec)
def trF(f:List Bool->Bool):F1
 |[.lst es],Q=>∃bs,oU es=aa bs/\Q (.bl (f bs))
 |_,_=>False
theorem V7{K:aq}{f:List Bool->Bool}:C3 K (w_ f K) (trF f):=by
 intro S H xs ds Q3 Q fc hd hf k
 match ds,hf with
 |[.lst es],⟨bs,eb,q⟩ =>
  obtain⟨v,r,rfl,h1,h2⟩:=hd.bH;simp only[aP] at h2;subst h2;simp only[Dn] at h1;obtain⟨a,ys,rfl,ha,sa,da⟩:=h1;obtain⟨hl,ht⟩:=Ct da eb;exact⟨a,ys,bs,rfl,ha,hl,ht,k _ H _ (Same.refl H) (by simp only[Dn]) q⟩
def Bb{p pos:bh}{e:ar}{t:AF}(hc:X.calm=ae)(hm:X.mg "any"=af)(ha:zH X [e] t)(hg:Gl X "any":=by rfl)(he:Zs X e []:=by rfl):cD X (.Call (.Name "any" p) [e] [] pos) (bX anyM t) :=
 cE (tM (PQ hc) V7 a4y hg hm ha (by decide) (by decide) he (by rfl)) (yQ λds d Q e q=>by
  unfold anyM at e;split at e
  .obtain ⟨bs,eb,rfl⟩:=lJ e;exact⟨bs,eb,q⟩
  .cases e)
def t_{p pos:bh}{e:ar}{t:AF}(hc:X.calm=ae)(hm:X.mg "all"=af)(ha:zH X [e] t)(hg:Gl X "all":=by rfl)(he:Zs X e []:=by rfl):cD X (.Call (.Name "all" p) [e] [] pos) (bX allM t) :=
 cE (tM (PR hc) V7 a4z hg hm ha (by decide) (by decide) he (by rfl)) (yQ λds d Q e q=>by
  unfold allM at e;split at e
  .obtain ⟨bs,eb,rfl⟩:=lJ e;exact⟨bs,eb,q⟩
  .cases e)
end
end L4
namespace L3
open PySem.Spec PyProof.Rows L2
end L3
namespace L4
open PySem.Spec PyProof.Rows L2 L3
open PySem.W
noncomputable def told(lt:Nat->Nat->Bool){α:Type}:pd α->α
 |.ret a=>a
 |.ask i j k=>told lt (k (lt i j))
theorem iM{α β:Type}(f:α->pd β):∀t:pd α,told lt (t.bind f)=told lt (f (told lt t))
 |.ret _=>rfl
 |.ask i j k=>iM f (k (lt i j))
section
variable{lt:Nat->Nat->Bool}
def Up(lt:Nat->Nat->Bool)(p:Array Nat)(k:Nat):Prop:=∀i j,i<j->j<k->lt (p.getD j 0) (p.getD i 0)=ag
def Q6(lt:Nat->Nat->Bool)(p:Array Nat)(k:Nat):Prop:=∀i j,i<j->j<k->lt (p.getD i 0) (p.getD j 0)=ag
structure tS (lt:Nat->Nat->Bool):Prop where
 as:∀a b,lt a b=ae->lt b a=ag
 tr:∀a b c,lt b a=ag->lt c b=ag->lt c a=ag
theorem tS.HF(O:tS lt)(x:Nat):lt x x=ag:=by
 cases hb:lt x x with
 |false=>rfl
 |true=>have:=O.as _ _ hb;rw[hb] at this;exact this
def gA{p:Array Nat}{i:Nat}:p.getD i 0=(p[i]?).getD 0:=by rw[Array.getD_eq_getD_getElem?]
def gX{p:Array Nat}{i j:Nat}(hj:j<=p.size)(k:Nat):(ij p i j).getD k 0=if i<=k/\k<j then p.getD (i+j-1-k) 0 else p.getD k 0:=by unfold ij;rw[gA,getElem?_mirror_all hj];split<;>rw[gA]
def yT(p:Array Nat)(i j:Nat):(ij p i j).size=p.size:=mirror_size _ _ _ _
def gC(p:Array Nat)(i j:Nat):(ij p i j).Perm p:=mirror_perm _ _ _ _
theorem JT(O:tS lt)(p:Array Nat):∀f n,1<=n->Up lt p n->n<=told lt (iq p f n)/\told lt (iq p f n)<=n+f/\Up lt p (told lt (iq p f n))/\(told lt (iq p f n)<n+f->lt (p.getD (told lt (iq p f n)) 0) (p.getD (told lt (iq p f n)-1) 0)=ae)
 |0,n,h1,hu=>⟨bj _,bj _,hu,λh=>Zw h (ik _)⟩
 |f+1,n,h1,hu=>by
  show n<=told lt (if lt (p.getD n 0) (p.getD (n-1) 0)=ae then nu n else iq p f (n+1))/\told lt (if lt (p.getD n 0) (p.getD (n-1) 0)=ae then nu n else iq p f (n+1))<=n+(f+1)/\Up lt p (told lt (if lt (p.getD n 0) (p.getD (n-1) 0)=ae then nu n else iq p f (n+1)))/\(told lt (if lt (p.getD n 0) (p.getD (n-1) 0)=ae then nu n else iq p f (n+1))<n+(f+1)->lt (p.getD (told lt (if lt (p.getD n 0) (p.getD (n-1) 0)=ae then nu n else iq p f (n+1))) 0) (p.getD (told lt (if lt (p.getD n 0) (p.getD (n-1) 0)=ae then nu n else iq p f (n+1))-1) 0)=ae)
  cases hc:lt (p.getD n 0) (p.getD (n-1) 0) with
  |true=>exact⟨bj _,by show n<=n+(f+1);omega,hu,λ_=>hc⟩
  |false =>
   rw[Zz bz];have hu2:Up lt p (n+1):=λi j hij hj=>by
    by_cases hj2:j<n
    .exact hu i j hij hj2
    .have:j=n:=by omega
     subst this;by_cases hi:i=j-1
     .subst hi;exact hc
     .exact O.tr _ _ _ (hu i (j-1) (by omega) (by omega)) hc
   obtain⟨a,b,c,d⟩:=JT O p f (n+1) (by omega) hu2;exact⟨by omega,by omega,c,λh=>d (by omega)⟩
def Xe(hn:n<=p.size)(h:Q6 lt p n):Up lt (ij p 0 n) n:=λi j hij hj=>by rw[gX hn,gX hn,Z_ ⟨by omega,hj⟩,Z_ ⟨by omega,by omega⟩];exact h _ _ (by omega) (by omega)
def Last(lt:Nat->Nat->Bool)(p:Array Nat)(n q:Nat):Prop:=q+1<=n /\∀i j,n-(q+1)<=i->i<n->n-(q+1)<=j->j<n->lt (p.getD i 0) (p.getD j 0)=ag
def rev_last(hn:n<=p.size)(h:Q6 lt p n)(l:Last lt p n q):Q6 lt (ij p (n-(q+1)) n) n:=λi j hij hj=>by
 have:=l.1;rw[gX hn,gX hn];by_cases h1:n-(q+1)<=i
 .rw [Z_ ⟨h1,by omega⟩,Z_ ⟨by omega,hj⟩];exact l.2 _ _ (by omega) (by omega) (by omega) (by omega)
 .rw [Zz (by omega)];by_cases h2:n-(q+1)<=j
  .rw [Z_ ⟨h2,hj⟩];exact h _ _ (by omega) (by omega)
  .rw [Zz (by omega)];exact h i j hij hj
def kJ(O:tS lt)(h1:1<=n)(h:Q6 lt p n)(hc:lt (p.getD (n-1) 0) (p.getD n 0)=ag):Q6 lt p (n+1):=λi j hij hj=>by
 by_cases hj2:j<n
 .exact h i j hij hj2
 .have:j=n:=by omega
  subst this;by_cases hi:i=j-1
  .subst hi;exact hc
  .exact O.tr _ _ _ hc (h i (j-1) (by omega) (by omega))
def V8(hn:n<p.size):(ij p (n-(q+1)) n).getD n 0=p.getD n 0:=by rw[gX (ko hn),Zz (by omega)]
theorem vO(O:tS lt):∀f (p:Array Nat) n q,1<=n->n+f<=p.size->Q6 lt p n->Last lt p n q ->∀r,r=told lt (o_ f p n q)->r.1.Perm p/\r.2.1<=n+f/\n<=r.2.1/\Q6 lt r.1 r.2.1/\Last lt r.1 r.2.1 r.2.2
 |0,p,n,q,_,_,h,l,r,er=>by subst er;exact⟨sx _,bj _,bj _,h,l⟩
 |f+1,p,n,q,h1,hs,h,l,r,er=>by
  have er:r=told lt (if lt (p.getD n 0) (p.getD (n-1) 0)=ae then(if q>0 then o_ f (ij p (n-(q+1)) n) (n+1) 0 else o_ f p (n+1) 0) else .ask (p.getD (n-1) 0) (p.getD n 0) λd=>if d=ae then .ret (p,n,q) else o_ f p (n+1) (q+1)):=er;have one:∀p:Array Nat,Last lt p (n+1) 0:=λp=>⟨by omega,λi j a b c d=>by
   have e1:i=n:=by omega
   have e2:j=n:=by omega
   rw[e1,e2];exact O.HF _⟩
  cases hc:lt (p.getD n 0) (p.getD (n-1) 0) with
  |true =>
   rw[hc,Z_ rfl] at er;have hc2:=O.as _ _ hc;by_cases hq:q>0
   .rw [Z_ hq] at er;have d1:=rev_last (by omega) h l;have lq:=l.1;have d2:Q6 lt (ij p (n-(q+1)) n) (n+1):=by refine kJ O h1 d1 ?_;rw[V8 (by omega),gX (by omega),Z_ ⟨by omega,by omega⟩];exact O.tr _ (p.getD (n-1) 0) _ hc2 (l.2 _ _ (by omega) (by omega) (by omega) (by omega))
    obtain⟨a,b,c,d,e⟩:=vO O f (ij p (n-(q+1)) n) (n+1) 0 (by omega) (by rw[yT];omega) d2 (one _) r er;exact⟨a.trans (gC _ _ _),by omega,by omega,d,e⟩
   .rw [Zz hq] at er;obtain⟨a,b,c,d,e⟩:=vO O f p (n+1) 0 (by omega) (by omega) (kJ O h1 h hc2) (one _) r er;exact⟨a,by omega,by omega,d,e⟩
  |false =>
   rw[hc,Zz bz] at er;have er:r=told lt (if lt (p.getD (n-1) 0) (p.getD n 0)=ae then nu (p,n,q) else o_ f p (n+1) (q+1)):=er
   cases hd:lt (p.getD (n-1) 0) (p.getD n 0) with
   |true =>
    rw[hd,Z_ rfl] at er;subst er;exact⟨sx _,by show n<=n+(f+1);omega,bj _,h,l⟩
   |false =>
    rw[hd,Zz bz] at er;have lq:=l.1;have l2:Last lt p (n+1) (q+1):=⟨by omega,λi j a b c d=>by
     by_cases hi:i<n
     .by_cases hj:j<n
      .exact l.2 i j (by omega) hi (by omega) hj
      .have:j=n:=by omega
       subst this;exact O.tr _ (p.getD (j-1) 0) _ hd (l.2 i (j-1) (by omega) hi (by omega) (by omega))
     .have:i=n:=by omega
      subst this;by_cases hj:j<i
      .exact O.tr _ (p.getD (i-1) 0) _ (l.2 (i-1) j (by omega) (by omega) (by omega) hj) hc
      .have:j=i:=by omega
       subst this;exact(one p).2 j j (by omega) (by omega) (by omega) (by omega)⟩
    obtain⟨a,b,c,d,e⟩:=vO O f p (n+1) (q+1) (by omega) (by omega) (kJ O h1 h hd) l2 r er;exact⟨a,by omega,by omega,d,e⟩
def BP{p q:Array Nat}(h:p.Perm q):p.size=q.size:=h.size_eq
def MU(O:tS lt)(h1:1<=n)(hn:n<=nrem)(hs:nrem<=p.size)(h:Q6 lt p n)(r:Nat×Array Nat)(er:r=told lt (Ey n nrem p)):r.2.Perm p/\1<=r.1/\r.1<=nrem/\Up lt r.2 r.1:=by unfold Ey at er;rw[iM] at er;obtain⟨a,b,c,_⟩:=JT O (ij p 0 n) (nrem-n) n h1 (Xe (by omega) h);subst er;exact⟨gC _ _ _,ie h1 a,(by show told lt _<=nrem;omega),c⟩
def uK(O:tS lt){n nrem:Nat}{p:Array Nat}(h1:1<=n)(hn:n+1<=nrem)(hs:nrem<=p.size)(h:Q6 lt p (n+1))(r:Nat×Array Nat)(er:r=told lt (yq n nrem p)):r.2.Perm p/\1<=r.1/\r.1<=nrem/\Up lt r.2 r.1:=by
 unfold yq at er;rw[iM] at er;have one:Last lt p (n+1) 0:=⟨by omega,λi j a b c d=>by
  have e1:i=n:=by omega
  have e2:j=n:=by omega
  rw[e1,e2];exact O.HF _⟩
 obtain⟨a,b,c,d,e⟩:=vO O (nrem-(n+1)) p (n+1) 0 (by omega) (by omega) h one _ rfl;generalize told lt (o_ (nrem-(n+1)) p (n+1) 0)=z at a b c d e er;have hz:=BP a;by_cases hq:z.2.2>0
 .rw [Z_ hq] at er;obtain⟨a2,b2,c2,d2⟩:=MU O (n:=z.2.1) (nrem:=nrem) (p:=ij z.1 (z.2.1-(z.2.2+1)) z.2.1) (by omega) (by omega) (by rw[yT];omega) (rev_last (by omega) d e) r er;exact⟨a2.trans ((gC _ _ _).trans a),b2,c2,d2⟩
 .rw [Zz hq] at er;obtain⟨a2,b2,c2,d2⟩:=MU O (n:=z.2.1) (nrem:=nrem) (p:=z.1) (by omega) (by omega) (by omega) d r er;exact⟨a2.trans a,b2,c2,d2⟩
def qQ(O:tS lt)(h1:1<=n)(hs:n<=p.size)(r:Nat×Array Nat)(er:r=told lt (yr n p)):r.2.Perm p/\1<=r.1/\r.1<=n/\Up lt r.2 r.1:=by
 unfold yr at er;rw[iM] at er;obtain⟨a,b,c,d⟩:=JT O p (n-1) 1 (bj _) (λi j hij hj=>by omega);generalize told lt (iq p (n-1) 1)=m at a b c d er;by_cases hm:(m == n)=ae
 .rw [Z_ hm] at er;subst er;exact⟨sx _,a,by show m<=n;omega,c⟩
 .rw [Zz hm] at er;have hm:m≠n:=λe=>hm (by rw[e];simp);have hlt:=d (by omega);by_cases h2:m>1
  .rw [Z_ h2] at er;have er:r=told lt (if lt (p.getD 0 0) (p.getD (m-1) 0)=ae then nu (m,p) else yq m n (ij p 0 m)):=er
   cases hc:lt (p.getD 0 0) (p.getD (m-1) 0) with
   |true =>
    rw[hc,Z_ rfl] at er;subst er;exact⟨sx _,a,by show m<=n;omega,c⟩
   |false =>
    rw[hc,Zz bz] at er;have all:∀i j,i<m->j<m->lt (p.getD i 0) (p.getD j 0)=ag:=λi j hi hj=>by
     have i0:∀i,i<m->lt (p.getD 0 0) (p.getD i 0)=ag:=λi hi=>by
      by_cases he:i=m-1
      .subst he;exact hc
      .exact O.tr _ _ _ (c i (m-1) (by omega) (by omega)) hc
     have HF:∀x,lt x x=ag:=λx=>by
      cases hb:lt x x with
      |false=>rfl
      |true=>have:=O.as _ _ hb;rw[hb] at this;exact this
     have z0:lt (p.getD i 0) (p.getD 0 0)=ag:=by
      by_cases hi0:i=0
      .subst hi0;exact HF _
      ·-- a later one is not less than the first one
       exact c 0 i (by omega) hi
     exact O.tr _ _ _ (i0 j hj) z0
    have dn:Q6 lt (ij p 0 m) (m+1):=by
     refine kJ O a (λi j hij hj=>?_) ?_
     .rw [gX (by omega),gX (by omega),Z_ ⟨by omega,by omega⟩,Z_ ⟨by omega,by omega⟩];exact all _ _ (by omega) (by omega)
     .rw [gX (by omega),gX (by omega),Z_ ⟨by omega,by omega⟩,Zz (by omega)];exact O.tr _ (p.getD (m-1) 0) _ (O.as _ _ hlt) (all _ _ (by omega) (by omega))
    obtain⟨a2,b2,c2,d2⟩:=uK O a (by omega) (by rw[yT];exact hs) dn r er;exact⟨a2.trans (gC _ _ _),b2,c2,d2⟩
  .rw [Zz h2] at er;have:m=1:=by omega
   subst this;have dn:Q6 lt p (1+1):=kJ O (bj _) (λi j hij hj=>by omega) (O.as _ _ hlt);exact uK O (bj _) (by omega) hs dn r er
theorem yU(O:tS lt)(p:Array Nat)(k:Nat):∀f l r,l<=r->r<=k->r-l<=f->Up lt p k->(∀i,i<l->lt (p.getD k 0) (p.getD i 0)=ag)->(∀i,r<=i->i<k->lt (p.getD i 0) (p.getD k 0)=ag) ->
  told lt (jj p k f l r)<=k/\(∀i,i<told lt (jj p k f l r)->lt (p.getD k 0) (p.getD i 0)=ag) /\∀i,told lt (jj p k f l r)<=i->i<k->lt (p.getD i 0) (p.getD k 0)=ag
 |0,l,r,hlr,hr,hf,_,h1,h2=>by
  have:l=r:=by omega
  subst this;exact⟨hr,h1,h2⟩
 |f+1,l,r,hlr,hr,hf,hu,h1,h2=>by
  unfold jj;by_cases hge:l >= r
  .rw [Z_ hge];have:l=r:=by omega
   subst this;exact⟨hr,h1,h2⟩
  .rw [Zz hge];show told lt (if lt (p.getD k 0) (p.getD ((l+r)/2) 0)=ae then jj p k f l ((l+r)/2) else jj p k f ((l+r)/2+1) r)<=k/\(∀i,i<told lt (if lt (p.getD k 0) (p.getD ((l+r)/2) 0)=ae then jj p k f l ((l+r)/2) else jj p k f ((l+r)/2+1) r)->lt (p.getD k 0) (p.getD i 0)=ag) /\∀i,told lt (if lt (p.getD k 0) (p.getD ((l+r)/2) 0)=ae then jj p k f l ((l+r)/2) else jj p k f ((l+r)/2+1) r)<=i->i<k->lt (p.getD i 0) (p.getD k 0)=ag
   cases hc:lt (p.getD k 0) (p.getD ((l+r)/2) 0) with
   |true =>
    rw[Z_ rfl];refine yU O p k f l ((l+r)/2) (by omega) (by omega) (by omega) hu h1 λi hi hik=>?_;by_cases he:i=(l+r)/2
    .subst he;exact O.as _ _ hc
    .exact O.tr _ _ _ (O.as _ _ hc) (hu _ i (by omega) hik)
   |false =>
    rw[Zz bz];refine yU O p k f ((l+r)/2+1) r (by omega) hr (by omega) hu (λi hi=>?_) h2;by_cases he:i=(l+r)/2
    .subst he;exact hc
    .exact O.tr _ _ _ (hu i ((l+r)/2) (by omega) (by omega)) hc
def MV{p:Array Nat}{k l:Nat}(hk:k<p.size)(hl:l<=k)(i:Nat):(bubble p k (k-l)).getD i 0=if i=l then p.getD k 0 else if l<i/\i<=k then p.getD (i-1) 0 else p.getD i 0:=by
 rw[gA,getElem?_bubble hk _ (by omega),show k-(k-l)=l by omega];by_cases h1:i=l
 .rw [Z_ h1,Z_ h1,gA]
 .rw [Zz h1,Zz h1];by_cases h2:l<i/\i<=k
  .rw [Z_ h2,Z_ h2,gA]
  .rw [Zz h2,Zz h2,gA]
theorem V9(O:tS lt):∀f (p:Array Nat) k,k+f<=p.size->Up lt p k->(told lt (yt f p k)).Perm p/\Up lt (told lt (yt f p k)) (k+f)
 |0,p,k,_,h=>⟨sx _,h⟩
 |f+1,p,k,hs,h=>by
  unfold yt;rw[iM];obtain⟨a,b,c⟩:=yU O p k k 0 k (by omega) (bj _) (by omega) h (λi hi=>by omega) (λi hi hik=>by omega);generalize told lt (jj p k k 0 k)=l at a b c;have hk:k<p.size:=by omega
  have h2:Up lt (bubble p k (k-l)) (k+1):=λi j hij hj=>by
   rw[MV hk a,MV hk a];by_cases hjl:j=l
   .rw [Z_ hjl,Zz (by omega),Zz (by omega)];exact b i (by omega)
   .rw [Zz hjl];by_cases hj2:l<j/\j<=k
    .rw [Z_ hj2];by_cases hil:i=l
     .rw [Z_ hil];exact c (j-1) (by omega) (by omega)
     .rw [Zz hil];by_cases hi2:l<i/\i<=k
      .rw [Z_ hi2];exact h _ _ (by omega) (by omega)
      .rw [Zz hi2];exact h _ _ (by omega) (by omega)
    .rw [Zz hj2,Zz (by omega),Zz (by omega)];exact h _ _ hij (by omega)
  obtain⟨e,g⟩:=V9 O f (bubble p k (k-l)) (k+1) (by rw[bubble_size];omega) h2;exact⟨e.trans (a14 _ _ _),by rw[show k+(f+1)=k+1+f by omega];exact g⟩
def MW(O:tS lt){n:Nat}(h1:1<=n):(told lt (qq n)).Perm (zp (bu n))/\Up lt (told lt (qq n)) n:=by
 unfold qq;rw[iM];obtain⟨a,b,c,d⟩:=qQ O (n:=n) (p:=zp (bu n)) h1 (by simp) _ rfl;generalize told lt (yr n (zp (bu n)))=r at a b c d;have hs:r.2.size=n:=by rw[BP a];simp
 by_cases hr:r.1<n
 .rw [Z_ hr,show max r.1 1=r.1 by omega];obtain⟨e,g⟩:=V9 O (n-r.1) r.2 r.1 (by omega) d;exact⟨e.trans a,by rw[show r.1+(n-r.1)=n by omega] at g;exact g⟩
 .rw [Zz hr];have:r.1=n:=by omega
  exact⟨a,by rw[<- this];exact d⟩
end
open Att
section
variable{prog:bf}{w:ba}{A:bx}{s:ao}{Q:Bool->ao->Prop}
theorem Xd:∀(us:Q0f) (vs:Q0f) (as bs:Q0e) (i:Nat) (fin:Bool),(fin=Zv (us.length<vs.length))->iy us as->iy vs bs->Q (g7 as bs) s->KatLex prog w A ae fin Q (us.zip vs) i s:=by
 intro us
 induction us with
 |nil =>
  intro vs as bs i fin hf ha hb q;cases ha
  cases hb with
  |nil=>subst hf;exact q
  |cons b t' hb=>subst hf;simpa[KatLex,g7] using q
 |cons u us ih =>
  intro vs as bs i fin hf ha hb q
  cases ha with
  |cons a t ha =>
   cases hb with
   |nil=>subst hf;simpa[KatLex,g7] using q
   |cons b t' hb =>
    rename_i as vs bs;refine Ex (a0s (kat_go (λe=>?_) (λe=>?_)))
    .have e:a=b:=by simpa using e
     refine Ew (ih _ _ _ (i+1) fin (by rw[hf];simp) ha hb ?_);simpa[g7,e] using q
    .have e:a≠b:=by simpa using e
     have q:Q (Zv (a<b)) s:=by simpa[g7,e] using q
     refine kat_no ?_
     cases hc:(ae&&i == 0) with
     |true=>exact oneLt_int q
     |false=>exact kat_one _ _ (lt_int q)
end
noncomputable def MX(n:Nat){α:Type}:pd α->(α->Prop)->Prop
 |.ret a,Q=>Q a
 |.ask i j k,Q=>i<n/\j<n /\∀b,MX n (k b) Q
theorem kK{n:Nat}{α β:Type}{f:α->pd β}{Q:β->Prop}:∀(t:pd α),MX n t (λa=>MX n (f a) Q)->MX n (t.bind f) Q
 |.ret a,h=>h
 |.ask i j k,h=>⟨h.1,h.2.1,λb=>kK (k b) (h.2.2 b)⟩
def Rg(n:Nat)(p:Array Nat):Prop:=p.Perm (zp (bu n))
theorem Rg.lt(h:Rg n p)(h1:1<=n)(k:Nat):p.getD k 0<n:=by
 rw[gA]
 cases q:p[k]? with
 |none=>exact h1
 |some x =>
  have:x∈p:=Array.mem_of_getElem? q;have:=h.mem_iff.mp this;simpa using this
section
variable{n:Nat}
theorem DW(h1:1<=n)(h:Rg n p)(q:∀m,Q m):∀f m,MX n (iq p f m) Q
 |0,m=>q m
 |f+1,m=>⟨h.lt h1 _,h.lt h1 _,λb=>by
  cases b with
  |true=>exact q m
  |false=>exact DW h1 h q f (m+1)⟩
theorem rK(h1:1<=n)(q:∀r,Rg n r.1->Q r):∀f p m k,Rg n p->MX n (o_ f p m k) Q
 |0,p,m,k,h=>q _ h
 |f+1,p,m,k,h=>⟨h.lt h1 _,h.lt h1 _,λb=>by
  cases b with
  |true =>
   show MX n (if k>0 then _ else _) Q;by_cases hk:k>0
   .rw [Z_ hk];exact rK h1 q f _ _ _ ((gC _ _ _).trans h)
   .rw [Zz hk];exact rK h1 q f _ _ _ h
  |false=>exact⟨h.lt h1 _,h.lt h1 _,λd=>by
    cases d with
    |true=>exact q _ h
    |false=>exact rK h1 q f _ _ _ h⟩⟩
def GX(h1:1<=n){Q:Nat×Array Nat->Prop}(q:∀r,Rg n r.2->Q r){m k:Nat}{p:Array Nat}(h:Rg n p):MX n (Ey m k p) Q :=
 kK _ (DW h1 ((gC _ _ _).trans h) (λm'=>q (m',ij p 0 m) ((gC _ _ _).trans h)) _ _)
def rL(h1:1<=n){Q:Nat×Array Nat->Prop}(q:∀r,Rg n r.2->Q r){m k:Nat}{p:Array Nat}(h:Rg n p):MX n (yq m k p) Q :=
 kK _ (rK h1 (λr hr=>by
  by_cases hk:r.2.2>0
  .rw [Z_ hk];exact GX h1 q ((gC _ _ _).trans hr)
  .rw [Zz hk];exact GX h1 q hr) _ _ _ _ h)
def PU(h1:1<=n){Q:Nat×Array Nat->Prop}(q:∀r,Rg n r.2->Q r){k:Nat}{p:Array Nat}(h:Rg n p):MX n (yr k p) Q :=
 kK _ (DW h1 h (λm=>by
  by_cases e:(m == k)=ae
  .rw [Z_ e];exact q _ h
  .rw [Zz e];by_cases e2:m>1
   .rw [Z_ e2];exact⟨h.lt h1 _,h.lt h1 _,λc=>by
     cases c with
     |true=>exact q _ h
     |false=>exact rL h1 q ((gC _ _ _).trans h)⟩
   .rw [Zz e2];exact rL h1 q h) _ _)
theorem tT(h1:1<=n)(h:Rg n p)(q:∀m,Q m)(k:Nat):∀f l r,MX n (jj p k f l r) Q
 |0,l,r=>q l
 |f+1,l,r=>by
  unfold jj;by_cases e:l >= r
  .rw [Z_ e];exact q l
  .rw [Zz e];exact⟨h.lt h1 _,h.lt h1 _,λc=>by
    cases c with
    |true=>exact tT h1 h q k f _ _
    |false=>exact tT h1 h q k f _ _⟩
theorem MY(h1:1<=n){Q:Array Nat->Prop}(q:∀p,Q p):∀f p k,Rg n p->MX n (yt f p k) Q
 |0,p,k,h=>q p
 |f+1,p,k,h=>kK _ (tT h1 h (λl=>MY h1 q f _ _ ((a14 _ _ _).trans h)) k _ _ _)
def GY(h1:1<=n){Q:Array Nat->Prop}(q:∀p,Q p):MX n (qq n) Q :=
 kK _ (PU h1 (λr hr=>by
  by_cases e:r.1<n
  .rw [Z_ e];exact MY h1 q _ _ _ hr
  .rw [Zz e];exact q _) (sx _))
variable{X:Cx}
def kL(ts:Q0a)(i:Nat):List Int:=(ts[i]?).getD []
theorem DX(h:∀i j (C:Bool->ao->Prop),i<n->j<n->C (lt i j) s->um prog w A κ vs i j C s){α:Type}:∀(t:pd α) (Q:α->ao->Prop),MX n t (λ_=>True)->Q (told lt t) s->t.kasWp (um prog w A κ vs) Q s
 |.ret a,Q,_,q=>q
 |.ask i j k,Q,sf,q=>h i j _ sf.1 sf.2.1 (DX h (k (lt i j)) Q (sf.2.2 _) q)
def JU(K:aq):List V->Hp->VK->Prop:=λxs H Q=>∃(a:ai) (ps:List ai) (ts:Q0a),xs=[.ref a]/\H a=aa (.lst (ps.map V.ref))/\ps.length=ts.length/\2<=ts.length/\ts.length<64 /\
 (∀(j:Nat) (p:ai) (t:Q0e),ps[j]?=aa p->ts[j]?=aa t->fB K H p (t.map V.int)/\t≠[]) /\
 ∀ix:List Nat,ix.Perm (bu ts.length)->(∀i j:Nat,i<j->j<ts.length->g7 (kL ts (ix.getD j 0)) (kL ts (ix.getD i 0))=ag) ->∀q,H q=af->Q (.ref q) (upd H q (.lst (ix.map λi=>V.ref (ps.getD i 0))))
theorem BQ:∀{ps:List ai} {us:Q0f},Vals (ps.map V.ref) us->us=ps.map c_
 |[],_,.nil=>rfl
 |p::ps,_,.cons r t=>by rw[BQ t];rw[show _=c_ p from r];rfl
theorem c6.live(x:L2.c6 P w H h a o):∃u,h.get? a=aa u:=by
 cases o with
 |lst xs=>obtain⟨_,_,_,_,e⟩:=x;exact⟨_,e⟩
 |tup xs=>obtain⟨_,_,_,⟨_,e,_⟩,_⟩:=x;exact⟨_,e⟩
 |dK kvs=>obtain⟨_,_,_,_,o,_,_,e,_⟩:=x;exact⟨_,e⟩
 |dT kvs=>obtain⟨_,_,_,_,o,_,_,e,_⟩:=x;exact⟨_,e⟩
 |dX ob kvs=>obtain⟨_,_,e,_⟩:=x;exact⟨_,e⟩
 |set S n=>obtain⟨o,_,_,_,e,_⟩:=x;exact⟨_,e⟩
 |ins C dx fs=>obtain⟨_,_,_,e,_⟩:=x;exact⟨_,e⟩
 |own y=>obtain⟨_,e⟩:=x;exact⟨_,e⟩
 |xd fs=>obtain⟨_,⟨_,_,_,e,_⟩,_⟩:=x;exact⟨_,e⟩
 |rng lo hi=>obtain⟨_,_,_,e⟩:=x;exact⟨_,e⟩
 |xV ob u=>obtain⟨e,_⟩:=x;exact⟨_,e⟩
 |N9 q=>obtain⟨_,e,_⟩:=x;exact⟨_,e⟩
 |met f y=>exact⟨_,(show h.get? a=aa _ from x)⟩
 |ext φ=>obtain⟨_,⟨_,e⟩,_⟩:=x;exact⟨_,e⟩
def DY:eT X (.builtin "sorted") (JU X.K):=by
 intro pins s σ H xs us Q I r h;obtain⟨a,ps,ts,rfl,ha,hl,h2,fq,ht,q⟩:=h;obtain⟨u,rfl,ru⟩:=vals1 r;cases ru;obtain⟨its,rv,pl,hz⟩:=I.list (dW.of ha);have Ji:=BQ rv;subst Ji;obtain⟨m,hns,_⟩:=id I.loc;have hL:=I.lt;have hn:(ps.map c_).length=ts.length:=by rw[a_];exact hl
 have tup:∀(j:Nat),j<ts.length ->∃(p:ai) (us:Q0f),ps[j]?=aa p/\g_ s.heap p us.toArray/\iy us (kL ts j)/\kL ts j≠[]/\(ps.map c_).getD j lh=.ref p:=λj hj=>by
  obtain⟨q1,q2⟩:=ht j ps[j] ts[j] (by simp[hl,hj]) (by simp[hj]);obtain⟨us,ru,pt,_⟩:=I.tuple q1;refine⟨ps[j],us,by simp[hl,hj],pt,?_,?_,by simp[hl,hj]⟩
  .unfold kL;rw[bc hj];exact intsAre_of ru
  .unfold kL;rw[bc hj];exact q2
 refine kat_sorted (h₀:=yD s.heap) (L:=X.env.locals) (m:=m) (news:=ledger s.heap X.env.locals s.heap.objs.size) (vs:=ps.map c_) (UW hns) (λp hp=>?_) pl.isList (by omega) (by omega) λD e1 h' F' N' hD=>?_
 .obtain ⟨x,o⟩:=p;obtain⟨n1,_,e⟩:=eX.mp hp;exact⟨e,n1,pO _ _⟩
 have keep':∀b o,b≠X.env.locals->s.heap.get? b=aa o->h'.get? b=aa o:=λb o hb e =>
  (N' (b,o) (dq _ (eX.mpr ⟨hb,fv (b_ e),e⟩))).1
 have wz:∀{p:ai} {us:Array aj},g_ s.heap p us->p≠X.env.locals:=λ{p us} ⟨o,e,c,n,d⟩ z=>by subst z;obtain⟨o2,es,ep,e2,d2,_⟩:=hns;rw[e] at e2;cases e2;rw[d] at d2;cases d2
 -- the kind: tuples that begin with ints
 have kt:∀(ps':List ai) (fs:Q0f),ps'.length=fs.length->(∀(j:Nat) (p:ai) (f:aj),ps'[j]?=aa p->fs[j]?=aa f ->∃us:Array aj,g_ h' p us/\us[0]?=aa f)->KatTups h' (ps'.map c_) fs:=by
  intro ps'
  induction ps' with
  |nil=>intro fs hf _;cases fs;exact trivial;simp at hf
  |cons p ps' ih =>
   intro fs hf h
   cases fs with
   |nil=>simp at hf
   |cons f fs =>
    obtain⟨us,⟨o,e,c,n,d⟩,u0⟩:=h 0 p f rfl rfl;exact a00 e c d u0 (ih fs (by simpa using hf) λj p' f' h1 h2=>h (j+1) p' f' (by simpa using h1) (by simpa using h2))
 have heads:∃fs:Q0f,fs.length=ps.length/\(∀v∈fs,∃i t,v=jt i t) /\∀(j:Nat) (p:ai) (f:aj),ps[j]?=aa p->fs[j]?=aa f ->∃us:Array aj,g_ h' p us/\us[0]?=aa f:=by
  have:∀k,k<=ps.length ->∃fs:Q0f,fs.length=k/\(∀v∈fs,∃i t,v=jt i t) /\∀(j:Nat) (p:ai) (f:aj),ps[j]?=aa p->fs[j]?=aa f ->∃us:Array aj,g_ h' p us/\us[0]?=aa f:=by
   intro k
   induction k with
   |zero=>intro _;exact⟨[],rfl,λv hv=>(nomatch hv),λj p f _ e=>by simp at e⟩
   |succ k ih =>
    intro hk;obtain⟨fs,f1,f2,f3⟩:=ih (by omega);obtain⟨p,us,hp,pt,hi,ne,_⟩:=tup k (by omega);obtain⟨i,t,us',rfl⟩:∃i t us',us=jt i t::us':=by
     generalize kL ts k=w at hi ne
     cases hi with
     |nil=>exact Zw rfl ne
     |cons n t r=>exact⟨n,t,_,rfl⟩
    refine⟨fs++[jt i t],by simp[f1],λv hv=>?_,λj p' f' h1 h2=>?_⟩
    .rcases h_.mp hv with h|h
     .exact f2 v h
     .exact ⟨i,t,cp.mp h⟩
    .by_cases hj:j<k
     .rw [jo (by omega)] at h2;exact f3 j p' f' h1 h2
     .have:j=k:=by have:=(cq.mp h2).1;simp[f1] at this;omega
      subst this;rw[jn (by omega),f1,Ga] at h2;rw[hp] at h1;cases h1;have h2:jt i t=f':=by simpa using h2
      subst h2;obtain⟨o,e,c⟩:=id pt;exact⟨_,⟨o,keep' p o (wz pt) e,c⟩,by simp⟩
  exact this ps.length (bj _)
 obtain⟨fs,f1,f2,f3⟩:=heads;refine kat_kind (T:=.type "int") (kt ps fs f1.symm f3) (by omega) (λv hv=>?_) (by decide) ?_
 .obtain ⟨i,t,rfl⟩:=f2 v hv;exact Looks.of_pure rfl
 have O:tS λi j=>g7 (kL ts i) (kL ts j):=⟨λx y a=>HQ _ _ a,λx y z a b=>HR _ _ _ a b⟩;rw[hn];refine DX (n:=ts.length) (lt:=λi j=>g7 (kL ts i) (kL ts j)) (λi j C hi hj hC=>?_) _ _ (GY (by omega) λ_=>trivial) ?_
 .obtain ⟨p,us,hp,pt,hi',_,ep⟩:=tup i hi;obtain⟨p2,us2,hp2,pt2,hi2,_,ep2⟩:=tup j hj;unfold um;rw[ep,ep2,show(ny "int" !=ny "tuple")=ae from by decide];obtain⟨o,e,c,n,d⟩:=id pt;obtain⟨o2,e2,c2,n2,d2⟩:=id pt2;exact kat_lt (s:={s with heap:=h' }) (keep' p o (wz pt) e) d (keep' p2 o2 (wz pt2) e2) d2 (Xd us us2 _ _ 0 _ rfl hi' hi2 hC)
 obtain⟨sp,su⟩:=MW O (n:=ts.length) (by omega);generalize told (λi j=>g7 (kL ts i) (kL ts j)) (qq ts.length)=pp at sp su;refine a01 F' N' (a0Z λp hp z=>ik _ (z▸hD p hp)) λh'' c F'' N''=>?_;have nD:D≠X.env.locals:=(N' _ (cn ..)).2.1;have dead:s.heap.get? D=af:=by
  cases e:s.heap.get? D with
  |none=>rfl
  |some o=>exact Zw (hD (D,o) (eX.mpr ⟨nD,fv (b_ e),e⟩)) (ik _)
 have MZ:∀b o,b≠X.env.locals->s.heap.get? b=aa o->h''.get? b=aa o:=λb o hb e =>
  (N'' (b,o) (dq _ (eX.mpr ⟨hb,fv (b_ e),e⟩))).1
 have wj:=(N'' (D,_) (cn ..)).1;have hfr:H D=af:=by
  cases e:H D with
  |none=>rfl
  |some u =>
   obtain⟨o,eo⟩:=c6.live (I.hok D u e);rw[dead] at eo;cases eo
 have neD:∀{b:ai} {o:aw},s.heap.get? b=aa o->b≠D:=λ{b o} e z=>by rw[z,dead] at e;cases e
 have PV:∀{b:ai} {u:HO},H b=aa u->b≠D:=λ{b u} e z=>by rw[z,hfr] at e;cases e
 have hlp:pp.toList.Perm (bu ts.length):=by simpa using sp.toList
 refine⟨.ref D,upd H D (.lst (pp.toList.map λi=>V.ref (ps.getD i 0))),?_,rfl,q pp.toList hlp (λi j hij hj=>?_) D hfr⟩
 .show L2.Inv X pins σ _ {s with heap:=h'' };refine I.step (s:=s) (h':=h'') (g':=s.gens) (t':=s.toks) (d':=s.drawn) (ch:=[]) (λb hb=>nomatch hb) (λb o hb _ _ e _=>MZ b o hb e) (λb o hb _ _ e _=>⟨o.slots,MZ b o hb e⟩) (λb o _ e n=>by rw[aV (neD e)];exact n) (λb o _ e=>?_)
   (λb xs e=>by rw[aV (PV e)];exact e) (λb o u e=>by rw[aV (PV e)];exact e) (λb ps e=>by rw[aV (PV e),e]) (λm2 hm2=>?_) ?_ I.bare
  .by_cases hb:b=X.env.locals
   .subst hb;obtain⟨o2,_,_,e2,_⟩:=F''.ns;exact⟨o2,e2⟩
   .exact ⟨o,MZ b o hb e⟩
  .have:m2=m:=by
    obtain⟨oa,ea,pa,h1,h2,_,h3⟩:=hm2;obtain⟨ob,eb,pb,k1,k2,_,k3⟩:=hns;rw[h1] at k1;cases k1;rw[h2] at k2;cases k2
    funext x
    rw[<- h3,<- k3]
   subst this;exact F''.ns
  .intro b u e;by_cases hb:b=D
   .subst hb;rw[aQ] at e;cases e;refine⟨?_,pp.toList.map λi=>c_ (ps.getD i 0),c,?_,wj.trans ?_⟩
    .rw [a_,hlp.length_eq,kq,gr];omega
    .have:∀l:List Nat,Vals (l.map λi=>V.ref (ps.getD i 0)) (l.map λi=>c_ (ps.getD i 0)):=λl=>by
      induction l with
      |nil=>exact .nil
      |cons a l ih=>exact .cons rfl ih
     exact this _
    .have:(pp.toList.map λi=>(ps.map c_).getD i lh)=pp.toList.map λi=>c_ (ps.getD i 0):=gq λi hi=>by
      have:i<ts.length:=by simpa using hlp.mem_iff.mp hi
      simp[hl,this]
     rw[this]
   .rw [aV hb] at e;refine(I.hok b u e).stay (λc v hc ev=>MZ c v (λz=>?_) ev) (λc ec=>by rw[aV (PV ec)];exact ec) (λc ys ec=>by rw[aV (PV ec)];exact ec) λc o u ec=>by rw[aV (PV ec)];exact ec
    subst z;rcases hc with hc|hc
    .rw [<- hc,I.free] at e;cases e
    .rw [I.free] at hc;cases hc
 .have:=su i j hij hj;rw[gA,gA] at this;simpa using this
theorem WB(ho:s.heap.get? a=aa (seqObj "list" #[v] n))
  (h:P (.done (.ret .none)) {s with heap:=sortedHeap s.heap a [v] #[v]}):ax (ay prog w) A (Builtin.«list.sort» ⟨[.ref a],[]⟩) P E s:=by
 rw[list_sort_plain];have hlt:=b_ ho;refine av (listItems_at ho rfl (av (a1Z ho rfl ?_)));have ho1:=get?_update_seq ho (λ_=>(#[]:Array aj));refine av (a1X ho1 rfl (av (wpAny_newTuple (av (Eg (ip ?_))))));have ho2:(((s.heap.update a (ju λ_=>(#[]:Array aj))).push (seqObj "tuple" #[v] 0)).push (seqObj "list" #[] 0)).get? a=_:=di _ (di _ ho1);show ax (ay prog w) A _ P E {s with heap:=((s.heap.update a (ju λ_=>(#[]:Array aj))).push (seqObj "tuple" #[v] 0)).push (seqObj "list" #[] 0)};dsimp only;rw[Z_ (show(#[v]:Array aj).size<2 from rj 1),Z_ (show(#[v]:Array aj).size<2 from rj 1)];refine av (az ?_);rw[StateT.run_pure];refine av (az (av (a1X ho2 rfl (av (a1Z ho2 rfl ?_ (hsz2:=?_))))))
 .simp only[bne_self_eq_false,sr,if_false];have e:(arrOf (SortSt.mk' general' ((#[v]:Array aj).zip #[v]) #[] 7 af)).map (·.2)=#[v]:=by show((#[v]:Array aj).zip #[v]).map (·.2)=#[v];simp
  rw[e];exact az h
 .show (((#[v]:Array aj).zip #[v]).map (·.2)).size<=bg+1;simp
def DZ:List V->Hp->VK->Prop:=λxs H Q=>∃(a:ai) (x:V),xs=[.ref a]/\H a=aa (.lst [x]) /\∀q,H q=af->Q (.ref q) (upd H q (.lst [x]))
def rM:eT X (.builtin "sorted") DZ:=by
 intro pins s σ H xs us Q I r h;obtain⟨a,x,rfl,ha,q⟩:=h;obtain⟨u,rfl,ru⟩:=vals1 r;cases ru;obtain⟨its,rv,pl,hz⟩:=I.list (dW.of ha);obtain⟨v,rfl,rx⟩:=vals1 rv;refine a1L a10 a1Y a12 (a16 (.ref a)) (show ax _ _ (Builtin.«sorted» _) _ _ _ from ?_);unfold Builtin.«sorted»;refine av (m:=checkCount "sorted" 1 1 _) (az (av (collect_list pl.isList (av (Eg ?_)))));have hsz:((s.heap.push (seqObj "list" #[] 0)).update s.heap.objs.size (ju (· ++ [v].toArray))).objs.size=s.heap.objs.size+1:=by rw[qy,size_push']
 have hoL:(((s.heap.push (seqObj "list" #[] 0)).update s.heap.objs.size (ju (· ++ [v].toArray))).push (seqObj "list" [v].toArray 0)).get? (s.heap.objs.size+1)=aa (seqObj "list" #[v] 0):=by rw[<- hsz];exact f_ _ rfl
 show ax _ _ _ _ _ {s with heap:=((s.heap.push (seqObj "list" #[] 0)).update s.heap.objs.size (ju (· ++ [v].toArray))).push (seqObj "list" [v].toArray 0)};rw[hsz];refine av (ip (jh a1V ⟨_,hoL,rfl⟩ a13 (WB hoL ⟨_,rfl,?_⟩) (a17 _)));refine az ⟨.ref (s.heap.objs.size+1),rfl,?_⟩;obtain⟨e1,hat⟩:=Fo s.heap [v] #[v];have I1:L2.Inv X pins σ (upd H (s.heap.objs.size+1) (.lst [x])) {s with heap:=sortedAll s.heap [v] #[v]} :=
  I.laid (t':=s.toks) (λb o e=>Fn e) (mv _) ⟨by rw[gr];simp,[v],e1,.cons rx .nil,by simpa[seqObj] using hat⟩
 exact⟨.ref _,_,I1,rfl,q _ (I.hok.fresh (mv _))⟩
theorem D0:eT X (.builtin "sorted") (λxs H Q=>GO xs H Q\/DZ xs H Q\/JU X.K xs H Q):=by
 intro pins s σ H xs us Q I r h;rcases h with h|h|h
 .exact lI pins s σ H xs us Q I r h
 .exact rM pins s σ H xs us Q I r h
 .exact DY pins s σ H xs us Q I r h
def WC:F1
 |[.lst ds],Q=>∃ts,oZ ds=aa ts/\ts.length<64/\(∀t∈ts,t≠[])/\Q (.lst ((t6 ts).map p5))
 |_,_=>False
def WD(h:Dt d=aa t):d=p5 t:=by
 cases d<;>first|cases h;done|skip
 rename_i ds;unfold p5;rw[<- ints_of h]
theorem BR:∀{ds:List D} {ts:Q0a},oZ ds=aa ts->ds=ts.map p5
 |[],ts,h=>by cases h;rfl
 |d::ds,ts,h=>by unfold oZ at h;obtain⟨t,e1,h⟩:=bnd h;obtain⟨us,e2,rfl⟩:=lJ h;rw[bt,WD e1,BR e2]
def Xc{K:aq}{S:ai->Prop}{H:Hp}{t:Q0e}{v:V}(h:Dn K S H (p5 t) v):∃p,v=.ref p/\H p=aa (.tup (t.map V.int)):=by unfold p5 at h;simp only[Dn] at h;obtain⟨a,xs,rfl,hl,da⟩:=h;rw[aP.ints.mp da] at hl;exact⟨a,rfl,hl⟩
theorem GZ{K:aq}{S:ai->Prop}{H:Hp}:∀{ts:Q0a} {ys:List V},aP K S H (ts.map p5) ys ->∃ps:List ai,ys=ps.map V.ref/\ps.length=ts.length /\∀(j:Nat) (p:ai) (t:Q0e),ps[j]?=aa p->ts[j]?=aa t->H p=aa (.tup (t.map V.int))
 |[],ys,h=>by simp only[j_,aP] at h;exact⟨[],h,rfl,λj p t e=>by simp at e⟩
 |t::ts,ys,h=>by
  obtain⟨v,r,rfl,h1,h2⟩:=aP.bH h;obtain⟨p,rfl,hp⟩:=Xc h1;obtain⟨ps,rfl,hl,hh⟩:=GZ h2;refine⟨p::ps,rfl,by simp[hl],λj q u e1 e2=>?_⟩
  cases j with
  |zero=>cases e1;cases e2;exact hp
  |succ j=>exact hh j q u (by simpa using e1) (by simpa using e2)
def WH(ts:Q0a):(bu ts.length).map (kL ts)=ts:=by
 refine nc λi=>?_;rw[ck];by_cases h:i<ts.length
 .rw [mf h];simp[kL,h]
 .rw [gk (by simpa using h),gk (by simpa using h)];rfl
theorem WJ{K:aq}:C3F K (λxs H Q=>GO xs H Q\/DZ xs H Q\/JU K xs H Q) WC:=by
 intro S H xs ds Q3 Q fc hd hf k
 match ds,hf with
 |[.lst es],hf =>
  obtain⟨v,r,rfl,h1,h2⟩:=hd.bH;simp only[aP] at h2;subst h2;simp only[Dn] at h1;obtain⟨a,ys,rfl,ha,sa,da⟩:=h1;obtain⟨ts,e,fq,hne,q⟩:=hf;rw[BR e] at da;obtain⟨ps,rfl,hl,hh⟩:=GZ da;have one:∀(p:ai) (t:Q0e) (H':Hp) (S':ai->Prop),Same H H'->H p=aa (.tup (t.map V.int))->Dn K S' H' (p5 t) (.ref p):=λp t H' S' sm hp=>by unfold p5;simp only[Dn];exact⟨p,_,rfl,sm _ _ hp,aP.ints.mpr rfl⟩
  match ts,hl,hh,fq,hne,q with
  |[],hl,hh,fq,hne,q =>
   have:ps=[]:=qc.mp hl;subst this;refine .inl ⟨a,[],rfl,ha,by decide,λns' hp _ p hf=>?_⟩;have:ns'=[]:=Gr.mp hp;subst this;exact k p [] _ [] hf aQ (aO hf) (by simp only[aP]) q
  |[t],hl,hh,fq,hne,q =>
   obtain⟨p,rfl⟩:∃p,ps=[p]:=by
    match ps,hl with
    |[p],_=>exact⟨p,rfl⟩
   exact .inr (.inl ⟨a,.ref p,rfl,ha,λl hf=>k l [.ref p] _ [p5 t] hf aQ (aO hf) (aP.one (one p t _ _ (aO hf) (hh 0 p t rfl rfl))) q⟩)
  |t1::t2::ts,hl,hh,fq,hne,q =>
   generalize hT:t1::t2::ts=T at *;refine .inr (.inr ⟨a,ps,T,rfl,ha,hl,by rw[<- hT];simp,fq,λj p t e1 e2=>⟨fB.of (hh j p t e1 e2),hne t (jz e2)⟩,λix hp hu l hf=>?_⟩);have hlen:ix.length=T.length:=by rw[hp.length_eq,kq]
   have es:t6 T=ix.map (kL T):=by
    refine KY ((kW T).trans ?_) (EW T) ?_
    .have:=(hp.map (kL T)).symm;rw[WH] at this;exact this
    .rw [UpT,jw,rm];intro i j hi hj hij;have:=hu i j hij (by omega);simpa[hi,hj] using this
   have dn:∀(H':Hp),Same H H' ->∀jx:List Nat,(∀i∈jx,i<T.length)->aP K (λx=>S x/\x≠l) H' (jx.map λi=>p5 (kL T i)) (jx.map λi=>V.ref (ps.getD i 0)):=by
    intro H' sm jx
    induction jx with
    |nil=>intro _;exact aP.nil
    |cons i jx ih =>
     intro YD;have hi:=YD i cn;refine aP.cons (one _ _ _ _ sm ?_) (ih λx hx=>YD x (dq _ hx));exact hh i _ _ (by simp[hl,hi]) (by simp[kL,hi])
   refine k l _ _ (ix.map λi=>p5 (kL T i)) hf aQ (aO hf) (dn _ (aO hf) ix λi hi=>by simpa using hp.mem_iff.mp hi) ?_;rw[es,cc] at q;exact q
def G0:mY WC kU:=λds d Q e q=>by
 unfold kU at e;split at e
 .rename_i a;obtain⟨ts,e1,e⟩:=bnd e;by_cases h:ts.length<64/\ts.all (λt=>!t.isEmpty)=ae
  .rw [Z_ h] at e;cases e;refine⟨ts,e1,h.1,λt ht z=>?_,q⟩;have:=gw.mp h.2 t ht;rw[z] at this;cases this
  .rw [Zz h] at e;cases e
 .cases e
def G2(hm:X.mg "sorted"=af)(ha:zH X [e] t)(hg:Gl X "sorted":=by rfl)(he:Zs X e []:=by rfl):fT X (.Call (.Name "sorted" p) [e] [] pos) (bX kU t):=cF (vN D0 WJ uv hg hm ha (by decide) (by decide) he (by rfl)) (yQ G0)
end
open PySem.SeqAt
section
variable{X:Cx}{pins:Q0b}{σ:L2.St}{H:Hp}{s:ao}{S:ai->Prop}
def EqI(n:Nat)(d e:D)(b:Bool):Prop:=(∃i j,d=.int i/\e=.int j/\b=Zv (i=j))\/(∃i,d=.bl i/\e=.bl i/\b=ae)\/(∃i,d=.str i/\e=.str i/\b=ae) \/∃m a c r,n=m+1/\d=.tup a/\e=.tup c/\B2 (eqP m) a c=aa r/\b=(r&&Zv (a.length=c.length))
theorem vP:∀{n:Nat} {d e:D} {b:Bool},eqP n d e=aa b->EqI n d e b:=by
 intro n d e b h;have one:∀{p:Prop} [Decidable p],(if p then aa ae else af)=aa b->p/\b=ae:=λ{p} _ h=>by
  by_cases hp:p
  .rw [Z_ hp] at h;cases h;exact⟨hp,rfl⟩
  .rw [Zz hp] at h;exact nomatch h
 cases n with
 |zero =>
  cases d<;>first|(cases h;done)|skip
  all_goals (cases e<;>first|(cases h;done)|skip)
  .obtain ⟨rfl,hb⟩:=one h;exact .inr (.inl ⟨_,rfl,rfl,hb⟩)
  .cases h;exact .inl ⟨_,_,rfl,rfl,rfl⟩
  .obtain ⟨rfl,hb⟩:=one h;exact .inr (.inr (.inl ⟨_,rfl,rfl,hb⟩))
 |succ m =>
  cases d<;>first|(cases h;done)|skip
  all_goals (cases e<;>first|(cases h;done)|skip)
  .obtain ⟨rfl,hb⟩:=one h;exact .inr (.inl ⟨_,rfl,rfl,hb⟩)
  .cases h;exact .inl ⟨_,_,rfl,rfl,rfl⟩
  .obtain ⟨rfl,hb⟩:=one h;exact .inr (.inr (.inl ⟨_,rfl,rfl,hb⟩))
  .obtain ⟨r,e1,rfl⟩:=lJ (show(B2 (eqP m) _ _).map _=aa b from h);exact .inr (.inr (.inr ⟨m,_,_,r,rfl,rfl,rfl,e1,rfl⟩))
theorem WK(I:L2.Inv X pins σ H s):∀(n:Nat) (d e:D) (x:V) (b:Bool),eqP n d e=aa b->Dn X.K S H d x->Dn X.K S H e x->b=ae:=by
 intro n
 induction n using zo with
 |ind n ih =>
  intro d e x b h hd he;rcases vP h with⟨i,j,rfl,rfl,rfl⟩|⟨i,rfl,rfl,hb⟩|⟨i,rfl,rfl,hb⟩|⟨m,a,c,r,rfl,rfl,rfl,e1,rfl⟩
  .simp only[Dn] at hd he;rw[hd] at he;cases he;exact Zx rfl
  .exact hb
  .exact hb
  .simp only[Dn] at hd he;obtain⟨p,xs,rfl,hp,da⟩:=hd;obtain⟨q,ys,eq,hq,dc⟩:=he;cases eq;have:=I.iL (fB.of hp) (fB.of hq);subst this;obtain⟨f,h1,h2⟩:=jX e1;have hl:a.length=c.length:=by rw[da.len,dc.len]
   rw[Zx hl,Hi,h2,gw];intro j hj;have hj:j<min a.length c.length:=by simpa using hj
   have ja:j<a.length:=gc hj (Nat.min_le_left ..);have jc:j<c.length:=gc hj (a2i ..);obtain⟨v,hv,dv⟩:=da.get (bc ja);obtain⟨v2,hv2,dv2⟩:=dc.get (bc jc);rw[hv] at hv2;cases hv2;exact ih m (rj m) _ _ v _ (h1 j _ _ (bc ja) (bc jc)) dv dv2
theorem Xb(I:L2.Inv X pins σ H s):∀(n:Nat) (A:bx) (d e:D) (x y:V) (u v:aj) (b:Bool),A.units+n<cf->eqP n d e=aa b->Dn X.K S H d x->Dn X.K S H e y->L2.RelV x u->L2.RelV y v->lj A s u v b:=by
 have onI:∀(A:bx) (i j:Int) (x y:V) (u v:aj),Dn X.K S H (.int i) x->Dn X.K S H (.int j) y->L2.RelV x u->L2.RelV y v->lj A s u v (Zv (i=j)):=by
  intro A i j x y u v hd he ru rv;simp only[Dn] at hd he;subst hd he;obtain⟨t,rfl⟩:=ru;obtain⟨t2,rfl⟩:=rv;have:=(a3P i j t t2).at A s
  rwa [show(i == j)=Zv (i=j) from by simp[Hj]] at this
 have onB:∀(A:bx) (i j b:Bool) (x y:V) (u v:aj),(if i=j then aa ae else af)=aa b->Dn X.K S H (.bl i) x->Dn X.K S H (.bl j) y->L2.RelV x u->L2.RelV y v->lj A s u v b:=by
  intro A i j b x y u v h hd he ru rv;simp only[Dn] at hd he;subst hd he;split at h
  .rename_i e;cases h;subst e;cases ru;cases rv;exact qu _
  .cases h
 have onS:∀(A:bx) (i j:ak) (b:Bool) (x y:V) (u v:aj),(if i=j then aa ae else af)=aa b->Dn X.K S H (.str i) x->Dn X.K S H (.str j) y->L2.RelV x u->L2.RelV y v->lj A s u v b:=by
  intro A i j b x y u v h hd he ru rv;simp only[Dn] at hd he;subst hd he;split at h
  .rename_i e;cases h;subst e;obtain⟨t,rfl⟩:=ru;obtain⟨t2,rfl⟩:=rv;have:=(a3v i i t t2).at A s
   rwa [show(i.cps.toList == i.cps.toList)=ae from by simp] at this
  .cases h
 intro n
 induction n using zo with
 |ind n ih =>
  intro A d e x y u v b hu h hd he ru rv;rcases vP h with⟨i,j,rfl,rfl,rfl⟩|⟨i,rfl,rfl,rfl⟩|⟨i,rfl,rfl,rfl⟩|⟨m,a,c,r,rfl,rfl,rfl,e1,rfl⟩
  .exact onI A _ _ x y u v hd he ru rv
  .exact onB A i i ae x y u v (Z_ rfl) hd he ru rv
  .exact onS A i i ae x y u v (Z_ rfl) hd he ru rv
  .have hd0:=hd;have he0:=he;simp only[Dn] at hd he;obtain⟨p,xs,rfl,hp,da⟩:=hd;obtain⟨q,ys,rfl,hq,dc⟩:=he;cases ru;cases rv;by_cases epq:p=q
   .subst epq;rw[WK I (m+1) _ _ _ _ h hd0 he0];exact qu _
   .obtain ⟨f,h1,h2⟩:=jX e1;obtain⟨its,rx,pt,_⟩:=I.tuple (fB.of hp);obtain⟨its2,ry,pt2,_⟩:=I.tuple (fB.of hq);have l1:its.length=a.length:=by rw[<- rx.length,da.len]
    have l2:its2.length=c.length:=by rw[<- ry.length,dc.len]
    have key:=a1a (A:=A) (s:=s) (e:=f) (show s.heap.IsTuple p its.toArray from pt) (show s.heap.IsTuple q its2.toArray from pt2) (by omega) λj j1 j2=>by
     have j1:j<a.length:=by simpa[l1] using j1
     have j2:j<c.length:=by simpa[l2] using j2
     obtain⟨w,hw,dw⟩:=da.get (bc j1);obtain⟨w2,hw2,dw2⟩:=dc.get (bc j2);obtain⟨g,hg,rg⟩:=rx.get hw;obtain⟨g2,hg2,rg2⟩:=ry.get hw2;have e3:its.toArray[j]'(by simp;omega)=g:=by have:=(cq.mp hg).2;simpa using this
     have e4:its2.toArray[j]'(by simp;omega)=g2:=by have:=(cq.mp hg2).2;simpa using this
     rw[e3,e4];exact ih m (rj m) A.in1 _ _ w w2 g g2 _ (by show A.units+1+m<cf;omega) (h1 j _ _ (bc j1) (bc j2)) dw dw2 rg rg2
    refine Fc epq ?_;rw[h2];simpa[l1,l2,Hj] using key
theorem WL(I:L2.Inv X pins σ H s):∀(n:Nat) (d d2 e:D) (x:V) (b b2:Bool),eqP n d e=aa b->eqP n d2 e=aa b2->Dn X.K S H d x->Dn X.K S H d2 x->b=b2:=by
 intro n
 induction n using zo with
 |ind n ih =>
  intro d d2 e x b b2 h h2 hd hd2;rcases vP h with⟨i,j,rfl,rfl,rfl⟩|⟨i,rfl,rfl,rfl⟩|⟨i,rfl,rfl,rfl⟩|⟨m,a,c,r,rfl,rfl,rfl,e1,rfl⟩<;>rcases vP h2 with⟨i2,j2,rfl,e2,rfl⟩|⟨i2,rfl,e2,rfl⟩|⟨i2,rfl,e2,rfl⟩|⟨m2,a2,c2,r2,em,rfl,ec,e2,rfl⟩<;>first|(cases e2;done)|(cases ec;done)|skip
  .cases e2;simp only[Dn] at hd hd2;rw[hd] at hd2;cases hd2;rfl
  .rfl
  .rfl
  .cases em;cases ec;simp only[Dn] at hd hd2;obtain⟨p,xs,rfl,hp,da⟩:=hd;obtain⟨p2,ys,ep,hq,da2⟩:=hd2;cases ep;have:=I.iL (fB.of hp) (fB.of hq);subst this;obtain⟨f,f1,rfl⟩:=jX e1;obtain⟨g,g1,rfl⟩:=jX e2;have hl:a.length=a2.length:=by rw[da.len,da2.len]
   rw[hl];congr 1;rw[gx];simp only[gw];refine forall_congr' λj=>forall_congr' λhj=>?_;have hj:j<min a2.length c.length:=by simpa using hj
   obtain⟨v,hv,dv⟩:=da.get (bc (show j<a.length by omega));obtain⟨v2,hv2,dv2⟩:=da2.get (bc (show j<a2.length by omega));rw[hv] at hv2;cases hv2;rw[ih m (rj m) _ _ _ v _ _ (f1 j _ _ (bc (by omega)) (bc (show j<c.length by omega))) (g1 j _ _ (bc (by omega)) (bc (by omega))) dv dv2]
noncomputable def Hn:aj->V
 |.none=>.non
 |.bool b=>.bl b
 |.int i _=>.int i
 |.str x _=>.str x
 |.bytes b _=>.II b
 |.float b _=>.flt b
 |.ref a=>.ref a
 |.type n=>.ty n
 |_=>.non
theorem M0(h:L2.RelV x u):Hn u=x:=by
 cases x with
 |non=>cases (show u=lh from h);rfl
 |bl b=>cases (show u=pf b from h);rfl
 |int i=>obtain⟨t,rfl⟩:=h;rfl
 |str z=>obtain⟨t,rfl⟩:=h;rfl
 |II b=>obtain⟨t,rfl⟩:=h;rfl
 |flt b=>obtain⟨t,rfl⟩:=h;rfl
 |ref a=>cases (show u=c_ a from h);rfl
 |ty n=>cases (show u=ny n from h);rfl
def WM(h:L2.RelV x u)(h2:L2.RelV x2 u):x=x2:=(M0 h).symm.trans (M0 h2)
theorem BS:∀{ds:List D} {b:Bool},sA dx ds=aa b ->∃e:Nat->Bool,(∀(j:Nat) (d:D),ds[j]?=aa d->eqP 8 d dx=aa (e j))/\b=(bu ds.length).any e
 |[],b,h=>by cases h;exact⟨λ_=>ag,λj d e=>by simp at e,by simp⟩
 |d::ds,b,h=>by
  unfold sA at h;obtain⟨c,e1,h⟩:=bnd h;obtain⟨r,e2,rfl⟩:=lJ h;obtain⟨e,h1,rfl⟩:=BS e2;refine⟨λj=>match j with|0=>c|j+1=>e j,λj x hx=>?_,?_⟩
  .cases j with
   |zero=>cases hx;exact e1
   |succ j=>exact h1 j x (by simpa using hx)
  .rw [de,ve,jq,sg];rfl
open Classical in
theorem M1(I:L2.Inv X pins σ H s)(hu:A.units+8<cf)(hx:Dn X.K S H dx x)(rx:L2.RelV x v)(h:sA dx ds=aa b)(hd:aP X.K S H ds xs)(hv:Vals xs us):
  ∃e:aj->Bool,(∀y∈us,lj A s y v (e y))/\us.any e=b:=by
 obtain⟨f,h1,rfl⟩:=BS h;have hl:us.length=ds.length:=by rw[<- hv.length,hd.len]
 have at_:∀(j:Nat) (u:aj),us[j]?=aa u ->∃(d:D) (w:V),ds[j]?=aa d/\eqP 8 d dx=aa (f j)/\Dn X.K S H d w/\L2.RelV w u:=λj u hj=>by
  have lt:j<ds.length:=by have:=(cq.mp hj).1;omega
  obtain⟨w,hw,dw⟩:=hd.get (bc lt);obtain⟨g,hg,rg⟩:=hv.get hw;rw[hg] at hj;cases hj;exact⟨_,w,bc lt,h1 j _ (bc lt),dw,rg⟩
 have one:∀(i j:Nat) (u:aj),us[i]?=aa u->us[j]?=aa u->f i=f j:=λi j u hi hj=>by obtain⟨d,w,_,e1,d1,r1⟩:=at_ i u hi;obtain⟨d2,w2,_,e2,d2',r2⟩:=at_ j u hj;have:=WM r1 r2;subst this;exact WL I 8 d d2 dx w _ _ e1 e2 d1 d2'
 refine⟨λy=>Zv (∃j,us[j]?=aa y/\f j=ae),λy hy=>?_,?_⟩
 .obtain ⟨j,hj⟩:=p_.mp hy;obtain⟨d,w,_,e1,d1,r1⟩:=at_ j y hj;have:Zv (∃j,us[j]?=aa y/\f j=ae)=f j:=by rw[gx,decide_eq_true_iff];exact⟨λ⟨i,hi,fi⟩=>by rw[one j i y hj hi];exact fi,λfj=>⟨j,hj,fj⟩⟩
  show lj A s y v (Zv (∃j,us[j]?=aa y/\f j=ae));rw[this];exact Xb I 8 A d dx w x y v _ hu e1 d1 hx r1 rx
 .rw [gx,om,om]
  constructor
  .rintro ⟨y,_,h⟩;obtain⟨j,hj,fj⟩:=of_decide_eq_true h;exact⟨j,by have:=(cq.mp hj).1;simp;omega,fj⟩
  .rintro ⟨j,hj,fj⟩;have lt:j<us.length:=by simp at hj;omega
   exact⟨us[j],mz lt,Zx ⟨j,bc lt,fj⟩⟩
def M4(K:aq)(neg:Bool):R2:=λx y H Q=>∃(S:ai->Prop) (dx dy:D) (ds:List D) (b:Bool),Dn K S H dx x/\Dn K S H dy y/\(dy=.lst ds\/dy=.tup ds)/\sA dx ds=aa b/\Q (.bl (if neg then !b else b)) H
noncomputable def Jh:Bool->CmpOp
 |true=>.NotIn
 |false=>.In
def PX(hu:X.A.units+9<cf):kR X (compareOp (Jh neg)) (M4 X.K neg):=by
 intro pins s σ H x y v u Q I rx ry h;obtain⟨S,dx,dy,ds,b,hd,he,hk,hb,q⟩:=h;rcases hk with rfl|rfl
 .simp only[Dn] at he;obtain⟨p,ys,rfl,hp,_,dc⟩:=he;cases ry;obtain⟨its,ri,pl,_⟩:=I.list (dW.of hp);obtain⟨e,e1,e2⟩:=M1 I (A:=X.A.in1) (by show X.A.units+1+8<cf;omega) hd rx hb dc ri;have ea:its.toArray.any e=b:=by rw[a2X];exact e2
  cases neg with
  |false=>exact a09 e pl.isList (λw hw=>e1 w (by simpa using hw)) ⟨_,H,I,by rw[ea];rfl,q⟩
  |true=>exact a07 e pl.isList (λw hw=>e1 w (by simpa using hw)) ⟨_,H,I,by rw[ea];rfl,q⟩
 .simp only[Dn] at he;obtain⟨p,ys,rfl,hp,dc⟩:=he;cases ry;obtain⟨its,ri,pl,_⟩:=I.tuple (fB.of hp);obtain⟨e,e1,e2⟩:=M1 I (A:=X.A.in1) (by show X.A.units+1+8<cf;omega) hd rx hb dc ri;have ea:its.toArray.any e=b:=by rw[a2X];exact e2
  cases neg with
  |false=>exact a08 e (show s.heap.IsTuple p its.toArray from pl) (λw hw=>e1 w (by simpa using hw)) ⟨_,H,I,by rw[ea];rfl,q⟩
  |true=>exact a06 e (show s.heap.IsTuple p its.toArray from pl) (λw hw=>e1 w (by simpa using hw)) ⟨_,H,I,by rw[ea];rfl,q⟩
def Ba(neg:Bool):F2:=λx y Q=>∃ds b,(y=.lst ds\/y=.tup ds)/\sA x ds=aa b/\Q (.bl (if neg then !b else b))
def Xa{K:aq}{neg:Bool}:O3 K (M4 K neg) (Ba neg):=by intro S H x y dx dy Q3 Q fc hx hy hf k;obtain⟨ds,b,e,e2,q⟩:=hf;exact⟨S,dx,dy,ds,b,hx,hy,e,e2,k _ H _ (Same.refl H) (by simp only[Dn]) q⟩
def PY:Tells (Ba neg) (uO neg):=λx y d Q e q=>by
 unfold uO at e;split at e
 .obtain ⟨b,e1,rfl⟩:=lJ e;exact⟨_,b,.inl rfl,e1,q⟩
 .obtain ⟨b,e1,rfl⟩:=lJ e;exact⟨_,b,.inr rfl,e1,q⟩
 .cases e
def W_(x y d:D)(e:uO neg x y=aa d):∃b,d=.bl b:=by
 unfold uO at e;split at e
 .rename_i ds
  cases q:sA x ds with
  |none=>rw[q] at e;cases e
  |some b=>rw[q] at e;cases e;exact⟨_,rfl⟩
 .rename_i ds
  cases q:sA x ds with
  |none=>rw[q] at e;cases e
  |some b=>rw[q] at e;cases e;exact⟨_,rfl⟩
 .cases e
def Cs(hu:X.A.units+9<cf)(ha:cD X a fa)(hb:cD X b fb)(hm:behindInMarks .In b=ag:=by with_unfolding_all rfl):uU X (.Compare a [.In] [b] pos) (tV (aE (uO ag) fa fb)):=cT (lR (op:=.In) (PX (neg:=ag) hu) Xa ha hb hm) (lT PY W_)
end
section
variable{X:Cx}
def Ta(i:Nat){st:df}{f:SF}(h:yP X st f):yP X st (yh i f) :=
 lG h λB σ H S_=>by obtain⟨H₀,S,w,ρ,G,E,hl,st,ht,ok⟩:=S_;exact⟨H₀,S,w,freeze ρ i,G,E,hl,st.frozen,ht,ok⟩
end
end L4
namespace L5
open PySem.Spec PyProof.Rows L2 L3 L4
open PySem.W Builtin.ObjectAttr Builtin.Getset_descriptor
structure aNj (K:aq) (C:ai):Prop where
 hc:isClsIn K C=ae
 hm:mroIn K C (.type "object")=aa ae
 hs:subIn K (.ref C) (.type "BaseException")=aa ae
 hga:findIn K (.ref C) "__getattribute__"=aa (aa (.builtin "BaseException.__getattribute__"))
 hgg:findIn K (.ref C) "__getattr__"=aa af
 ha:findIn K (.ref C) "__class__"=aa (aa (.builtin "object.__class__"))
 hn:specialIn K (.builtin "object.__class__") "__get__"=aa (aa (.builtin "getset_descriptor.__get__"))
 ht:takesIn K (.builtin "object.__class__")=aa ae
section
variable{X:Cx}
def PZ(hc:X.calm=ae):eT X (.builtin "min") (λxs H Q=>∃a b,xs=[.int a,.int b]/\Q (.int (if b<a then b else a)) H):=by
 intro pins s σ H xs us Q I r h;obtain⟨a,b,rfl,q⟩:=h;obtain⟨u1,u2,rfl,⟨t1,rfl⟩,⟨t2,rfl⟩⟩:=vals2 r;refine min_two_ints (I.ok.hd hc) λh' tk hk=>⟨_,H,I.kept hk,?_,q⟩;by_cases z:b<a
 .rw [Z_ z,Z_ z];exact⟨_,rfl⟩
 .rw [Zz z,Zz z];exact⟨_,rfl⟩
theorem P0(hc:X.calm=ae):eT X (.builtin "max") (λxs H Q=>∃a b,xs=[.int a,.int b]/\Q (.int (if b>a then b else a)) H):=by
 intro pins s σ H xs us Q I r h;obtain⟨a,b,rfl,q⟩:=h;obtain⟨u1,u2,rfl,⟨t1,rfl⟩,⟨t2,rfl⟩⟩:=vals2 r;refine max_two_ints (I.ok.hd hc) λh' tk hk=>⟨_,H,I.kept hk,?_,q⟩;by_cases z:b>a
 .rw [Z_ z,Z_ z];exact⟨_,rfl⟩
 .rw [Zz z,Zz z];exact⟨_,rfl⟩
def WN(g:Int->Int->Int):F1
 |[.int a,.int b],Q=>Q (.int (g a b))
 |_,_=>False
theorem M5{K:aq}{g:Int->Int->Int}:C3 K (λxs H Q=>∃a b,xs=[.int a,.int b]/\Q (.int (g a b)) H) (WN g):=by
 intro S H xs ds Q3 Q fc hd hf k
 match ds,hf with
 |[.int a,.int b],hf =>
  obtain⟨v,r,rfl,h1,h2⟩:=hd.bH;obtain⟨v2,r2,rfl,h3,h4⟩:=h2.bH;simp only[aP] at h4;subst h4;simp only[Dn] at h1 h3;subst h1 h3;exact⟨a,b,rfl,k _ H _ (Same.refl H) (by simp only[Dn]) hf⟩
def JV:mY (WN λa b=>if b<a then b else a) ER:=λds d Q e q=>by
 unfold ER at e;split at e
 .cases e;exact q
 .cases e
def JW:mY (WN λa b=>if b>a then b else a) p4:=λds d Q e q=>by
 unfold p4 at e;split at e
 .cases e;exact q
 .cases e
def S0(hc:X.calm=ae)(hm:X.mg "min"=af)(ha:zH X [a,b] t)(hg:Gl X "min":=by rfl)(he:au [a,b] X.env=(ag,eval a X.env)::au [b] X.env:=by rfl)(hpl:(d_ pos (au [b] X.env)).any (·.1)=ag:=by rfl):cD X (.Call (.Name "min" p) [a,b] [] pos) (bX ER t) :=
 cE (tM (PZ hc) M5 a4u hg hm ha (by decide) (by decide) he hpl) (yQ JV)
def WQ(hc:X.calm=ae)(hm:X.mg "max"=af)(ha:zH X [a,b] t)(hg:Gl X "max":=by rfl)(he:au [a,b] X.env=(ag,eval a X.env)::au [b] X.env:=by rfl)(hpl:(d_ pos (au [b] X.env)).any (·.1)=ag:=by rfl):cD X (.Call (.Name "max" p) [a,b] [] pos) (bX p4 t) :=
 cE (tM (P0 hc) M5 a4v hg hm ha (by decide) (by decide) he hpl) (yQ JW)
end
variable{K:aq}{C D:ai}
structure aL0 (K:aq) (C D:ai):Prop where
 ne:(c_ C == c_ D)=ag
 c:isClsIn K D=ae
 t:typeIn K (.ref D)=aa (.type "type")
 s:subIn K (.ref C) (.ref D)=aa ag
end L5
namespace L5
open PySem.Spec PyProof.Rows L2 L3 L4
open Att
section
variable{X:Cx}
def A_:F2
 |.lst a,.int n,Q=>a.length*n.toNat<=bg /\ -(2^63)<=n/\n<2^63/\Q (.lst (dh n.toNat a).flatten)
 |_,_,_=>False
theorem M6{K:aq}{S:ai->Prop}{H:Hp}{ds:List D}{xs:List V}(h:aP K S H ds xs):∀n:Nat,aP K S H (dh n ds).flatten (dh n xs).flatten
 |0=>aP.nil
 |n+1=>by rw[jb,jb,qg,qg];exact h.append (M6 h n)
def rep3(ha:dA X a ta)(hb:dA X b tb):I0 X (.BinOp a .Mult b pos) (g6 A_ ta tb):=imp (UL Yf ha hb) λσ H Q h=>by
 obtain⟨S,ρ,Q3,fc,sl,ht,k⟩:=h;refine⟨S,ρ,_,fc,sl,ht,λv H1 d s1 d1 q1=>?_⟩;refine⟨S,ρ,_,bV fc s1,Sl.fits (.same s1) sl,q1,λu H2 d2 s2 d2' q2=>?_⟩;cases d<;>cases d2<;>try exact q2.elim
 rename_i ds n;simp only[Dn] at d1 d2';obtain⟨a,xs,rfl,ha,sa,da⟩:=d1;subst d2';have da':=aP.fits (.same s2) _ _ da;obtain⟨z1,z2,z3,q3⟩:=q2;refine⟨a,n,xs,rfl,rfl,s2 _ _ ha,z2,z3,by rw[<- da.len];exact z1,λp hp=>k p _ _ _ ((s1.trans s2).free hp) aQ ((s1.trans s2).trans (aO hp)) ?_ q3⟩;exact aP.fits ((Fits.fresh hp).trans (.same (aO hp))) _ _ (M6 da' _)
def P4:Tells A_ repLM:=λx y d Q e q=>by
 cases x<;>first|(cases e;done)|skip
 cases y<;>first|(cases e;done)|skip
 rename_i a n;have e:(if a.length*n.toNat<=oH/\n.natAbs<9223372036854775808 then aa (D.lst (dh n.toNat a).flatten) else af)=aa d:=e;by_cases h:a.length*n.toNat<=oH/\n.natAbs<9223372036854775808
 .rw [Z_ h] at e;cases e;exact⟨by rw[gr];exact h.1,by have:=h.2;omega,by have:=h.2;omega,q⟩
 .rw [Zz h] at e;cases e
def Cr(ha:cD X a fa)(hb:cD X b fb):fT X (.BinOp a .Mult b pos) (aE repLM fa fb):=cF (rep3 ha hb) (kG P4)
end
section
variable{X:Cx}
section
variable{ls fs:Q0g}{fr:List Nat}{sc:gf}{tg iter elt:ar}{ifs:List ar}{pos:bh}{i:Nat}{x:ak}{spos pos':bh}
theorem JX{ti:WI}{g:GE}{tf:WT}{te:WE}(nd:X.N.Nodup)(hc:X.calm=ae)(hi:Q4 X tg iter ti)
  (hg:∀cl C pn ex s H,(blk X (ls++fs) sc cl C pn ex s H).N.Nodup->PG4 (blk X (ls++fs) sc cl C pn ex s H) ls.length tg g) (hf:∀cl C pn ex s H,OZ (blk X (ls++fs) sc cl C pn ex s H) ifs tf) (he:∀cl C pn ex s H,dA (blk X (ls++fs) sc cl C pn ex s H) elt te)
  (hx0:X.N[i]?=aa x:=by rfl) (hx:X.env.scope.names.lookup x=aa .local:=by rfl) (hsw:Rv X elt tg iter ifs sc pos x pos' spos:=by rfl)
  (B:chk X.env.scope.names sc X.N ls fs fr=ae:=by rfl) (hs:Zo X iter:=by intro _;rfl):EN X (.Assign [.Name x pos'] (.ListComp elt [⟨tg,iter,ifs,0⟩] sc pos) spos) (Cu i (GN ls.length fr ti g tf te)) :=
 lG (yM (g:=yN X.K ls.length (ls++fs).length g) (tf:=liftT X.K tf) (te:=lift X.K te) nd hx0 hx hc (lH B) hi (λcl C pn ex s H=>hg cl C pn ex s H (lH B).nd) hf he hsw hs) λBd σ H Sz=>by
 obtain⟨H₀,S,w,ρ,G,E,hl,st,ht,ok⟩:=Sz;exact tO (n:=(ls++fs).length) (by rw[fu,(lH B).GF]) ⟨_,bY ρ,_,st.YC,st.all,ht,λp xs H' ds hp hp' s' d' q'=>ok.nx w _ H' _ (by rw[jd];exact hl) ((st.same s').mU (d:=.lst ds) (by rw[hl];exact jO hx0) (by simp only[Dn];exact⟨p,xs,rfl,hp',st.Q0 p hp,aP.EL q'.1 d'⟩)) q'.2⟩
variable{it:AF}{g:YJ}{t:TF}{e:EF}
def Sy{f:EF}{ρ:cN}{Q:D->Prop}{o:Out}{d:D}(h:f ρ=aa d)(hl:oY d=ae)(q:Q d):wE f ρ λd=>(match d with | .lst ds=>zJ ds=ae|_=>False)/\Q d:=by refine⟨d,h,?_,q⟩;cases d<;>first|exact hl|cases hl
theorem JY(nd:X.N.Nodup)(hc:X.calm=ae)(hi:YE X tg iter it)
  (hg:∀cl C pn ex s H,(blk X (ls++fs) sc cl C pn ex s H).N.Nodup->V4 (blk X (ls++fs) sc cl C pn ex s H) ls.length tg g) (hf:∀cl C pn ex s H,V5 (blk X (ls++fs) sc cl C pn ex s H) ifs t) (he:∀cl C pn ex s H,cD (blk X (ls++fs) sc cl C pn ex s H) elt e)
  (hx0:X.N[i]?=aa x:=by rfl) (hx:X.env.scope.names.lookup x=aa .local:=by rfl) (hsw:Rv X elt tg iter ifs sc pos x pos' spos:=by rfl)
  (B:chk X.env.scope.names sc X.N ls fs fr=ae:=by rfl) (hs:Zo X iter:=by intro _;rfl):yP X (.Assign [.Name x pos'] (.ListComp elt [⟨tg,iter,ifs,0⟩] sc pos) spos) (lP i (a9 ls.length fr it g t e)) :=
 cS (JX nd hc hi hg hf he hx0 hx hsw B hs) λE ρ w=>by
  unfold wS lP at w
  cases h:a9 ls.length fr it g t e (bY ρ) with
  |none=>rw[h] at w;exact w.elim
  |some d =>
   rw[h] at w;dsimp only at w;by_cases hl:oY d=ae
   .rw [Z_ hl] at w;exact JQ _ _ (Sy (o:=.no) (Q:=λd=>E.nx (ρ.set i (.ro d))) h hl w)
   .rw [Zz hl] at w;exact w.elim
end
end
end L5
namespace L6
open PySem.Spec PyProof.Rows
def Up(l:List Nat):Prop:=l.Pairwise (·<·)
theorem WR(xs:Array Nat)(j:Nat)(up:Up xs.toList):∀f lo hi,hi-lo<=f->lo<=hi->hi<=xs.size->(∀i,i<lo->xs.getD i j<j)->(∀i,hi<=i->i<xs.size->j<=xs.getD i j) ->
  yz xs j f lo hi<=xs.size/\(∀i,i<yz xs j f lo hi->xs.getD i j<j) /\∀i,yz xs j f lo hi<=i->i<xs.size->j<=xs.getD i j:=by
 have mono:∀i k,i<=k->k<xs.size->xs.getD i j<=xs.getD k j:=λi k hik hk=>by
  by_cases e:i=k
  .subst e;exact bj _
  .have h1:i<xs.size:=by omega
   have:=rm.mp up i k (by simpa using h1) (by simpa using hk) (by omega);simp only[Af,h1,hk,dif_pos];simpa using ko this
 intro f
 induction f with
 |zero =>
  intro lo hi h1 h2 h3 h4 h5;have:lo=hi:=by omega
  subst this;exact⟨h3,h4,h5⟩
 |succ f ih =>
  intro lo hi h1 h2 h3 h4 h5;unfold yz;by_cases hl:lo<hi
  .rw [Z_ hl];dsimp only;by_cases hm:xs.getD ((lo+hi)/2) j<j
   .rw [Z_ hm];refine ih _ _ (by omega) (by omega) h3 (λi hi'=>?_) h5;exact pw (mono i ((lo+hi)/2) (by omega) (by omega)) hm
   .rw [Zz hm];refine ih _ _ (by omega) (by omega) (by omega) h4 λi hi' hs=>?_;exact ie (Nat.not_lt.mp hm) (mono _ i hi' hs)
  .rw [Zz hl];have:lo=hi:=by omega
   subst this;exact⟨h3,h4,h5⟩
def below_at(up:Up xs.toList)(j:Nat):gm xs j<=xs.size/\(∀i,i<gm xs j->xs.getD i j<j) /\∀i,gm xs j<=i->i<xs.size->j<=xs.getD i j :=
 WR xs j up _ _ _ (by omega) (by omega) (bj _) (λi h=>by omega) λi h1 h2=>by omega
def zZ{α:Type}(xs:Array α)(p:Nat)(x:α):(yx xs p x).toList=xs.toList.take p++x::xs.toList.drop p:=by unfold yx;simp[Array.toList_extract,List.extract_eq_take_drop];refine vd ?_;simp
def Wz(up:Up xs.toList)(hj:xs[gm xs j]?≠aa j):Up (yx xs (gm xs j) j).toList:=by
 obtain⟨h1,h2,h3⟩:=below_at up j;rw[zZ];unfold Up at *;rw[List.pairwise_append];refine⟨up.sublist (Gh ..),?_,λa ha b hb=>?_⟩
 .rw [ft];refine⟨λb hb=>?_,up.sublist (List.drop_sublist ..)⟩;obtain⟨i,hi,e'⟩:=qe hb;have e:=e';rw[a2K] at e;have hs:gm xs j+i<xs.size:=by simp at hi;omega
  have h4:=h3 (gm xs j+i) (by omega) hs;have e2:xs.getD (gm xs j+i) j=b:=by simp only[Af,hs,dif_pos];simpa using e
  rw[e2] at h4;by_cases e3:b=j
  .exfalso;subst e3;by_cases hi0:i=0
   .subst hi0;apply hj;rw[kz (by simpa using hs)];simpa using e
   .have hs0:gm xs b<xs.size:=by omega
    have q:=rm.mp up (gm xs b) (gm xs b+i) (by simpa using hs0) (by simpa using hs) (by omega);have h5:=h3 (gm xs b) (bj _) hs0;have e4:xs.getD (gm xs b) b=xs[gm xs b]:=by simp[Af,hs0]
    rw[e] at q;simp only[Array.getElem_toList] at q;omega
  .omega
 .obtain ⟨i,hi,e⟩:=qe ha;have hi2:i<gm xs j:=by simp at hi;omega
  have hs:i<xs.size:=by omega
  have h4:=h2 i hi2;have e2:xs.getD i j=a:=by simp only[Af,hs,dif_pos];rw[<- e];simp
  rw[e2] at h4;rcases cb.1 hb with hb|hb
  .omega
  .obtain ⟨k,hk,e5⟩:=qe hb;rw[a2K] at e5;have hs2:gm xs j+k<xs.size:=by simp at hk;omega
   have q:=rm.mp up i (gm xs j+k) (by simpa using hs) (by simpa using hs2) (by omega);rw[e5] at q;have e6:xs.toList[i]=a:=by rw[<- e];simp
   rw[e6] at q;exact q
def WU(n:Nat):Up (Array.range n).toList:=by unfold Up;rw[Array.toList_range];exact zq
structure YF (led:Bool) (t:SetTable) (n:Nat):Prop where
 fit:t.fits n=ae
 led:t.led=led
 no:t.dummies=#[]
 up:Up t.place.toList
def lM{led:Bool}{t:SetTable}(n:Nat)(h:t.led=led):YF led (t.standIn n) n:=by refine⟨?_,h,rfl,WU n⟩;unfold a3r a3h a3s;simp;omega
theorem G3(hn:t.dummies=#[]):∀(k:Nat) (p:a3u) {j:Nat} {d:Option Nat},p.dummy=af->E_ t f h k p=aa (.empty j d)->d=af/\t.place[gm t.place j]?≠aa j:=by
 intro k
 induction k with
 |zero=>intro p j d _ e;unfold E_ at e;cases e
 |succ k ih =>
  intro p j d hd e;unfold E_ at e;have adv:(t.advance p).dummy=af:=by unfold a3t;split<;>exact hd
  cases q:t.slot p.j with
  |empty =>
   rw[q] at e;injection e with e;injection e with e1 e2;subst e1;refine⟨by rw[<- e2];exact hd,λz=>?_⟩;unfold a05 at q;dsimp only at q;rw[z] at q;simp at q
  |dummy =>
   exfalso;unfold a05 at q;dsimp only at q;split at q
   .cases q
   .have:yy t.dummies p.j=ag:=by rw[hn];unfold yy;simp
    rw[this] at q;cases q
  |live i =>
   rw[q] at e;dsimp only at e;split at e
   .cases e
   .exact ih _ adv e
theorem YF.layNew{led:Bool}{t:SetTable}{es:Array (Int×aj)}(h:YF led t es.size)(k:Int)(x:aj):YF led (layNew t es k x).2.1 (layNew t es k x).1.size:=by
 unfold PySem.layNew
 cases q:t.freeSlot k with
 |none =>
  dsimp only;rw[Array.size_push];exact lM _ h.led
 |some r =>
  obtain⟨slot,wd⟩:=r;dsimp only;unfold a3q at q;have hp:t.place[gm t.place slot]?≠aa slot:=by
   unfold a3l at q;split at q
   .rename_i j d e;obtain⟨e1,e2⟩:=G3 h.no _ _ rfl e;subst e1;cases q;exact e2
   .cases q
  have hd:yy t.dummies slot=ag:=by rw[h.no];simp[yy]
  have ep:t.put slot=({t with place:=yx t.place (gm t.place slot) slot},gm t.place slot):=by unfold a3k;rw[hd];rfl
  rw[ep];dsimp only;unfold a3m;split
  .rename_i hf;exact⟨hf,h.led,h.no,Wz h.up hp⟩
  .exact lM _ h.led
theorem rN{β:Type}(f:Nat->Option β):∀l:List Nat,Up l->Up ((l.filterMap λj=>(f j).map (j,·)).map (·.1))
 |[],_=>by simp[Up]
 |a::l,h=>by
  have h':=ft.1 h;have ih:=rN f l h'.2;rw[qh]
  cases q:f a with
  |none=>exact ih
  |some b =>
   dsimp only[pj];rw[bt];refine ft.mpr ⟨λc hc=>?_,ih⟩;obtain⟨p,hp,e⟩:=cg.mp hc;obtain⟨j,hj,e2⟩:=vn.mp hp
   cases q2:f j with
   |none=>rw[q2] at e2;cases e2
   |some b2 =>
    rw[q2] at e2;cases e2;rw[<- e];exact h'.1 j hj
theorem YF.Sx{led:Bool}{t:SetTable}{es:Array (Int×aj)}(h:YF led t es.size)(wanted:Nat):YF led (relayAll t es wanted).2.1 (relayAll t es wanted).1.size:=by
 unfold relayAll
 cases q:t.relaid (es.map (·.1)) wanted with
 |none=>exact lM _ h.led
 |some r =>
  obtain⟨t',order⟩:=r;dsimp only;split
  .rename_i hc;rw[fz] at hc;unfold a3j a3o at q
   cases q2:a3n (a3i wanted-1) (es.map (·.1)) with
   |none=>rw[q2] at q;cases q
   |some owner =>
    rw[q2] at q;cases q;refine⟨hc.2,h.led,rfl,?_⟩;dsimp only;exact rN _ _ zq
  .exact lM _ h.led
theorem WV(led:Bool):YF led (a3p 0 0 led) 0:=⟨by rfl,rfl,rfl,zy⟩
noncomputable def WW(e:Int×aj):Int:=match e.2 with
 |.int m _=>m
 |_=>0
def M7(e:Int×aj):Prop:=∃m t,e=(hashInt m,jt m t)
def uX(led:Bool)(o:aw)(ns:Q0e):Prop:=∃es ep t,o.ExactSet/\o.data=.set es ep t/\(∀e∈es.toList,M7 e)/\(es.toList.map WW).Perm ns/\YF led t es.size/\es.size<scanBound
def JZ(ns:Q0e)(k:Int):List Int:=if k∈ns then ns else ns++[k]
def WY(prog:bf)(w:ba)(h:∀e∈l,M7 e):ElemsOf (intKind prog w) l:=λe he=>by obtain⟨m,t,rfl⟩:=h e he;exact⟨⟨m,Ep prog w m t,rfl⟩,rfl⟩
def WZ(prog:bf)(w:ba)(h:M7 e)(k:Int):(intKind prog w).is k e.2=Zv (k=WW e):=by obtain⟨m,t,rfl⟩:=h;exact KeyKind.is_eq_decide (Ep prog w m t) k
section
variable{prog:bf}{w:ba}{A:bx}{E:Q0c}{s:ao}
theorem stored(ho:s.heap.get? a=aa o)(hd:o.data=.set es ep t):
  (s.heap.update a (za es' t')).get? a=aa {o with data:=.set es' (ep+1) t' }:=by
 have q:=ur (za es' t') ho (by rw[putSet_of es' t' hd];rfl)
 rwa [putSet_of es' t' hd] at q
theorem add_int(ho:s.heap.get? a=aa o)(hi:uX led o ns)(hb:ns.length+1<scanBound)
  (h:∀h' o' b,nz a s.heap h'->h'.get? a=aa o'->uX led o' (JZ ns k)->Q b {s with heap:=h',toks:=s.toks+1}):ax (ay prog w) A (setAdd a (.int k tk)) Q E s:=by
 obtain⟨es,ep,t,hx,hd,hE,hp,hT,hs⟩:=hi;have hel:=WY prog w hE;have calm:∀(b:Bool) (s1:ao) (Q1:Unit->ao->Prop),Q1 () s1->ax (ay prog w) A (match b with|true=>rule "set.scan.the-table-gave-way" | false=>pure ()) Q1 E s1:=λb s1 Q1 q=>by
  cases b
  .exact az q
  .exact mq q
 have hk:=Ep prog w k tk;unfold setAdd;refine ip (av ((intKind prog w).pyHash hk ?_));unfold setAddHashed setAddHashedIn setAddByScan;refine ip (av (wpAny_setState_of (s:={s with toks:=s.toks+1}) ho hd hT.fit ?_));dsimp only;rw[Z_ (byScan_of (x:=.int k tk) rfl hs hel)];refine av (av (mq (av (wpAny_setScan_of (s:={s with toks:=s.toks+1}) hk ho hd hT.fit hel ?_))))
 cases hf:es.toList.findIdx? (λe=>(intKind prog w).is k e.2) with
 |some j =>
  obtain⟨hj,e,_⟩:=List.findIdx?_eq_some_iff_getElem.1 hf;have hm:=mz hj;rw[WZ prog w (hE _ hm),decide_eq_true_eq] at e;have kn:k∈ns:=hp.mem_iff.1 (e▸vm hm);apply az;apply az;refine h s.heap o ag (a3S ..) ho ?_;rw[JZ,Z_ kn];exact⟨es,ep,t,hx,hd,hE,hp,hT,hs⟩
 |none =>
  have kn:k∉ns:=λz=>by obtain⟨e,he,ee⟩:=cg.1 (hp.mem_iff.2 z);have q:=List.findIdx?_eq_none_iff.1 hf e he;rw[WZ prog w (hE e he),ee] at q;simp at q
  dsimp only;have p1:=layNew_perm t es (hashInt k) (.int k tk);have t1:=hT.layNew (hashInt k) (.int k tk);show ax _ _ _ _ _ _;have eh:(intKind prog w).hash k=hashInt k:=rfl;rw[eh];generalize layNew t es (hashInt k) (.int k tk)=L at p1 t1 ⊢;obtain⟨es1,tb,wd,gv⟩:=L;rw[Array.toList_push] at p1;dsimp only at p1 t1 ⊢;have e1:∀e∈es1.toList,M7 e:=λe he=>by
   rcases h_.1 (p1.mem_iff.1 he) with z|z
   .exact hE e z
   .exact ⟨k,tk,cp.1 z⟩
  have n1:(es1.toList.map WW).Perm (ns++[k]):=(p1.map WW).trans (by rw[gu];exact hp.append_right _);have l1:es1.size=ns.length+1:=by have q:=n1.length_eq;simpa using q
  have z1:es1.size<scanBound:=by omega
  have fin:∀h' o',nz a s.heap h'->h'.get? a=aa o'->uX led o' (ns++[k])->Q ae {s with heap:=h',toks:=s.toks+1}:=λh' o' q1 q2 q3=>h h' o' ae q1 q2 (by rw[JZ,Zz kn];exact q3);have tail:∀tb2:SetTable,YF led tb2 es1.size->ax (ay prog w) A (do
    storeSet a es1 tb2
    if(!wd&&tb2.tooFull)=ae then do
      (match (relayAll tb2 es1 (qt es1.size)).2.2 with|true=>rule "set.scan.the-table-gave-way" | false=>pure ())
      storeSet a (relayAll tb2 es1 (qt es1.size)).1 (relayAll tb2 es1 (qt es1.size)).2.1
      pure (aa ae)
     else pure (aa ae)) (λr s'=>ax (ay prog w) A (match r with|some added=>pure added|none=>setAddHashedIn a (.int k tk) (hashInt k) 99999) Q E s') E {s with toks:=s.toks+1}:=λtb2 t2=>by
   refine av (a0e (s:={s with toks:=s.toks+1}) ho hd ?_ (a0G z1));have g1:=stored (es':=es1) (t':=tb2) ho hd;have i1:uX led {o with data:=.set es1 (ep+1) tb2} (ns++[k]):=⟨es1,ep+1,tb2,hx,rfl,e1,n1,t2,z1⟩;split
   .have p2:=relayAll_perm tb2 es1 (qt es1.size);have t3:=t2.Sx (qt es1.size);generalize relayAll tb2 es1 (qt es1.size)=L at p2 t3 ⊢;obtain⟨es2,tc,gv2⟩:=L;dsimp only at p2 t3 ⊢;have l2:es2.size=es1.size:=by have q:=p2.length_eq;simpa using q
    refine av (calm gv2 _ _ (av (a0e (s:={s with heap:=s.heap.update a (za es1 tb2),toks:=s.toks+1}) g1 rfl (az (az ?_)) (a0G (by omega)))));exact fin _ _ ((q_ ..).trans (q_ ..)) (stored (s:={s with heap:=s.heap.update a (za es1 tb2)}) g1 rfl) ⟨es2,_,tc,hx,rfl,λe he=>e1 e (p2.mem_iff.1 he),(p2.map WW).trans n1,t3,by omega⟩
   .exact az (az (fin _ _ (q_ ..) g1 i1))
  refine av (calm gv _ _ ?_);split
  .apply av;apply az;exact tail _ t1
  .apply av;apply az;exact tail _ t1
end
noncomputable def gD:List Int->List Int->List Int
 |ns,[]=>ns
 |ns,k::r=>gD (JZ ns k) r
def kM(w:ba):Bool:=!(w.params.followText "set-order")
def i8(led:Bool):aw:={cls:=.type "set",dict:=af,data:=.set #[] 0 (.fresh 0 0 led)}
def P5(led:Bool):uX led (i8 led) []:=⟨#[],0,.fresh 0 0 led,⟨rfl,rfl,rfl⟩,rfl,λe he=>by simp at he,a4D,WV led,by decide⟩
def G4(ns:Q0e)(k:Int):(JZ ns k).length<=ns.length+1:=by
 unfold JZ;split
 .omega
 .simp
section
variable{prog:bf}{w:ba}{A:bx}{E:Q0c}{s:ao}
theorem W0(hh:A.handled=af)(hi:iy items.toList ns)(hI:t≠I)(we:S≠I)(wc:S≠t)(hb:ns.length+1<scanBound):
  ∀(r:Q0e) (i:Nat) (s:ao) (ms:Q0e) (o:aw),r=ns.drop i->i<=ns.length->s.heap.IsTupleIter I t i->s.heap.IsTuple t items->s.heap.get? S=aa o->uX led o ms->ms.length<=i ->
   (∀h' tk o',(∀b u,b≠S->b≠I->s.heap.get? b=aa u->h'.get? b=aa u)->h'.get? S=aa o'->uX led o' (gD ms r)->R (.ok (.ret .none)) {s with heap:=h',toks:=tk})->kh (ay prog w) A (.builtin "set.update.loop" ⟨[.ref S,.ref I],[]⟩) R s:=by
 have W:=Walks.tuple (prog:=prog) (w:=w) (A:=A.in1) hh I t hI items;have hn:items.size=ns.length:=by have q:=a18 hi;simpa using q
 intro r
 induction r with
 |nil =>
  intro i s ms o er hil it tp ho hS _ fin;have e:i=items.size:=by have q:=congrArg my er;rw[qd,mx] at q;omega
  subst e;apply kg a19;rw[lr Fu];unfold Builtin.«set.update.loop»;refine av (W.done s _ _ ⟨it,tp⟩ λh' tk keep=>az ?_);exact fin h' tk o (λb u h1 h2 e=>keep b u (by simpa using h2) e) (keep S o (by simpa using we) ho) hS
 |cons k r ih =>
  intro i s ms o er hil it tp ho hS hm fin;have hlt:i<ns.length:=by have q:=congrArg my er;rw[qd,de] at q;omega
  have ek:ns[i]?=aa k:=by
   have q:(ns.drop i)[0]?=aa k:=by rw[<- er];rfl
   rwa [zt,Ge] at q
  apply kg a19;rw[lr Fu];unfold Builtin.«set.update.loop»;refine av (W.item i s _ _ (by omega) ⟨it,tp⟩ λv h1 tk hv st keep=>?_);obtain⟨t1,rfl⟩:=IntsAre.int_at hi i v (by rw[Ae];exact hv);have e2:ns.getD i 0=k:=by rw[fm,ek];rfl
  rw[e2];refine av (ip (add_int (s:={s with heap:=h1,toks:=tk}) (keep S o (by simpa using we) ho) hS (by omega) λh2 o2 _ sb g2 i2=>az ⟨nq Fu _,?_⟩));have it2:h2.IsTupleIter I t (i+1):=st.1.at λo e=>by rw[sb.2 I (dj we)];exact e
  have tp2:h2.IsTuple t items:=st.2.at λo e=>by rw[sb.2 t (dj wc)];exact e
  refine ih (i+1) {s with heap:=h2,toks:=tk+1} _ o2 ?_ (by omega) it2 tp2 g2 i2 (ie (G4 ms k) (by omega)) λh3 tk3 o3 k3 g3 i3=>fin h3 tk3 o3 (λb u n1 n2 e=>k3 b u n1 n2 ?_) g3 i3
  .have q:=congrArg List.tail er;rw[List.tail_drop] at q;exact q
  .show h2.get? b=aa u;rw[sb.2 b n1];exact keep b u (by simpa using n2) e
def aAj(x:aj):MeetsIn prog w (Builtin.«set.__new__» ⟨[.type "set",x],[]⟩) (λ_ R s=>R (.ok (.ret (.ref s.heap.objs.size))) {s with heap:=s.heap.push (i8 (kM w))}):=by
 refine .of_wp λA R s h=>?_;have hs:=sub_set_self;unfold Builtin.«set.__new__» a4m newSet setsByText
 wp_walk
 apply wpAny_askSetting;apply az;dsimp only;simp only[newObj];exact av (a0v (az (az ⟨_,rfl,h⟩)))
theorem W2(hi:iy items.toList ns)(wc:S≠t)(hb:ns.length+1<scanBound):
  MeetsIn prog w (Builtin.«set.__init__» ⟨[.ref S,.ref t],[]⟩) (λA R s=>A.handled=af/\s.heap.IsTuple t items/\s.heap.get? S=aa (i8 led) /\
   ∀h' tk o',(∀b u,b≠S->b<s.heap.objs.size->s.heap.get? b=aa u->h'.get? b=aa u)->h'.get? S=aa o'->uX led o' (gD [] ns)->R (.ok (.ret .none)) {s with heap:=h',toks:=tk}):=by
 refine .of_wp λA R s h=>?_;obtain⟨hh,tp,hS,h⟩:=h;have T1:s.TypeIs (.ref S) "set":=⟨_,hS,rfl⟩;have T2:=tp.typeIs;have s1:=F.sub_tuple_set;have s2:=F.sub_tuple_frozenset;obtain⟨ot,hot,hct,nt,hdt⟩:=id tp;unfold Builtin.«set.__init__»;unfold noKeywords a4l;generalize hP:pyIter=P
 wp_walk
 subst hP;have lS:S<s.heap.objs.size:=b_ hS;have lt:t<s.heap.objs.size:=b_ hot;refine ui tp (av (a0j ?_));refine W0 (A:=A.in1) (t:=t) (S:=S) hh hi (fv lt) (fv lS) wc hb ns 0 _ [] (i8 led) rfl (iz _) ⟨_,f_ _ rfl,rfl,rfl⟩ (tp.push _) (di _ hS) (P5 led) (bj _) λh' tk o' keep g i=>?_;exact az (az ⟨_,rfl,h h' tk o' (λb u n1 l e=>keep b u n1 (fv l) (di _ e)) g i⟩)
theorem W3(hh:A.handled=af)(hi:iy items.toList ns)(tp:s.heap.IsTuple t items)(hb:ns.length+1<scanBound)
  (h:∀h' tk o',(∀b u,s.heap.get? b=aa u->h'.get? b=aa u)->h'.get? s.heap.objs.size=aa o'->uX (kM w) o' (gD [] ns)->Q (.ref s.heap.objs.size) {s with heap:=h',toks:=tk}):
  ax (ay prog w) A (call (.type "set") [.ref t]) Q E s:=by
 obtain⟨c,tl,m1⟩:=n_.mro;have m2:=n_.made;have m3:=n_.sub;have m4:=n_.notType;have m5:=n_.canCreate;have m6:=F.typeCall_set_1 (.ref t);obtain⟨ot,hot,_⟩:=id tp;have lt:t<s.heap.objs.size:=b_ hot;refine wpAny_call (codeAny_of_tree (az ⟨Code.quiet_builtin _ (by decide+kernel),kg F.entry_type_call ?_⟩));rw[Around.under_plain (weight_type_call_type ..) (units_type_call_type ..)]
 wp_walk
 have c1:kh (ay prog w) A.in1 (.call (.builtin "set.__new__") ⟨[.type "set",.ref t],[]⟩) (λr s1=>r=.ok (.ret (.ref s.heap.objs.size))/\s1={s with heap:=s.heap.push (i8 (kM w))}) s :=
  a0K F.plain_set_new F.entry_set_new (wpAny_of_eq (F.newCall_set_1 _) (aAj (.ref t) A.in1 (λr s1=>r=.ok (.ret (.ref s.heap.objs.size))/\s1={s with heap:=s.heap.push (i8 (kM w))}) s ⟨rfl,rfl⟩))
 refine uk c1 λr s1 hr=>?_;obtain⟨rfl,rfl⟩:=hr;dsimp only;have g1:(s.heap.push (i8 (kM w))).get? s.heap.objs.size=aa (i8 (kM w)):=f_ _ rfl;have T1:Shared.TypeIs {s with heap:=s.heap.push (i8 (kM w))} (.ref s.heap.objs.size) "set":=⟨_,g1,rfl⟩;have m7:=n_.init.lookup;have m8:=n_.init.bind (.ref s.heap.objs.size)
 wp_walk
 have c2:kh (ay prog w) A.in1 (.call (.builtin "set.__init__") ⟨[.ref s.heap.objs.size,.ref t],[]⟩) (λr s2=>∃h' tk o',r=.ok (.ret .none)/\s2={s with heap:=h',toks:=tk} /\
   (∀b u,s.heap.get? b=aa u->h'.get? b=aa u)/\h'.get? s.heap.objs.size=aa o'/\uX (kM w) o' (gD [] ns)) {s with heap:=s.heap.push (i8 (kM w))} :=
  a0K n_.init.plain F.entry_set_init (check_set_init_1 T1 (W2 (led:=kM w) hi (i_ lt) hb A.in1 (λr s2=>∃h' tk o',r=.ok (.ret .none)/\s2={s with heap:=h',toks:=tk} /\
   (∀b u,s.heap.get? b=aa u->h'.get? b=aa u)/\h'.get? s.heap.objs.size=aa o'/\uX (kM w) o' (gD [] ns)) {s with heap:=s.heap.push (i8 (kM w))} ⟨hh,tp.push _,g1,λh' tk o' keep g i =>
    ⟨h',tk,o',rfl,rfl,λb u e=>keep b u (fv (b_ e)) (by rw[qz];exact rk (b_ e)) (di _ e),g,i⟩⟩))
 refine uk c2 λr s2 hr=>?_;obtain⟨h',tk,o',rfl,rfl,keep,g,i⟩:=hr;refine az ?_;dsimp only;rw[Zz (by decide)];exact az (h h' tk o' keep g i)
end
open L2 L3 L4
theorem uL:∀(ks ns:Q0e),gD ns ks=ks.foldl putN ns
 |[],ns=>rfl
 |k::ks,ns=>by rw[gD,uL ks,mh];rfl
theorem yV:∀(ks ns:Q0e),(gD ns ks).length<=ns.length+ks.length
 |[],ns=>bj _
 |k::ks,ns=>by have a:=yV ks (JZ ns k);have b:=G4 ns k;rw[gD,de];omega
def wy(w:ba)(a:ai)(ns:Q0e):HO:=.ext λh=>∃o,h.get? a=aa o/\uX (kM w) o ns
section
variable{X:Cx}
def Kh(w:ba)(K:aq):List V->Hp->VK->Prop:=λxs H Q=>∃(a:ai) (ns:Q0e),xs=[.ref a]/\fB K H a (ns.map V.int)/\ns.length<64 /\∀p,H p=af->Q (.ref p) (upd H p (wy w p (gD [] ns)))
def P6(hc:X.calm=ae):eT X (.type "set") (Kh X.w X.K):=by intro pins s σ H xs us Q I r h;obtain⟨a,ns,rfl,ha,fq,q⟩:=h;obtain⟨u,rfl,ru⟩:=vals1 r;cases ru;obtain⟨its,rv,pl,hz⟩:=I.tuple ha;have hi:=intsAre_of rv;obtain⟨ot,hot,hct,nt,hdt⟩:=id pl;refine W3 (items:=its.toArray) (ns:=ns) (I.ok.hd hc) (by simpa using hi) pl (by unfold scanBound;omega) λh' tk o' keep g i=>?_;refine⟨.ref s.heap.objs.size,_,I.laid (t':=tk) (o:=wy X.w s.heap.objs.size (gD [] ns)) keep (bj _) ⟨⟨o',g,i⟩,⟨o',g⟩,λh1 h2 z k=>?_⟩,rfl,q _ (I.hok.fresh (bj _))⟩;obtain⟨o2,e2,i2⟩:=z;exact⟨o2,k o2 e2,i2⟩
end
theorem G5(ht:g_ s.heap t its.toArray)(hz:its.length<=bg)
  (h:∀h',s.heap.objs.size<=h'.objs.size->(∀b u,s.heap.get? b=aa u->h'.get? b=aa u)->Q its {s with heap:=h' }):ax (ay prog w) A (collect (.ref t)) Q E s:=by
 obtain⟨ot,hot,hct,nt,hdt⟩:=id ht;unfold collect;apply av;apply a0j;refine kg F.entry_proto_collect ?_;rw[lr F.plain_proto_collect]
 wp_walk
 refine⟨nq a1v _,kg F.entry_list_iadd ?_⟩;rw[lr a1v];have g0:(s.heap.push {cls:=.type "list",data:=.seq #[]}).get? s.heap.objs.size=aa {cls:=.type "list",data:=.seq #[] 0}:=f_ _ rfl;refine wpAny_extend_seq (R:=wants _ _) (s:={s with heap:=s.heap.push {cls:=.type "list",data:=.seq #[]} }) s.heap.objs.size t _ 0 (.inr rfl) g0 (di _ hot) hct hdt ?_ (by simpa using hz);have g1:=ur (ju (· ++ its.toArray)) g0 rfl;apply av;apply wpAny_load g1;have fin:=h ((s.heap.push {cls:=.type "list",data:=.seq #[]}).update s.heap.objs.size (ju (· ++ its.toArray))) (ko (b_ g1)) λb u e=>(Fe _ _ (i_ (b_ e))).trans (di _ e);refine az ?_;simpa using fin
theorem J0(ht:g_ s.heap t its.toArray)(hv:iy its ns)(fq:ns.length<64)
  (h:∀h' tk l out ns' e,(∀b u,s.heap.get? b=aa u->h'.get? b=aa u)->s.heap.objs.size<=l->iy out ns'->ns'.Perm ns->ns'.Pairwise (· <= ·)->h'.get? l=aa (seqObj "list" out.toArray e)->Q (.ref l) {s with heap:=h',toks:=tk}):
  ax (ay prog w) A (call (.builtin "sorted") [.ref t]) Q E s:=by
 have lv:its.length<64:=by rw[a18 hv];exact fq
 apply a1L a10 a1Y a12 (a16 _);unfold Builtin.«sorted»;refine av (m:=checkCount "sorted" 1 1 _) (az (av (G5 (A:=A.in1) ht (by rw[gr];omega) λh1 l1 keep=>?_)));apply av;refine Eg ?_ (by rw[gr];omega);have g1:(h1.push (seqObj "list" its.toArray 0)).get? h1.objs.size=aa (seqObj "list" its.toArray 0):=f_ _ rfl;refine av (ip (jh a1V ⟨_,g1,rfl⟩ a13 (list_sort_tree g1 hv lv λout ns' a1 a2 a3=>⟨_,rfl,?_⟩) (a17 _)));obtain⟨e,g2⟩:=sortedHeap_at (out:=out) g1;refine az ⟨_,rfl,h _ s.toks _ out.toList ns' e (λb u q=>?_) l1 a1 a2 a3 (by simpa using g2)⟩;have lb:=b_ (keep b u q);rw[sortedHeap_old (fv lb) (by rw[qz];exact rk lb)];exact di _ (keep b u q)
section
variable{X:Cx}
def Wy(K:aq):List V->Hp->VK->Prop:=λxs H Q=>∃(a:ai) (ns:Q0e),xs=[.ref a]/\fB K H a (ns.map V.int)/\ns.length<64 /\∀ns':Q0e,ns'.Perm ns->ns'.Pairwise (· <= ·) ->∀p,H p=af->Q (.ref p) (upd H p (.lst (ns'.map V.int)))
def J1:eT X (.builtin "sorted") (Wy X.K):=by
 intro pins s σ H xs us Q I r h;obtain⟨a,ns,rfl,ha,fq,q⟩:=h;obtain⟨u,rfl,ru⟩:=vals1 r;cases ru;obtain⟨its,rv,pl,hz⟩:=I.tuple ha;refine J0 pl (intsAre_of rv) fq λh' tk l out ns' e keep hl a1 a2 a3 g=>?_;have hz2:ns'.length<=bg:=by rw[a2.length_eq,gr];omega
 have I1:=I.laid (t':=tk) (a:=l) (o:=.lst (ns'.map V.int)) keep hl ⟨by rw[a_];exact hz2,out,e,nX a1,by simpa[seqObj] using g⟩;exact⟨.ref l,_,I1,rfl,q ns' a2 a3 l (I.hok.fresh hl)⟩
def W4(hm:X.mg "sorted"=af)(ha:zH X [e] t)(hg:Gl X "sorted":=by rfl)(he:Zs X e []:=by rfl):
  fT X (.Call (.Name "sorted" p) [e] [] pos) (bX mD t) :=
 imp (mS J1 hg hm uv ha (by decide) (by decide) he (by rfl)) λσ H Q Sw=>by
  obtain⟨S,ρ,Q3,fc,sl,⟨d,ed,q3⟩,k⟩:=Sw;obtain⟨ds,eds,ed⟩:=bnd ed;refine⟨S,ρ,λes=>es=ds,fc,sl,⟨_,eds,rfl⟩,λvs H1 es s1 d1 q1=>?_⟩;subst q1;unfold mD at ed;split at ed
  .rename_i a;obtain⟨ns,e1,ed⟩:=bnd ed;by_cases hl:ns.length<64
   .rw [Z_ hl] at ed;cases ed;rw[ints_of e1] at d1;obtain⟨v,r,rfl,h1,h2⟩:=d1.bH;simp only[aP] at h2;subst h2;simp only[Dn] at h1;obtain⟨t1,xs,rfl,ht,dt⟩:=h1;rw[aP.ints.mp dt] at ht;refine⟨t1,ns,rfl,fB.of ht,hl,λns' pm so l hl2=>?_⟩;have e3:ns'=sortI ns:=pS (pm.trans (mZ _).symm) so (jU _);subst e3;exact k l _ _ _ (s1.free hl2) aQ (s1.trans (aO hl2)) (aP.ints.mpr rfl) q3
   .rw [Zz hl] at ed;cases ed
  .cases ed
end
end L6
namespace L7
open PySem.Spec PyProof.Rows L2 L3 L4 LL
def kI(ns:Q0e):List Key:=ns.map cz
def Su(ns:Q0e):(kI ns).map kV=ns.map V.int:=by unfold kI;rw[cc];rfl
section
variable(rd:List Int->List (List Int))
abbrev All:ai->Prop:=λ_=>True
end
def At(K:aq)(x:Q0a)(a:Q0e)(p:ai)(σ:L2.St)(H:Hp):Prop :=
 ∃vo va,σ[0]?=aa (aa vo)/\Dn K All H (aJ x) vo/\σ[1]?=aa (aa va)/\Dn K All H (tupI a) va/\σ[2]?=aa (aa (.ref p))
def At.key{K:aq}{x:Q0a}{a:Q0e}{p:ai}{σ:L2.St}{H:Hp}(h:At K x a p σ H):∃b,σ[1]?=aa (aa (.ref b))/\H b=aa (.tup ((kI a).map kV)):=by obtain⟨vo,va,h1,h2,h3,h4,h5⟩:=h;unfold tupI at h4;simp only[Dn] at h4;obtain⟨b,ys,rfl,hb,db⟩:=h4;rw[aP.ints.mp db] at hb;exact⟨b,h3,by rw[Su];exact hb⟩
section
variable{K:aq}{rd:List Int->List (List Int)}{x:Q0a}{Ok:List Int->Prop}{a:Q0e}{p:ai}{σ:L2.St}{H:Hp}{kvs:List (List Key×V)}
structure Parts (K:aq) (rd:List Int->List (List Int)) (x:Q0a) (a:Q0e) (C1:TT) (T1:TE) (T3:TS):Prop where
 c1:∀p σ H Q,At K x a p σ H->(∀H',Same H H'->Q (Zv (a.length=x.length)) H')->C1 σ H Q
 t1:∀σ H (Q:VK),(∀H',Same H H'->Q (.int 1) H')->T1 σ H Q
 t3:∀p (D:Ends) σ H,σ.length=4->At K x a p σ H->a.length<x.length->(∀(σ':L2.St) (H':Hp) (l:ai) (ps:List ai),Same H H'->At K x a p σ' H'->σ'[3]?=aa (aa (.ref l))->H' l=aa (.lst (ps.map V.ref))->ps.length=(rd a).length ->
  (∀(i:Nat) (q:ai) (b:Q0e),ps[i]?=aa q->(rd a)[i]?=aa b->H' q=aa (.tup (b.map V.int)))->D.nx σ' H')->T3 D σ H
end
end L7
namespace L8
open PySem.Spec PyProof.Rows L2
def fL(kvs:List (KX×V×V))(k:KX):Option V:=(kvs.find? λp=>Zv (p.1=k)).map (·.2.2)
def eD(kvs:List (KX×V×V))(k:KX)(y v:V):List (KX×V×V):=if kvs.any (λp=>Zv (p.1=k))=ae then kvs.map (λp=>if p.1=k then(p.1,p.2.1,v) else p) else kvs++[(k,y,v)]
def M8(H:Hp):KX->V->Prop
 |.inl k,y=>y=kV k
 |.inr ks,y=>∃b,y=.ref b/\mO H ks b
def m9(kvs:List (KX×V×V))(k:KX):Prop:=∀p∈kvs,p.1.isLeft=k.isLeft
def G6(kvs:List (KX×V×V))(k:KX)(y v:V):(eD kvs k y v).length<=kvs.length+1:=by
 unfold eD;split
 .rw [a_];omega
 .simp
abbrev PL:List (KX×V×V)->List (Key×aj)->Prop:=gg λp q=>p.1=.inl q.1/\p.2.1=kV q.1/\RelV p.2.2 q.2
abbrev PT(H:Hp):List (KX×V×V)->List (N1×ai×aj)->Prop:=gg λp q=>p.1=.inr q.1/\p.2.1=.ref q.2.1/\mO H q.1 q.2.1/\RelV p.2.2 q.2.2
theorem PL.val(r:PL kvs vs)(k:Key):mN (fL kvs (.inl k)) (valueAt vs k):=by
 induction r with
 |nil=>exact js
 | @cons p q ps qs h t ih =>
  by_cases e:q.1=k
  .have e1:p.1=.inl k:=by rw[h.1,e]
   have a:fL (p::ps) (.inl k)=aa p.2.2:=by unfold fL;rw[ia,Zx e1];rfl
   have b:valueAt (q::qs) k=aa q.2:=by unfold valueAt;rw[ia];simp[e]
   rw[a,b];exact h.2.2
  .have e1:¬ p.1=.inl k:=λz=>e (by rw[h.1] at z;exact ym z);have a:fL (p::ps) (.inl k)=fL ps (.inl k):=by unfold fL;rw[ia,Zy e1]
   have b:valueAt (q::qs) k=valueAt qs k:=by unfold valueAt;rw[ia];simp[e]
   rw[a,b];exact ih
theorem PT.val(r:PT H kvs xs)(k:N1):mN (fL kvs (.inr k)) ((atKey xs k).map (·.2)):=by
 induction r with
 |nil=>exact js
 | @cons p q ps qs h t ih =>
  by_cases e:q.1=k
  .have e1:p.1=.inr k:=by rw[h.1,e]
   have a:fL (p::ps) (.inr k)=aa p.2.2:=by unfold fL;rw[ia,Zx e1];rfl
   have b:atKey (q::qs) k=aa q.2:=by unfold atKey;rw[ia];simp[e]
   rw[a,b];exact h.2.2.2
  .have e1:¬ p.1=.inr k:=λz=>e (by rw[h.1] at z;exact Ea z);have a:fL (p::ps) (.inr k)=fL ps (.inr k):=by unfold fL;rw[ia,Zy e1]
   have b:atKey (q::qs) k=atKey qs k:=by unfold atKey;rw[ia];simp[e]
   rw[a,b];exact ih
theorem W5(kvs:List (KX×V×V))(k:KX):kvs.any (λp=>Zv (p.1=k))=(fL kvs k).isSome:=by
 unfold fL;rw[zl]
 induction kvs with
 |nil=>rfl
 |cons p ps ih =>
  rw[jq,ia,ih];cases Zv (p.1=k)<;>rfl
def PL.put(r:PL kvs vs)(k:Key)(rv:RelV v u):PL (eD kvs (.inl k) (kV k) v) (stored vs k u):=by
 have e:kvs.any (λp=>Zv (p.1=.inl k))=vs.any (λkv=>kv.1=k):=by
  induction r with
  |nil=>rfl
  | @cons p q ps qs h t ih =>
   rw[jq,jq,ih,h.1];congr 1;exact decide_eq_decide.2 ⟨λz=>ym z,λz=>by rw[z]⟩
 unfold eD stored;rw[e];split
 .rename_i hc
  clear hc e
  induction r with
  |nil=>exact .nil
  | @cons p q ps qs h t ih =>
   rw[bt,bt];refine .cons ?_ ih;by_cases z:q.1=k
   .rw [Z_ z,Z_ (by rw[h.1,z])];exact⟨h.1,h.2.1,rv⟩
   .rw [Zz z,Zz (λy=>z (by rw[h.1] at y;exact ym y))];exact h
 .exact y_ r ⟨rfl,rfl,rv⟩
def PT.put(r:PT H kvs xs)(k:N1)(hb:mO H k b)(rv:RelV v u):PT H (eD kvs (.inr k) (.ref b) v) (storedH xs k b u):=by
 have e:kvs.any (λp=>Zv (p.1=.inr k))=(atKey xs k).isSome:=by rw[W5];have:=(PT.val r k).nY;rw[zl] at this;exact this
 unfold eD storedH;rw[e];split
 .rename_i hc
  clear hc e
  induction r with
  |nil=>exact .nil
  | @cons p q ps qs h t ih =>
   rw[bt,bt];refine .cons ?_ ih;unfold putAt;by_cases z:q.1=k
   .rw [Z_ z,Z_ (by rw[h.1,z])];exact⟨h.1,h.2.1,h.2.2.1,rv⟩
   .rw [Zz z,Zz (λy=>z (by rw[h.1] at y;exact Ea y))];exact h
 .exact y_ r ⟨rfl,rfl,hb,rv⟩
section
variable{P:bf}{w:ba}{H:Hp}{h:bb}{a:ai}{o:aw}{kvs:List (KX×V×V)}
def n0(ok:oO P w H h)(n:mO H ks b):(g5 P w).is h ks b:=by
 obtain⟨vs,e,r⟩:=n;obtain⟨_,its,rv,⟨q,h1,h2,m,h3⟩,_⟩:=(show c6 P w H h b (.tup vs) from ok b _ e);have go:∀{ks:N1} {vs:List V} {us:Q0f},gg (xW H) ks vs->Vals vs us->fY (aW P w) h ks us:=by
  intro ks vs us r
  induction r generalizing us with
  |nil=>intro rv;cases rv;exact .nil
  | @cons k v ks vs i _ ih =>
   intro rv
   cases rv with
   | @cons _ u _ us ru rt =>
    refine .cons ?_ (ih rt)
    cases k with
    |inl k =>
     have i:v=kV k:=i;subst i;exact rD ru
    |inr k =>
     obtain⟨c,rfl,hc⟩:=i;have ru:u=.ref c:=ru;exact⟨c,ru,DH ok hc⟩
 exact⟨q,its.toArray,m,h1,h2,h3,by simpa using go r rv⟩
def rO(x:xX P w H o kvs)(ho:h.get? a=aa o)(hp:∀p∈kvs,p.1.isLeft=ae):∃vs,PL kvs vs/\h.DictOf (aW P w) a vs:=by
 obtain⟨ex,es,ep,ed,hx⟩:=x;rcases hx with⟨vs,r,h1,h2,h3⟩|⟨xs,r,h1,h2⟩
 .exact ⟨vs,r,o,es,ep,ho,ex,ed,h1,h2,h3⟩
 .cases r with
  |nil =>
   have e0:es.toList=[]:=h1;have e1:es=#[]:=by simpa using e0
   subst e1;exact⟨[],.nil,o,#[],ep,ho,ex,ed,(λ_ he=>by simp at he),.nil,mw⟩
  | @cons p q ps qs hq t =>
   have:=hp p cn;rw[hq.1] at this;cases this
def vQ(ok:oO P w H h)(x:xX P w H o kvs)(ho:h.get? a=aa o)(hp:∀p∈kvs,p.1.isLeft=ag):∃xs,PT H kvs xs/\h.DictOfH (g5 P w) a xs:=by
 obtain⟨ex,es,ep,ed,hx⟩:=x;rcases hx with⟨vs,r,h1,h2,h3⟩|⟨xs,r,h1,h2⟩
 .cases r with
  |nil =>
   have e0:es.toList=[]:=zx (by rw[h2.length];rfl);exact⟨[],.nil,o,es,ep,ho,ex,ed,e0,(λ_ he=>by simp at he),mw⟩
  | @cons p q ps qs hq t =>
   have:=hp p cn;rw[hq.1] at this;cases this
 .refine ⟨xs,r,o,es,ep,ho,ex,ed,h1,?_,h2⟩;have go:∀{kvs:List (KX×V×V)} {xs:List (N1×ai×aj)},PT H kvs xs ->∀x∈xs,(g5 P w).is h x.1 x.2.1:=by
   intro kvs xs r
   induction r with
   |nil=>intro x hx;cases hx
   |cons hq _ ih =>
    intro x hx;rcases cb.1 hx with e|hx
    .subst e;exact n0 ok hq.2.2.1
    .exact ih x hx
  exact go r
variable{X:Cx}{pins:Q0b}{σ:L2.St}{s:ao}{y v z:V}{u r:aj}{A:bx}{E:Q0c}{k:KX}
def oQ(I:Inv X pins σ H s)(e:H a=aa (.dX o kvs)):kvs.length<=bg/\(a == sysModules)=ag/\s.heap.get? a=aa o/\xX X.prog X.w H o kvs:=I.hok a _ e
def tw{k:Key}(kd:m9 kvs (.inl k)):∀p∈kvs,p.1.isLeft=ae:=kd
def tu{k:N1}(kd:m9 kvs (.inr k)):∀p∈kvs,p.1.isLeft=ag:=kd
theorem P7(hu:A.units+2<cf)(I:Inv X pins σ H s)(e:H a=aa (.dX o kvs))(hk:M8 H k y)(kd:m9 kvs k)(hv:fL kvs k=aa v)(ry:RelV y u)(h:∀w' s',Inv X pins σ H s'->RelV v w'->Q w' s'):
  ax (ay X.prog X.w) A (getItem (.ref a) u) Q E s:=by
 obtain⟨z,hs,ho,hx⟩:=oQ I e
 cases k with
 |inl k =>
  have hk:y=kV k:=hk;subst hk;obtain⟨vs,rel,dd⟩:=rO hx ho (tw kd);obtain⟨w',hw,IT⟩:=mN.some_of (v:=v) (o:=valueAt vs k) (by rw[<- hv];exact PL.val rel k);exact a0p (rD ry) dd.mapOf hw (h w' _ (I.tok _) IT)
 |inr k =>
  obtain⟨b,rfl,hb⟩:=hk;obtain rfl:u=c_ b:=ry;obtain⟨xs,rel,dd⟩:=vQ I.hok hx ho (tu kd);obtain⟨w',hw,IT⟩:=mN.some_of (v:=v) (o:=(atKey xs k).map (·.2)) (by rw[<- hv];exact PT.val rel k);obtain⟨p,hp,hp2⟩:=jk.mp hw;refine a0q (nest_room hu) (n0 I.hok hb) dd hp ?_;rw[hp2];exact h w' _ (I.tok _) IT
theorem Kg(neg:Bool)(hu:A.units+2<cf)(I:Inv X pins σ H s)(e:H a=aa (.dX o kvs))(hk:M8 H k y)(kd:m9 kvs k)(ry:RelV y u)(h:∀s',Inv X pins σ H s'->Q (.bool (if neg then !(fL kvs k).isSome else(fL kvs k).isSome)) s'):
  ax (ay X.prog X.w) A (compareOp (if neg then .NotIn else .In) u (.ref a)) Q E s:=by
 obtain⟨z,hs,ho,hx⟩:=oQ I e
 cases k with
 |inl k =>
  have hk:y=kV k:=hk;subst hk;obtain⟨vs,rel,dd⟩:=rO hx ho (tw kd);have ev:(fL kvs (.inl k)).isSome=(valueAt vs k).isSome:=(PL.val rel k).nY;rw[ev] at h
  cases neg with
  |false=>exact wpAny_in_of (rD ry) hs dd.mapOf (h _ (I.tok _))
  |true=>exact wpAny_notIn_of (rD ry) hs dd.mapOf (h _ (I.tok _))
 |inr k =>
  obtain⟨b,rfl,hb⟩:=hk;obtain rfl:u=c_ b:=ry;obtain⟨xs,rel,dd⟩:=vQ I.hok hx ho (tu kd);have ev:=(PT.val rel k).nY;rw[zl] at ev;rw[ev] at h
  cases neg with
  |false=>exact wpAny_in_heap (nest_room hu) (n0 I.hok hb) hs dd (h _ (I.tok _))
  |true=>exact wpAny_notIn_heap (nest_room hu) (n0 I.hok hb) hs dd (h _ (I.tok _))
def rP(I:Inv X pins σ H s)(e:H a=aa (.dX o kvs)):s.TypeIs (.ref a) "dict":=by obtain⟨z,hs,ho,hx⟩:=oQ I e;exact⟨o,ho,hx.1.1⟩
def W6{P:bf}{w:ba}{h':bb}{H':Hp}{kvs:List (KX×V×V)}{vs:List (Key×aj)}(rel:PL kvs vs)(dd:h'.DictOf (aW P w) a vs):∃o',h'.get? a=aa o'/\xX P w H' o' kvs:=by obtain⟨o',es,ep,h1,h2,h3,h4,h5,h6⟩:=dd;exact⟨o',h1,h2,es,ep,h3,.inl ⟨vs,rel,h4,h5,h6⟩⟩
def aAm{P:bf}{w:ba}{h':bb}{H':Hp}{kvs:List (KX×V×V)}{xs:List (N1×ai×aj)}(rel:PT H' kvs xs)(dd:h'.DictOfH (g5 P w) a xs):∃o',h'.get? a=aa o'/\xX P w H' o' kvs:=by obtain⟨o',es,ep,h1,h2,h3,h4,_,h6⟩:=dd;exact⟨o',h1,h2,es,ep,h3,.inr ⟨xs,rel,h4,h6⟩⟩
def aAn{H:Hp}{a:ai}{o:aw}{kvs:List (KX×V×V)}{u:HO}(e:H a=aa (.dX o kvs)):∀b ys,H b=aa (.tup ys)->upd H a u b=aa (.tup ys):=λb ys eb=>by rw[aV (De eb e (λz=>nomatch z))];exact eb
theorem P8(hu:A.units+2<cf)(I:Inv X pins σ H s)(e:H a=aa (.dX o kvs))(hk:M8 H k y)(kd:m9 kvs k)(hl:kvs.length<bg)(ry:RelV y u)(rv:RelV v r)(h:∀o' s',Inv X pins σ (upd H a (.dX o' (eD kvs k y v))) s'->Q () s'):
  ax (ay X.prog X.w) A (setItem (.ref a) u r) Q E s:=by
 obtain⟨z,hs,ho,hx⟩:=oQ I e;have hz:(eD kvs k y v).length<=bg:=by have:=G6 kvs k y v;omega
 have mu:Mut (H a):=by rw[e];exact js
 cases k with
 |inl k =>
  have hk:y=kV k:=hk;subst hk;obtain⟨vs,rel,dd⟩:=rO hx ho (tw kd);have hv:vs.length<=bg:=by rw[<- qw rel];exact z
  refine a0f (hsz:=hv) (rD ry) dd λh' dd' sb=>?_;obtain⟨o',g1,g2⟩:=W6 (H':=upd H a (.dX o (eD kvs (.inl k) (kV k) v))) (PL.put rel k rv) dd';exact h o' _ (vM I mu sb ⟨o',g1⟩ ⟨hz,hs,g1,g2.stay λb ys eb=>by
   by_cases hb:b=a
   .subst hb;rw[aQ] at eb;cases eb
   .rw [aV hb] at eb ⊢;exact eb⟩)
 |inr k =>
  obtain⟨b,rfl,hb⟩:=hk;obtain rfl:u=c_ b:=ry;obtain⟨xs,rel,dd⟩:=vQ I.hok hx ho (tu kd);have hv:xs.length<=bg:=by rw[<- qw rel];exact z
  refine a0g (hsz:=hv) (nest_room hu) (n0 I.hok hb) dd λh' dd' sb=>?_;obtain⟨o',g1,g2⟩:=aAm (PT.put rel k hb rv) dd';exact h o' _ (vM I mu sb ⟨o',g1⟩ ⟨hz,hs,g1,g2.stay (aAn e)⟩)
end
open L7
def Cq(td ty:TE):TE:=λσ H Q=>td σ H λx H1=>ty σ H1 λy H2=>∃a o kvs k v,x=.ref a/\H2 a=aa (.dX o kvs)/\M8 H2 k y/\m9 kvs k/\fL kvs k=aa v/\Q v H2
def wx(neg:Bool)(ty td:TE):TE:=λσ H Q=>ty σ H λy H1=>td σ H1 λx H2=>∃a o kvs k,x=.ref a/\H2 a=aa (.dX o kvs)/\M8 H2 k y/\m9 kvs k/\Q (.bl (if neg then !(fL kvs k).isSome else(fL kvs k).isSome)) H2
def Ss(td ty tv:TE):TS:=λD σ H=>tv σ H λv H1=>td σ H1 λx H2=>ty σ H2 λy H3=>∃a o kvs k,x=.ref a/\H3 a=aa (.dX o kvs)/\M8 H3 k y/\m9 kvs k/\kvs.length<bg /\∀o',D.nx σ (upd H3 a (.dX o' (eD kvs k y v)))
def Sr:TE:=λ_ H Q=>∀p o,H p=af->Q (.ref p) (upd H p (.dX o []))
section
variable{X:Cx}{o i e f value:ar}{pos pos':bh}{td ty tv tz:TE}
def M9(hu:X.A.units+2<cf)(ho:PE X o td)(hi:PE X i ty)(hs:IY i):PE X (.Subscript o i pos) (Cq td ty):=by intro pins s σ H Q I h;refine MK a1u.lookup hs (d8 (ho pins s σ H _ I h) λu s1 ⟨x,H1,I1,rx,q1⟩=>?_);refine d8 (hi pins s1 σ H1 _ I1 q1) λiv s2 Sq=>?_;obtain⟨y,H2,I2,ry,a,ob,kvs,k,v,ex,e,hk,kd,hv,q2⟩:=Sq;subst ex;obtain rfl:u=c_ a:=rx;exact⟨rP I2 e,P7 hu I2 e hk kd hv ry λw' s3 I3 r3=>⟨v,H2,I3,r3,q2⟩⟩
def P9(hu:X.A.units+2<cf)(hi:PE X i ty)(ho:PE X o td):PC X .NotIn i o (wx ae ty td):=by intro pins s σ H Q I h;refine d8 (hi pins s σ H _ I h) λiv s1 So=>?_;obtain⟨y,H1,I1,ry,q1⟩:=So;refine d8 (ho pins s1 σ H1 _ I1 q1) λu s2 Sn=>?_;obtain⟨x,H2,I2,rx,a,ob,kvs,k,ex,e,hk,kd,q2⟩:=Sn;subst ex;obtain rfl:u=c_ a:=rx;exact Kg ae hu I2 e hk kd ry λs3 I3=>⟨.bl _,H2,I3,rfl,q2⟩
def aAo(hu:X.A.units+2<cf)(ho:PE X o td)(hi:PE X i ty)(hv:PE X value tv)(hs:gb value (aa (.Subscript o i pos')) pos.line X.env=pure ag):PS X (.Assign [.Subscript o i pos'] value pos) (Ss td ty tv):=by intro pins s σ H D I h;refine a0y (d8 (hv pins s σ H _ I h) λr s1 ⟨v,H1,I1,rv,q1⟩=>?_) hs;refine d8 (ho pins s1 σ H1 _ I1 q1) λu s2 Sm=>?_;obtain⟨x,H2,I2,rx,q2⟩:=Sm;refine d8 (hi pins s2 σ H2 _ I2 q2) λiv s3 Sk=>?_;obtain⟨y,H3,I3,ry,a,ob,kvs,k,ex,e,hk,kd,hl,q3⟩:=Sk;subst ex;obtain rfl:u=c_ a:=rx;exact P8 hu I3 e hk kd hl ry rv λo' s4 I4=>⟨σ,_,I4,q3 o'⟩
def W7(h:bb)(hb:sysModules<h.objs.size):c6 P w H (h.push {cls:=.type "dict",data:=.dict #[]}) h.objs.size (.dX {cls:=.type "dict",data:=.dict #[]} []) :=
 ⟨iz _,beq_eq_false_iff_ne.mpr (dj (fv hb)),f_ _ rfl,⟨rfl,rfl,rfl⟩,#[],0,rfl,.inl ⟨[],.nil,(λ_ he=>by simp at he),.nil,mw⟩⟩
def aAp:PE X (.Dict [] [] pos) Sr:=λpins s σ H Q I h =>
 a0w ⟨.ref s.heap.objs.size,_,I.laid (t':=s.toks) (λ_ _ q=>di _ q) (bj _) (W7 s.heap I.big),rfl,h _ _ (I.hok.fresh (bj _))⟩
end
def Sj(h:(aW P w).is k u=ae):RelV (kV k) u:=by
 rcases cL h with⟨i,t,rfl,rfl⟩|⟨i,t,rfl,rfl⟩
 .exact ⟨t,rfl⟩
 .exact ⟨t,rfl⟩
def W8(x:xX P w H o kvs):∃es ep,o.data=.dict es ep/\Vals (kvs.map (·.2.1)) (es.toList.map (·.key)) /\∀p∈kvs,M8 H p.1 p.2.1:=by
 obtain⟨_,es,ep,ed,hx⟩:=x;refine⟨es,ep,ed,?_⟩;rcases hx with⟨vs,r,_,h2,_⟩|⟨xs,r,h1,_⟩
 .have go:∀{kvs:List (KX×V×V)} {vs:List (Key×aj)} {l:List rb},PL kvs vs->Pairs (aW P w) l vs->Vals (kvs.map (·.2.1)) (l.map (·.key)) /\∀p∈kvs,M8 H p.1 p.2.1:=by
   intro kvs vs l r
   induction r generalizing l with
   |nil=>intro h2;cases h2;exact⟨.nil,λp hp=>by cases hp⟩
   | @cons p q ps qs hq t ih =>
    intro h2
    cases h2 with
    |cons k1 k2 k3 =>
     obtain⟨i1,i2⟩:=ih k3;refine⟨.cons ?_ i1,λp' hp'=>?_⟩
     .dsimp only;rw[hq.2.1];exact Sj k1
     .rcases cb.1 hp' with e|hp'
      .subst e;rw[hq.1,hq.2.1];rfl
      .exact i2 p' hp'
  exact go r h2
 .have go:∀{kvs:List (KX×V×V)} {xs:List (N1×ai×aj)},PT H kvs xs->Vals (kvs.map (·.2.1)) ((xs.map (entryOfKey (g5 P w))).map (·.key)) /\∀p∈kvs,M8 H p.1 p.2.1:=by
   intro kvs xs r
   induction r with
   |nil=>exact⟨.nil,λp hp=>by cases hp⟩
   | @cons p q ps qs hq t ih =>
    obtain⟨i1,i2⟩:=ih;refine⟨.cons ?_ i1,λp' hp'=>?_⟩
    .dsimp only;rw[hq.2.1];rfl
    .rcases cb.1 hp' with e|hp'
     .subst e;rw[hq.1,hq.2.1];exact⟨_,rfl,hq.2.2.1⟩
     .exact i2 p' hp'
  rw[h1];exact go r
open L3 L4
section
variable{K:aq}{S:ai->Prop}{H:Hp}
def aAq(h:Dn K S H d v)(e:vX d=aa k):v=kV k:=by cases d<;>simp only[vX] at e<;>cases e<;>simp only[Dn] at h<;>exact h
theorem G7:∀{ds:List D} {xs:List V} {ks:List Key},aP K S H ds xs->AD ds=aa ks->xs=ks.map kV
 |[],xs,ks,h,e=>by simp only[aP] at h;cases e;exact h
 |d::ds,xs,ks,h,e=>by obtain⟨v,r,rfl,h1,h2⟩:=h.bH;obtain⟨k,ek,e⟩:=bnd e;obtain⟨ks',e2,rfl⟩:=lJ e;rw[aAq h1 ek,G7 h2 e2];rfl
theorem W9(h:Dn K S H d v)(e:RG d=aa k):xW H k v:=by
 cases d with
 |tup ds =>
  obtain⟨ks,e2,rfl⟩:=lJ e;simp only[Dn] at h;obtain⟨a,xs,rfl,ha,dn⟩:=h;rw[G7 dn e2] at ha;exact⟨a,rfl,ha⟩
 |int i=>cases e;simp only[Dn] at h;exact h
 |str i=>cases e;simp only[Dn] at h;exact h
 |_=>cases e
theorem BU:∀{ds:List D} {xs:List V} {ks:N1},aP K S H ds xs->wB ds=aa ks->gg (xW H) ks xs
 |[],xs,ks,h,e=>by simp only[aP] at h;cases e;subst h;exact .nil
 |d::ds,xs,ks,h,e=>by obtain⟨v,r,rfl,h1,h2⟩:=h.bH;obtain⟨k,ek,e⟩:=bnd e;obtain⟨ks',e2,rfl⟩:=lJ e;exact .cons (W9 h1 ek) (BU h2 e2)
theorem rQ(h:Dn K S H d v)(e:lY d=aa k):M8 H k v:=by
 cases d with
 |tup ds =>
  obtain⟨ks,e2,rfl⟩:=lJ e;simp only[Dn] at h;obtain⟨a,xs,rfl,ha,dn⟩:=h;exact⟨a,rfl,xs,ha,BU dn e2⟩
 |int i=>cases e;simp only[Dn] at h;exact h
 |str i=>cases e;simp only[Dn] at h;exact h
 |_=>cases e
def XA(k:Key):Dn K S H (dK k) (kV k):=by cases k<;>simp only[dK,Dn]<;>rfl
theorem XB:∀ks:List Key,aP K S H (ks.map dK) (ks.map kV)
 |[]=>aP.nil
 |k::ks=>aP.cons (XA k) (XB ks)
theorem BV:∀{ks:N1} {vs:List V},gg (xW H) ks vs->aP K S H (ks.map RH) vs
 |_,_,.nil=>aP.nil
 |k::ks,v::vs,.cons h t=>by
  refine aP.cons ?_ (BV t)
  cases k with
  |inl k =>
   have h:v=kV k:=h;subst h;exact XA k
  |inr k =>
   obtain⟨b,rfl,hb⟩:=h;simp only[RH,Dn];exact⟨b,_,rfl,hb,XB k⟩
theorem Wx(h:M8 H k v):Dn K S H (nj k) v:=by
 cases k with
 |inl k =>
  have h:v=kV k:=h;subst h;exact XA k
 |inr k =>
  obtain⟨b,rfl,vs,hb,r⟩:=h;simp only[nj,Dn];exact⟨b,vs,rfl,hb,BV r⟩
theorem pT:∀{kvs:List (KX×V×V)} {ds:List D},aP K S H ds (kvs.map (·.2.2))->(∀d,bU (kvs.map (·.1)) ds k=aa d ->∃v,fL kvs k=aa v/\Dn K S H d v)/\(bU (kvs.map (·.1)) ds k=af->fL kvs k=af)
 |[],ds,h=>⟨λd e=>by simp[bU] at e,λ_=>rfl⟩
 |p::kvs,ds,h=>by
  cases ds with
  |nil=>exact Zw h.len (by simp)
  |cons d0 ds =>
   obtain⟨v,r,e1,h1,h2⟩:=h.bH;rw[bt] at e1;cases e1;have ih:=pT (k:=k) (kvs:=kvs) (ds:=ds) h2;by_cases e:p.1=k
   .have a:bU ((p::kvs).map (·.1)) (d0::ds) k=aa d0:=by simp[bU,e]
    have b:fL (p::kvs) k=aa p.2.2:=by simp[fL,e]
    rw[a,b];exact⟨λd ed=>by cases ed;exact⟨_,rfl,h1⟩,λz=>nomatch z⟩
   .have a:bU ((p::kvs).map (·.1)) (d0::ds) k=bU (kvs.map (·.1)) ds k:=by simp[bU,e]
    have b:fL (p::kvs) k=fL kvs k:=by simp[fL,e]
    rw[a,b];exact ih
def yW(h:kindB (kvs.map (·.1)) k=ae):m9 kvs k:=λp hp=>by unfold kindB at h;rw[gw] at h;simpa using h p.1 (vm hp)
theorem Sg(dv:Dn K S H d v):∀{kvs:List (KX×V×V)} {ds:List D},aP K S H ds (kvs.map (·.2.2)) ->
  (L8.eD kvs k y v).map (·.1)=(L4.eD (kvs.map (·.1)) ds k d).1/\aP K S H (L4.eD (kvs.map (·.1)) ds k d).2 ((L8.eD kvs k y v).map (·.2.2)):=by
 intro kvs ds h;have e:(kvs.map (·.1)).any (λq=>Zv (q=k))=kvs.any (λp=>Zv (p.1=k)):=by rw[sg];rfl
 unfold L8.eD L4.eD;rw[e];split
 .refine ⟨?_,?_⟩
  .simp only[cc];refine gq λp _=>?_;show(if p.1=k then(p.1,p.2.1,v) else p).1=p.1;split<;>rfl
  .dsimp only;have go:∀{kvs:List (KX×V×V)} {ds:List D},aP K S H ds (kvs.map (·.2.2))->aP K S H (((kvs.map (·.1)).zip ds).map λp=>if p.1=k then d else p.2) ((kvs.map λp=>if p.1=k then(p.1,p.2.1,v) else p).map (·.2.2)):=by
    intro kvs
    induction kvs with
    |nil=>intro ds h;cases ds with
     |nil=>exact aP.nil
     |cons d0 ds=>exact Zw h.len (by simp)
    |cons p kvs ih =>
     intro ds h
     cases ds with
     |nil=>exact Zw h.len (by simp)
     |cons d0 ds =>
      obtain⟨u,r,e1,h1,h2⟩:=h.bH;rw[bt] at e1;cases e1;refine aP.cons ?_ (ih h2);by_cases z:p.1=k
      .simpa [z] using dv
      .simpa [z] using h1
   exact go h
 .refine ⟨by simp,?_⟩;rw[gu];exact h.append (aP.one dv)
end
section
variable{X:Cx}
theorem Kf(hu:X.A.units+2<cf)(ho:cD X o fo)(hi:cD X i fi)(hs:IY i:=by intro _ _;rfl):cD X (.Subscript o i pos) (aE Cf fo fi):=imp (M9 hu ho hi hs) λσ H Q Sf=>by
 obtain⟨S,ρ,Q3,fc,sl,⟨d,e,q⟩,k⟩:=Sf;obtain⟨x,ex,e⟩:=bnd e;obtain⟨y,ey,e⟩:=bnd e;refine⟨S,ρ,λd=>d=x,fc,sl,⟨x,ex,rfl⟩,λv H1 d1 s1 uM e1=>?_⟩;subst e1;refine⟨S,ρ,λd=>d=y,bV fc s1,Sl.fits (.same s1) sl,⟨y,ey,rfl⟩,λu H2 d2 s2 DM e2=>?_⟩;subst e2;have uM:=Dn.fits (.same s2) _ _ uM
 cases d1 with
 |c7 q0 ks ds =>
  obtain⟨kk,ek,e⟩:=bnd e;simp only[Dn] at uM;obtain⟨a,o,kvs,rfl,ha,sa,⟨rfl,_⟩,da⟩:=uM;by_cases hk:kindB (kvs.map (·.1)) kk=ae
  .rw [Z_ hk] at e;obtain⟨v3,ev,dv⟩:=(pT da).1 d e;exact⟨a,o,kvs,kk,v3,rfl,ha,rQ DM ek,yW hk,ev,k v3 H2 d (s1.trans s2) dv q⟩
  .rw [Zz hk] at e;cases e
 |_=>cases e
theorem XD(h:lift X.K (wE (aE (NP neg) fi fo)) σ H Q):wx neg (lift X.K (wE fi)) (lift X.K (wE fo)) σ H Q:=by
 obtain⟨S,ρ,Q3,fc,sl,⟨d,e,q⟩,k⟩:=h;obtain⟨x,ex,e⟩:=bnd e;obtain⟨y,ey,e⟩:=bnd e;refine⟨S,ρ,λd=>d=x,fc,sl,⟨x,ex,rfl⟩,λv H1 d1 s1 uM e1=>?_⟩;subst e1;refine⟨S,ρ,λd=>d=y,bV fc s1,Sl.fits (.same s1) sl,⟨y,ey,rfl⟩,λu H2 d2 s2 DM e2=>?_⟩;subst e2;have uM:=Dn.fits (.same s2) _ _ uM
 cases d2 with
 |c7 q0 ks ds =>
  obtain⟨kk,ek,e⟩:=bnd (o:=lY d1) e;simp only[Dn] at DM;obtain⟨a,o,kvs,rfl,ha,sa,⟨rfl,_⟩,da⟩:=DM;by_cases hk:kindB (kvs.map (·.1)) kk=ae
  .rw [Z_ hk] at e;cases e;have ev:(fL kvs kk).isSome=(bU (kvs.map (·.1)) ds kk).isSome:=by
    cases hl:bU (kvs.map (·.1)) ds kk with
    |none=>rw[(pT da).2 hl];rfl
    |some d3=>obtain⟨v3,e3,_⟩:=(pT da).1 d3 hl;rw[e3];rfl
   refine⟨a,o,kvs,kk,rfl,ha,rQ uM ek,yW hk,?_⟩;rw[ev];exact k _ H2 _ (s1.trans s2) (by simp only[Dn]) q
  .rw [Zz hk] at e;cases e
 |_=>cases e
section
variable{o i:ar}{pos:bh}{fo fi:EF}
def QA(h:liftT X.K (wT (tV (aE (NP neg) fi fo))) σ H Q):tB (wx neg (lift X.K (wE fi)) (lift X.K (wE fo))) σ H Q:=by
 obtain⟨S,ρ,Q3,fc,sl,⟨b,e,q⟩,k⟩:=h;obtain⟨d,e1,e2⟩:=bnd e;have eb:d=.bl b:=by
  obtain⟨x,ex,e⟩:=bnd e1;obtain⟨y,ey,e⟩:=bnd e
  cases y with
  |c7 q0 ks ds =>
   obtain⟨kk,ek,e⟩:=bnd (o:=lY x) e;by_cases hk:kindB ks kk=ae
   .rw [Z_ hk] at e;cases e;cases e2;rfl
   .rw [Zz hk] at e;cases e
  |_=>cases e
 subst eb;refine XD ⟨S,ρ,λd=>d=.bl b,fc,sl,⟨_,e1,rfl⟩,λv H1 d s1 dn e3=>?_⟩;subst e3;simp only[Dn] at dn;exact⟨b,dn,k b H1 s1 q⟩
def Ww(hu:X.A.units+2<cf)(hi:cD X i fi)(ho:cD X o fo)(hm:behindInMarks .NotIn o=ag:=by with_unfolding_all rfl):uU X (.Compare i [.NotIn] [o] pos) (tV (aE (NP ae) fi fo)):=U8 (Zl (P9 hu hi ho) hm) λ_ _ _=>QA
end
end
section
variable{X:Cx}
def Cp(hN:X.N.Nodup)(hi:X.N[i]?=aa x:=by rfl)(hx:Loc X.env.scope x:=by walk_at "0")(hs:gb (.Dict [] [] p) (aa (.Name x pos')) pos.line X.env=pure ag:=by rfl)(hf:Zq X x:=by walk_at "0"):
  yP X (.Assign [.Name x pos'] (.Dict [] [] p) pos) (RI i):=lG (tH hN hi hx aAp hs hf) λB σ H ⟨H₀,S,w,ρ,G,E,hl,st,ht,ok⟩=>λp o hp =>
 ok.nx _ _ _ _ (by rw[jd];exact hl) (st.IZ (d:=.c7 p6 [] []) (by rw[hl];exact jO hi) (aO hp) hp ⟨o,[],aQ,⟨rfl,trivial⟩,aP.nil⟩) ht
def vR(h:HS o=aa p):o=aa (.ow (.c7 p.1 p.2.1 p.2.2)):=by
 unfold HS at h;split at h
 .cases h;rfl
 .cases h
theorem Co(hu:X.A.units+2<cf)(he:Q5 X e f)(hk:cD X k fk)
  (hN:X.N[i]?=aa x:=by rfl) (hv:C4 X.env.scope x:=by walk_at "1") (hd:Zu x:=by decide) (hcd:Zt x:=by decide)
  (hs:gb e (aa (.Subscript (.Name x p) k pos')) pos.line X.env=pure ag:=by rfl):
  yP X (.Assign [.Subscript (.Name x p) k pos'] e pos) (p7 i f fk):=lG (aAo hu (pM hN hv hd hcd) hk he hs) λB σ H Se=>by
 obtain⟨H₀,S,w,ρ,G,E,hl,st,ht,ok⟩:=Se;unfold wS p7 at ht;cases h:((f ρ).bind λp=>(HS p.1[i]?).bind λkd=>(fk (bY p.1)).bind λkv=>(lY kv).bind λkk =>
  if kindB kd.2.1 kk=ae/\kd.2.2.length<oH then aa (p.1.set i (.ow (.c7 (adr kd.1) (L4.eD kd.2.1 kd.2.2 kk p.2).1 (L4.eD kd.2.1 kd.2.2 kk p.2).2))) else af) with
 |none=>rw[h] at ht;exact ht.elim
 |some ρ2 =>
  rw[h] at ht;obtain⟨⟨ρ1,d1⟩,eq,h⟩:=bnd h;obtain⟨⟨q0,ks,ds⟩,ed,h⟩:=bnd h;obtain⟨kv,ek,h⟩:=bnd h;obtain⟨kk,e2,h⟩:=bnd h;have o0:=vR ed;by_cases hc:kindB ks kk=ae/\ds.length<oH
  .rw [Z_ hc] at h;cases h;refine⟨H₀,S,w,ρ,G,λρ' d=>ρ'=ρ1/\d=d1,hl,st,⟨_,eq,rfl,rfl⟩,λw' v H' ρ' d st' dv q'=>?_⟩;obtain⟨rfl,rfl⟩:=q';obtain⟨a0,_,_⟩:=st'.own i _ o0;refine⟨_,a0,S,bY ρ',λy=>y=kv,st'.YC,st'.all,⟨kv,ek,rfl⟩,λy H2 y' s2 dy ey=>?_⟩;subst ey;have st2:=st'.same s2;obtain⟨a,b,c⟩:=st2.own i _ o0;obtain⟨o,kvs,hp,⟨e5,hq⟩,dn⟩:=c;subst e5;have nS:¬ SO S w' ρ' (w' i):=λ⟨_,z⟩=>z i _ o0 rfl;refine⟨w' i,o,kvs,kk,rfl,hp,rQ dy e2,yW hc.1,?_,λo'=>?_⟩
   .have:=dn.len;rw[a_] at this;rw[gr,<- this];exact hc.2
   .have F:Fits X.K (SO S w' ρ') (SO S w' ρ') H2 (upd H2 (w' i) (.dX o' (L8.eD kvs kk y v))):=.upd (.inr (.inr ⟨_,_,hp⟩)) nS;obtain⟨p1,p2⟩:=Sg (k:=kk) (y:=y) (Dn.fits (.same s2) _ _ dv) dn;exact ok.nx w' σ _ _ hl (st2.write (d':=.c7 (adr q0) _ _) o0 ⟨o',_,aQ,⟨p1,o,hq⟩,aP.fits F _ _ p2⟩) ht
  .rw [Zz hc] at h;cases h
end
def QB{K:aq}{H₀ H H':Hp}{S:ai->Prop}{w:Nat->ai}{σ:L2.St}{ρ:bO}{G:List (D×V)}{i:Nat}{d d':D}(h:ST K H₀ S w σ H ρ G)(e:ρ[i]?=aa (Sv.ow d))(hb:∀b u,b≠w i->H b=aa u->H' b=aa u)(q:yH K (SO S w ρ) H' d' (w i))(hr:∀xs,d'≠.rws xs:=by intro _ z;cases z):ST K H₀ S w σ H' (ρ.set i (.ow d')) G:=by
 obtain⟨a0,b0,c0⟩:=h.own i d e;have wr:=c0.wr;have so:SO S w (ρ.set i (.ow d'))=SO S w ρ:=by
  funext a
  refine propext ⟨λ⟨s,n⟩=>⟨s,λj f hf=>?_⟩,λ⟨s,n⟩=>⟨s,λj f hf=>?_⟩⟩
  .by_cases hj:j=i
   .subst hj;exact n j d' (by rw[oj (cq.1 e).1])
   .exact n j f (by rw[kc (dj hj)];exact hf)
  .by_cases hj:j=i
   .subst hj;exact n j d e
   .exact n j f (by rw[kc (dj hj)] at hf;exact hf)
 have ne:∀a,SO S w ρ a->a≠w i:=λa z=>z.2 i d e;have nt:∀a xs,H a=aa (.tup xs)->a≠w i:=λa xs z y=>by subst y;rcases wr with⟨_,k⟩|⟨_,k⟩|⟨_,_,k⟩<;>rw[z] at k<;>cases k
 have nf:∀a o u,H a=aa (.xV o u)->a≠w i:=λa o u z y=>by subst y;rcases wr with⟨_,k⟩|⟨_,k⟩|⟨_,_,k⟩<;>rw[z] at k<;>cases k
 have F:Fits K (SO S w ρ) (SO S w ρ) H H':=⟨λa xs z=>hb _ _ (nt a xs z) z,λa ns z=>z.elim (λ⟨o,y⟩=>.inl ⟨o,hb _ _ (nf a o _ y) y⟩) .inr,λa xs z s=>⟨hb _ _ (ne a s) z,s⟩,λa xs z s=>⟨hb _ _ (ne a s) z,s⟩,λa o xs z s=>⟨hb _ _ (ne a s) z,s⟩⟩;refine⟨h.fc,λb u z=>hb b u (bG z b0) (h.sm b u z),λj f hf=>?_,λj k d1 e1 h1 h2 z=>?_,λj f hf=>?_,λg hg=>by rw[so];exact Dn.fits F _ _ (h.gh g hg),λj xs hx=>?_⟩
 rotate_right
 .rcases get_set hx with⟨_,z,_⟩|⟨hj,z⟩
  .exact Zw (Sv.ow.inj z).symm (hr xs)
  .exact h.rwN z λob hob=>hb _ _ (λy=>hj (h.inj _ _ _ _ z e y)) hob
 .rw [so];rcases get_set hf with⟨hj,z,_⟩|⟨hj,z⟩
  .cases z;subst hj;exact⟨a0,b0,q⟩
  .obtain ⟨a,b,c⟩:=h.own j f z;exact⟨a,b,c.fits F λob hob=>hb _ _ (λy=>hj (h.inj _ _ _ _ z e y)) hob⟩
 .have old:∀{m:Nat} {y:D},(ρ.set i (.ow d'))[m]?=aa (Sv.ow y) ->∃y2,ρ[m]?=aa (Sv.ow y2):=λ{m y} hm=>by
   rcases get_set hm with⟨hj,_,_⟩|⟨_,z⟩
   .subst hj;exact⟨d,e⟩
   .exact ⟨_,z⟩
  obtain⟨_,g1⟩:=old h1;obtain⟨_,g2⟩:=old h2;exact h.inj j k _ _ g1 g2 z
 .rw [so];rcases get_set hf with⟨_,z,_⟩|⟨hj,z⟩
  .cases z
  .obtain ⟨u,a,b⟩:=h.ro j f z;exact⟨u,a,Dn.fits F f u b⟩
def YG(K:aq)(R:FnM):Sp:=λvs H Q _=>∃(T:ai->Prop) (ds:List D) (us:List V) (p:ai) (o:aw) (kvs:List (KX×V×V)) (xs:List D) (r:D×KD),vs=us++[.ref p]/\(∀a,H a=af->T a)/\¬ T p/\H p=aa (.dX o kvs)/\aP K T H ds us/\aP K T H xs (kvs.map (·.2.2))/\R ds (kvs.map (·.1),xs)=.ok r /\
 ∀v H' o' kvs',(∀b u,b≠p->H b=aa u->H' b=aa u)->H' p=aa (.dX o' kvs')->kvs'.map (·.1)=r.2.1->aP K T H' r.2.2 (kvs'.map (·.2.2))->Dn K T H' r.1 v->Q v H'
def tU(K:aq)(t:AF)(j:Nat):TA:=λσ H Q=>∃(S:ai->Prop) (ρ:cN) (ds:List D) (p:ai),(∀a,H a=af->S a)/\Sl K S H ρ σ/\t ρ=aa ds/\σ[j]?=aa (aa (.ref p)) /\∀vs H',Same H H'->aP K S H' ds vs->Q (vs++[.ref p]) H'
section
variable{X:Cx}
def BW(he:cD X e f)(hr:PA X es (tU X.K g j))(hs:Zs X e es:=by rfl):PA X (e::es) (tU X.K (aA f g) j) :=
 U9 (iF he hr hs) λσ H Q Sd=>by obtain⟨S,ρ,ds,p,fc,sl,et,ej,k⟩:=Sd;obtain⟨d,ed,et⟩:=bnd et;obtain⟨r,er,et⟩:=bnd et;cases et;refine⟨S,ρ,λy=>y=d,fc,sl,⟨d,ed,rfl⟩,λv H1 d1 s1 uM e1=>?_⟩;subst e1;refine⟨S,ρ,r,p,bV fc s1,Sl.fits (.same s1) sl,er,ej,λvs H2 s2 DM=>?_⟩;exact k (v::vs) H2 (s1.trans s2) (aP.cons (Dn.fits (.same s2) _ _ uM) DM)
def Cn(hN:X.N[j]?=aa x:=by rfl)(hv:C4 X.env.scope x:=by walk_at "1")(hd:Zu x:=by decide)(hcd:Zt x:=by decide):PA X [.Name x pos] (tU X.K aF j) :=
 U9 (iF (pM hN hv hd hcd) pN) λσ H Q Sb=>by obtain⟨S,ρ,ds,p,fc,sl,et,ej,k⟩:=Sb;cases et;exact⟨_,ej,k [] H (Same.refl H) aP.nil⟩
theorem BX{R:FnM}{t:AF}{j:Nat}{H₀ H:Hp}{S:ai->Prop}{w:Nat->ai}{σ:L2.St}{ρ:bO}{G:List (D×V)}{r:(Nat->aw->Prop)×D×KD}{Q:VK}(st:ST X.K H₀ S w σ H ρ G)(h:stepM R t j ρ=aa r)
  (k:∀v H',ST X.K H₀ S w σ H' (ρ.set j (.ow (.c7 (adr r.1) r.2.2.1 r.2.2.2))) G->Dn X.K (SO S w ρ) H' r.2.1 v->Q v H'):Cz (YG X.K R) [] E0 (tU X.K t j) σ H Q:=by
 obtain⟨ds,et,h⟩:=bnd h;obtain⟨⟨q0,ks,xs⟩,eo,h⟩:=bnd h;have o0:=vR eo
 cases hR:R ds (ks,xs) with
 |no=>dsimp only at h;rw[hR] at h;cases h
 |ex c=>dsimp only at h;rw[hR] at h;cases h
 |ok r0 =>
  dsimp only at h;rw[hR] at h;cases h;obtain⟨a0,b0,_⟩:=st.own j _ o0;refine⟨SO S w ρ,jR ρ,ds,w j,st.Q0,st.rd,et,a0,λvs H1 s1 dn=>?_⟩;have st1:=st.same s1;obtain⟨_,_,⟨o,kvs,hp,⟨e5,hq⟩,dk⟩⟩:=st1.own j _ o0;subst e5;show YG X.K R ((vs++[V.ref (w j)])++[]) H1 Q E0;rw[mi];refine⟨SO S w ρ,ds,vs,w j,o,kvs,xs,r0,rfl,st1.Q0,λz=>z.2 j _ o0 rfl,hp,dn,dk,hR,λv H' o' kvs' hb hp' ek dx dv=>?_⟩;exact k v H' (QB st1 o0 hb ⟨o',kvs',hp',⟨ek,o,hq⟩,dx⟩) dv
theorem Wv(C:Cl X.prog X.w X.K X.mg X.base cK k y ps (YG X.K R))(hr:fZ k X.A)(hij:i≠j)(hN:X.N.Nodup)
  (ha:PA X (e::es) (tU X.K t j)) (hi:X.N[i]?=aa x:=by rfl) (hx:Loc X.env.scope x:=by walk_at "0") (hg:Gl X y:=by rfl) (hdb:Zu y:=by decide) (he:Zs X e es:=by rfl) (hpl:Q0k X cpos es:=by rfl)
  (hs:gb (.Call (.Name y p) (e::es) [] cpos) (aa (.Name x pos')) pos.line X.env=pure ag:=by rfl) (hf:Zq X x:=by walk_at "0"):
  yP X (.Assign [.Name x pos'] (.Call (.Name y p) (e::es) [] cpos) pos) (sC i R t j):=by
 obtain⟨F,hm,hk,hb⟩:=C;refine lG (tH hN hi hx (C9 F hr hg hm hk hb .nil UZ ha hdb he hpl) hs hf) λB σ H Sa=>?_;obtain⟨H₀,S,w,ρ,G,E,hl,st,ht,ok⟩:=Sa;unfold wS sC at ht
 cases h:stepM R t j ρ with
 |none=>rw[h] at ht;exact ht.elim
 |some r =>
  rw[h] at ht;refine BX st h λv H' st' dv=>ok.nx w _ H' _ (by rw[jd];exact hl) (st'.mU (by rw[hl];exact jO hi) (Dn.fits (.mono λa z=>?_) _ _ dv)) ht;refine⟨z.1,λm y hm=>?_⟩;rcases get_set hm with⟨hj,_,hlt⟩|⟨_,q⟩
  .subst hj;obtain⟨_,et,h⟩:=bnd h;obtain⟨⟨q0,ks,xs⟩,eo,h⟩:=bnd h;exact z.2 m _ (vR eo)
  .exact z.2 m y q
theorem Ke(C:Cl X.prog X.w X.K X.mg X.base cK k y ps (YG X.K R))(hr:fZ k X.A)
  (ha:PA X (e::es) (tU X.K t j)) (hg:Gl X y:=by rfl) (hdb:Zu y:=by decide) (he:Zs X e es:=by rfl) (hpl:Q0k X cpos es:=by rfl)
  (hs:gb (.Call (.Name y p) (e::es) [] cpos) af pos.line X.env=pure ag:=by rfl):
  yP X (.Expr (.Call (.Name y p) (e::es) [] cpos) pos) (YN R t j):=by
 obtain⟨F,hm,hk,hb⟩:=C;refine lG (MA (C9 F hr hg hm hk hb .nil UZ ha hdb he hpl) hs) λB σ H R_=>?_;obtain⟨H₀,S,w,ρ,G,E,hl,st,ht,ok⟩:=R_;unfold wS YN at ht
 cases h:stepM R t j ρ with
 |none=>rw[h] at ht;exact ht.elim
 |some r =>
  rw[h] at ht;exact BX st h λv H' st' _=>ok.nx w _ H' _ hl st' ht
abbrev XE(K:aq)(j:Nat)(k:EF):TS:=Bv (Cq (Z0 j) (lift K (wE k)))
def Rz{st:df}{b:SF}{j:Nat}{x:ak}{i:ar}{k:EF}{p pos pos':bh}(hu:X.A.units+2<cf)(h:yP X st b)(hk:cD X i k)(hN:X.N[j]?=aa x:=by rfl)(hv:C4 X.env.scope x:=by walk_at "1")(hd:Zu x:=by decide)(hcd:Zt x:=by decide)(hs:IY i:=by intro _ _;rfl):
  zQ X [st,.Return (aa (.Subscript (.Name x p) i pos)) pos'] (OB (yK X.K (XC X) X.N.length (wS b)) (XE X.K j k)):=x8 h (LZ (UG (M9 hu (pM hN hv hd hcd) hk hs)))
theorem oA{st:df}{rest:List df}{f g:SF}{tl:TS}(h1:yP X st f)(h2:zQ X rest (OB (yK X.K (XC X) X.N.length (wS g)) tl)):zQ X (st::rest) (OB (yK X.K (XC X) X.N.length (wS (aK f g))) tl):=GG (x8 h1 h2) λB σ H Ry=>by
 obtain⟨H₀,S,w,ρ,G,E,hl,st,ht,ok⟩:=Ry;unfold wS aK at ht;refine⟨H₀,S,w,ρ,G,{E with nx:=wS g E},hl,st,?_,⟨λw' σ' H' ρ' hl' st' q=>⟨H₀,S,w',ρ',G,E,hl',st',q,ok⟩,ok.rt,ok.bk,ok.ct,ok.ex⟩⟩;unfold wS
 cases hf:f ρ with
 |nx ρ'=>rw[hf] at ht;exact ht
 |rt d=>rw[hf] at ht;exact ht
 |ex c=>rw[hf] at ht;exact ht
 |no=>rw[hf] at ht;exact ht
end
theorem Kd{P:bf}{w:ba}{K:aq}{mg:Q0d}{base:bb}{x qual:ak}{st:df}{f:ai}{fd:gp}{N ps:Q0g}{k n np:Nat}{b:SF}{key:EF}(F:Fun K x qual st f fd)(S:iG N ps (bN st))(hn:N.length=n)(hp:ps.length=np)
  (hbody:∀(cdv:aj) (A:bx) (outer:List fw) (s:ao) (H:Hp) (E:XK),fZ k (A.deeper (envOfC qual (bN st) s.heap.objs.size f cdv)) ->
   ∃xc,zQ (yB cK P w K mg base N qual (bN st) f cdv A outer s H E).Z4 (f6 st) (OB (yK K xc N.length (wS b)) (XE K (np-1) key))):lF P w K mg base cK (k+1) f fd ps (YG K (runM n np b key)):=by
 subst hn hp;refine F.ok S (λvs H Q E h=>?_) λcdv A outer s H vs Q E hr h=>?_
 .obtain ⟨T,ds,us,p,o,kvs,xs,r,rfl,fc,np,hp,du,dx,hR,kk⟩:=h;have hb:=KZ hR p6;unfold wD at hb;split at hb
  .rename_i hl;rw[fu,<- du.len];exact hl
  .cases hb
 .obtain ⟨xc,hb⟩:=hbody cdv A outer s H E hr;obtain⟨T,ds,us,p,o,kvs,xs,r,rfl,fc,nT,hp,du,dx,hR,kk⟩:=h;refine⟨_,hb,?_⟩;have hq:=KZ hR (λa _=>a=p);unfold wD at hq;split at hq
  case isFalse=>cases hq
  rename_i hl;have hlu:=du.len;have hpN:ps.length<=N.length:=by have:=congrArg my S.pre;rw[jm] at this;omega
  have j0:ps.length-1=ds.length:=by omega
  have sj:(startM N.length ds (λa _=>a=p) (kvs.map (·.1),xs))[ds.length]?=aa (Sv.ow (.c7 (λa _=>a=p) (kvs.map (·.1)) xs)):=by unfold startM;rw[jn (by simp)];simp
  have sv:∀i,i<ds.length->(startM N.length ds (λa _=>a=p) (kvs.map (·.1),xs))[i]?=(ds[i]?).map Sv.ro:=λi hi=>by unfold startM;rw[jo (by simpa using hi),ck]
  have sn:∀i,ds.length<i ->∀y,(startM N.length ds (λa _=>a=p) (kvs.map (·.1),xs))[i]?=aa y->y=Sv.no:=λi hi y e=>by
   unfold startM at e;rw[jn (by simp;omega)] at e;obtain⟨m,hm⟩:∃m,i-(a2D Sv.ro ds).length=m+1:=⟨i-ds.length-1,by simp;omega⟩;rw[hm,r6,kr] at e;split at e
   .cases e;rfl
   .cases e
  have ow:∀(i:Nat) (d:D),(startM N.length ds (λa _=>a=p) (kvs.map (·.1),xs))[i]?=aa (Sv.ow d)->i=ds.length/\d=.c7 (λa _=>a=p) (kvs.map (·.1)) xs:=λi d e=>by
   rcases Nat.lt_trichotomy i ds.length with h|h|h
   .rw [sv i h] at e;obtain⟨y,_,ey⟩:=jk.1 e;cases ey
   .subst h;rw[sj] at e;cases e;exact⟨rfl,rfl⟩
   .cases sn i h _ e
  have so:∀a,T a->SO (λa=>T a\/a=p) (λ_=>p) (startM N.length ds (λa _=>a=p) (kvs.map (·.1),xs)) a:=λa ta=>⟨.inl ta,λi d e z=>nT (by rw[<- show a=p from z];exact ta)⟩;have σl:L2.start N (us++[.ref p])=us.map aa++aa (.ref p)::dh (N.length-(us.length+1)) af:=by unfold L2.start;simp
  cases hbs:b (startM N.length ds (λa _=>a=p) (kvs.map (·.1),xs)) with
  |no=>rw[hbs] at hq;cases hq
  |rt d=>rw[hbs] at hq;cases hq
  |ex c=>rw[hbs] at hq;cases hq
  |nx ρ1 =>
   rw[hbs] at hq;dsimp only at hq;refine⟨λc=>if c=p then af else H c,λa=>T a\/a=p,λ_=>p,startM N.length ds (λa _=>a=p) (kvs.map (·.1),xs),[],{nx:=λρ=>ρ=ρ1,rt:=λ_=>False,bk:=λ_=>False,ct:=λ_=>False,ex:=λ_=>False},?_,?_,?_,?_⟩
   .rw [σl];simp;omega
   .refine ⟨λa e=>?_,λc u e=>?_,λi d e=>?_,λi i' d d' h1 h2 _=>(ow i d h1).1.trans (ow i' d' h2).1.symm,λi d e=>?_,λg hg=>(by cases hg),λi xs e=>by have:=(ow i _ e).2;cases this⟩
    .by_cases z:a=p
     .exact .inr z
     .exact .inl (fc a (by simpa[z] using e))
    .by_cases z:c=p
     .simp [z] at e
     .simpa [z] using e
    .obtain ⟨rfl,rfl⟩:=ow i d e;refine⟨?_,by simp,o,kvs,hp,⟨rfl,rfl⟩,aP.fits (.mono so) _ _ dx⟩;rw[σl,jn (by simp;omega)];simp[hlu]
    .by_cases hi:i<ds.length
     .rw [sv i hi] at e;obtain⟨y,e1,ey⟩:=jk.1 e;cases ey;obtain⟨v,ev,dv⟩:=du.get e1;refine⟨v,?_,Dn.fits (.mono so) _ _ dv⟩;have hv:i<us.length:=(cq.1 ev).1;rw[σl,jo (by simpa using hv),ck,ev];rfl
     .rcases vc ds.length i with h|h
      .cases sn i h _ e
      .have:i=ds.length:=by omega
       subst this;rw[sj] at e;cases e
   .unfold wS;rw[hbs]
   .refine ⟨λw' σ' H' ρ' hl' st' e=>?_,λ_ _ _ _ _ z=>z.elim,λ_ _ _ _ _ _ z=>z.elim,λ_ _ _ _ _ _ z=>z.elim,λ_ _ _ z=>z.elim⟩;subst e;rw[j0] at hq ⊢;obtain⟨⟨q',ks',xs'⟩,eo,hq⟩:=bnd hq;obtain⟨kv,ek,hq⟩:=bnd hq;obtain⟨kk',e2,hq⟩:=bnd hq;have o0:=vR eo;obtain⟨a0,b0,⟨o1,aNp,hp1,⟨e5,hq1⟩,dk1⟩⟩:=st'.own ds.length _ o0;split at hq
    case isFalse=>cases hq
    rename_i hc;obtain⟨d,ed,hq9⟩:=lJ hq;obtain⟨_,hwp⟩:=hc.2 _ _ hq1;have hwp:w' ds.length=p:=hwp;refine⟨_,a0,SO (λa=>T a\/a=p) w' ρ',jR ρ',λy=>y=kv,st'.Q0,st'.rd,⟨kv,ek,rfl⟩,λy H2 y' s2 dy ey=>?_⟩;subst ey;have st2:=st'.same s2;obtain⟨_,_,⟨o2,EA,hp2,⟨e6,_⟩,dk2⟩⟩:=st2.own ds.length _ o0;have toT:∀a,SO (λa=>T a\/a=p) w' ρ' a->T a:=λa z=>z.1.elim id λy=>Zw (y.trans hwp.symm) (z.2 _ _ o0);have e7:EA.map (·.1)=ks':=e6;have hk2:kindB (EA.map (·.1)) kk'=ae:=by rw[e7];exact hc.1
    have ed2:bU (EA.map (·.1)) xs' kk'=aa d:=by rw[e7];exact ed
    obtain⟨v3,ev,dv⟩:=(pT dk2).1 d ed2;refine⟨w' ds.length,o2,EA,kk',v3,rfl,hp2,rQ dy e2,yW hk2,ev,?_⟩;have er:r=(d,ks',xs'):=hq9.symm;subst er;rw[hwp] at hp2;exact kk v3 H2 o2 EA (λc u ne hc=>s2 _ _ (st'.sm c u (by simpa[ne] using hc))) hp2 e7 (aP.fits (.mono toT) _ _ dk2) (Dn.fits (.mono toT) _ _ dv)
theorem fdM{P:bf}{w:ba}{K:aq}{mg:Q0d}{base:bb}{x:ak}{st:df}{N ps:Q0g}{k n np:Nat}{b:SF}{key:EF}(D:Df K mg x st ps)
  (h:∀{f:ai} {cdv:aj} {A:bx} {outer:List fw} {s:ao} {H:Hp} {E:XK},fZ k (A.deeper (envOfC x (bN st) s.heap.objs.size f cdv))->N.Nodup ->∃xc,zQ (yB cK P w K mg base N x (bN st) f cdv A outer s H E).Z4 (f6 st) (OB (yK K xc N.length (wS b)) (XE K (np-1) key)))
  (S:iG N ps (bN st):=by exact⟨rfl,rfl,rfl,by decide+kernel,rfl,by decide+kernel,by decide+kernel⟩) (hn:N.length=n:=by rfl) (hp:ps.length=np:=by rfl):Cl P w K mg base cK (k+1) x ps (YG K (runM n np b key)):=by
 obtain⟨_,F,m,q⟩:=D;exact⟨Kd F S hn hp λ_ _ _ _ _ _ hr=>h hr S.nd,m,F.kp,q⟩
def Rx{P:bf}{w:ba}{K:aq}{mg:Q0d}{base:bb}{k:Nat}{f:ai}{fd:gp}{ps:Q0g}:lF P w K mg base cK k f fd ps (YG K λ_ _=>.no) :=
 ⟨λ_ _ _ _ h=>(by obtain⟨_,_,_,_,_,_,_,_,_,_,_,_,_,_,e,_⟩:=h;cases e),λ_ _ _ _ _ _ _ _ _ _ _ _ _ h=>(by obtain⟨_,_,_,_,_,_,_,_,_,_,_,_,_,_,e,_⟩:=h;cases e)⟩
def nnM{P:bf}{w:ba}{K:aq}{mg:Q0d}{base:bb}{k:Nat}{x:ak}{st:df}{ps:Q0g}(D:Df K mg x st ps):Cl P w K mg base cK k x ps (YG K λ_ _=>.no):=by obtain⟨_,F,m,q⟩:=D;exact⟨Rx,m,F.kp,q⟩
section
variable{X:Cx}
def wu(hm:X.mg "zip"=af)(ha:zH X [a,b] t)(hg:Gl X "zip":=by rfl)(hs:au [a,b] X.env=[(ag,eval a X.env),(ag,eval b X.env)]:=by rfl)(hs2:au [b] X.env=[(ag,eval b X.env)]:=by rfl):
  YE X (.Tuple es kk tp) (.Call (.Name "zip" p) [a,b] [] pos) (p8 t):=cI (Lg hm ha hg hs hs2) λρ Q Ru=>by
 obtain⟨ds,e,q⟩:=Ru;obtain⟨as,ea,e⟩:=bnd e;refine⟨as,ea,?_⟩;unfold Ds at e;split at e<;>first|(cases e;exact q)|cases e
end
open L5
end L8
namespace L4
open PySem.Spec PyProof.Rows L2 L3 PySem.W Att
def NA(X:Cx)(n:Nat)(lt:Nat->Nat->Bool)(ks:List V)(H:Hp):Prop :=
 ∀(pins:Q0b) (σ:L2.St) (s:ao) (us:Q0f),Inv X pins σ H s->Vals ks us ->
  ∃κ,(∀Q:SortKind->ao->Prop,Q κ s->ax (ay X.prog X.w) X.A.in1.in1 (keyKind' us.toArray) Q (λ_ _=>False) s) /\
   ∀(i j:Nat) (C:Bool->ao->Prop),i<n->j<n->C (lt i j) s->um X.prog X.w X.A.in1.in1 κ us i j C s
theorem kN:∀{ks:List V} {us:Q0f},Vals ks us->ks.length=us.length
 |_,_,.nil=>rfl
 |_,_,.cons q h=>by rw[de,de,kN h]
theorem BY(r:Vals xs us):∀ix:List Nat,(∀i∈ix,i<us.length)->Vals (ix.map λi=>xs.getD i .non) (ix.map λi=>us.getD i lh)
 |[],_=>.nil
 |i::ix,h=>by
  have hi:=h i cn;have hl:=kN r;obtain⟨u,hu,ru⟩:=r.get (i:=i) (x:=xs[i]'(by omega)) (by simp[hl,hi]);have e1:xs.getD i .non=xs[i]'(by omega):=by simp[hl,hi]
  have e2:us.getD i lh=u:=by rw[fm,hu];rfl
  refine .cons ?_ (BY r ix λj hj=>h j (dq _ hj));show RelV (xs.getD i .non) (us.getD i lh);rw[e1,e2];exact ru
section
variable{X:Cx}{pins:Q0b}{σ:L2.St}{H:Hp}{s:ao}{P:Q0b}{f:aj}{t:V->Hp->VK->Prop}{xs:List V}{us:Q0f}{a kS:ai}{e1:Nat}{E:Q0c}
 {W:Nat->List V->Hp->Prop}
end
theorem aAr:∀(us:Q0f),us.length=1 ->∃a0,us=[a0]
 |[a0],_=>⟨a0,rfl⟩
theorem aAs:∀(us:Q0f),us.length=2 ->∃a0 a1,us=[a0,a1]
 |[a0,a1],_=>⟨a0,a1,rfl⟩
theorem aAt:∀(us:Q0f),us.length=3 ->∃a0 a1 a2,us=[a0,a1,a2]
 |[a0,a1,a2],_=>⟨a0,a1,a2,rfl⟩
theorem aAu:∀(us:Q0f),us.length=4 ->∃a0 a1 a2 a3,us=[a0,a1,a2,a3]
 |[a0,a1,a2,a3],_=>⟨a0,a1,a2,a3,rfl⟩
def nA{K:aq}{x:ak}(h:nsIn K ig x=aa af):tabIn K x=af:=by unfold tabIn;rw[h]
theorem QC{K:aq}{r1 r2 r3 r4 r5:Option (ai×ai)}(h1:tabIn K "going_of"=r1)(h2:tabIn K "count_of_chain"=r2)(h3:tabIn K "cut_paper"=r3)(h4:tabIn K "downsets"=r4)(h5:tabIn K "strictest_chains"=r5):
  eS K=([("going_of",r1),("count_of_chain",r2),("cut_paper",r3),("downsets",r4),("strictest_chains",r5)]:List (ak×Option (ai×ai))).filterMap λp=>p.2.map λt=>(p.1,t.1,t.2):=by
 subst h1 h2 h3 h4 h5;rfl
def tabs_ok{K:aq}{q:bf}{L:List (ak×ai×ai)}(h:eS K=L)(nd:(L.map (·.2.2)).Nodup)(rc:∀t∈L,∃e,(recsOf q).find? (λe=>e.name == t.1)=aa e):TabsOk K q:=⟨by rw[h];exact nd,by rw[h];exact rc⟩
section
variable{prog:bf}{w:ba}{A:bx}{E:Q0c}{s:ao}{z TI TO i1 i2:ai}{f1 f2:List ai}{n1 n2 k:Nat}{P1 P2:Nat->aj->Prop}{S1 S2:Nat->bb->Prop}{a b:aj}
structure Zap (z TI TO i1 i2:ai) (f1 f2:List ai):Prop where
 zO:z≠TO
 zI:z≠TI
 OI:TO≠TI
 m1:i1∈f1
 m2:i2∈f2
 z1:z∉f1
 z2:z∉f2
 o1:TO∉f1
 o2:TO∉f2
 c1:i1∉f2
 c2:i2∉f1
 I1:TI≠i1
 I2:TI≠i2
def Zap.q1(p:Zap z TI TO i1 i2 f1 f2):z≠i1:=λe=>p.z1 (e▸p.m1)
def Zap.q2(p:Zap z TI TO i1 i2 f1 f2):z≠i2:=λe=>p.z2 (e▸p.m2)
def Zap.p1(p:Zap z TI TO i1 i2 f1 f2):TO≠i1:=λe=>p.o1 (e▸p.m1)
end
open PySem.SeqAt
section
variable{X:Cx}
noncomputable def isI(k:Int):aj->Bool
 |.int a _=>a == k
 |_=>ag
theorem nB:∀{ns:Q0e} {us:Q0f},Vals (ns.map V.int) us ->∀(j:Nat) (y:aj),us[j]?=aa y ->∃a u,ns[j]?=aa a/\y=jt a u
 |[],_,.nil,j,y,h=>by cases h
 |n::ns,_,.cons q r,j,y,h=>by
  cases j with
  |zero =>
   obtain⟨t,e⟩:=q;cases h;exact⟨n,t,rfl,e⟩
  |succ j=>exact nB r j y h
end
end L4
namespace L9
open PySem.SeqAt PySem.Spec PyProof.Rows L2 L3 L4 L5
open MeetsSeq3 MeetsSeq2 MeetsSeq
open AutoSeq1 (wpAny_loadPart')  -- objects read
def Kc(A:bx)(s:ao)(x y:aj)(r:Bool):Prop :=
 ∀(prog:bf) (w:ba) (E:Q0c) (Q:Q0c),Q (.bool r) s->ax (ay prog w) A (richCompare .Lt x y) Q E s
section
variable{X:Cx}
def Kb{K:aq}{S:ai->Prop}{H:Hp}{a b:D}{xs:List V}(h:aP K S H [a,b] xs):∃u w,xs=[u,w]/\Dn K S H a u/\Dn K S H b w:=by simp only[aP] at h;obtain⟨u,r,rfl,h1,w,r2,rfl,h2,rfl⟩:=h;exact⟨u,w,rfl,h1,h2⟩
end
end L9
namespace L6
open PySem.Spec PyProof.Rows
section
open L2 L3 L4
variable{X:Cx}
def Rr(w:ba):List V->Hp->VK->Prop:=λxs H Q=>∃(a:ai) (ns:Q0e),xs=[.ref a]/\H a=aa (wy w a ns)/\ns.length<64/\Q (.int ns.length) H
def QD:eT X (.builtin "len") (Rr X.w):=by
 intro pins s σ H xs us Q I r h;obtain⟨a,ns,rfl,ha,fq,q⟩:=h;obtain⟨u,rfl,ru⟩:=vals1 r;cases ru;obtain⟨⟨o,ho,es,ep,t,hex,hd,_,hp,ht,hsz⟩,_⟩:=I.hok a _ ha;have el:es.size=ns.length:=by have:=hp.length_eq;simpa using this
 exact call_len_set ho hex hd ht.fit (by omega) ⟨.int ns.length,H,I.kept λb o e=>e,⟨_,by rw[el]⟩,q⟩
end
end L6
namespace L4
open PySem.Spec PyProof.Rows L2 L3 L5
def wo(g:D->D->Option D):F2:=λx y Q=>∃d,g x y=aa d/\Q d
def tm2(g:D->D->Option D):Tells (wo g) g:=λ_ _ d _ e q=>⟨d,e,q⟩
section
variable{X:Cx}{pos:bh}{a b:ar}{fa fb:EF}
def Wu{K:aq}{r:R2}{g:D->D->Option D}(h:∀(dx dy d:D),g dx dy=aa d->d.EL=ae /\∀(S:ai->Prop) (H:Hp) (x y:V) (Q:VK),Dn K S H dx x->Dn K S H dy y->(∀v,Dn K S H d v->Q v H)->r x y H Q):O3 K r (wo g):=by intro S H x y dx dy Q3 Q fc hx hy ⟨d,e,q⟩ k;exact(h dx dy d e).2 S H x y Q hx hy λv dv=>k v H d (Same.refl H) dv q
theorem n5:∀{ds:List D} {ys:Q0g},oJ ds=aa ys->ds=ys.map D.str
 |[],ys,h=>by cases h;rfl
 |d::ds,ys,h=>by
  cases d<;>first|(cases h;done)|skip
  rename_i x;obtain⟨z,e,rfl⟩:=lJ (show(oJ ds).map (x :: ·)=aa ys from h);rw[n5 e];rfl
end
end L4
namespace L8
open PySem.Spec PyProof.Rows L2 L3 L4
section
variable{X:Cx}{pins:Q0b}{σ:L2.St}{H:Hp}{s:ao}{a:ai}{o:aw}{kvs:List (KX×V×V)}{k:KX}{y:V}{u:aj}{A:bx}{E:Q0c}
theorem Wt(hu:A.units+2<cf)(I:Inv X pins σ H s)(e:H a=aa (.dX o kvs))(hk:M8 H k y)(kd:m9 kvs k)(ry:RelV y u)(h:∀w' s',Inv X pins σ H s'->RelV ((fL kvs k).getD .non) w'->Q w' s'):
  ax (ay X.prog X.w) A (call (.builtin "dict.get") [.ref a,u]) Q E s:=by
 have rz:RelV .non lh:=rfl;obtain⟨_,hs,ho,hx⟩:=oQ I e;have tI:=rP I e
 cases k with
 |inl k =>
  have hk:y=kV k:=hk;subst hk;obtain⟨vs,rel,dd⟩:=rO hx ho (tw kd);exact a0M Fh tI a1B (a1H _ _) (meets_dict_get (aW X.prog X.w) a (rD ry) hs) ⟨_,dd.mapOf,h _ _ (I.tok _) ((PL.val rel k).getD rz)⟩
 |inr k =>
  obtain⟨b,rfl,hb⟩:=hk;obtain rfl:u=c_ b:=ry;obtain⟨xs,rel,dd⟩:=vQ I.hok hx ho (tu kd);exact a0M Fh tI a1B (a1H _ _) (meetsH_dict_get (g5 X.prog X.w) a b hs) ⟨nest_room hu,k,xs,n0 I.hok hb,dd,h _ _ (I.tok _) ((PT.val rel k).getD rz)⟩
end
section
variable{X:Cx}{o e:ar}{td ty:TE}{apos cpos:bh}
def Ws(td ty:TE):TE:=λσ H Q=>td σ H λx H1=>∃a,x=.ref a/\(∃o kvs,H1 a=aa (.dX o kvs))/\ty σ H1 λy H2=>∃o kvs k,H2 a=aa (.dX o kvs)/\M8 H2 k y/\m9 kvs k/\Q ((fL kvs k).getD .non) H2
def XG(hu:X.A.units+2<cf)(ho:PE X o td)(he:PE X e ty)(hbase:attributeBase o "get" X.env (eval o X.env)=eval o X.env:=by rfl)
  (hfew:Zp X cpos e:=by rfl)
  (hline:Q0j apos cpos:=by rfl) (ht:d_ cpos (au [e] X.env)=[(ag,eval e X.env)]:=by rfl):PE X (.Call (.Attribute o "get" apos) [e] [] cpos) (Ws td ty):=by
 intro pins s σ H Q I h;refine a0x hbase hfew hline a1x Fh F.type_dict_get (d8 (ho pins s σ H _ I h) λu s1 ⟨x,H1,I1,rx,a,ex,⟨ob,kvs,e1⟩,q1⟩=>?_);subst ex;obtain rfl:u=c_ a:=rx;refine⟨rP I1 e1,λb q=>?_,?_⟩
 .cases q;obtain⟨_,_,h3,h4⟩:=oQ I1 e1;exact⟨ob,h3,h4.1.2.1⟩
 rw[ht];refine Fl rfl (a1K (a1J (d8 (he pins s1 σ H1 _ I1 q1) λiv s2 ⟨y,H2,I2,ry,o3,aNu,k,e3,hk,kd,q3⟩=>a1I ?_)));exact Wt hu I2 e3 hk kd ry λw' s4 I4 r4=>⟨_,H2,I4,r4,q3⟩
def EB(hu:X.A.units+2<cf)(ho:cD X o fo)(he:cD X e fe)(hbase:attributeBase o "get" X.env (eval o X.env)=eval o X.env:=by rfl)
  (hfew:Zp X cpos e:=by rfl)
  (hline:Q0j apos cpos:=by rfl) (ht:d_ cpos (au [e] X.env)=[(ag,eval e X.env)]:=by rfl):cD X (.Call (.Attribute o "get" apos) [e] [] cpos) (aE fU fo fe) :=
 imp (XG hu ho he hbase hfew hline ht) λσ H Q Rq=>by
  obtain⟨S,ρ,Q3,fc,sl,⟨d,e,q⟩,k⟩:=Rq;obtain⟨x,ex,e⟩:=bnd e;obtain⟨y,ey,e⟩:=bnd e
  cases x with
  |c7 q0 ks ds =>
   obtain⟨kk,ek,e'⟩:=bnd (o:=lY y) e;refine⟨S,ρ,λd=>d=.c7 q0 ks ds,fc,sl,⟨_,ex,rfl⟩,λv H1 d1 s1 uM e1=>?_⟩;subst e1;have Jg:=uM;simp only[Dn] at uM;obtain⟨a,o,kvs,rfl,ha,sa,⟨rfl,_⟩,da⟩:=uM;refine⟨a,rfl,⟨o,kvs,ha⟩,S,ρ,λd=>d=y,bV fc s1,Sl.fits (.same s1) sl,⟨y,ey,rfl⟩,λu H2 d2 s2 DM e2=>?_⟩;subst e2;have uM:=Dn.fits (.same s2) _ _ Jg;simp only[Dn] at uM;obtain⟨a',o,EA,ea,ha,sa,⟨e3,_⟩,da⟩:=uM;cases ea;rw[<- e3] at e';by_cases hk:kindB (EA.map (·.1)) kk=ae
   .rw [Z_ hk] at e';cases e';refine⟨o,EA,kk,ha,rQ DM ek,yW hk,?_⟩
    cases hl:bU (EA.map (·.1)) ds kk with
    |none =>
     rw[hl] at q;rw[(pT da).2 hl];exact k _ H2 _ (s1.trans s2) (show Dn X.K S H2 .non .non by simp only[Dn]) q
    |some d4 =>
     rw[hl] at q;obtain⟨v4,e4,dv⟩:=(pT da).1 d4 hl;rw[e4];exact k _ H2 _ (s1.trans s2) dv q
   .rw [Zz hk] at e';cases e'
  |_=>cases e
variable{pos:bh}{a b:ar}{fa fb:EF}
def Wq{K:aq}:O3 K wa (wo wF):=Wu λdx dy d e=>by
 obtain⟨c,ec,rfl⟩:=lJ e;refine⟨rfl,λS H x y Q hx hy k=>?_⟩;cases dx<;>first|(cases ec;done)|skip
 all_goals (cases dy<;>first|(cases ec;done)|skip)
 all_goals simp only[Dn] at hx hy
 all_goals subst hx;subst hy
 .cases ec;exact⟨rfl,k _ (by simp only[Dn];rfl)⟩
 .cases ec;exact⟨rfl,k _ (by simp only[Dn];rfl)⟩
 .cases ec;exact⟨rfl,k _ (by simp only[Dn];rfl)⟩
 .cases ec;rename_i i j;refine⟨rfl,k _ ?_⟩;simp only[Dn];congr 2;rw[decide_eq_decide];exact⟨λh=>by cases h;rfl,λh=>by rw[h]⟩
def Wo(x y d:D)(h:wF x y=aa d):∃b,d=.bl b:=by obtain⟨c,_,rfl⟩:=lJ h;exact⟨_,rfl⟩
def Cm(ha:cD X a fa)(hb:cD X b fb):uU X (.Compare a [.NotEq] [b] pos) (tV (aE wF fa fb)):=cT (lR Dc Wq ha hb (hJ _)) (lT (tm2 _) Wo)
end
section
variable{prog:bf}{w:ba}{A:bx}{E:Q0c}{s:ao}{d it:ai}{o:aw}{es:Array rb}{ep i:Nat}{ok ov:aj}
def XH{h:bb}{c:aj}{dd:Option ai}{vs:Array aj}{sl:Array (Option aj)}{f:Array aj->Array aj}(e:h.get? it=aa ⟨c,dd,.fields vs,sl⟩):(h.update it (a1e f)).get? it=aa ⟨c,dd,.fields (f vs),sl⟩ :=
 ur _ e (a1f (vs:=f vs) rfl)
def rR{h:bb}{b:ai}{f:aw->aw}(n:b≠it):(h.update it f).get? b=h.get? b:=Heap.get?_update_ne _ _ _ _ n
def yX:((a3Q "dict_itemiterator").elim "dict_itemiterator" λx=>x.tpName)="dict_itemiterator":=by rw[find?_eq_fast];kernel_rfl
def yY:a4n "dict_itemiterator"=ae:=by decide
theorem J3{Q:Option aj->ao->Prop}(hi:Fd s.heap it d i es.size ep ok ov)(ho:s.heap.get? d=aa o)(hd:o.data=.dict es ep)(hl:i<es.size)
  (h:∀h',a1j h' it d (i+1) es.size ep es[i].key es[i].val s.heap.objs.size->h'.get? s.heap.objs.size=aa {cls:=.type "tuple",data:=.seq #[es[i].key,es[i].val]}->h'.objs.size=s.heap.objs.size+1 ->
   (∀b u,b≠it->s.heap.get? b=aa u->h'.get? b=aa u)->Q (aa (.ref s.heap.objs.size)) {s with heap:=h' }):ax (ay prog w) A (pyNext (.ref it)) Q E s:=by
 have tI:s.TypeIs (.ref it) "dict_itemiterator":=⟨_,hi,rfl⟩;unfold pyNext;refine av (a0t (qp (name:=yw "__next__") tI ra (jh ra tI a1A ?_ (a1G _))));unfold Builtin.«dict_itemiterator.__next__»
 wp_walk
 rw[yX,yY,Z_ rfl];rw[hd];refine az ?_;rw[Zz (by simp)]
 wp_walk
 rw[hd];refine az ?_;rw[Zz (by simp)];refine az ?_;dsimp only;rw[Zz (by omega),jf,kz hl];dsimp only
 wp_walk
 simp only[yX,yY,if_true];generalize hb:List.any _ _=bw;have eb:bw=ag:=by rw[<- hb];decide
 subst eb;simp only[sr,if_false];have hz:(s.heap.update it (a1e λx=>x.setIfInBounds (2+1) (rawInt ((i:Int)+1)))).objs.size=s.heap.objs.size:=qy ..;have hlt:it<s.heap.objs.size:=b_ hi;have e1:=XH (f:=λx=>x.setIfInBounds (2+1) (rawInt ((i:Int)+1))) hi;have e2:=di {cls:=ny "tuple",data:=Data.seq #[es[i].key,es[i].val]} e1;have e3:=XH (f:=λx=>x.setIfInBounds 6 es[i].key) e2;have e4:=XH (f:=λx=>x.setIfInBounds (6+1) es[i].val) e3;have e5:=XH (f:=λx=>x.setIfInBounds 0 (rawInt ((s.heap.objs.size:Nat):Int))) e4;have e6:=XH (f:=λx=>x.setIfInBounds 1 (pf ag)) e5;refine⟨_,rfl,az ?_⟩;rw[hz];refine h _ ?_ ?_ ?_ λb u nb e=>?_
 .unfold a1j;rw[e6];have e:((i+1:Nat):Int)=(i:Int)+1:=by omega
  rw[e];rfl
 .rw [rR (i_ hlt),rR (i_ hlt),rR (i_ hlt),rR (i_ hlt),<- hz];exact f_ _ rfl
 .rw [qy,qy,qy,qy,qz,hz]
 .rw [rR nb,rR nb,rR nb,rR nb];exact di _ ((rR nb).trans e)
theorem QE(hh:A.handled=af)(hi:Fd s.heap it d i es.size ep ok ov)(ho:s.heap.get? d=aa o)(hd:o.data=.dict es ep)(hl:es.size<=i)
  (h:∀h',a1k it s.heap h'->Q af {s with heap:=h' }):ax (ay prog w) A (pyNext (.ref it)) Q E s:=by
 have tI:s.TypeIs (.ref it) "dict_itemiterator":=⟨_,hi,rfl⟩;unfold pyNext;refine av (a0t (qp (name:=yw "__next__") tI ra (jh ra tI a1A ?_ (a1G _))));unfold Builtin.«dict_itemiterator.__next__»
 wp_walk
 rw[yX,yY,Z_ rfl];rw[hd];refine az ?_;rw[Zz (by simp)]
 wp_walk
 rw[hd];refine az ?_;rw[Zz (by simp)];refine az ?_;dsimp only;rw[Zz (by omega),jf,a3f hl];dsimp only
 wp_walk
 have hA:A.in1.handled=af:=hh;unfold raiseNew;apply av;apply a0o;rw[hA];refine av (az (a0d (av ?_)));refine Eh (b:=ae) (T:="StopIteration") ?_ isSubtype_stop ?_
 .exact ⟨_,f_ _ rfl,rfl⟩
 apply az;apply h;exact((q_ ..).extBut.push _).push _
theorem J4(hs:(d == sysModules)=ag)(ho:s.heap.get? d=aa o)(hx:o.ExactDict)(hd:o.data=.dict es ep)
  (h:Q (.ref s.heap.objs.size) {s with heap:=s.heap.push {cls:=.type "dict_items",data:=.fields #[.ref d]} }):ax (ay prog w) A (call (.builtin "dict.items") [.ref d]) Q E s:=by
 have tD:s.TypeIs (.ref d) "dict":=⟨o,ho,hx.1⟩;refine jh a1s tD F.entry_dict_items ?_ (F.args_dict_items_1 _);unfold Builtin.«dict.items»
 wp_walk
 rw[hx.1,Zz (by decide)]
 wp_walk
 exact⟨_,rfl,h⟩
theorem J5(hv:s.heap.IsItemsView v d)(ho:s.heap.get? d=aa o)(hd:o.data=.dict es ep)
  (h:Q (.ref s.heap.objs.size) {s with heap:=s.heap.push {cls:=.type "dict_itemiterator",data:=.fields #[.none,.bool ag,.ref d,.int 0 0,.int es.size 0,.int ep 0,.none,.none]} }):ax (ay prog w) A (pyIter (.ref v)) Q E s:=by
 have tV:=hv.typeIs;obtain⟨ob,hb,hc,hf⟩:=id hv;refine a0l tV a1r (jh a1r tV F.entry_dict_items_iter ?_ (F.args_dict_items_iter_1 _))
 (unfold Builtin.«dict_items.__iter__»;skip)
 wp_walk
 rw[hf];refine az ?_
 wp_walk
 rw[hd];refine az ?_
 wp_walk
 rw[hd];refine az ?_
 wp_walk
 exact⟨_,rfl,"dict_itemiterator",_,⟨_,f_ _ rfl,rfl⟩,ra.lookup,h⟩
end
def Iit(a:ai)(o:aw)(ps:List (V×V)):It:=Itp (λi H=>(∃kvs,H a=aa (.dX o kvs))/\i<ps.length) (λi _ vs=>∃p,ps[i]?=aa p/\vs=[p.1,p.2]) (λi H=>(∃kvs,H a=aa (.dX o kvs))/\ps.length<=i)
def Wn:entryFor table "dict_itemiterator.__iter__"=aa Builtin.«dict_keyiterator.__iter__»:=entryFor_alias (id':="dict_keyiterator.__iter__") (by kernel_rfl) rfl (by decide+kernel) (by kernel_rfl)
def J6(t:s.TypeIs (.ref it) "dict_itemiterator")(h:Q (.ref it) s):ax (ay prog w) A (pyIter (.ref it)) Q E s:=by
 refine a0l t a1t (jh a1t t Wn ?_ (F.args_dict_itemiterator_iter_1 _));unfold Builtin.«dict_keyiterator.__iter__»
 wp_walk
 exact⟨_,rfl,"dict_itemiterator",_,t,ra.lookup,h⟩
theorem J7{P:bf}{w:ba}{K:aq}{el:List ar}{kk:Nat}{tp:bh}{a it:ai}{o:aw}{ps:List (V×V)}{es:Array rb}{ep:Nat}(hd:o.data=.dict es ep)(h1:Vals (ps.map (·.1)) (es.toList.map (·.key)))(h2:Vals (ps.map (·.2)) (es.toList.map (·.val))):
  Turn P w K (.Tuple el kk tp) (Iit a o ps) [it] it (λi h=>∃ok ov,Fd h it a i es.size ep ok ov):=by
 have hz:es.size=ps.length:=by have:=h1.length;simp at this;omega
 refine⟨cp.mpr rfl,λi h st b hb=>?_,λi h h' ⟨ok,ov,st⟩ k=>⟨ok,ov,k it (cp.mpr rfl) _ st⟩,?_,?_,λA i s Q E ⟨ok,ov,st⟩ h=>J6 ⟨_,st,rfl⟩ h⟩
 .cases cp.1 hb;obtain⟨ok,ov,e⟩:=st;exact⟨_,e,λv z=>by cases z⟩
 .intro X hP hw hK hc i pins s σ H E I hf ⟨ok,ov,st⟩ hg;cases hP;cases hw;obtain⟨⟨kvs,ha⟩,hi⟩:=hg;obtain⟨_,_,ho,_⟩:=oQ I ha;have hl:i<es.size:=by rw[hz];exact hi
  refine J3 st ho hd hl λh1' e1 e2 e3 kp=>⟨_,rfl,?_⟩;refine wpAny_letOwnedTupleGo_items e1 λh2' e4 sb=>?_;have hit:it<s.heap.objs.size:=b_ st;have nT:s.heap.objs.size≠it:=i_ hit;have e5:=(sb.2 _ nT).trans e2;obtain⟨u,hu,ru⟩:=h1.get (i:=i) (x:=ps[i].1) (by rw[ck,bc hi];rfl);obtain⟨v,hv,rv⟩:=h2.get (i:=i) (x:=ps[i].2) (by rw[ck,bc hi];rfl);have hku:u=es[i].key:=by rw[ck,Ae,kz hl] at hu;exact(dg hu).symm
  have hkv:v=es[i].val:=by rw[ck,Ae,kz hl] at hv;exact(dg hv).symm
  subst hku hkv;have ht:g_ h2' s.heap.objs.size [es[i].key,es[i].val].toArray:=⟨_,e5,rfl,_,rfl⟩;have I2:=turnT (t':=s.toks) (ch:=[it]) (h':=h2') (xs:=[ps[i].1,ps[i].2]) I (λb ob hb e=>(sb.2 b λz=>hb (by rw[z];exact cp.mpr rfl)).trans (kp b ob (λz=>hb (by rw[z];exact cp.mpr rfl)) e)) hf (bj _) (.cons ru (.cons rv .nil)) (rG) ht (EM.is e5 rfl);refine⟨.ref s.heap.objs.size,_,I2,rfl,⟨s.heap.objs.size,_,rfl,I.hok.fresh (bj _),rfl,ps[i],bc hi,rfl⟩,⟨_,_,e4⟩,λb hb=>?_⟩;cases cp.1 hb;rw[aV (dj nT)];exact(hf it (cp.mpr rfl)).1
 .intro X hP hw hK hc i pins s σ H E I hf ⟨ok,ov,st⟩ hg;cases hP;cases hw;obtain⟨f0,f1,_,f3,f4,f5⟩:=hf it (cp.mpr rfl);obtain⟨⟨kvs,ha⟩,hi⟩:=hg;obtain⟨_,_,ho,_⟩:=oQ I ha;exact QE (I.ok.hd hc) st ho hd (by rw[hz];exact hi) λh' eb=>⟨rfl,I.turned (t':=s.toks) (λb ob nb e=>eb b ob nb e) f0 f1 f3 f4 f5⟩
def XI(x:xX P w H o kvs)(ed:o.data=.dict es ep):Vals (kvs.map (·.2.2)) (es.toList.map (·.val)):=by
 obtain⟨_,es',ep',ed',hx⟩:=x;rw[ed] at ed';cases ed';rcases hx with⟨vs,r,_,h2,z⟩|⟨xs,r,h1,z⟩
 .clear ed z
  generalize es.toList=l at h2 ⊢
  induction r generalizing l with
  |nil=>cases h2;exact .nil
  | @cons p q ps qs hq t ih =>
   cases h2 with
   |cons k1 k2 k3=>exact .cons (by dsimp only;rw[k2];exact hq.2.2) (ih _ k3)
 .rw [h1]
  clear h1 ed z
  induction r with
  |nil=>exact .nil
  | @cons p q ps qs hq t ih=>exact .cons hq.2.2.2 ih
def aAv(tl:TE):TI:=λσ H R=>tl σ H λx H1=>∃a o kvs,x=.ref a/\H1 a=aa (.dX o kvs)/\((∀p∈kvs,M8 H1 p.1 p.2.1)->R (Iit a o (kvs.map (·.2))) H1)
def XJ{X:Cx}{l:ar}{tl:TE}{el:List ar}{kk:Nat}{tp apos cpos:bh}(hl:PE X l tl)(hbase:attributeBase l "items" X.env (eval l X.env)=eval l X.env:=by rfl)(hline:Q0j apos cpos:=by rfl):PI X (.Tuple el kk tp) (.Call (.Attribute l "items" apos) [] [] cpos) (aAv tl):=by
 intro pins s σ H R I h;refine a0x hbase rfl hline a1x a1s F.type_dict_items (d8 (hl pins s σ H _ I h) λu s1 ⟨x,H1,I1,rx,a,o,kvs,ex,ha,q⟩=>?_);subst ex;obtain rfl:u=c_ a:=rx;obtain⟨_,hs,ho,hx⟩:=oQ I1 ha;obtain⟨es,ep,ed,ks,hk⟩:=W8 hx;have vs:=XI hx ed;refine⟨rP I1 ha,λb z=>?_,?_⟩
 .cases z;exact⟨o,ho,hx.1.2.1⟩
 refine Fl rfl (PySem.evalArgs_none ?_);refine J4 hs ho hx.1 ed ?_;have I2:=I1.kept (t':=s1.toks) (h':=s1.heap.push {cls:=.type "dict_items",data:=.fields #[.ref a]}) λb ob e=>di _ e;have hw:Heap.IsItemsView (s1.heap.push {cls:=.type "dict_items",data:=.fields #[.ref a]}) s1.heap.objs.size a:=⟨_,f_ _ rfl,rfl,rfl⟩;obtain⟨_,_,ho2,_⟩:=oQ I2 ha;refine J5 (s:={s1 with heap:=s1.heap.push {cls:=.type "dict_items",data:=.fields #[.ref a]} }) hw ho2 ed ?_;refine⟨_,[_],_,_,H1,rfl,I2.kept (t':=s1.toks) λb ob e=>di _ e,J7 (ps:=kvs.map (·.2)) ed (by rw[cc];exact ks) (by rw[cc];exact vs),⟨_,_,f_ _ rfl⟩,λb hb=>?_,q hk⟩;rw[cp.1 hb];exact I2.C6 (bj _) (I2.hok.fresh (bj _))
theorem QF{K:aq}{a:ai}{o:aw}{kvs:List (KX×V×V)}{ds:List D}(hz:ds.length=kvs.length):Wlk K (Iit a o (kvs.map (·.2))) ((((kvs.map (·.1)).zip ds).map λp=>D.tup [nj p.1,p.2])) ((.c7 (λ_ u=>u=o) (kvs.map (·.1)) ds,.ref a)::((kvs.map λp=>(nj p.1,p.2.1))++ds.zip (kvs.map (·.2.2)))) where
 go:=λS H fc hg i d e=>by
  have h:=hg _ cn;simp only[Dn] at h;obtain⟨b,o',kvs',eb,hb,sb,⟨_,eo⟩,dn⟩:=h;cases eb;have eo:o'=o:=eo;subst eo;obtain⟨pq,ep,ed⟩:=jk.1 (by rw[ck] at e;exact e);obtain⟨e1,e2⟩:=qf.1 ep;rw[ck] at e1;obtain⟨p,e3,e4⟩:=jk.1 e1;have hi:i<kvs.length:=(cq.1 e3).1;refine⟨⟨⟨kvs',hb⟩,by simpa using hi⟩,λx H' y=>?_⟩;obtain⟨T,vs,rfl,hT,rfl,p',y1,rfl⟩:=y;rw[ck,e3] at y1;cases y1;cases ed;have sm:Same H (upd H T (.tup [p.2.1,p.2.2])):=λc u hc=>by rw[aV (bG hc hT)];exact hc
  refine⟨sm,?_⟩;simp only[Dn];refine⟨T,_,rfl,aQ,aP.cons ?_ (aP.one ?_)⟩
  .rw [<- e4];exact Dn.fits (.same sm) _ _ (hg (nj p.1,p.2.1) (dq _ (md _ (vm (jz e3)))))
  .exact Dn.fits (.same sm) _ _ (hg (pq.2,p.2.2) (dq _ (jl _ (jz (i:=i) (by rw[qf];exact⟨e2,by rw[ck,e3];rfl⟩)))))
 stop:=λS H hg i hi=>by have h:=hg _ cn;simp only[Dn] at h;obtain⟨b,o',kvs',eb,hb,sb,⟨_,eo⟩,dn⟩:=h;cases eb;have eo:o'=o:=eo;subst eo;exact⟨⟨kvs',hb⟩,by simp[hz] at hi ⊢;omega⟩
theorem NB{X:Cx}{l:ar}{f:EF}{el:List ar}{kk:Nat}{tp apos cpos:bh}(h:cD X l f)(hbase:attributeBase l "items" X.env (eval l X.env)=eval l X.env:=by rfl)(hline:Q0j apos cpos:=by rfl):YE X (.Tuple el kk tp) (.Call (.Attribute l "items" apos) [] [] cpos) (qA f):=JD (XJ h hbase hline) λσ H R Rp=>by
 obtain⟨S,ρ,Q3,fc,sl,⟨es,e,q⟩,k⟩:=Rp;obtain⟨x,ex,e⟩:=bnd e;refine⟨S,ρ,λd=>d=x,fc,sl,⟨x,ex,rfl⟩,λv H1 d1 s1 uM e1=>?_⟩;subst e1
 cases d1 with
 |c7 q0 ks ds =>
  cases e;simp only[Dn] at uM;obtain⟨a,o,kvs,rfl,ha,sa,⟨rfl,_⟩,da⟩:=uM;have hz:ds.length=kvs.length:=by simpa using da.len
  refine⟨a,o,kvs,rfl,ha,λhk=>k _ H1 _ _ s1 (λg hg=>?_) (QF (ds:=ds) hz) q⟩;rcases cb.1 hg with e|hg
  .subst e;simp only[Dn];exact⟨a,o,kvs,rfl,ha,sa,⟨rfl,rfl⟩,da⟩
  rcases h_.1 hg with hg|hg
  .obtain ⟨p,hp,rfl⟩:=cg.1 hg;exact Wx (hk p hp)
  .obtain ⟨i,hi⟩:=p_.1 hg;obtain⟨e1,e2⟩:=qf.1 hi;obtain⟨v,ev,dv⟩:=da.get e1;rw[e2] at ev;cases ev;exact dv
 |_=>cases e
end L8
namespace L9
open PySem.SeqAt PySem.Spec PyProof.Rows L2 L3 L4 L5
open MeetsSeq3 MeetsSeq2 MeetsSeq
open AutoSeq1 (wpAny_loadPart')  -- objects read
def vT(p:ak×ic):aj:=.str p.1 p.2
theorem kO:∀{is:Q0g} {us:Q0f},Vals (is.map V.str) us ->∃ps:List (ak×ic),us=ps.map vT/\ps.map (·.1)=is
 |[],_,.nil=>⟨[],rfl,rfl⟩
 |i::is,_,.cons r t=>by obtain⟨ps,e,h⟩:=kO t;obtain⟨k,e2⟩:=r;subst e2;exact⟨(i,k)::ps,by rw[e];rfl,by rw[bt,h]⟩
theorem QG(l b:ai)(n n2:Nat)(dd dd2:Option ai)(sl sl2:Array (Option aj))(ps qs:List (ak×ic)):∀(us vs:List (ak×ic)) (i:Nat),us=ps.drop i->vs=qs.drop i->i<=ps.length->i<=qs.length ->
  Meets (Builtin.«list.__eq__.loop» ⟨[.ref l,.ref b,rawInt i,rawInt 0],[]⟩) λA R s =>
   s.heap.get? l=aa ⟨.type "list",dd,.seq (ps.map vT).toArray n,sl⟩/\s.heap.get? b=aa ⟨.type "list",dd2,.seq (qs.map vT).toArray n2,sl2⟩/\R (.ok (.ret (.bool (sE zE (us.map (·.1)) (vs.map (·.1)))))) s:=by
 intro us
 induction us with
 |nil =>
  intro vs i hu hv hi hj prog w A R s h;obtain⟨hh,g,dw,tk,os⟩:=s;obtain⟨hl,hb,h⟩:=h
  wp_walk using il hb,il hl
  have hle:ps.length<=i:=a2R.1 hu.symm;have g1:(ps.map vT).toArray[((i:Nat):Int).toNat]?=af:=by simp[hle]
  rw[g1]
  wp_walk using il hb,il hl
  have e:sE zE (([]:List (ak×ic)).map (·.1)) (vs.map (·.1))=Zv (ps.length<qs.length):=by
   have hvl:vs.length+i=qs.length:=by rw[hv,qd];omega
   cases vs with
   |nil=>exact(Zy (by simp only[mx] at hvl;omega)).symm
   |cons q vs=>exact(Zx (by simp only[de] at hvl;omega)).symm
  rw[e] at h;show R (.ok (.ret (.bool (Zv ((ps.map vT).toArray.size<(qs.map vT).toArray.size))))) _;simpa using h
 |cons p us ih =>
  intro vs i hu hv hi hj prog w A R s h;obtain⟨hh,g,dw,tk,os⟩:=s;obtain⟨hl,hb,h⟩:=h;have hul:us.length+1+i=ps.length:=by have:=congrArg my hu;rw[qd,de] at this;omega
  have p1:ps[i]?=aa p:=by have:=congrArg (λt:List (ak×ic)=>t[0]?) hu;simp only[vv,zt] at this;exact this.symm
  have g1:(ps.map vT).toArray[((i:Nat):Int).toNat]?=aa (vT p):=by simp[p1]
  cases vs with
  |nil =>
   have hle:qs.length<=i:=a2R.1 hv.symm;have g2:(qs.map vT).toArray[((i:Nat):Int).toNat]?=af:=by simp[hle]
   wp_walk using il hb,il hl
   rw[g1,g2]
   wp_walk using il hb,il hl
   show R (.ok (.ret (.bool (Zv ((ps.map vT).toArray.size<(qs.map vT).toArray.size))))) _;have e:Zv ((ps.map vT).toArray.size<(qs.map vT).toArray.size)=ag:=Zy (by simp;omega);rw[e];exact h
  |cons q vs =>
   have hvl:vs.length+1+i=qs.length:=by have:=congrArg my hv;rw[qd,de] at this;omega
   have q1:qs[i]?=aa q:=by have:=congrArg (λt:List (ak×ic)=>t[0]?) hv;simp only[vv,zt] at this;exact this.symm
   have g2:(qs.map vT).toArray[((i:Nat):Int).toNat]?=aa (vT q):=by simp[q1]
   have hu':us=ps.drop (i+1):=by rw[<- a2S,<- hu];rfl
   have hv':vs=qs.drop (i+1):=by rw[<- a2S,<- hv];rfl
   have hc:((i:Int)+1)=((i+1:Nat):Int):=by omega
   wp_walk using il hb,il hl
   rw[g1,g2];refine av (Fb p.1 p.2 q.1 q.2 prog w _ _ ?_);rw[bt,bt,sE] at h;by_cases z:p.1=q.1
   .rw [Z_ z] at h;rw[show(p.1 == q.1)=ae from beq_iff_eq.2 z]
    wp_walk
    rw[hc];refine⟨nq zb _,kg a1h ?_⟩;rw[(lr zb _)];exact ih vs (i+1) hu' hv' (by omega) (by omega) prog w A R _ ⟨hl,hb,h⟩
   .rw [Zz z] at h;rw[show(p.1 == q.1)=ag from beq_eq_false_iff_ne.2 z];have step:∀{A:bx} {Q:Q0c} {E:Q0c},Q (.bool (zE p.1 q.1)) ⟨hh,g,dw,tk,os⟩->ax (ay prog w) A (richCompare .Lt (vT p) (vT q)) Q E ⟨hh,g,dw,tk,os⟩:=λh=>lt_str h
    wp_walk using il hb,il hl
    rw[g1,g2]
    wp_walk using step
    exact h
theorem XM(l b:ai)(ps qs:List (ak×ic))(n n2:Nat)(dd dd2:Option ai)(sl sl2:Array (Option aj)):
  Meets (Builtin.«list.__lt__» ⟨[.ref l,.ref b],[]⟩) λA R s =>
   s.heap.get? l=aa ⟨.type "list",dd,.seq (ps.map vT).toArray n,sl⟩/\s.heap.get? b=aa ⟨.type "list",dd2,.seq (qs.map vT).toArray n2,sl2⟩/\R (.ok (.ret (.bool (sE zE (ps.map (·.1)) (qs.map (·.1)))))) s:=by
 intro prog w A R s h;obtain⟨hh,g,dw,tk,os⟩:=s;obtain⟨hl,hb,h⟩:=h;have f9:=a4o
 wp_walk using il hb,il hl
 refine⟨nq zb _,kg a1h ?_⟩;rw[(lr zb _)];exact QG l b n n2 dd dd2 sl sl2 ps qs ps qs 0 rfl rfl (iz _) (iz _) prog w A R _ ⟨hl,hb,h⟩
section
variable{X:Cx}
def rS(I:L2.Inv X pins σ H s)(hp:H p=aa (.lst (m.map V.str)))(hq:H q=aa (.lst (n.map V.str)))(hu:A.units<cf):lj A s (.ref p) (.ref q) (Zv (m=n))/\Kc A s (.ref p) (.ref q) (sE zE m n):=by
 obtain⟨z,its,k,r,hl,e⟩:=I.uR hp;obtain⟨z2,its2,k2,r2,hl2,e2⟩:=I.uR hq;rw[a_] at hl hl2;obtain⟨ps,ep,f1⟩:=kO r;obtain⟨qs,eq,f2⟩:=kO r2;subst ep eq
 constructor
 .by_cases hpq:p=q
  .subst hpq;rw[hp] at hq;have:m=n:=by have h:=HO.lst.inj (dg hq);exact(a2B (λa b h=>V.str.inj h)).1 h
   rw[Zx this];exact qu _
  .refine Fc hpq ?_;have L1:s.heap.IsList p (ps.map vT).toArray:=⟨_,e,rfl,k,rfl⟩;have L2':s.heap.IsList q (qs.map vT).toArray:=⟨_,e2,rfl,k2,rfl⟩;have lm:m.length=ps.length:=by rw[<- f1,a_]
   have ln:n.length=qs.length:=by rw[<- f2,a_]
   by_cases hs:ps.length=qs.length
   .have R:=a3x (A:=A) (e:=λj=>Zv (m[j]?=n[j]?)) L1 L2' (by simp;omega) hu (λj j1 j2=>?_)
    .have ev:(bu (ps.map vT).toArray.size).all (λj=>Zv (m[j]?=n[j]?))=Zv (m=n):=by
      rw[gx];simp only[gw,dm,decide_eq_true_eq,cu,a_]
      constructor
      .intro hj;apply nc;intro j;by_cases hjl:j<ps.length
       .exact hj j hjl
       .rw [gk (by omega),gk (by omega)]
      .intro hj j _;rw[hj]
     rw[ev] at R;exact R
    .have j1:j<ps.length:=by simpa using j1
     have j2:j<qs.length:=by simpa using j2
     have key:=Fb (A:=A.in1) (s:=s) (ps[j]).1 (ps[j]).2 (qs[j]).1 (qs[j]).2;have ee:((ps[j]).1 == (qs[j]).1)=Zv (m[j]?=n[j]?):=by rw[<- f1,<- f2,ck,ck,bc j1,bc j2];simp[Hj]
     rw[<- ee];simpa[vT] using key
   .have R:=a3w (A:=A) L1 L2' (by simp;omega) hu;rw[Zy (λz=>hs (by rw[<- lm,<- ln,z]))];exact R
 .intro prog w E Q h;refine richCompare_meets_room (op:=.Lt) ⟨_,e,rfl⟩ ⟨_,e2,rfl⟩ Fg a1z (a1F _ _) (XM p q ps qs k k2 af af #[] #[]) ⟨e,e2,?_⟩ hu;rw[f1,f2];exact⟨(λz=>by cases z),h⟩
end
end L9
namespace L4
open PySem.Spec PyProof.Rows L2 L3
theorem NC:∀{ss:Q0g} {us:Q0f},Vals (ss.map V.str) us->StrsAre us ss
 |[],_,.nil=>.nil
 |a::ss,_,.cons r t=>by obtain⟨k,rfl⟩:=r;exact .cons a k (NC t)
theorem BZ:∀{us:Q0f} {ss:Q0g},StrsAre us ss->Vals (ss.map V.str) us
 |_,_,.nil=>.nil
 |_,_,.cons x t h=>.cons ⟨t,rfl⟩ (BZ h)
theorem ND:∀(p:ak) (l:Q0g),risingS p l=ae->UpB zE (p::l)
 |p,[],_=>Gs ..
 |p,x::r,h=>by
  have h:(!ltCps x.cps.toList p.cps.toList&&risingS x r)=ae:=h;rw[fz,Ab,ltCps_eq] at h;have u:=ND x r h.2;refine ft.2 ⟨λy hy=>?_,u⟩;rcases cb.1 hy with rfl|hy
  .exact h.1
  .exact kX.tr y x p ((ft.1 u).1 y hy) h.1
theorem XN(h:sortedS l=ae):UpB zE l:=by
 cases l with
 |nil=>exact .nil
 |cons p l=>exact ND p l h
section
variable{X:Cx}
def XO:List V->Hp->VK->Prop:=λxs H Q=>∃a ss,xs=[.ref a]/\H a=aa (.lst (ss.map V.str))/\ss.length<64 /\∀p,H p=af->Q (.ref p) (upd H p (.lst ((jC zE ss).map V.str)))
def EC:eT X (.builtin "sorted") XO:=by
 intro pins s σ H xs us Q I r h;obtain⟨a,ns,rfl,ha,fq,q⟩:=h;obtain⟨u,rfl,ru⟩:=vals1 r;cases ru;obtain⟨its,rv,p,hz⟩:=I.list (dW.of ha);have hlen:its.length=ns.length:=by have:=rv.length;rw[a_] at this;exact this.symm
 refine sorted_strs p.isList (NC rv) (by omega) λout ns' a1 a2 a3=>?_;have hfr:H (s.heap.objs.size+1)=af:=I.hok.fresh (mv _);obtain⟨e1,hat⟩:=Fo s.heap its out;have en:ns'=jC zE ns:=u7 kX (a2.trans (gJ ns).symm) (XN a3) (qB kX ns);subst en;have I1:Inv X pins σ (upd H (s.heap.objs.size+1) (.lst ((jC zE ns).map V.str))) {s with heap:=sortedAll s.heap its out} :=
  I.laid (t':=s.toks) (λb o e=>Fn e) (mv _) ⟨by rw[a_,a2.length_eq,gr];omega,out.toList,e1,BZ a1,by simpa[seqObj] using hat⟩
 exact⟨.ref _,_,I1,rfl,q _ hfr⟩
theorem kP{K:aq}{S:ai->Prop}{H:Hp}:∀{ss:Q0g} {xs:List V},aP K S H (ss.map D.str) xs↔xs=ss.map V.str
 |[],xs=>by simp only[j_,aP]
 |a::ss,xs=>by
  simp only[bt,aP,Dn]
  constructor
  .rintro ⟨v,r,rfl,rfl,h⟩;rw[kP.1 h]
  .rintro rfl;exact⟨_,_,rfl,rfl,kP.2 rfl⟩
def Wm:F1:=λds Q=>∃d,pA ds=aa d/\Q d
def XQ{K:aq}:C3F K XO Wm:=by
 intro S H xs ds Q3 Q fc hd ⟨d,e,q⟩ k;unfold pA at e;split at e
 .rename_i es;obtain⟨ss,e1,e⟩:=bnd e;by_cases fq:ss.length<64
  .rw [Z_ fq] at e;cases e;have e1:=n5 e1;subst e1;obtain⟨v,r,rfl,h1,h2⟩:=hd.bH;simp only[aP] at h2;subst h2;simp only[Dn] at h1;obtain⟨a,ys,rfl,ha,sa,da⟩:=h1;have e2:=kP.1 da;subst e2;exact⟨a,ss,rfl,ha,fq,λp hp=>k p _ _ _ hp aQ (aO hp) (kP.2 rfl) q⟩
  .rw [Zz fq] at e;cases e
 .cases e
def G8{p pos:bh}{e:ar}{t:AF}(hm:X.mg "sorted"=af)(ha:zH X [e] t)(hg:Gl X "sorted":=by rfl)(he:Zs X e []:=by rfl):fT X (.Call (.Name "sorted" p) [e] [] pos) (bX pA t):=cF (vN EC XQ uv hg hm ha (by decide) (by decide) he (by rfl)) (yQ λds d Q e q=>⟨d,e,q⟩)
end
open PySem.W Att
section
variable{X:Cx}
def XR(X:Cx):List V->Hp->VK->Prop:=λxs H Q=>∃(a:ai) (ys:List V) (lt:Nat->Nat->Bool),xs=[.ref a]/\H a=aa (.lst ys)/\2<=ys.length/\ys.length<64/\tS lt/\NA X ys.length lt ys H /\
 ∀ix:List Nat,ix.Perm (bu ys.length)->(∀i j:Nat,i<j->j<ys.length->lt (ix.getD j 0) (ix.getD i 0)=ag) ->∀q,H q=af->Q (.ref q) (upd H q (.lst (ix.map λi=>ys.getD i .non)))
def ED:eT X (.builtin "sorted") (XR X):=by
 intro pins s σ H xs us Q I r h;obtain⟨a,ys,lt,rfl,ha,h2,fq,O,ask,q⟩:=h;obtain⟨u,rfl,ru⟩:=vals1 r;cases ru;obtain⟨its,rv,pl,hz⟩:=I.list (dW.of ha);obtain⟨m,hns,_⟩:=id I.loc;have hn:its.length=ys.length:=(kN rv).symm;refine kat_sorted (h₀:=yD s.heap) (L:=X.env.locals) (m:=m) (news:=ledger s.heap X.env.locals s.heap.objs.size) (vs:=its) (UW hns) (λp hp=>?_) pl.isList (by omega) (by omega) λD e1 h' F' N' hD=>?_
 .obtain ⟨x,o⟩:=p;obtain⟨n1,_,e⟩:=eX.mp hp;exact⟨e,n1,pO _ _⟩
 have nD:D≠X.env.locals:=(N' _ (cn ..)).2.1;have dead:s.heap.get? D=af:=by
  cases e:s.heap.get? D with
  |none=>rfl
  |some o=>exact Zw (hD (D,o) (eX.mpr ⟨nD,fv (b_ e),e⟩)) (ik _)
 have hfr:H D=af:=by
  cases e:H D with
  |none=>rfl
  |some u =>
   obtain⟨o,eo⟩:=c6.live (I.hok D u e);rw[dead] at eo;cases eo
 have neD:∀{b:ai} {o:aw},s.heap.get? b=aa o->b≠D:=λ{b o} e z=>by rw[z,dead] at e;cases e
 have PV:∀{b:ai} {u:HO},H b=aa u->b≠D:=λ{b u} e z=>by rw[z,hfr] at e;cases e
 -- the old objects stand,whatever lies at D
 have step:∀(g:bb) (H':Hp),(∀b,b≠D->H' b=H b)->(∀b o,b≠X.env.locals->s.heap.get? b=aa o->g.get? b=aa o)->g.Ns X.env.locals m->(∀u,H' D=aa u->L2.c6 X.prog X.w H' g D u)->L2.Inv X pins σ H' {s with heap:=g}:=λg H' eH kp ns hd=>by
  refine I.step (s:=s) (h':=g) (g':=s.gens) (t':=s.toks) (d':=s.drawn) (ch:=[]) (λb hb=>nomatch hb) (λb o hb _ _ e _=>kp b o hb e) (λb o hb _ _ e _=>⟨o.slots,kp b o hb e⟩) (λb o _ e n=>by rw[eH b (neD e)];exact n) (λb o _ e=>?_)
   (λb xs e=>by rw[eH b (PV e)];exact e) (λb o u e=>by rw[eH b (PV e)];exact e) (λb ps e=>by rw[eH b (PV e),e]) (λm2 hm2=>?_) ?_ I.bare
  .by_cases hb:b=X.env.locals
   .subst hb;obtain⟨o2,_,_,e2,_⟩:=ns;exact⟨o2,e2⟩
   .exact ⟨o,kp b o hb e⟩
  .have:m2=m:=by
    obtain⟨oa,ea,pa,h1,h2,_,h3⟩:=hm2;obtain⟨ob,eb,pb,k1,k2,_,k3⟩:=hns;rw[h1] at k1;cases k1;rw[h2] at k2;cases k2
    funext x
    rw[<- h3,<- k3]
   subst this;exact ns
  .intro b u e;by_cases hb:b=D
   .subst hb;exact hd u e
   .rw [eH b hb] at e;refine(I.hok b u e).stay (λc v hc ev=>kp c v (λz=>?_) ev) (λc ec=>by rw[eH c (PV ec)];exact ec) (λc ys ec=>by rw[eH c (PV ec)];exact ec) λc o u ec=>by rw[eH c (PV ec)];exact ec
    subst z;rcases hc with hc|hc
    .rw [<- hc,I.free] at e;cases e
    .rw [I.free] at hc;cases hc
 have I':L2.Inv X pins σ H {s with heap:=h' }:=step h' H (λ_ _=>rfl) (λb o hb e=>(N' (b,o) (dq _ (eX.mpr ⟨hb,fv (b_ e),e⟩))).1) F'.ns λu e=>by rw[hfr] at e;cases e
 obtain⟨κ,kk,ka⟩:=ask _ _ _ its I' rv;refine kk _ ?_;rw[hn];refine DX (n:=ys.length) (lt:=lt) (λi j C hi hj hC=>ka i j C hi hj hC) _ _ (GY (by omega) λ_=>trivial) ?_;obtain⟨sp,su⟩:=MW O (n:=ys.length) (by omega);generalize told lt (qq ys.length)=pp at sp su;refine a01 F' N' (a0Z λp hp z=>ik _ (z▸hD p hp)) λh'' c F'' N''=>?_;have wj:=(N'' (D,_) (cn ..)).1;have hlp:pp.toList.Perm (bu ys.length):=by simpa using sp.toList
 have hix:∀i∈pp.toList,i<its.length:=λi hi=>by rw[hn];simpa using hlp.mem_iff.mp hi
 refine⟨.ref D,upd H D (.lst (pp.toList.map λi=>ys.getD i .non)),?_,rfl,q pp.toList hlp (λi j hij hj=>?_) D hfr⟩
 .refine step h'' _ (λb hb=>aV hb) (λb o hb e=>(N'' (b,o) (dq _ (eX.mpr ⟨hb,fv (b_ e),e⟩))).1) F''.ns λu e=>?_;rw[aQ] at e;cases e;exact⟨by rw[a_,hlp.length_eq,kq,gr];omega,_,c,BY rv _ hix,wj⟩
 .have:=su i j hij hj;rw[gA,gA] at this;simpa using this
end
end L4
namespace L9
open PySem.SeqAt PySem.Spec PyProof.Rows L2 L3 L4 L5 PySem.W Att
def tW(H:Hp)(x:Lk)(v:V):Prop:=∃a p q,v=.ref a/\H a=aa (.tup [.ref p,.ref q])/\H p=aa (.lst (x.1.map V.str))/\H q=aa (.lst (x.2.map V.str))
section
variable{X:Cx}{pins:Q0b}{σ:L2.St}{H:Hp}{s:ao}
def NF{m n:Q0g}(h:aa (HO.lst (m.map V.str))=aa (HO.lst (n.map V.str))):m=n:=(a2B (λa b h=>V.str.inj h)).1 (HO.lst.inj (dg h))
def pU(I:L2.Inv X pins σ H s)(h:tW H x v)(r:L2.RelV v u):∃a p q,u=.ref a/\H a=aa (.tup [.ref p,.ref q])/\s.heap.IsTuple a #[.ref p,.ref q]/\H p=aa (.lst (x.1.map V.str))/\H q=aa (.lst (x.2.map V.str)):=by obtain⟨a,p,q,rfl,ha,hp,hq⟩:=h;cases r;obtain⟨t1,v1,P1,_⟩:=I.tuple (fB.of ha);obtain⟨x0,x1,rfl,r0,r1⟩:=vals2 v1;cases r0;cases r1;exact⟨a,p,q,rfl,ha,P1,hp,hq⟩
def Ck{x y:Lk}{v v2:V}{u u2:aj}{A:bx}(I:L2.Inv X pins σ H s)(h:tW H x v)(h2:tW H y v2)(r:L2.RelV v u)(r2:L2.RelV v2 u2)(hu:A.units+1<cf):RcAt A s u u2 (Zv (x=y)):=by
 obtain⟨a,p,q,rfl,ha,ta,hp,hq⟩:=pU I h r;obtain⟨b,p2,q2,rfl,hb,tb,hp2,hq2⟩:=pU I h2 r2;have e0:=(rS I hp hp2 (A:=A.in1) (by omega)).1;have e1:=(rS I hq hq2 (A:=A.in1) (by omega)).1;have R:=a1a (A:=A) (e:=λj=>if j=0 then Zv (x.1=y.1) else Zv (x.2=y.2)) ta tb (by omega) (λj j1 j2=>by
  match j,j1 with
  |0,_=>exact e0
  |1,_=>exact e1)
 have ev:((bu (min (#[c_ p,.ref q]:Array aj).size (#[c_ p2,.ref q2]:Array aj).size)).all (λj=>if j=0 then Zv (x.1=y.1) else Zv (x.2=y.2))&&(#[c_ p,.ref q]:Array aj).size == (#[c_ p2,.ref q2]:Array aj).size)=Zv (x=y):=by show((bu 2).all _&&ae)=_;rw[show bu 2=[0,1] from rfl];simp only[mj,List.all_nil,Hi,if_true,if_false,Nat.one_ne_zero];rw[gx];simp[a2b]
 rw[ev] at R;exact R
def Ro{x y:Lk}{v v2:V}{u u2:aj}{A:bx}(I:L2.Inv X pins σ H s)(h:tW H x v)(h2:tW H y v2)(r:L2.RelV v u)(r2:L2.RelV v2 u2)(hu:A.units+1<cf):lj A s u u2 (Zv (x=y)):=by
 have R:=Ck I h h2 r r2 hu;obtain⟨a,p,q,rfl,ha,ta,hp,hq⟩:=pU I h r;obtain⟨b,p2,q2,rfl,hb,tb,hp2,hq2⟩:=pU I h2 r2;by_cases e:a=b
 .subst e;rw[ha] at hb;cases hb;rw[hp] at hp2;rw[hq] at hq2;rw[Zx (km (NF hp2) (NF hq2))];exact qu _
 .exact Fc e R
def Wl(I:L2.Inv X pins σ H s)(hp:H p=aa (.lst (m.map V.str)))(hq:H q=aa (.lst (n.map V.str)))(hu:A.units<cf)(h:Q (sE zE m n) s):ax (ay X.prog X.w) A (oneLt' ae (.ref p) (.ref q)) Q E s:=by obtain⟨z,its,k,r,hl,e⟩:=I.uR hp;obtain⟨z2,its2,k2,r2,hl2,e2⟩:=I.uR hq;obtain⟨ps,ep,f1⟩:=kO r;obtain⟨qs,eq,f2⟩:=kO r2;subst ep eq;rw[oneLt'_eq];simp only[if_true];refine av (wpAny_cRoomFor hu (av (wpAny_callSpecialIfBound?_slot ⟨_,e,rfl⟩ Fg ?_)));refine oz Fg ⟨_,e,rfl⟩ a1z (a1F _ _) (XM p q ps qs k k2 af af #[] #[]) ⟨e,e2,?_⟩;rw[f1,f2];exact mn h
theorem XS(I:L2.Inv X pins σ H s):∀{xs:List Lk} {ys:List V} {us:Q0f},gg (tW H) xs ys->Vals ys us ->∃fs:Q0f,fs.length=us.length/\(∀v∈fs,Looks (ay X.prog X.w) s.heap (typeOf v) (.type "list"))/\KatTups s.heap us fs
 |_,_,_,.nil,.nil=>⟨[],rfl,λv hv=>(nomatch hv),KatTups.nil⟩
 |_,_,_,.cons h t,.cons r t2=>by
  obtain⟨fs,f1,f2,f3⟩:=XS I t t2;obtain⟨a,p,q,rfl,ha,⟨o,e,c,n,d⟩,hp,hq⟩:=pU I h r;obtain⟨z,its,k,_,_,e2⟩:=I.uR hp;refine⟨.ref p::fs,by simp[f1],λv hv=>?_,a00 e c d rfl f3⟩;rcases cb.1 hv with rfl|hv
  .exact (Looks.ld e2).andThen .now
  .exact f2 v hv
theorem yZ{α β:Type}{F:α->β->Prop}:∀{xs:List α} {ys:List β} {i:Nat},gg F xs ys ->∀(h:i<xs.length),∃y,ys[i]?=aa y/\F xs[i] y
 |_,_,0,.cons h t,_=>⟨_,rfl,h⟩
 |_,_,i+1,.cons h t,hi=>by obtain⟨y,e,f⟩:=yZ t (i:=i) (by simpa using hi);exact⟨y,e,f⟩
def aAw{xs:List Lk}{ys:List V}(h:gg (tW H) xs ys)(h2:2<=ys.length)(hu:X.A.units+5<cf):NA X ys.length (λi j=>HG (xs.getD i ([],[])) (xs.getD j ([],[]))) ys H:=by
 intro pins σ s us I r;obtain⟨fs,f1,f2,f3⟩:=XS I h r;have hl:=h.length;have hl2:=kN r;refine⟨_,λQ q=>kat_kind (T:=.type "list") f3 (by omega) f2 (by decide) q,λi j C hi hj hC=>?_⟩;obtain⟨v,ev,lv⟩:=yZ h (i:=i) (by omega);obtain⟨v2,ev2,lv2⟩:=yZ h (i:=j) (by omega);obtain⟨u,eu,ru⟩:=r.get ev;obtain⟨u2,eu2,ru2⟩:=r.get ev2;obtain⟨a,p,q,rfl,ha,⟨o,e,c,n,d⟩,hp,hq⟩:=pU I lv ru;obtain⟨b,p2,q2,rfl,hb,⟨o2,e2,c2,n2,d2⟩,hp2,hq2⟩:=pU I lv2 ru2;have gi:xs.getD i ([],[])=xs[i]:=by rw[fm,bc (by omega)];rfl
 have gj:xs.getD j ([],[])=xs[j]:=by rw[fm,bc (by omega)];rfl
 have hC:C (HG (xs.getD i ([],[])) (xs.getD j ([],[]))) s:=hC;rw[gi,gj] at hC;generalize xs[i]=x at *;generalize xs[j]=y at *;unfold um;rw[fm,fm,eu,eu2];refine kat_lt e d e2 d2 ?_;have u2:X.A.in1.in1.units=X.A.units+2:=rfl;have t0:=rS I hp hp2 (A:=X.A.in1.in1) (by omega);have t1:=rS I hq hq2 (A:=X.A.in1.in1) (by omega);unfold HG AE at hC;refine Ex (t0.1 _ _ _ _ (kat_go (λe=>?_) (λe=>?_)))
 .rw [Z_ (by simpa using e)] at hC;refine Ew (Ex (t1.1 _ _ _ _ (kat_go (λe=>?_) (λe=>?_))))
  .have e:x.2=y.2:=by simpa using e
   rw[e,(B3 kX).HF] at hC;exact Ew (kat_nil hC)
  .exact kat_no (kat_one _ _ (t1.2 _ _ _ _ (show W.BoolBack C (pf _) s from hC)))
 .rw [Zz (by simpa using e)] at hC;exact kat_no (Wl I hp hp2 (by omega) hC)
end
section
variable{X:Cx}
def EE(h:NR d=aa x):d=l8 x:=by
 unfold NR at h;split at h
 .rename_i a b;obtain⟨m,e1,h⟩:=bnd h;obtain⟨n,e2,rfl⟩:=lJ h;unfold l8;rw[n5 e1,n5 e2]
 .cases h
theorem rT:∀{ds:List D} {xs:List Lk},oK ds=aa xs->ds=xs.map l8
 |[],xs,h=>by cases h;rfl
 |d::ds,xs,h=>by unfold oK at h;obtain⟨x,e1,h⟩:=bnd h;obtain⟨ys,e2,rfl⟩:=lJ h;rw[bt,EE e1,rT e2]
def XT{K:aq}{S:ai->Prop}{H:Hp}{x:Lk}{v:V}(h:Dn K S H (l8 x) v):tW H x v:=by unfold l8 at h;simp only[Dn] at h;obtain⟨a,xs,rfl,ha,da⟩:=h;obtain⟨u0,u1,rfl,b0,b1⟩:=Kb da;simp only[Dn] at b0 b1;obtain⟨l0,z0,rfl,g0,_,f0⟩:=b0;obtain⟨l1,z1,rfl,g1,_,f1⟩:=b1;rw[kP.1 f0] at g0;rw[kP.1 f1] at g1;exact⟨a,l0,l1,rfl,ha,g0,g1⟩
theorem EG{K:aq}{S:ai->Prop}{H:Hp}:∀{xs:List Lk} {ys:List V},aP K S H (xs.map l8) ys->gg (tW H) xs ys
 |[],ys,h=>by simp only[j_,aP] at h;subst h;exact .nil
 |x::xs,ys,h=>by obtain⟨v,r,rfl,h1,h2⟩:=aP.bH h;exact .cons (XT h1) (EG h2)
def XU(X:Cx):List V->Hp->VK->Prop:=λxs H Q=>GO xs H Q\/DZ xs H Q\/XR X xs H Q
def EH:eT X (.builtin "sorted") (XU X):=by
 intro pins s σ H xs us Q I r h;rcases h with h|h|h
 .exact lI pins s σ H xs us Q I r h
 .exact rM pins s σ H xs us Q I r h
 .exact ED pins s σ H xs us Q I r h
def Wk:F1:=λds Q=>∃d,mE ds=aa d/\Q d
def map_getD{α:Type}(xs:List α)(z:α):(bu xs.length).map (λi=>xs.getD i z)=xs:=by
 refine nc λi=>?_;rw[ck];by_cases h:i<xs.length
 .rw [mf h];simp[h]
 .rw [gk (by simpa using h),gk (by simpa using h)];rfl
def XW(hu:X.A.units+5<cf):C3F X.K (XU X) Wk:=by
 intro S H xs ds Q3 Q fc hd ⟨d,e,q⟩ k;unfold mE at e;split at e
 .rename_i es;obtain⟨T,e1,e⟩:=bnd e;by_cases fq:T.length<64
  .rw [Z_ fq] at e;cases e;have e1:=rT e1;subst e1;obtain⟨v,r,rfl,h1,h2⟩:=hd.bH;simp only[aP] at h2;subst h2;simp only[Dn] at h1;obtain⟨a,ys,rfl,ha,sa,da⟩:=h1;have hl:T.length=ys.length:=by simpa using da.len
   match T,ys,hl,da,ha,fq,q with
   |[],[],hl,da,ha,fq,q =>
    refine .inl ⟨a,[],rfl,ha,by decide,λns' hp _ p hf=>?_⟩;have:ns'=[]:=Gr.mp hp;subst this;exact k p [] _ [] hf aQ (aO hf) aP.nil q
   |[t],[y],hl,da,ha,fq,q =>
    exact .inr (.inl ⟨a,y,rfl,ha,λl hf=>k l [y] _ [l8 t] hf aQ (aO hf) (aP.fits ((Fits.fresh hf).trans (.same (aO hf))) _ _ da) q⟩)
   |t1::t2::ts,ys,hl,da,ha,fq,q =>
    generalize hT:t1::t2::ts=T at *;have h2:2<=ys.length:=by rw[<- hl,<- hT];simp
    refine .inr (.inr ⟨a,ys,λi j=>HG (T.getD i ([],[])) (T.getD j ([],[])),rfl,ha,h2,by omega,⟨λx y a=>wH.as _ _ a,λx y z a b=>wH.tr _ _ _ b a⟩,aAw (EG da) h2 hu,λix hp hs l hf=>?_⟩);rw[<- hl] at hp hs;have hlen:ix.length=T.length:=by rw[hp.length_eq,kq]
    have es:jC HG T=ix.map (λi=>T.getD i ([],[])):=by
     refine u7 wH ((gJ T).trans ?_) (qB wH T) ?_
     .have:=(hp.map λi=>T.getD i ([],[])).symm;rw[map_getD] at this;exact this
     .rw [UpB,jw,rm];intro i j hi hj hij;have:=hs i j hij (by omega);simpa[hi,hj] using this
    have dn:∀jx:List Nat,(∀i∈jx,i<T.length)->aP X.K S H (jx.map λi=>l8 (T.getD i ([],[]))) (jx.map λi=>ys.getD i .non):=by
     intro jx
     induction jx with
     |nil=>intro _;exact aP.nil
     |cons i jx ih =>
      intro YD;have hi:=YD i cn;refine aP.cons ?_ (ih λx hx=>YD x (dq _ hx));obtain⟨v,ev,dv⟩:=da.get (i:=i) (d:=l8 T[i]) (by rw[ck,bc hi];rfl);dsimp only;rw[fm,fm,ev,bc hi];exact dv
    refine k l _ _ (ix.map λi=>l8 (T.getD i ([],[]))) hf aQ (aO hf) (aP.fits ((Fits.fresh hf).trans (.same (aO hf))) _ _ (dn ix λi hi=>by simpa using hp.mem_iff.mp hi)) ?_;rw[es,cc] at q;exact q
  .rw [Zz fq] at e;cases e
 .cases e
def G9(hu:X.A.units+9<cf)(hm:X.mg "sorted"=af)(ha:zH X [e] t)(hg:Gl X "sorted":=by rfl)(he:Zs X e []:=by rfl):fT X (.Call (.Name "sorted" p) [e] [] pos) (bX mE t):=cF (vN EH (XW (by omega)) uv hg hm ha (by decide) (by decide) he (by rfl)) (yQ λds d Q e q=>⟨d,e,q⟩)
def Cj:V->V->Hp->VK->Prop:=λx y H Q=>∃a b,tW H a x/\tW H b y/\Q (.bl (Zv (a=b))) H
def XX:V->V->Hp->VK->Prop:=λx y H Q=>∃p q xs ys a b,x=.ref p/\y=.ref q/\H p=aa (.lst xs)/\H q=aa (.lst ys)/\gg (tW H) a xs/\gg (tW H) b ys/\Q (.bl (!Zv (a=b))) H
def aAx(hu:X.A.units+1<cf):kR X (compareOp .Eq) Cj:=by intro pins s σ H x y v u Q I rx ry ⟨a,b,h1,h2,q⟩;exact Ck I h1 h2 rx ry hu _ _ _ _ ⟨.bl _,H,I,rfl,q⟩
def XY(hu:X.A.units+2<cf):kR X (compareOp .NotEq) XX:=by
 intro pins s σ H x y v u Q I rx ry ⟨p,p2,xs,ys,a,b,ex,ey,hp,hq,h1,h2,q⟩;subst ex ey;cases rx;cases ry;obtain⟨its,rv,pl,hz⟩:=I.list (dW.of hp);obtain⟨its2,rv2,pl2,hz2⟩:=I.list (dW.of hq);have l1:=h1.length;have l2:=h2.length;have l3:=kN rv;have l4:=kN rv2;have u1:X.A.in1.units=X.A.units+1:=rfl;by_cases hs:its.length=its2.length
 .have R:=RcNeAt.lists (A:=X.A) (e:=λj=>Zv (a[j]?=b[j]?)) pl.isList pl2.isList (by simpa using hs) (by omega) (λj j1 j2=>by
   have j1:j<its.length:=by simpa using j1
   have j2:j<its2.length:=by simpa using j2
   obtain⟨v,ev,lv⟩:=yZ h1 (i:=j) (by omega);obtain⟨v2,ev2,lv2⟩:=yZ h2 (i:=j) (by omega);obtain⟨u,eu,ru⟩:=rv.get ev;obtain⟨u2,eu2,ru2⟩:=rv2.get ev2;rw[bc j1] at eu;rw[bc j2] at eu2;cases eu;cases eu2;have E:=Ro I lv lv2 ru ru2 (A:=X.A.in1) (by omega);have ee:Zv (a[j]=b[j])=Zv (a[j]?=b[j]?):=by rw[bc (by omega),bc (by omega)];simp
   rw[ee] at E;simpa using E)
  have ev:(bu its.toArray.size).all (λj=>Zv (a[j]?=b[j]?))=Zv (a=b):=by
   rw[gx];simp only[gw,dm,decide_eq_true_eq,cu]
   constructor
   .intro hj;apply nc;intro j;by_cases hjl:j<its.length
    .exact hj j hjl
    .rw [gk (by omega),gk (by omega)]
   .intro hj j _;rw[hj]
  rw[ev] at R;exact R _ _ _ _ ⟨.bl _,H,I,rfl,q⟩
 .have R:=RcNeAt.lists_lengths (A:=X.A) pl.isList pl2.isList (by simpa using hs) (by omega);rw[Zy (λz=>hs (by rw[z] at l1;omega))] at q;exact R _ _ _ _ ⟨.bl _,H,I,rfl,q⟩
def wq(m:D->D->Option D):F2:=λx y Q=>∃d,m x y=aa d/\Q d
def aAy{K:aq}:O3 K Cj (wq AG):=by intro S H x y dx dy Q3 Q fc hx hy ⟨d,e,q⟩ k;obtain⟨a,e1,e⟩:=bnd e;obtain⟨b,e2,rfl⟩:=lJ e;rw[EE e1] at hx;rw[EE e2] at hy;exact⟨a,b,XT hx,XT hy,k _ H _ (Same.refl H) (by simp only[Dn]) q⟩
def XZ{K:aq}:O3 K XX (wq pB):=by
 intro S H x y dx dy Q3 Q fc hx hy ⟨d,e,q⟩ k;unfold pB at e;split at e
 .obtain ⟨a,e1,e⟩:=bnd e;obtain⟨b,e2,rfl⟩:=lJ e;have e1:=rT e1;have e2:=rT e2;subst e1 e2;simp only[Dn] at hx hy;obtain⟨p,xs,rfl,hp,_,da⟩:=hx;obtain⟨p2,ys,rfl,hq,_,dc⟩:=hy;exact⟨p,p2,xs,ys,a,b,rfl,rfl,hp,hq,EG da,EG dc,k _ H _ (Same.refl H) (by simp only[Dn]) q⟩
 .cases e
def aAz(x y d:D)(e:AG x y=aa d):∃b,d=.bl b:=by obtain⟨a,_,e⟩:=bnd e;obtain⟨b,_,rfl⟩:=lJ e;exact⟨_,rfl⟩
def X0(x y d:D)(e:pB x y=aa d):∃b,d=.bl b:=by
 unfold pB at e;split at e
 .obtain ⟨a,_,e⟩:=bnd e;obtain⟨b,_,rfl⟩:=lJ e;exact⟨_,rfl⟩
 .cases e
def tf2(m:D->D->Option D):Tells (wq m) m:=λx y d Q e q=>⟨d,e,q⟩
section
variable{a b:ar}{fa fb:EF}{pos:bh}
def Xj(hu:X.A.units+9<cf)(ha:cD X a fa)(hb:cD X b fb):uU X (.Compare a [.Eq] [b] pos) (tV (aE AG fa fb)):=cT (lR (aAx (by omega)) aAy ha hb (hJ _)) (lT (tf2 _) aAz)
def aBA(hu:X.A.units+9<cf)(ha:cD X a fa)(hb:cD X b fb):uU X (.Compare a [.NotEq] [b] pos) (tV (aE pB fa fb)):=cT (lR (XY (by omega)) XZ ha hb (hJ _)) (lT (tf2 _) X0)
end
end
end L9
namespace L4
open PySem.SeqAt PySem.Spec PyProof.Rows L2 L3
section
variable{X:Cx}
def aBB(K:aq):V->List V->Hp->VK->Prop:=λx xs H Q=>∃(a:ai) (ns:Q0e) (k:Int),x=.ref a/\xs=[.int k]/\dW K H a (ns.map V.int)/\k∈ns/\Q (.int ((ns.idxOf k:Nat):Int)) H
def QH:MtR X "list.index" (aBB X.K):=by
 intro pins s σ H x xs v us Q I rx r h;obtain⟨a,ns,k,rfl,rfl,ha,hk,q⟩:=h;obtain⟨u,rfl,t,rfl⟩:=vals1 r;cases rx;obtain⟨its,rv,p,hz⟩:=I.list ha;obtain⟨o,n,ho,hc,hd,hq⟩:=id p;obtain⟨cls,dd,data,sl⟩:=o;simp only at hc hd hq;subst hc hd hq;have hb:bg<2^62:=by decide
 have hlen:ns.length=its.length:=by have:=rv.length;rwa [a_] at this
 have hj:ns.idxOf k<ns.length:=a2G.2 hk;have at':∀(m:Nat) (hm:m<its.length),isI k its[m]=(ns[m]'(by omega) == k):=λm hm=>by obtain⟨b,w,e1,e2⟩:=nB rv m its[m] (bc hm);rw[e2];rw[bc (by omega)] at e1;have e1:=dg e1;show(b == k)=_;rw[<- e1]
 refine oz a1n ⟨_,ho,rfl⟩ PySem.F.entry_list_index (PySem.F.args_list_index_2 _ _) (list_indexAt a its.toArray n af sl (.int k t) (isI k) (ns.idxOf k) (by simpa[hlen] using hj) (by rw[a_] at hz;omega) ?_ λm hm hlt=>?_) ⟨ho,λy hy=>?_,?_⟩
 .have:=at' (ns.idxOf k) (by omega);simp only[a2H];rw[this];simpa using (a2J hj)
 .have hm:m<its.length:=by simpa using hm
  simp only[a2H];rw[at' m hm];have:=List.not_of_lt_findIdx (p:=λy=>y == k) (xs:=ns) (i:=m) hlt;simpa using this
 .have hy:y∈its:=by simpa using hy
  obtain⟨m,hm,e⟩:=qe hy;obtain⟨b,w,e1,e2⟩:=nB rv m y (by rw[bc hm,e]);rw[e2];exact a1d b w k t
 .exact ⟨.int ((ns.idxOf k:Nat):Int),H,I.tok _,⟨_,rfl⟩,q⟩
section
variable{o e:ar}{fo fe:EF}{apos cpos:bh}
def aBC(ho:cD X o fo)(he:cD X e fe)(hbase:attributeBase o "index" X.env (eval o X.env)=eval o X.env:=by rfl)
  (hfew:Zp X cpos e:=by rfl)
  (hline:Q0j apos cpos:=by rfl) (hs:Zs X e []:=by rfl) (hplain:(d_ cpos (au [] X.env)).any (·.1)=ag:=by rfl):
  cD X (.Call (.Attribute o "index" apos) [e] [] cpos) (aE RK fo fe) :=
 imp (D_ a1w a1n PySem.F.type_list_index QH ho (iF he pN hs) hbase hfew hline hs hplain) λσ H Q Rn=>by
  obtain⟨S,ρ,Q3,fc,sl,⟨d,ed,q3⟩,k⟩:=Rn;obtain⟨dx,ex,edA⟩:=bnd ed;obtain⟨dy,ey,edB⟩:=bnd edA;obtain⟨ds,i,rfl,rfl⟩:∃ds i,dx=.lst ds/\dy=.int i:=by cases dx<;>cases dy<;>first|exact⟨_,_,rfl,rfl⟩|cases edB
  clear ed edA
  .have ed:((intsOf ds).bind λns=>if ns.contains i=ae then aa (D.int ((ns.idxOf i:Nat):Int)) else af)=aa d:=edB
   clear edB
   obtain⟨ns,eb,ed⟩:=bnd ed;by_cases hc:ns.contains i=ae
   case neg=>rw[Zz hc] at ed;cases ed
   rw[Z_ hc] at ed;cases ed;refine⟨S,ρ,λz=>z=.lst ds,fc,sl,⟨_,ex,rfl⟩,λv H1 d1 s1 uM q1=>?_⟩;subst q1;simp only[Dn] at uM;obtain⟨a,xs,rfl,ha,sa,uM⟩:=uM;rw[ints_of eb] at uM;have ex2:=aP.ints.mp uM;subst ex2;refine⟨.inl ⟨rfl,_,dW.of ha⟩,S,ρ,λz=>z=.int i,bV fc s1,Sl.fits (.same s1) sl,⟨_,ey,rfl⟩,λv2 H2 d2 s2 DM q2=>?_⟩;subst q2;simp only[Dn] at DM;subst DM;exact⟨a,ns,i,rfl,rfl,dW.of (s2 _ _ ha),by simpa using hc,k _ H2 _ (s1.trans s2) (by simp only[Dn]) q3⟩
end
def Ci:F2:=λx y Q=>isD y=ae/\Q (.bl (!isD x))
def aBD{K:aq}:O3 K (λx y H Q=>y=.non/\Q (.bl (!Zv (x=.non))) H) Ci:=by
 intro S H x y dx dy Q3 Q fc hx hy hf k;obtain⟨h1,h2⟩:=hf;cases dy<;>try exact Zw (show ag=ae from h1) bz
 simp only[Dn] at hy;have e:Zv (x=V.non)=isD dx:=by
  cases dx<;>simp only[Dn] at hx
  all_goals first
   | (subst hx;simp[isD])
   | (obtain⟨a,xs,rfl,_⟩:=hx;simp[isD])
   | (obtain⟨a,_,xs,rfl,_⟩:=hx;simp[isD])
   | (obtain⟨a,rfl,_⟩:=hx;simp[isD])
 exact⟨hy,k _ H _ (Same.refl H) (by simp only[Dn];rw[e]) h2⟩
def QI:Tells Ci ES:=λx y d Q e q=>by
 unfold ES at e;split at e
 .rename_i h;cases e;refine⟨(by cases y<;>first|rfl|cases h),?_⟩;cases x<;>exact q
 .cases e
def Xi(x y d:D)(e:ES x y=aa d):∃b,d=.bl b:=by
 unfold ES at e;split at e
 .cases e;exact⟨_,rfl⟩
 .cases e
def Cg(ha:cD X a fa)(hb:cD X b fb):uU X (.Compare a [.IsNot] [b] pos) (tV (aE ES fa fb)):=cT (lR Z8 aBD ha hb (hJ _)) (lT QI Xi)
end
end L4
namespace L6
open PySem.Spec PyProof.Rows L2 L3 L4
section
variable{X:Cx}
def X1(hc:X.calm=ae)(hm:X.mg "len"=af)(hms:X.mg "set"=af)(ha:zH X [e] t)(hg:Gl X "len":=by rfl)(hgs:Gl X "set":=by rfl)
  (hs:Zs X e []:=by rfl) (he:au [.Call (.Name "set" p2) [e] [] pos2] X.env=(ag,eval (.Call (.Name "set" p2) [e] [] pos2) X.env)::au [] X.env:=by rfl):
  cD X (.Call (.Name "len" p) [.Call (.Name "set" p2) [e] [] pos2] [] pos) (bX p9 t) :=
 imp (mS QD hg hm a0O (iF (tJ (P6 hc) hgs hms a3N ha (by decide) (by decide) hs (by rfl)) pN he) (by decide) (by decide) he (by rfl)) λσ H Q Rm=>by
  obtain⟨S,ρ,Q3,fc,sl,⟨d,ed,q3⟩,k⟩:=Rm;obtain⟨ds,eds,ed⟩:=bnd ed;refine⟨S,ρ,λes=>es=ds,fc,sl,⟨_,eds,rfl⟩,λvs H1 es s1 d1 q1=>?_⟩;subst q1;unfold p9 at ed;split at ed
  case h_2=>cases ed
  obtain⟨ns,e1,ed⟩:=bnd ed;by_cases hl:ns.length<64
  case neg=>rw[Zz hl] at ed;cases ed
  rw[Z_ hl] at ed;cases ed;rw[ints_of e1] at d1;obtain⟨v,r,rfl,h1,h2⟩:=d1.bH;simp only[aP] at h2;subst h2;simp only[Dn] at h1;obtain⟨t1,xs,rfl,ht,dt⟩:=h1;rw[aP.ints.mp dt] at ht;refine⟨t1,ns,rfl,fB.of ht,hl,λp hp=>⟨p,gD [] ns,rfl,aQ,pw (yV ns []) (by simpa using hl),?_⟩⟩;rw[show gD [] ns=RF ns from uL ns []];exact k _ _ _ (s1.trans (aO hp)) (by simp only[Dn]) q3
end
end L6
namespace K53
open L2 L3 L4 L6 L7 L8 L9 L5
def top(i : Nat):df:=PySem.Challenge.pw_risecount_k53_same_counts_known.main.body.getD i (.Pass ⟨0,0,0,0⟩)
section
variable(P:bf)(w:ba){K:aq}{mg:Q0d}(base:bb)(kk:Nat)
def J8(F:Df K mg "ties_of" (top 1) ["order"])(bJ:mg "sorted"=af)(a8:mg "tuple"=af)(bT:mg "enumerate"=af):Cl P w K mg base cK (kk+1) "ties_of" ["order"] (dE K LL.gL):=by
 refine kT (N:=["order","ties","b","row"]) F (λhr nd=>?_);exact(aU (DU (i:=1) nd (mX aH))
  (aU (kH rfl gn (i7 bT (aC (x4 0) aH)) (MT (i:=2) (j:=3) rfl nd)
   (aL (uI (aAh (i:=1) (yS (fT.pe (eK (ls:=["a"]) (fs:=["b"]) (fr:=[2]) rfl (f7 (x4 3)) (λ_ _ _ _ _ _ nd=>eF (i:=0) nd (by decide)) (λ_ _ _ _ _ _=>fP) (λ_ _ _ _ _ _=>(jD (aC (x4 0) (aC (x4 1) aH)))))))))))
  (aL (cB (i6 a8 (aC (fT.pe (G2 bJ (aC (x4 1) aH))) aH))))))
def J9(F:Df K mg "is_bare" (top 2) ["order","tie"])(B0:mg "any"=af):Cl P w K mg base cK (kk+1) "is_bare" ["order","tie"] (dE K lQ.gM):=by
 refine kT (N:=["order","tie","lower","upper"]) F (λhr nd=>?_);exact(aU (dB (i:=2) nd (jE (x4 1) i4))
  (aU (dB (i:=3) nd (jE (x4 1) i4))
  (aL (cB (Bh (Bb rfl B0 (aC (fT.pe (eK (ls:=["between"]) (fs:=["lower","order"]) (fr:=[2,0]) rfl (f7 (jE (x4 0) (x4 3))) (λ_ _ _ _ _ _ nd=>eF (i:=0) nd (by decide)) (λ_ _ _ _ _ _=>fP) (λ_ _ _ _ _ _=>(in4 (x4 1) (jE (x4 2) (x4 0)))))) aH)))))))
def uY(F:Df K mg "ready_things" (top 4) ["order","ahead"])(kQ:mg "all"=af)(aR:mg "len"=af)(aM:mg "range"=af):Cl P w K mg base cK (kk+1) "ready_things" ["order","ahead"] (dE K LL.d6):=by
 refine kT (N:=["order","ahead","others"]) F (λhr nd=>?_);exact(aU (tR (i:=2) (ls:=["thing"]) (fs:=["ahead"]) (fr:=[1]) nd rfl (dF aM (fA aR (aC (x4 0) aH))) (λ_ _ _ _ _ _ nd=>eF (i:=0) nd (by decide)) (λ_ _ _ _ _ _=>lL (MP (x4 0) (x4 1))) (λ_ _ _ _ _ _=>(x4 0)))
  (aL (cB (fT.pe (eK (ls:=["thing"]) (fs:=["ahead","order"]) (fr:=[1,0]) rfl (f7 (x4 2)) (λ_ _ _ _ _ _ nd=>eF (i:=0) nd (by decide)) (λ_ _ _ _ _ _=>lL (l6 (t_ rfl kQ (aC (fT.pe (eK (ls:=["lower"]) (fs:=["ahead"]) (fr:=[1]) rfl (f7 (jE (x4 2) (x4 0))) (λ_ _ _ _ _ _ nd=>eF (i:=0) nd (by decide)) (λ_ _ _ _ _ _=>fP) (λ_ _ _ _ _ _=>(in4 (x4 0) (x4 1))))) aH)))) (λ_ _ _ _ _ _=>(x4 0)))))))
def QJ(F:Df K mg "joined" (top 5) ["ahead","thing"])(bJ:mg "sorted"=af)(a8:mg "tuple"=af):Cl P w K mg base cK (kk+1) "joined" ["ahead","thing"] (dE K LL.fF):=by refine kT (N:=["ahead","thing"]) F (λhr nd=>?_);exact(aL (cB (i6 a8 (aC (fT.pe (W4 bJ (aC (gT (x4 0) (jD (aC (x4 1) aH))) aH))) aH))))
def X2(F:Df K mg "added" (top 10) ["one","other"])(rV:mg "zip"=af):Cl P w K mg base cK (kk+1) "added" ["one","other"] (dE K LL.fX):=by refine kT (N:=["one","other"]) F (λhr nd=>?_);exact(aL (cB (fT.pe (eK (ls:=["a","b"]) (fs:=[]) (fr:=[]) rfl (wu rV (aC (x4 0) (aC (x4 1) aH))) (λ_ _ _ _ _ _ nd=>jV (i:=0) (j:=1) rfl nd (by decide) (by decide)) (λ_ _ _ _ _ _=>fP) (λ_ _ _ _ _ _=>(gT (x4 0) (x4 1)))))))
def oC(F:Df K mg "one_descent_more" (top 9) ["shares"]):Cl P w K mg base cK (kk+1) "one_descent_more" ["shares"] (dE K LL.bR):=by refine kT (N:=["shares"]) F (λhr nd=>?_);exact(aL (cB (gT (fT.pe (mX (aC i4 aH))) (sl4 (x4 0) no4 (po4 (Kn i4))))))
theorem nC(F:Df K mg "find_shares" (top 8) ["order","ahead","last","shares"])(gE:Cl P w K mg base cK kk "ready_things" ["order","ahead"] (dE K LL.d6))(n6:Cl P w K mg base cK kk "added" ["one","other"] (dE K LL.fX))(eG:Cl P w K mg base cK kk "one_descent_more" ["shares"] (dE K LL.bR))(rW:Cl P w K mg base cK kk "joined" ["ahead","thing"] (dE K LL.fF))(aR:mg "len"=af)(oR:mg "max"=af):∀n:Nat,Cl P w K mg base cK (kk+n) "find_shares" ["order","ahead","last","shares"] (YG K (LL.bC n))
 |0=>nnM F
 |n+1=>by
  have jW:=nC F gE n6 eG rW aR oR n;have gE:=gE.up (ma kk n);have n6:=n6.up (ma kk n);have eG:=eG.up (ma kk n);have rW:=rW.up (ma kk n);refine fdM (N:=["order","ahead","last","shares","state","some","thing","further"]) F (λhr nd=>?_);exact⟨_,(oA (dB (i:=4) nd (jD (aC (x4 1) (aC (x4 2) aH))))
  (Rz (j:=3) (u2 hr) (fK (Ww (u2 hr) (x4 4) (x4 3))
   (aU (DU (i:=5) nd (Cr (fT.pe (mX (aC i4 aH))) (WQ rfl oR (aC (fA aR (aC (x4 0) aH)) (aC i4 aH)))))
   (aU (fK (JM (fA aR (aC (x4 1) aH)) (fA aR (aC (x4 0) aH)))
    (aL (Jj (i:=5) (yS i4) i4))
    fR)
   (aU (Ta 5 (kH rfl gn (f7 (aZ gE hr (aC (x4 0) (aC (x4 1) aH)))) (iA (i:=6) nd)
    (aU (Wv (i:=7) (j:=3) jW hr (by decide) nd (BW (x4 0) (BW (aZ rW hr (aC (x4 1) (aC (x4 6) aH))) (BW (x4 6) (Cn (j:=3))))))
    (aL (dB (i:=5) nd (aZ n6 hr (aC (x4 5) (aC (if4 (ub (x4 2) (x4 6)) (aZ eG hr (aC (x4 7) aH)) (x4 7)) aH))))))))
   (aL (Co (i:=3) (u2 hr) (yS (x4 5)) (x4 4))))))
   fR) (x4 4)))⟩
def EI(F:Df K mg "shares_on" (top 7) ["order"])(jW:Cl P w K mg base cK kk "find_shares" ["order","ahead","last","shares"] (YG K (LL.bC 11))):Cl P w K mg base cK (kk+1) "shares_on" ["order"] (dE K LL.g4):=by
 refine kT (N:=["order","shares"]) F (λhr nd=>?_);exact(aU (Cp (i:=1) nd)
  (aU (Ke (j:=1) jW hr (BW (x4 0) (BW (jD aH) (BW i4 (Cn (j:=1))))))
  (aL (cB (x4 1)))))
def l7(F:Df K mg "shares_by_descents" (top 6) ["order"])(HA:Cl P w K mg base cK kk "shares_on" ["order"] (dE K LL.g4))(a8:mg "tuple"=af):Cl P w K mg base cK (kk+1) "shares_by_descents" ["order"] (dE K LL.bB):=by refine kT (N:=["order"]) F (λhr nd=>?_);exact(aL (cB (i6 a8 (aC (Kf (u2 hr) (aZ HA hr (aC (x4 0) aH)) (jD (aC (jD aH) (aC i4 aH)))) aH))))
def QK(F:Df K mg "chosen" (top 12) ["x","m"])(aM:mg "range"=af):Cl P w K mg base cK (kk+1) "chosen" ["x","m"] (dE K LL.mL):=by
 refine kT (N:=["x","m","many","step"]) F (λhr nd=>?_);exact(aU (dB (i:=2) nd i4)
  (aU (kH rfl gn (dF aM (x4 1)) (iA (i:=3) nd)
   (aL (dB (i:=2) nd (VZ (tQ (x4 2) (pQ (x4 0) (x4 3))) (gT (x4 3) i4)))))
  (aL (cB (x4 2)))))
def nE(F:Df K mg "sum_over_descents" (top 14) ["shares","n","k"])(X3:Cl P w K mg base cK kk "chosen" ["x","m"] (dE K LL.mL))(bT:mg "enumerate"=af)(X4:mg "sum"=af):Cl P w K mg base cK (kk+1) "sum_over_descents" ["shares","n","k"] (dE K LL.bW):=by refine kT (N:=["shares","n","k"]) F (λhr nd=>?_);exact(aL (cB (J_ rfl X4 (aC (fT.pe (eK (ls:=["d","share"]) (fs:=["n","k"]) (fr:=[1,2]) rfl (i7 bT (aC (x4 0) aH)) (λ_ _ _ _ _ _ nd=>jV (i:=0) (j:=1) rfl nd (by decide) (by decide)) (λ_ _ _ _ _ _=>fP) (λ_ _ _ _ _ _=>(tQ (x4 1) (aZ X3 hr (aC (pQ (pQ (gT (x4 3) (x4 2)) i4) (x4 0)) (aC (x4 2) aH))))))) aH))))
def HB(F:Df K mg "count_at" (top 13) ["order","k"])(fC:Cl P w K mg base cK kk "sum_over_descents" ["shares","n","k"] (dE K LL.bW))(cU:Cl P w K mg base cK kk "shares_by_descents" ["order"] (dE K LL.bB))(aR:mg "len"=af):Cl P w K mg base cK (kk+1) "count_at" ["order","k"] (dE K LL.gO):=by refine kT (N:=["order","k"]) F (λhr nd=>?_);exact(aL (cB (aZ fC hr (aC (aZ cU hr (aC (x4 0) aH)) (aC (fA aR (aC (x4 0) aH)) (aC (x4 1) aH))))))
def y3(F:Df K mg "times_k_and" (top 17) ["factors","shift"])(rV:mg "zip"=af):Cl P w K mg base cK (kk+1) "times_k_and" ["factors","shift"] (dE K LL.eO):=by refine kT (N:=["factors","shift"]) F (λhr nd=>?_);exact(aL (cB (fT.pe (eK (ls:=["a","b"]) (fs:=["shift"]) (fr:=[1]) rfl (wu rV (aC (gT (x4 0) (fT.pe (mX (aC i4 aH)))) (aC (gT (fT.pe (mX (aC i4 aH))) (x4 0)) aH))) (λ_ _ _ _ _ _ nd=>jV (i:=0) (j:=1) rfl nd (by decide) (by decide)) (λ_ _ _ _ _ _=>fP) (λ_ _ _ _ _ _=>(gT (tQ (x4 2) (x4 0)) (x4 1)))))))
def oF(F:Df K mg "product_of_steps" (top 16) ["share","shift","n"])(z4:Cl P w K mg base cK kk "times_k_and" ["factors","shift"] (dE K LL.eO))(aM:mg "range"=af):Cl P w K mg base cK (kk+1) "product_of_steps" ["share","shift","n"] (dE K LL.cC):=by
 refine kT (N:=["share","shift","n","factors","step"]) F (λhr nd=>?_);exact(aU (dB (i:=3) nd (fT.pe (mX (aC (x4 0) aH))))
  (aU (kH rfl gn (dF aM (x4 2)) (iA (i:=4) nd)
   (aL (dB (i:=3) nd (aZ z4 hr (aC (x4 3) (aC (pQ (x4 1) (x4 4)) aH))))))
  (aL (cB (x4 3)))))
def z5(F:Df K mg "polynomial" (top 15) ["order"])(cU:Cl P w K mg base cK kk "shares_by_descents" ["order"] (dE K LL.bB))(n6:Cl P w K mg base cK kk "added" ["one","other"] (dE K LL.fX))(pV:Cl P w K mg base cK kk "product_of_steps" ["share","shift","n"] (dE K LL.cC))(a8:mg "tuple"=af)(bT:mg "enumerate"=af)(aR:mg "len"=af):Cl P w K mg base cK (kk+1) "polynomial" ["order"] (dE K LL.eZ):=by
 refine kT (N:=["order","n","factors","d","share"]) F (λhr nd=>?_);exact(aU (dB (i:=1) nd (fA aR (aC (x4 0) aH)))
  (aU (dB (i:=2) nd (fT.pe (Cr (fT.pe (mX (aC i4 aH))) (gT (x4 1) i4))))
  (aU (kH rfl gn (i7 bT (aC (aZ cU hr (aC (x4 0) aH)) aH)) (MT (i:=3) (j:=4) rfl nd)
   (aL (dB (i:=2) nd (aZ n6 hr (aC (x4 2) (aC (aZ pV hr (aC (x4 4) (aC (pQ (pQ (x4 1) i4) (x4 3)) (aC (x4 1) aH)))) aH))))))
  (aL (cB (i6 a8 (aC (x4 2) aH)))))))
def nF(F:Df K mg "first_differences" (top 19) ["values"])(a8:mg "tuple"=af)(rV:mg "zip"=af):Cl P w K mg base cK (kk+1) "first_differences" ["values"] (dE K LL.dD):=by
 refine kT (N:=["values","firsts","row"]) F (λhr nd=>?_);exact(aU (DU (i:=1) nd (mX aH))
  (aU (dB (i:=2) nd (x4 0))
  (aU (Xf gn (l6 (x4 2))
   (aU (uI (JS (i:=1) (yS (jE (x4 2) i4))))
   (aL (tR (i:=2) (ls:=["a","b"]) (fs:=[]) (fr:=[]) nd rfl (wu rV (aC (x4 2) (aC (sl4 (x4 2) (po4 i4) no4) aH))) (λ_ _ _ _ _ _ nd=>jV (i:=0) (j:=1) rfl nd (by decide) (by decide)) (λ_ _ _ _ _ _=>fP) (λ_ _ _ _ _ _=>(pQ (x4 1) (x4 0)))))))
  (aL (cB (i6 a8 (aC (x4 1) aH)))))))
def pW(F:Df K mg "shares_by_steps" (top 18) ["order"])(oG:Cl P w K mg base cK kk "first_differences" ["values"] (dE K LL.dD))(fC:Cl P w K mg base cK kk "sum_over_descents" ["shares","n","k"] (dE K LL.bW))(cU:Cl P w K mg base cK kk "shares_by_descents" ["order"] (dE K LL.bB))(aM:mg "range"=af)(aR:mg "len"=af):Cl P w K mg base cK (kk+1) "shares_by_steps" ["order"] (dE K LL.cZ):=by
 refine kT (N:=["order","n","shares"]) F (λhr nd=>?_);exact(aU (dB (i:=1) nd (fA aR (aC (x4 0) aH)))
  (aU (dB (i:=2) nd (aZ cU hr (aC (x4 0) aH)))
  (aL (cB (aZ oG hr (aC (fT.pe (eK (ls:=["k"]) (fs:=["shares","n"]) (fr:=[2,1]) rfl (dF aM (gT (x4 1) i4)) (λ_ _ _ _ _ _ nd=>eF (i:=0) nd (by decide)) (λ_ _ _ _ _ _=>fP) (λ_ _ _ _ _ _=>(aZ fC hr (aC (x4 1) (aC (x4 2) (aC (x4 0) aH))))))) aH))))))
def KC(F:Df K mg "kind_of" (top 23) ["order","tie"])(QL:Cl P w K mg base cK kk "is_bare" ["order","tie"] (dE K lQ.gM)):Cl P w K mg base cK (kk+1) "kind_of" ["order","tie"] (dE K lQ.kA):=by
 refine kT (N:=["order","tie"]) F (λhr nd=>?_);exact(aU (fK (rH (l6 (aZ QL hr (aC (x4 0) (aC (x4 1) aH)))))
   (aL (cB s4))
   fR)
  (aL (cB (if4 (ub (jE (x4 1) i4) (jE (x4 1) i4)) s4 s4))))
def uZ(F:Df K mg "ties_by_kind" (top 22) ["order"])(QM:Cl P w K mg base cK kk "ties_of" ["order"] (dE K LL.gL))(QN:Cl P w K mg base cK kk "kind_of" ["order","tie"] (dE K lQ.kA)):Cl P w K mg base cK (kk+1) "ties_by_kind" ["order"] (dE K lQ.dN):=by
 refine kT (N:=["order","kinds","tie"]) F (λhr nd=>?_);exact(aU (Cp (i:=1) nd)
  (aU (kH rfl gn (f7 (aZ QM hr (aC (x4 0) aH))) (iA (i:=2) nd)
   (aL (Co (i:=1) (u2 hr) (yS (aZ QN hr (aC (x4 0) (aC (x4 2) aH)))) (x4 2))))
  (aL (cB (x4 1)))))
def KG(F:Df K mg "look_of" (top 25) ["kinds","thing"])(bJ:mg "sorted"=af):Cl P w K mg base cK (kk+1) "look_of" ["kinds","thing"] (dE K lQ.kB):=by
 refine kT (N:=["kinds","thing","above","below"]) F (λhr nd=>?_);exact(aU (dB (i:=2) nd (fT.pe (G8 bJ (aC (fT.pe (eK (ls:=["tie","kind"]) (fs:=["thing"]) (fr:=[1]) rfl (NB (x4 0)) (λ_ _ _ _ _ _ nd=>jV (i:=0) (j:=1) rfl nd (by decide) (by decide)) (λ_ _ _ _ _ _=>lL (JM (jE (x4 0) i4) (x4 2))) (λ_ _ _ _ _ _=>(x4 1)))) aH))))
  (aU (dB (i:=3) nd (fT.pe (G8 bJ (aC (fT.pe (eK (ls:=["tie","kind"]) (fs:=["thing"]) (fr:=[1]) rfl (NB (x4 0)) (λ_ _ _ _ _ _ nd=>jV (i:=0) (j:=1) rfl nd (by decide) (by decide)) (λ_ _ _ _ _ _=>lL (JM (jE (x4 0) i4) (x4 2))) (λ_ _ _ _ _ _=>(x4 1)))) aH))))
  (aL (cB (jD (aC (x4 2) (aC (x4 3) aH)))))))
def HC(F:Df K mg "looks_of" (top 24) ["order","kinds"])(QO:Cl P w K mg base cK kk "look_of" ["kinds","thing"] (dE K lQ.kB))(aR:mg "len"=af)(aM:mg "range"=af):Cl P w K mg base cK (kk+1) "looks_of" ["order","kinds"] (dE K lQ.gP):=by refine kT (N:=["order","kinds"]) F (λhr nd=>?_);exact(aL (cB (fT.pe (eK (ls:=["thing"]) (fs:=["kinds"]) (fr:=[1]) rfl (dF aM (fA aR (aC (x4 0) aH))) (λ_ _ _ _ _ _ nd=>eF (i:=0) nd (by decide)) (λ_ _ _ _ _ _=>fP) (λ_ _ _ _ _ _=>(aZ QO hr (aC (x4 1) (aC (x4 0) aH))))))))
def KH(F:Df K mg "goes_on" (top 28) ["kinds","other_kinds","begun","thing"])(bT:mg "enumerate"=af)(aR:mg "len"=af):Cl P w K mg base cK (kk+1) "goes_on" ["kinds","other_kinds","begun","thing"] (dE K lQ.gQ):=by
 refine kT (N:=["kinds","other_kinds","begun","thing","last","place","laid"]) F (λhr nd=>?_);exact(aU (dB (i:=4) nd (fA aR (aC (x4 2) aH)))
  (aU (kH rfl gn (i7 bT (aC (x4 2) aH)) (MT (i:=5) (j:=6) rfl nd)
   (aU (fK (Cm (EB (u2 hr) (x4 0) (jD (aC (x4 5) (aC (x4 4) aH)))) (EB (u2 hr) (x4 1) (jD (aC (x4 6) (aC (x4 3) aH)))))
    (aL (cB b4))
    fR)
   (aL (fK (Cm (EB (u2 hr) (x4 0) (jD (aC (x4 4) (aC (x4 5) aH)))) (EB (u2 hr) (x4 1) (jD (aC (x4 3) (aC (x4 6) aH)))))
    (aL (cB b4))
    fR))))
  (aL (cB b4))))
theorem oS(F:Df K mg "first_laid" (top 27) ["kinds","other_kinds","choices","begun"])(n8:Cl P w K mg base cK kk "goes_on" ["kinds","other_kinds","begun","thing"] (dE K lQ.gQ))(aR:mg "len"=af):∀n:Nat,Cl P w K mg base cK (kk+n) "first_laid" ["kinds","other_kinds","choices","begun"] (dE K (lQ.cH n))
 |0=>nn4 F
 |n+1=>by
  have lN:=oS F n8 aR n;have n8:=n8.up (ma kk n);refine kT (N:=["kinds","other_kinds","choices","begun","thing","found"]) F (λhr nd=>?_);exact(aU (fK (JM (fA aR (aC (x4 3) aH)) (fA aR (aC (x4 2) aH)))
   (aL (cB (x4 3)))
   fR)
  (aU (kH rfl gn (f7 (jE (x4 2) (fA aR (aC (x4 3) aH)))) (iA (i:=4) nd)
   (aL (fK (DQ.pt (MR (MP (x4 4) (x4 3)) (MQ (l6 (aZ n8 hr (aC (x4 0) (aC (x4 1) (aC (x4 3) (aC (x4 4) aH)))))))))
    (aU (dB (i:=5) nd (aZ lN hr (aC (x4 0) (aC (x4 1) (aC (x4 2) (aC (gT (x4 3) (jD (aC (x4 4) aH))) aH))))))
    (aL (fK (Cg (x4 5) n4)
     (aL (cB (x4 5)))
     fR)))
    fR)))
  (aL (cB n4))))
def EJ(F:Df K mg "places_of" (top 26) ["look","looks"])(bT:mg "enumerate"=af):Cl P w K mg base cK (kk+1) "places_of" ["look","looks"] (dE K lQ.fO):=by refine kT (N:=["look","looks"]) F (λhr nd=>?_);exact(aL (cB (fT.pe (eK (ls:=["place","other"]) (fs:=["look"]) (fr:=[0]) rfl (i7 bT (aC (x4 1) aH)) (λ_ _ _ _ _ _ nd=>jV (i:=0) (j:=1) rfl nd (by decide) (by decide)) (λ_ _ _ _ _ _=>lL (Xj (u9 hr) (x4 1) (x4 2))) (λ_ _ _ _ _ _=>(x4 0))))))
def QP(F:Df K mg "laying" (top 21) ["one","other"])(lN:Cl P w K mg base cK kk "first_laid" ["kinds","other_kinds","choices","begun"] (dE K (lQ.cH 11)))(HD:Cl P w K mg base cK kk "places_of" ["look","looks"] (dE K lQ.fO))(y4:Cl P w K mg base cK kk "looks_of" ["order","kinds"] (dE K lQ.gP))(nG:Cl P w K mg base cK kk "ties_by_kind" ["order"] (dE K lQ.dN))(bJ:mg "sorted"=af):Cl P w K mg base cK (kk+1) "laying" ["one","other"] (dE K lQ.iY):=by
 refine kT (N:=["one","other","kinds","other_kinds","looks","other_looks","choices"]) F (λhr nd=>?_);exact(aU (dB (i:=2) nd (aZ nG hr (aC (x4 0) aH)))
  (aU (dB (i:=3) nd (aZ nG hr (aC (x4 1) aH)))
  (aU (dB (i:=4) nd (aZ y4 hr (aC (x4 0) (aC (x4 2) aH))))
  (aU (dB (i:=5) nd (aZ y4 hr (aC (x4 1) (aC (x4 3) aH))))
  (aU (fK (aBA (u9 hr) (fT.pe (G9 (u9 hr) bJ (aC (x4 4) aH))) (fT.pe (G9 (u9 hr) bJ (aC (x4 5) aH))))
   (aL (cB n4))
   fR)
  (aU (tR (i:=6) (ls:=["look"]) (fs:=["other_looks"]) (fr:=[5]) nd rfl (f7 (x4 4)) (λ_ _ _ _ _ _ nd=>eF (i:=0) nd (by decide)) (λ_ _ _ _ _ _=>fP) (λ_ _ _ _ _ _=>(aZ HD hr (aC (x4 0) (aC (x4 1) aH)))))
  (aL (cB (aZ lN hr (aC (x4 2) (aC (x4 3) (aC (x4 6) (aC (jD aH) aH)))))))))))))
def HE(F:Df K mg "share_at" (top 31) ["shares","place"])(aR:mg "len"=af):Cl P w K mg base cK (kk+1) "share_at" ["shares","place"] (dE K fJ):=by refine kT (N:=["shares","place"]) F (λhr nd=>?_);exact(aL (cB (if4 (uc (x4 1) (fA aR (aC (x4 0) aH))) (jE (x4 0) (x4 1)) i4)))
def u3(F:Df K mg "first_unlike" (top 30) ["shares","others"])(y6:Cl P w K mg base cK kk "share_at" ["shares","place"] (dE K fJ))(aM:mg "range"=af)(aR:mg "len"=af)(oR:mg "max"=af):Cl P w K mg base cK (kk+1) "first_unlike" ["shares","others"] (dE K d7):=by
 refine kT (N:=["shares","others","longer","place"]) F (λhr nd=>?_);exact(aU (dB (i:=2) nd (WQ rfl oR (aC (fA aR (aC (x4 0) aH)) (aC (fA aR (aC (x4 1) aH)) aH))))
  (aU (kH rfl gn (dF aM (x4 2)) (iA (i:=3) nd)
   (aL (fK (JN (aZ y6 hr (aC (x4 0) (aC (x4 3) aH))) (aZ y6 hr (aC (x4 1) (aC (x4 3) aH))))
    (aL (cB (x4 3)))
    fR)))
  (aL (cB n4))))
def z6(F:Df K mg "told_apart" (top 29) ["one","other"])(y7:Cl P w K mg base cK kk "first_unlike" ["shares","others"] (dE K d7))(jQ:Cl P w K mg base cK kk "shares_by_steps" ["order"] (dE K LL.cZ))(y9:Cl P w K mg base cK kk "laying" ["one","other"] (dE K lQ.iY)):Cl P w K mg base cK (kk+1) "told_apart" ["one","other"] (dE K e9):=by
 refine kT (N:=["one","other","found","k"]) F (λhr nd=>?_);exact(aU (dB (i:=2) nd (aZ y9 hr (aC (x4 0) (aC (x4 1) aH))))
  (aU (fK (Cg (x4 2) n4)
   (aL (cB (jD (aC s4 (aC (x4 2) aH)))))
   fR)
  (aU (dB (i:=3) nd (aZ y7 hr (aC (aZ jQ hr (aC (x4 0) aH)) (aC (aZ jQ hr (aC (x4 1) aH)) aH))))
  (aU (fK (Bi (x4 3) n4)
   (aL (cB (jD (aC s4 aH))))
   fR)
  (aL (cB (jD (aC s4 (aC (x4 3) aH)))))))))
def QQ(F:Df K mg "_law_cell" (top 33) ["_law_script","_law_k"])(aR:mg "len"=af):Cl P w K mg base cK (kk+1) "_law_cell" ["_law_script","_law_k"] (dE K LL.fD):=by
 refine kT (N:=["_law_script","_law_k"]) F (λhr nd=>?_);exact(aU (fK (JM (fA aR (aC (x4 0) aH)) i4)
   (aL (cB i4))
   fR)
  (aL (cB (jE (x4 0) (uV (x4 1) (fA aR (aC (x4 0) aH)))))))
def KI(F:Df K mg "_law_mixed" (top 34) ["_law_cell_here","_law_k","_law_salt"]):Cl P w K mg base cK (kk+1) "_law_mixed" ["_law_cell_here","_law_k","_law_salt"] (dE K LL.eM):=by
 refine kT (N:=["_law_cell_here","_law_k","_law_salt","_law_one","_law_two"]) F (λhr nd=>?_);exact(aU (dB (i:=3) nd (uV (tQ (gT (gT (gT (x4 0) (tQ (tQ i4 (x4 1)) (x4 1))) (tQ i4 (x4 1))) (x4 2)) i4) i4))
  (aU (dB (i:=4) nd (uV (gT (gT (tQ (x4 3) (gT (VZ (x4 3) i4) i4)) (tQ i4 (x4 1))) (x4 2)) i4))
  (aL (cB (uV (tQ (x4 4) i4) i4)))))
def KJ(F:Df K mg "_law_draws" (top 35) ["_law_cell_here","_law_many","_law_salt"])(tX:Cl P w K mg base cK kk "_law_mixed" ["_law_cell_here","_law_k","_law_salt"] (dE K LL.eM))(aM:mg "range"=af):Cl P w K mg base cK (kk+1) "_law_draws" ["_law_cell_here","_law_many","_law_salt"] (dE K LL.fM):=by
 refine kT (N:=["_law_cell_here","_law_many","_law_salt","_law_found","_law_left","_law_k"]) F (λhr nd=>?_);exact(aU (DU (i:=3) nd (mX aH))
  (aU (dB (i:=4) nd i4)
  (aU (fK (xb (x4 0) (ud i4 i4))
   (aL (dB (i:=4) nd (x4 0)))
   fR)
  (aU (kH rfl gn (dF aM (x4 1)) (iA (i:=5) nd)
   (aL (fK (ub (x4 4) i4)
    (aU (uI (JS (i:=3) (yS (uV (x4 4) i4))))
    (aL (dB (i:=4) nd (VZ (x4 4) i4))))
    (aL (uI (JS (i:=3) (yS (aZ tX hr (aC (x4 0) (aC (x4 5) (aC (x4 2) aH)))))))))))
  (aL (cB (x4 3)))))))
def KL(F:Df K mg "_law_order" (top 36) ["_law_draws_here","_law_n","_law_thick"])(aM:mg "range"=af)(bJ:mg "sorted"=af)(a8:mg "tuple"=af)(aR:mg "len"=af)(KN:mg "list"=af):Cl P w K mg base cK (kk+1) "_law_order" ["_law_draws_here","_law_n","_law_thick"] (dE K LL.jY):=by
 refine kT (N:=["_law_draws_here","_law_n","_law_thick","_law_rest","_law_word","_law_k","_law_low","_law_at","_law_j","_law_under","_law_i"]) F (λhr nd=>?_);exact(aU (DU (i:=3) nd (JP rfl KN aM (aC (x4 1) aH)))
  (aU (DU (i:=4) nd (mX aH))
  (aU (kH rfl gn (dF aM (x4 1)) (iA (i:=5) nd)
   (aL (uI (JS (i:=4) (Jk (i:=3) (px4 (uV (jE (x4 0) (x4 5)) (fA aR (aC (x4 3) aH)))))))))
  (aU (V6 (i:=6) nd)
  (aU (dB (i:=7) nd (x4 1))
  (aU (kH rfl gn (dF aM (x4 1)) (iA (i:=8) nd)
   (aU (dB (i:=9) nd (fT.pe (mX aH)))
   (aU (kH rfl gn (dF aM (x4 8)) (iA (i:=10) nd)
    (aU (fK (uc (uV (jE (x4 0) (x4 7)) i4) (x4 2))
     (aL (Tg (i:=9) nd (Uj (x4 9) (fT.pe (eK (ls:=["_law_a"]) (fs:=["_law_under"]) (fr:=[9]) rfl (f7 (gT (Bd (u1 hr) (x4 6) (jE (x4 4) (x4 10))) (fT.pe (mX (aC (jE (x4 4) (x4 10)) aH))))) (λ_ _ _ _ _ _ nd=>eF (i:=0) nd (by decide)) (λ_ _ _ _ _ _=>lL (MP (x4 0) (x4 1))) (λ_ _ _ _ _ _=>(x4 0)))))))
     fR)
    (aL (dB (i:=7) nd (gT (x4 7) i4)))))
   (aL (Tf (i:=6) (u1 hr) (yS (x4 9)) (jE (x4 4) (x4 8)))))))
  (aL (cB (i6 a8 (aC (fT.pe (eK (ls:=["_law_b"]) (fs:=["_law_low"]) (fr:=[6]) rfl (dF aM (x4 1)) (λ_ _ _ _ _ _ nd=>eF (i:=0) nd (by decide)) (λ_ _ _ _ _ _=>fP) (λ_ _ _ _ _ _=>(i6 a8 (aC (fT.pe (DS bJ (aC (Bd (u1 hr) (x4 1) (x4 0)) aH))) aH))))) aH))))))))))
def KO(F:Df K mg "_law_drawn" (top 37) ["_law_script","_law_k","_law_most","_law_salt"])(QR:Cl P w K mg base cK kk "_law_order" ["_law_draws_here","_law_n","_law_thick"] (dE K LL.jY))(n9:Cl P w K mg base cK kk "_law_draws" ["_law_cell_here","_law_many","_law_salt"] (dE K LL.fM))(nH:Cl P w K mg base cK kk "_law_cell" ["_law_script","_law_k"] (dE K LL.fD)):Cl P w K mg base cK (kk+1) "_law_drawn" ["_law_script","_law_k","_law_most","_law_salt"] (dE K LL.jZ):=by
 refine kT (N:=["_law_script","_law_k","_law_most","_law_salt","_law_head","_law_n","_law_draws_here"]) F (λhr nd=>?_);exact(aU (dB (i:=4) nd (aZ n9 hr (aC (aZ nH hr (aC (x4 0) (aC (x4 1) aH))) (aC i4 (aC (x4 3) aH)))))
  (aU (dB (i:=5) nd (uV (jE (x4 4) i4) (gT (x4 2) i4)))
  (aU (dB (i:=6) nd (aZ n9 hr (aC (aZ nH hr (aC (x4 0) (aC (gT (x4 1) i4) aH))) (aC (gT (x4 5) (VZ (tQ (x4 5) (pQ (x4 5) i4)) i4)) (aC (gT (x4 3) i4) aH)))))
  (aL (cB (aZ QR hr (aC (x4 6) (aC (x4 5) (aC (jE (fT.pe (mX (aC i4 (aC i4 (aC i4 (aC i4 (aC i4 (aC i4 (aC i4 (aC i4 aH)))))))))) (uV (jE (x4 4) i4) i4)) aH)))))))))
theorem B1(F:Df K mg "_law_same" (top 38) ["_law_found","_law_due"])(aX:mg "isinstance"=af)(NG:mg "str"=af)(uN:mg "int"=af)(lO:mg "bool"=af)(a8:mg "tuple"=af)(aR:mg "len"=af)(aM:mg "range"=af)(kQ:mg "all"=af):∀n:Nat,Cl P w K mg base cK (kk+n) "_law_same" ["_law_found","_law_due"] (dE K (LL.cR n))
 |0=>nn4 F
 |n+1=>by
  have i9:=B1 F aX NG uN lO a8 aR aM kQ n;refine kT (N:=["_law_found","_law_due"]) F (λhr nd=>?_);exact(aU (fK (l6 (uW DO.t aX a8 uu (x4 1)))
   (aU (fK (DQ.pt (zY (rH (l6 (uW DO.t aX a8 uu (x4 0)))) (JO (JN (fA aR (aC (x4 0) aH)) (fA aR (aC (x4 1) aH))))))
    (aL (cB b4))
    fR)
   (aL (cB (t_ rfl kQ (aC (fT.pe (eK (ls:=["_law_k"]) (fs:=["_law_found","_law_due"]) (fr:=[0,1]) rfl (dF aM (fA aR (aC (x4 1) aH))) (λ_ _ _ _ _ _ nd=>eF (i:=0) nd (by decide)) (λ_ _ _ _ _ _=>fP) (λ_ _ _ _ _ _=>(aZ i9 hr (aC (jE (x4 1) (x4 0)) (aC (jE (x4 2) (x4 0)) aH)))))) aH)))))
   fR)
  (aU (fK (Bi (x4 1) n4)
   (aL (cB (is4 (x4 0) n4)))
   fR)
  (aU (fK (l6 (uW DO.b aX lO zj (x4 1)))
   (aL (cB (V1 (uW DO.b aX lO zj (x4 0)) (ua (eq4 (x4 0) (x4 1))))))
   fR)
  (aU (fK (l6 (uW DO.i aX uN Fq (x4 1)))
   (aL (cB (V1 (uW DO.i aX uN Fq (x4 0)) (V1 (Bh (uW DO.b aX lO zj (x4 0))) (ua (eq4 (x4 0) (x4 1)))))))
   fR)
  (aL (cB (V1 (uW DO.s aX NG a4t (x4 0)) (ua (eq4 (x4 0) (x4 1))))))))))
def KP(F:Df K mg "_law_great" (top 39) ["_law_cell_here","_law_most","_law_salt"])(tX:Cl P w K mg base cK kk "_law_mixed" ["_law_cell_here","_law_k","_law_salt"] (dE K LL.eM))(aM:mg "range"=af):Cl P w K mg base cK (kk+1) "_law_great" ["_law_cell_here","_law_most","_law_salt"] (dE K LL.iI):=by
 refine kT (N:=["_law_cell_here","_law_most","_law_salt","_law_found","_law_k"]) F (λhr nd=>?_);exact(aU (fK (xb (x4 0) (ud i4 i4))
   (aL (cB (uV (VZ (x4 0) i4) (x4 1))))
   fR)
  (aU (dB (i:=3) nd i4)
  (aU (kH rfl gn (dF aM i4) (iA (i:=4) nd)
   (aL (dB (i:=3) nd (gT (tQ (x4 3) i4) (aZ tX hr (aC (x4 0) (aC (x4 4) (aC (x4 2) aH))))))))
  (aL (cB (uV (x4 3) (x4 1)))))))
def QS(F:Df K mg "_law_ties" (top 40) ["_law_order_here"])(bJ:mg "sorted"=af)(aR:mg "len"=af)(aM:mg "range"=af):Cl P w K mg base cK (kk+1) "_law_ties" ["_law_order_here"] (dE K LL.fE):=by
 refine kT (N:=["_law_order_here","_law_found","_law_b"]) F (λhr nd=>?_);exact(aU (dB (i:=1) nd (fT.pe (mX aH)))
  (aU (kH rfl gn (dF aM (fA aR (aC (x4 0) aH))) (iA (i:=2) nd)
   (aL (dB (i:=1) nd (gT (x4 1) (fT.pe (eK (ls:=["_law_a"]) (fs:=["_law_b"]) (fr:=[2]) rfl (f7 (jE (x4 0) (x4 2))) (λ_ _ _ _ _ _ nd=>eF (i:=0) nd (by decide)) (λ_ _ _ _ _ _=>fP) (λ_ _ _ _ _ _=>(jD (aC (x4 0) (aC (x4 1) aH))))))))))
  (aL (cB (fT.pe (G2 bJ (aC (x4 1) aH)))))))
def QT(F:Df K mg "_law_bare" (top 41) ["_law_order_here"])(zA:Cl P w K mg base cK kk "_law_ties" ["_law_order_here"] (dE K LL.fE))(B0:mg "any"=af):Cl P w K mg base cK (kk+1) "_law_bare" ["_law_order_here"] (dE K lQ.iZ):=by
 refine kT (N:=["_law_order_here","_law_found","_law_a","_law_b"]) F (λhr nd=>?_);exact(aU (DU (i:=1) nd (mX aH))
  (aU (kH rfl gn (f7 (aZ zA hr (aC (x4 0) aH))) (MT (i:=2) (j:=3) rfl nd)
   (aL (fK (rH (l6 (Bb rfl B0 (aC (fT.pe (eK (ls:=["_law_c"]) (fs:=["_law_a","_law_order_here"]) (fr:=[2,0]) rfl (f7 (jE (x4 0) (x4 3))) (λ_ _ _ _ _ _ nd=>eF (i:=0) nd (by decide)) (λ_ _ _ _ _ _=>fP) (λ_ _ _ _ _ _=>(in4 (x4 1) (jE (x4 2) (x4 0)))))) aH))))
    (aL (uI (JS (i:=1) (yS (jD (aC (x4 2) (aC (x4 3) aH)))))))
    fR)))
  (aL (cB (x4 1)))))
def QU(F:Df K mg "_law_fits" (top 42) ["_law_one","_law_other","_law_bare_here","_law_laid"])(aM:mg "range"=af)(aR:mg "len"=af):Cl P w K mg base cK (kk+1) "_law_fits" ["_law_one","_law_other","_law_bare_here","_law_laid"] (dE K lQ.mM):=by
 refine kT (N:=["_law_one","_law_other","_law_bare_here","_law_laid","_law_last","_law_c"]) F (λhr nd=>?_);exact(aU (dB (i:=4) nd (pQ (fA aR (aC (x4 3) aH)) i4))
  (aU (kH rfl gn (dF aM (x4 4)) (iA (i:=5) nd)
   (aU (fK (DQ.pt (zY (JN (in4 (x4 5) (jE (x4 0) (x4 4))) (in4 (jE (x4 3) (x4 5)) (jE (x4 1) (jE (x4 3) (x4 4))))) (JO (JN (in4 (x4 4) (jE (x4 0) (x4 5))) (in4 (jE (x4 3) (x4 4)) (jE (x4 1) (jE (x4 3) (x4 5))))))))
    (aL (cB b4))
    fR)
   (aL (fK (DQ.pt (zY (DQ.pt (MR (Cs (u9 hr) (jD (aC (x4 5) (aC (x4 4) aH))) (x4 2)) (MQ (ub (jE (x4 3) (x4 5)) (jE (x4 3) (x4 4)))))) (JO (DQ.pt (MR (Cs (u9 hr) (jD (aC (x4 4) (aC (x4 5) aH))) (x4 2)) (MQ (uc (jE (x4 3) (x4 4)) (jE (x4 3) (x4 5)))))))))
    (aL (cB b4))
    fR))))
  (aL (cB b4))))
def KQ(F:Df K mg "_law_named" (top 43) ["_law_order_here","_law_word"])(a8:mg "tuple"=af)(bJ:mg "sorted"=af):Cl P w K mg base cK (kk+1) "_law_named" ["_law_order_here","_law_word"] (dE K lQ.kC):=by
 refine kT (N:=["_law_order_here","_law_word","_law_rows","_law_thing"]) F (λhr nd=>?_);exact(aU (DU (i:=2) nd (mX aH))
  (aU (kH rfl gn (f7 (x4 1)) (iA (i:=3) nd)
   (aL (uI (JS (i:=2) (yS (i6 a8 (aC (fT.pe (DS bJ (aC (fT.pe (eK (ls:=["_law_a"]) (fs:=["_law_word"]) (fr:=[1]) rfl (f7 (jE (x4 0) (x4 3))) (λ_ _ _ _ _ _ nd=>eF (i:=0) nd (by decide)) (λ_ _ _ _ _ _=>fP) (λ_ _ _ _ _ _=>(aBC (x4 1) (x4 0))))) aH))) aH)))))))
  (aL (cB (i6 a8 (aC (x4 2) aH))))))
def tY(F:Df K mg "_law_named_alike" (top 44) ["_law_order_here","_law_draws_here"])(QV:Cl P w K mg base cK kk "_law_named" ["_law_order_here","_law_word"] (dE K lQ.kC))(zB:Cl P w K mg base cK kk "_law_bare" ["_law_order_here"] (dE K lQ.iZ))(aR:mg "len"=af)(aM:mg "range"=af)(kQ:mg "all"=af)(oR:mg "max"=af)(X5:mg "min"=af):Cl P w K mg base cK (kk+1) "_law_named_alike" ["_law_order_here","_law_draws_here"] (dE K lQ.dO):=by
 refine kT (N:=["_law_order_here","_law_draws_here","_law_bare_here","_law_ahead","_law_word","_law_k","_law_free"]) F (λhr nd=>?_);exact(aU (dB (i:=2) nd (aZ zB hr (aC (x4 0) aH)))
  (aU (dB (i:=3) nd (fT.pe (eK (ls:=["_law_thing"]) (fs:=["_law_bare_here"]) (fr:=[2]) rfl (dF aM (fA aR (aC (x4 0) aH))) (λ_ _ _ _ _ _ nd=>eF (i:=0) nd (by decide)) (λ_ _ _ _ _ _=>fP) (λ_ _ _ _ _ _=>(fT.pe (eK (ls:=["_law_a","_law_b"]) (fs:=["_law_thing"]) (fr:=[0]) rfl (f7 (x4 1)) (λ_ _ _ _ _ _ nd=>jV (i:=0) (j:=1) rfl nd (by decide) (by decide)) (λ_ _ _ _ _ _=>lL (JM (WQ rfl oR (aC (x4 0) (aC (x4 1) aH))) (x4 2))) (λ_ _ _ _ _ _=>(S0 rfl X5 (aC (x4 0) (aC (x4 1) aH))))))))))
  (aU (DU (i:=4) nd (mX aH))
  (aU (kH rfl gn (dF aM (fA aR (aC (x4 0) aH))) (iA (i:=5) nd)
   (aU (JY (i:=6) (ls:=["_law_b"]) (fs:=["_law_word","_law_ahead"]) (fr:=[4,3]) nd rfl (dF aM (fA aR (aC (x4 0) aH))) (λ_ _ _ _ _ _ nd=>eF (i:=0) nd (by decide)) (λ_ _ _ _ _ _=>lL (DQ.pt (MR (MP (x4 0) (x4 1)) (MQ (l6 (t_ rfl kQ (aC (fT.pe (eK (ls:=["_law_a"]) (fs:=["_law_word"]) (fr:=[1]) rfl (f7 (jE (x4 2) (x4 0))) (λ_ _ _ _ _ _ nd=>eF (i:=0) nd (by decide)) (λ_ _ _ _ _ _=>fP) (λ_ _ _ _ _ _=>(in4 (x4 0) (x4 1))))) aH))))))) (λ_ _ _ _ _ _=>(x4 0)))
   (aL (uI (JS (i:=4) (yS (jE (x4 6) (uV (jE (x4 1) (x4 5)) (fA aR (aC (x4 6) aH))))))))))
  (aL (cB (aZ QV hr (aC (x4 0) (aC (x4 4) aH)))))))))
def zC(F:Df K mg "_law_is_laying" (top 45) ["_law_one","_law_other","_law_laid"])(X6:Cl P w K mg base cK kk "_law_fits" ["_law_one","_law_other","_law_bare_here","_law_laid"] (dE K lQ.mM))(zB:Cl P w K mg base cK kk "_law_bare" ["_law_order_here"] (dE K lQ.iZ))(aR:mg "len"=af)(aM:mg "range"=af)(kQ:mg "all"=af)(X7:mg "set"=af)(aX:mg "isinstance"=af)(lO:mg "bool"=af)(uN:mg "int"=af)(a8:mg "tuple"=af):Cl P w K mg base cK (kk+1) "_law_is_laying" ["_law_one","_law_other","_law_laid"] (dE K eP):=by
 refine kT (N:=["_law_one","_law_other","_law_laid","_law_thing","_law_bare_here"]) F (λhr nd=>?_);exact(aU (fK (DQ.pt (zY (rH (l6 (uW DO.t aX a8 uu (x4 2)))) (JO (JN (fA aR (aC (x4 2) aH)) (fA aR (aC (x4 0) aH))))))
   (aL (cB b4))
   fR)
  (aU (kH rfl gn (f7 (x4 2)) (iA (i:=3) nd)
   (aL (fK (DQ.pt (zY (rH (l6 (uW DO.i aX uN Fq (x4 3)))) (zY (l6 (uW DO.b aX lO zj (x4 3))) (zY (uc (x4 3) i4) (JO (xb (x4 3) (fA aR (aC (x4 0) aH))))))))
    (aL (cB b4))
    fR)))
  (aU (fK (JN (L6.X1 rfl aR X7 (aC (x4 2) aH)) (fA aR (aC (x4 2) aH)))
   (aL (cB b4))
   fR)
  (aU (dB (i:=4) nd (aZ zB hr (aC (x4 0) aH)))
  (aL (cB (t_ rfl kQ (aC (fT.pe (eK (ls:=["_law_k"]) (fs:=["_law_one","_law_other","_law_bare_here","_law_laid"]) (fr:=[0,1,4,2]) rfl (aAg aM i4 (gT (fA aR (aC (x4 0) aH)) i4)) (λ_ _ _ _ _ _ nd=>eF (i:=0) nd (by decide)) (λ_ _ _ _ _ _=>fP) (λ_ _ _ _ _ _=>(aZ X6 hr (aC (x4 1) (aC (x4 2) (aC (x4 3) (aC (sl4 (x4 4) no4 (po4 (x4 0))) aH)))))))) aH))))))))
def Xh{f:ai}{fd:gp}(F:Fun K "law" "law" (top 46) f fd)(i9:Cl P w K mg base cK kk "_law_same" ["_law_found","_law_due"] (dE K (LL.cR 6)))(y9:Cl P w K mg base cK kk "laying" ["one","other"] (dE K lQ.iY))(z7:Cl P w K mg base cK kk "_law_is_laying" ["_law_one","_law_other","_law_laid"] (dE K eP))(EK:Cl P w K mg base cK kk "told_apart" ["one","other"] (dE K e9))(rX:Cl P w K mg base cK kk "polynomial" ["order"] (dE K LL.eZ))(zD:Cl P w K mg base cK kk "count_at" ["order","k"] (dE K LL.gO))(QW:Cl P w K mg base cK kk "_law_great" ["_law_cell_here","_law_most","_law_salt"] (dE K LL.iI))(nH:Cl P w K mg base cK kk "_law_cell" ["_law_script","_law_k"] (dE K LL.fD))(u4:Cl P w K mg base cK kk "_law_named_alike" ["_law_order_here","_law_draws_here"] (dE K lQ.dO))(n9:Cl P w K mg base cK kk "_law_draws" ["_law_cell_here","_law_many","_law_salt"] (dE K LL.fM))(zA:Cl P w K mg base cK kk "_law_ties" ["_law_order_here"] (dE K LL.fE))(QX:Cl P w K mg base cK kk "_law_drawn" ["_law_script","_law_k","_law_most","_law_salt"] (dE K LL.jZ))(aR:mg "len"=af)(aX:mg "isinstance"=af)(a8:mg "tuple"=af)(aM:mg "range"=af)(bJ:mg "sorted"=af):lF P w K mg base cK (kk+1) f fd ["_law_script"] (dE K xR):=by
 have S:iG ["_law_script","_law_one","_law_n","_law_ties_here","_law_other","_law_k","_law_found"] ["_law_script"] (bN (top 46)):=⟨rfl,rfl,rfl,by decide+kernel,rfl,by decide+kernel,by decide+kernel⟩;have nd:=S.nd;refine Bc F S rfl rfl (λ_ _ _ _ _ _ hr=>?_);exact(aU (dB (i:=1) nd (aZ QX hr (aC (x4 0) (aC i4 (aC i4 (aC i4 aH))))))
  (aU (dB (i:=2) nd (fA aR (aC (x4 1) aH)))
  (aU (dB (i:=3) nd (fT.pe (eK (ls:=["_law_a","_law_b"]) (fs:=["_law_n"]) (fr:=[2]) rfl (f7 (aZ zA hr (aC (x4 1) aH))) (λ_ _ _ _ _ _ nd=>jV (i:=0) (j:=1) rfl nd (by decide) (by decide)) (λ_ _ _ _ _ _=>fP) (λ_ _ _ _ _ _=>(jD (aC (pQ (pQ (x4 2) i4) (x4 1)) (aC (pQ (pQ (x4 2) i4) (x4 0)) aH)))))))
  (aU (dB (i:=4) nd (i6 a8 (aC (fT.pe (eK (ls:=["_law_thing"]) (fs:=["_law_ties_here"]) (fr:=[3]) rfl (dF aM (x4 2)) (λ_ _ _ _ _ _ nd=>eF (i:=0) nd (by decide)) (λ_ _ _ _ _ _=>fP) (λ_ _ _ _ _ _=>(i6 a8 (aC (fT.pe (DS bJ (aC (fT.pe (eK (ls:=["_law_a","_law_b"]) (fs:=["_law_thing"]) (fr:=[0]) rfl (f7 (x4 1)) (λ_ _ _ _ _ _ nd=>jV (i:=0) (j:=1) rfl nd (by decide) (by decide)) (λ_ _ _ _ _ _=>lL (JM (x4 1) (x4 2))) (λ_ _ _ _ _ _=>(x4 0)))) aH))) aH))))) aH)))
  (aU (dB (i:=4) nd (aZ u4 hr (aC (x4 4) (aC (aZ n9 hr (aC (aZ nH hr (aC (x4 0) (aC i4 aH))) (aC (x4 2) (aC i4 aH)))) aH))))
  (aU (dB (i:=5) nd (gT (pQ (aZ QW hr (aC (aZ nH hr (aC (x4 0) (aC i4 aH))) (aC (pQ (tQ i4 (ud i4 i4)) i4) (aC i4 aH)))) (ud i4 i4)) i4))
  (aU (fK (DQ.pt (zY (rH (l6 (aZ i9 hr (aC (aZ zD hr (aC (x4 1) (aC (x4 5) aH))) (aC (aZ zD hr (aC (x4 4) (aC (x4 5) aH))) aH))))) (JO (rH (l6 (aZ i9 hr (aC (aZ rX hr (aC (x4 1) aH)) (aC (aZ rX hr (aC (x4 4) aH)) aH))))))))
   (aL (cB b4))
   fR)
  (aU (dB (i:=6) nd (aZ EK hr (aC (x4 1) (aC (x4 4) aH))))
  (aU (fK (l6 (aZ i9 hr (aC (x4 6) (aC (jD (aC s4 aH)) aH))))
   (aL (cB b4))
   fR)
  (aU (fK (DQ.pt (zY (rH (l6 (uW DO.t aX a8 uu (x4 6)))) (zY (JN (fA aR (aC (x4 6) aH)) i4) (JO (rH (l6 (aZ i9 hr (aC (jE (x4 6) i4) (aC s4 aH)))))))))
   (aL (cB b4))
   fR)
  (aL (cB (V1 (aZ z7 hr (aC (x4 1) (aC (x4 4) (aC (jE (x4 6) i4) aH)))) (ua (aZ i9 hr (aC (aZ y9 hr (aC (x4 1) (aC (x4 4) aH))) (aC (jE (x4 6) i4) aH)))))))))))))))))
end
theorem all_mk{l:qr}{w:ba}{K:aq}{h:bb}{mg:Q0d}{fa:ai}(X:K.In h)(G:h.Ns ig mg)(hfa:mg "law"=aa (.ref fa))
  (D1:Df K mg "ties_of" (top 1) ["order"])
  (D2:Df K mg "is_bare" (top 2) ["order","tie"])
  (D3:Df K mg "ready_things" (top 4) ["order","ahead"])
  (D4:Df K mg "joined" (top 5) ["ahead","thing"])
  (D5:Df K mg "added" (top 10) ["one","other"])
  (D6:Df K mg "one_descent_more" (top 9) ["shares"])
  (D7:Df K mg "find_shares" (top 8) ["order","ahead","last","shares"])
  (D8:Df K mg "shares_on" (top 7) ["order"])
  (D9:Df K mg "shares_by_descents" (top 6) ["order"])
  (D10:Df K mg "chosen" (top 12) ["x","m"])
  (D11:Df K mg "sum_over_descents" (top 14) ["shares","n","k"])
  (D12:Df K mg "count_at" (top 13) ["order","k"])
  (D13:Df K mg "times_k_and" (top 17) ["factors","shift"])
  (D14:Df K mg "product_of_steps" (top 16) ["share","shift","n"])
  (D15:Df K mg "polynomial" (top 15) ["order"])
  (D16:Df K mg "first_differences" (top 19) ["values"])
  (D17:Df K mg "shares_by_steps" (top 18) ["order"])
  (D18:Df K mg "kind_of" (top 23) ["order","tie"])
  (D19:Df K mg "ties_by_kind" (top 22) ["order"])
  (D20:Df K mg "look_of" (top 25) ["kinds","thing"])
  (D21:Df K mg "looks_of" (top 24) ["order","kinds"])
  (D22:Df K mg "goes_on" (top 28) ["kinds","other_kinds","begun","thing"])
  (D23:Df K mg "first_laid" (top 27) ["kinds","other_kinds","choices","begun"])
  (D24:Df K mg "places_of" (top 26) ["look","looks"])
  (D25:Df K mg "laying" (top 21) ["one","other"])
  (D26:Df K mg "share_at" (top 31) ["shares","place"])
  (D27:Df K mg "first_unlike" (top 30) ["shares","others"])
  (D28:Df K mg "told_apart" (top 29) ["one","other"])
  (D29:Df K mg "_law_cell" (top 33) ["_law_script","_law_k"])
  (D30:Df K mg "_law_mixed" (top 34) ["_law_cell_here","_law_k","_law_salt"])
  (D31:Df K mg "_law_draws" (top 35) ["_law_cell_here","_law_many","_law_salt"])
  (D32:Df K mg "_law_order" (top 36) ["_law_draws_here","_law_n","_law_thick"])
  (D33:Df K mg "_law_drawn" (top 37) ["_law_script","_law_k","_law_most","_law_salt"])
  (D34:Df K mg "_law_same" (top 38) ["_law_found","_law_due"])
  (D35:Df K mg "_law_great" (top 39) ["_law_cell_here","_law_most","_law_salt"])
  (D36:Df K mg "_law_ties" (top 40) ["_law_order_here"])
  (D37:Df K mg "_law_bare" (top 41) ["_law_order_here"])
  (D38:Df K mg "_law_fits" (top 42) ["_law_one","_law_other","_law_bare_here","_law_laid"])
  (D39:Df K mg "_law_named" (top 43) ["_law_order_here","_law_word"])
  (D40:Df K mg "_law_named_alike" (top 44) ["_law_order_here","_law_draws_here"])
  (D41:Df K mg "_law_is_laying" (top 45) ["_law_one","_law_other","_law_laid"])
  (D42:Df K mg "law" (top 46) ["_law_script"])
  (bJ:mg "sorted"=af) (a8:mg "tuple"=af) (bT:mg "enumerate"=af) (B0:mg "any"=af) (kQ:mg "all"=af) (aR:mg "len"=af) (aM:mg "range"=af) (rV:mg "zip"=af) (oR:mg "max"=af) (X4:mg "sum"=af) (KN:mg "list"=af) (aX:mg "isinstance"=af) (NG:mg "str"=af) (uN:mg "int"=af) (lO:mg "bool"=af) (X5:mg "min"=af) (X7:mg "set"=af):
  ∃fd:gp,(∀(s:ao) (v:aj),rf s fd ⟨[v],[]⟩ [("_law_script",v)]) /\∀base:bb,K.In base->base.Ns ig mg->lF l.prog w K mg base cK 20 fa fd ["_law_script"] (dE K xR):=by
 obtain @⟨_,fd,_,F,m,_⟩:=D42;cases hfa.symm.trans m;refine⟨fd,λs v=>?_,λbase _ _=>?_⟩
 .obtain ⟨_,_,_,_,_,_,_,_,_,e,_⟩:=F.ex;rw[e];exact .of_eq rfl
 have o1:=J8 l.prog w base 3 D1 bJ a8 bT;have o2:=J9 l.prog w base 3 D2 B0;have o3:=uY l.prog w base 3 D3 kQ aR aM;have o4:=QJ l.prog w base 3 D4 bJ a8;have o5:=X2 l.prog w base 3 D5 rV;have o6:=oC l.prog w base 3 D6 ;have o7:=nC l.prog w base 4 D7 o3.up o5.up o6.up o4.up aR oR 11;have o8:=EI l.prog w base 15 D8 o7.up;have o9:=l7 l.prog w base 16 D9 o8.up a8;have I_:=QK l.prog w base 3 D10 aM;have As:=nE l.prog w base 4 D11 I_.up bT X4;have Iz:=HB l.prog w base 17 D12 As.up o9.up aR;have Iy:=y3 l.prog w base 3 D13 rV;have Iw:=oF l.prog w base 4 D14 Iy.up aM;have Iu:=z5 l.prog w base 17 D15 o9.up o5.up Iw.up a8 bT aR;have Ir:=nF l.prog w base 3 D16 a8 rV;have Iq:=pW l.prog w base 17 D17 Ir.up As.up o9.up aM aR;have Ip:=KC l.prog w base 4 D18 o2.up;have Io:=uZ l.prog w base 5 D19 o1.up Ip.up;have Im:=KG l.prog w base 3 D20 bJ;have Il:=HC l.prog w base 4 D21 Im.up aR aM;have Ik:=KH l.prog w base 3 D22 bT aR;have Ij:=oS l.prog w base 4 D23 Ik.up aR 11;have Ii:=EJ l.prog w base 3 D24 bT;have Ar:=QP l.prog w base 15 D25 Ij.up Ii.up Il.up Io.up bJ;have Ih:=HE l.prog w base 3 D26 aR;have Ig:=u3 l.prog w base 4 D27 Ih.up aM aR oR;have Ie:=z6 l.prog w base 18 D28 Ig.up Iq.up Ar.up;have Aq:=QQ l.prog w base 3 D29 aR;have Ap:=KI l.prog w base 3 D30 ;have Ao:=KJ l.prog w base 4 D31 Ap.up aM;have Ic:=KL l.prog w base 3 D32 aM bJ a8 aR KN;have Ib:=KO l.prog w base 5 D33 Ic.up Ao.up Aq.up;have Ia:=B1 l.prog w base 3 D34 aX NG uN lO a8 aR aM kQ 6;have H_:=KP l.prog w base 4 D35 Ap.up aM;have An:=QS l.prog w base 3 D36 bJ aR aM;have Am:=QT l.prog w base 4 D37 An.up B0;have Hz:=QU l.prog w base 3 D38 aM aR;have Hy:=KQ l.prog w base 3 D39 a8 bJ;have Hx:=tY l.prog w base 5 D40 Hy.up Am.up aR aM kQ oR X5;have Hw:=zC l.prog w base 5 D41 Hz.up Am.up aR aM kQ X7 aX lO uN a8;exact Xh l.prog w base 19 F Ia.up Ar.up Hw.up Ie.up Iu.up Iz.up H_.up Aq.up Hx.up Ao.up An.up Ib.up aR aX a8 aM bJ
def Xg{K:aq}{H:Hp}{a:ai}{ns:Q0e}(o:Only H)(h:dW K H a (ns.map V.int)):Scr K H a ns:=by
 rcases h with h|h
 .rcases h with h|⟨b,h⟩
  .rcases o a with z|⟨_,_,z⟩|⟨_,z⟩<;>rw[z] at h<;>cases h
  .exact .inl ⟨b,h⟩
 .exact .inr (.inr h)
theorem walk{l:qr}{q:bf}{loose:Q0g}{XP:(ak->Option aj)->bb->Prop}{YP:ba->bb->Prop}{d:DefRec}{K:Params->aq}(hn:l.most=aa 63)(hdf:d.params.defaults=[])
  (hY:∀(w:ba) (h:bb),YP w h->(K w.params).In h) (tj:∀w:ba,TabsOk (K w.params) q) (hnt:∀w:ba,noTabs (K w.params)=ae)
  (F:∀(w:ba) (mg:Q0d) (fa:ai) (h:bb),(K w.params).In h->h.Ns ig mg->mg d.name=aa (.ref fa) ->
   ∃fd:gp,(∀(s:ao) (u:aj),rf s fd ⟨[u],[]⟩ [("_law_script",u)]) /\∀base:bb,(K w.params).In base->base.Ns ig mg->lF l.prog w (K w.params) mg base cK 20 fa fd ["_law_script"] (dE (K w.params) xR)):
  Ez q loose XP YP l.row.toRowW d [] (λf vs=>Es f vs) :=
 L2.aAL (n:=63) (k:=20) (x:="_law_script") (CX:=λ_=>cK) (sp:=λw=>dE (K w.params) xR) hn (by decide) hdf ⟨rfl,by decide,by decide⟩ hY tj hnt F
  (λ_ H a ns hl o hS=>⟨λa=>H a=af,[.rY ns],λd=>d=.bl ae,λ_ h=>h,⟨_,_,rfl,⟨a,rfl,Xg o hS⟩,rfl⟩,⟨_,T9 ns hl,rfl⟩,λv H' d _ hd e=>by subst e;exact hd⟩) λ_ _ _ _ _ z=>z
end K53
open PySem.W PyProof.Rows
def PySem.W.Fast.tw9337282779719956810 := 0
def PySem.W.Fast.tw590169213531498323 := 0
def PySem.W.Fast.tw3327629561260273162 := 0
def PySem.W.Fast.tw9263421949218536869 := 0
def PySem.W.Fast.tw4050541275761719541 := 0
def PySem.W.Fast.tw5576089608514183899 := 0
def PySem.W.Fast.tw5851677070125108047 := 0
def PySem.W.Fast.tw11986889091478210944 := 0
def PySem.W.Fast.tw12231658443471865365 := 0
def PySem.W.Fast.tw13983463914770849478 := 0
def PySem.W.Fast.tw16308221190367313139 := 0
def PySem.W.Fast.tw3633124552328009922 := 0
def PySem.W.Fast.tw7797454244227365368 := 0
def PySem.W.Fast.tw808245735332723747 := 0
set_option maxRecDepth 100000 in
set_option maxHeartbeats 0 in
theorem PySem.Challenge.cw_risecount_k53_same_counts_known_holds : PySem.Challenge.rw_risecount_k53_same_counts_known.Holds := by
 w_on; o_law; k_head; (case hw=>w_witness2)
 k_fill
 refine K53.walk (l := PySem.Challenge.rw_risecount_k53_same_counts_known) rfl rfl (fun w h Y => PySem.W.kIn_of Y) ?hTbs ?hNtb ?F
 case hTbs =>
  intro w
  refine' L4.tabs_ok (L4.QC ?t1 ?t2 ?t3 ?t4 ?t5) ?nd ?rc
  (case t1=>(refine' L4.nA ?p1; (case p1=>k_is)))
  (case t2=>(refine' L4.nA ?p1; (case p1=>k_is)))
  (case t3=>(refine' L4.nA ?p1; (case p1=>k_is)))
  (case t4=>(refine' L4.nA ?p1; (case p1=>k_is)))
  (case t5=>(refine' L4.nA ?p1; (case p1=>k_is)))
  (case nd=>decide)
  (case rc=>(intro t ht; cases ht))
 case hNtb =>
  intro w
  kernel_rfl
 case F =>
  intro w mg fa h KX G hmg
  refine' K53.all_mk KX G hmg ?_ ?_ ?_ ?_ ?_ ?_ ?_ ?_ ?_ ?_ ?_ ?_ ?_ ?_ ?_ ?_ ?_ ?_ ?_ ?_ ?_ ?_ ?_ ?_ ?_ ?_ ?_ ?_ ?_ ?_ ?_ ?_ ?_ ?_ ?_ ?_ ?_ ?_ ?_ ?_ ?_ ?_ ?_ ?_ ?_ ?_ ?_ ?_ ?_ ?_ ?_ ?_ ?_ ?_ ?_ ?_ ?_ ?_ ?_
  all_goals first | exact PySem.W.mg_none_of KX G (by k_is) | (refine' L4.aGb KX G ?b ?a ?l ?c ?k; (case a=>k_is); (case l=>k_is); (case c=>k_is); (case k=>k_is); (case b=>(intro us hl; first | (obtain ⟨_,rfl⟩:=L4.aAr us hl; rfl) | (obtain ⟨_,_,rfl⟩:=L4.aAs us hl; rfl) | (obtain ⟨_,_,_,rfl⟩:=L4.aAt us hl; rfl) | (obtain ⟨_,_,_,_,rfl⟩:=L4.aAu us hl; rfl))))
end
