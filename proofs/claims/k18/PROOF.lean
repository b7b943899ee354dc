import PyProof.Rows.All
import PySem.Str
import PySem.Sem
import PyProof.StrBlockL
import PyProof.Rows.Walk
import Wide.All
import OpenK.AllK
import Wide.FinOn
import Lean
import PyProof.EqAt
import PyProof.EqKinds
import PyProof.TupleCall
import PyProof.SeqRoads2
import PyProof.ExcArgs
import KE.KIsAll
import PyProof.DictIter
import PyProof.Rows.CountFlat
import PyProof.NeKinds
import KE.KSortKey
import KE.KMinKey
import KE.KIntText
import PyProof.Rows.FStr
import PyProof.Rows.StrJoin2
import PyProof.DictItems
import PySem.Challenge.RW_risecount_k18_numbers_refused
set_option Elab.async false
set_option linter.all false
set_option maxRecDepth 100000
set_option maxHeartbeats 3999999
open PySem.W (CodeHd OpenLaw codeIn excIn fnOf hideAll instObj keepIn lookIn methodObj noTabs tabObj)
open And renaming intro->wx
open Array renaming forIn_toList->a2D,getElem?_eq_getElem->qj,length_toList->t_,toList->a2C,toList_append->a2B
open Array.Perm renaming refl->ua
open Bool renaming and_eq_true->gy,and_false->a2A,eq_iff_iff->oo,false->ag,false_and->tw,false_eq_true->qi,false_ne_true->bt,not_eq_true->a2z,not_eq_true'->Kc,not_false->Kb,not_true->Ka,true->ae,true_and->wu
open Classical renaming byContradiction->mw,epsilon->a2y,epsilon_spec->a2x,propDecidable->J_
open Decidable renaming decide->Zv
open Eq renaming trans->Jz
open False renaming elim->jo
open ForInStep renaming done->a2w,yield->mq
open Function renaming comp->a3F,comp_def->a3E
open Int renaming add_mul->wt,add_zero->wq,emod_lt_of_pos->lx,emod_nonneg->jz,eq_of_mul_eq_mul_right->a2v,le_of_lt->Jy,le_refl->lr,le_trans->wo,mul_assoc->wm,mul_comm->mn,mul_le_mul_of_nonneg_right->Bj,mul_nonneg->a2u,mul_one->a2t,natAbs_mul->a2s,natCast_add->a2r,natCast_pow->Jx,ne_of_gt->a2q,ofNat_sub->Jw,one_mul->Jv,pow_nonneg->a2p,pow_pos->a2o,pow_succ->Ju,sub_zero->Jt,toNat_natCast->jn,zero_add->jy,zero_mul->qh
open List renaming Nodup->Js,all_cons->mj,all_eq_true->gx,all_map->qg,any_cons->mh,any_eq_true->a2l,append_assoc->om,append_inj'->Bi,append_nil->iu,append_of_mem->qf,concat_eq_append->Jp,cons_append->Bf,drop_eq_getElem_cons->tq,drop_eq_nil_of_le->a2j,drop_length->Jo,drop_zero->oj,eq_nil_of_length_eq_zero->Jn,eq_nil_or_concat->wg,eq_of_mem_replicate->a2i,ext_getElem->Jm,ext_getElem?->Be,filterMap_cons->Jl,filter_append->Jk,filter_congr->Jj,filter_cons->we,filter_eq_nil_iff->a2h,filter_eq_self->a2g,filter_nil->a2f,find?_cons->ij,flatten_cons->lp,foldl->Ji,foldl_cons->mf,forIn_cons->ll,forIn_nil->wc,fst_mem_of_mem_zipIdx->a2e,getD_eq_getElem?_getD->jw,getElem?_append_left->jv,getElem?_append_right->ju,getElem?_cons_succ->me,getElem?_cons_zero->Jh,getElem?_eq_getElem->bx,getElem?_eq_none->km,getElem?_eq_some_iff->cg,getElem?_map->cf,getElem?_nil->Jg,getElem?_range->tm,getElem?_replicate->jc,getElem?_set->a2d,getElem?_set_ne->jk,getElem?_set_self->kl,getElem?_take_of_lt->Bd,getElem?_zipIdx->Bc,getElem?_zip_eq_some->Bb,getElem_inj->a2c,getElem_map->qe,getElem_mem->md,getElem_of_mem->Ba,getElem_toArray->a2b,length->tj,length_append->cy,length_cons->cn,length_drop->wb,length_eq_zero_iff->qd,length_filter_le->lj,length_map->az,length_nil->gr,length_pos_iff->Jf,length_pos_of_mem->a2a,length_range->oi,length_replicate->ig,length_set->dm,length_singleton->A_,length_take->kj,length_zip->a19,length_zipIdx->a18,lookup_append->Je,lookup_cons->s_,map->a17,map_append->gq,map_congr_left->gk,map_cons->bo,map_id->a16,map_map->dh,map_nil->oh,map_set->Jd,map_take->Az,mem_append->gn,mem_append_left->gj,mem_append_right->gp,mem_cons->bh,mem_cons_of_mem->e_,mem_cons_self->cb,mem_filter->jj,mem_filterMap->qc,mem_flatMap->Jc,mem_iff_getElem?->Ay,mem_map->gi,mem_map_of_mem->Jb,mem_of_getElem?->lh,mem_range->og,mem_singleton->cc,nil_append->la,nodup_append->sy,nodup_cons->k_,nodup_nil->sx,nodup_range->a15,not_mem_nil->ie,of_mem_zip->sr,pairwise_append->Ax,pairwise_cons->fq,pairwise_iff_getElem->Aw,pairwise_lt_range->Ja,pairwise_map->si,range->b_,range_succ->a14,range_succ_eq_map->I_,replicate->bp,replicate_succ->iq,replicate_zero->Iz,set_cons_succ->Iy,set_cons_zero->Iw,set_nil->Iu,size_toArray->bw,sum->n_,sum_append->wa,sum_cons->ib,take_add_one->Ir,take_append_drop->a1Z,take_length->a1Y,take_of_length_le->r_,take_sublist->a1X,take_zero->a1W,toArray->Au,zipIdx_cons->a1V,zip_append->a1U,zip_cons_cons->a1T,zip_map->a1S
open List.Nodup renaming idxOf_getElem->Jr,sublist->a3D
open List.Pairwise renaming filter->wj,imp->a2n,imp_of_mem->a2m,map->tu,nil->Jq
open List.Perm renaming refl->a3C,swap->a3B
open List.cons renaming inj->Bh,injEq->a2k
open Nat renaming add_assoc->a1R,add_left_cancel->a1Q,add_zero->a1P,le_add_right->kz,le_of_ble_eq_true->v_,le_of_eq->nz,le_of_lt->ku,le_refl->bj,le_succ->qb,le_trans->f_,lt_asymm->a1O,lt_irrefl->jb,lt_log2_self->a1N,lt_of_lt_of_eq->a1M,lt_of_lt_of_le->fw,lt_succ_of_lt->qa,lt_succ_self->vz,lt_trans->a1L,ne_of_gt->kr,ne_of_lt->ee,one_pos->a1K,pow_le_pow_right->r9,sub_self->Iq,sub_zero->ny,succ_mul->As,succ_ne_self->a1J,zero_add->ki,zero_le->kh
open Ne renaming symm->d_
open Option renaming bind_none->Ip,bind_some->c_,getD_none->a1I,isSome_map->Ar,join_none->Io,join_some->Im,map_eq_some_iff->ip,map_none->Il,map_some->nu,none->af,some->aa
open Option.some renaming inj->cx
open Or renaming inl->cj,inr->bu
open Prod.mk renaming inj->a1H
open PyProof.Rows renaming AllBare->kq,Call_->vy,IntsAre->jt,IsTup->ia,Subscript_->Ij,args_list_sort->a1F,args_sorted1->a1E,args_tuple_getitem->a1D,boot_all->a3A,boot_bool->Aq,boot_int->Ap,boot_isinstance->Ii,boot_list->a1C,boot_max->Ih,boot_range->a1B,boot_sorted->Ao,boot_str->a3z,boot_sum->a3y,boot_tuple->vx,bubble_perm->a1A,callWith_builtin1->a3x,callWith_type1->r6,entry_list_sort->Ig,entry_sorted->Ie,entry_tuple_getitem->a1z,fact_split->a3w,get?_update_seq->vw,intBits_le->Ic,kind_sorted->Ib,listItems_at->Ia,listUpdate_at->rn,plain_sorted->H_,pow_int->a3v,seqEpoch_at->An,slicePart_none->a1y,slot_list_sort->Hz,slot_tuple_getitem->p_,sortedAll_at->a1x,sortedAll_old->a1w,subscriptTail_builtinR->a1v,truthy_tuple->a1u,tupleItemsOf_->a1t
open PyProof.Rows.IsTup renaming new->Ik
open PyProof.Rows.SortSt renaming mk'->a1G
open PySem renaming Addr->ah,Arguments->Hy,Around->bq,BindsTo->rj,DictEntry->Ai,Draws->ji,Env->de,Expr->au,Fin->Ae,FuncData->fv,Heap->ay,IntMulOk->vv,IsEnum->vt,IsPair->dq,IsPart->kn,IsRange->Hn,IsRangeIter->a02,IsZip->gw,ItemsOf->Ac,Keyword->fz,Model->vq,NameKind->ja,Obj->ax,Paired->i_,PassesOwn->qx,Pos->bb,Program->bf,Result->Aa,Scope->fj,Shared->ak,Stmt->bz,Str->aj,Tok->h_,Value->ai,Within->a0E,World->ba,assignEach->df,backTo->cu,cLine->dj,call->Hf,callType_new->He,call_list_seq->a0D,call_max_walk->a0C,call_meets->o_,call_range_1->a0B,codeAny->ng,codeAny_builtin->oz,codeAny_call_builtin->a0A,codeAny_mono->Hd,concat_meets->Hc,eqIsQuiet_byValue->a0z,evalPart_none->a0y,fitsIndex_both->a0x,intBits_le_64->a0w,intItems_at->zp,isSubtype_tuple_tuple->a0v,keywordEach->kb,mainGlobals->g_,mem_of_lookup->jr,model->aw,name_of_addr->a0u,noFill_tuple_add->Hb,nums_intItems->Ha,plainId_quiet->zo,pushCells_keeps->a0t,rangeSize_one->zm,seqIndex_neg->G_,seqIndex_of->Gz,seq_tuple_add->Gy,sizeLine->bc,sizeLine_eq->fg,slot_list_getitem->a0s,small_one->zk,starEach->ar,swapsWith->di,tupleKind_room_in1->a0r,typeIs_int->Gx,wpAny->av,wpAny_Assign_Subscript->a0q,wpAny_Call_Name_kw->zj,wpAny_Dict_empty->a0p,wpAny_Name->Gw,wpAny_assign_Name->a0o,wpAny_attempt->qu,wpAny_bind->aq,wpAny_call->zi,wpAny_callSpecial?_slot->oy,wpAny_call_entry->j_,wpAny_eqBool_int->a0n,wpAny_execs_cons->Gv,wpAny_execs_nil->y_,wpAny_field->il,wpAny_getItem_heap->a0m,wpAny_getItem_of->a0l,wpAny_holding->iy,wpAny_isInstance->Gu,wpAny_isTrue_Compare1->a0k,wpAny_letGo->vj,wpAny_load->Gs,wpAny_mono->ik,wpAny_newList->vi,wpAny_newObj_type->vh,wpAny_newTuple->Gr,wpAny_of_eq->a0j,wpAny_onRaise->yz,wpAny_passesOwn->ox,wpAny_pure->a_,wpAny_pyIter_enum->yy,wpAny_pyIter_list->Gq,wpAny_pyIter_tuple->ou,wpAny_pyIter_zip->vg,wpAny_rule->nc,wpAny_runValue->a0i,wpAny_seqItems->ma,wpAny_sequenceKey->a0h,wpAny_setField->a0g,wpAny_setField_rec->qt,wpAny_setFlight_noneW->a0f,wpAny_setItem_heap->a0e,wpAny_setItem_pairs->a0d,wpAny_specialOf->Gp,wpAny_standAt->Gm,wpAny_truthy_bool->j7,wpAny_truthy_list->a0c,wpAny_tupleItemsOf->a0b,wpAny_typeOf->yx,wpAny_updateSeq_pair->Gk
open PySem.Around renaming frames_deeper->a1s,under_plainId->rm
open PySem.AutoListH renaming list___mul___list_int_3->a3u
open PySem.AutoSeq1 renaming list_extend_list_list_0->a3t
open PySem.Builtin.List renaming listTooLong->Am
open PySem.Builtin.ObjectAttr renaming dataDescriptor?->a3s,find->a3r
open PySem.Builtin.Range renaming rangeSize->p0,small->Hx
open PySem.Builtin.Slice renaming sliceAdjust->Hw,sliceApplied->a1r,sliceFields->a3q,slicePartIndex->a3p,slicePlaces->Al
open PySem.Builtin.SmallTypes renaming nextOf->rh,ownedTupleHandOut->a3o,ownedTupleIsFree->Ak
open PySem.Builtin.Tuple renaming tupleExact->Aj,tupleHashOf->a1q,tupleIsExact->a3n,tupleItemsOf->a1p
open PySem.Calls renaming Name_function_global->a1o,call_function_entry->a1n,evalArgs_plain->a1m
open PySem.CmpOf renaming ints_gt->a1l
open PySem.DictEntry renaming refKey->a3m
open PySem.EqMixed renaming eq_bool_str->a3l,eq_int_str->a3k,eq_str_bool->a3j,eq_str_int->a3i,ne_bool_str->a3h,ne_int_str->a3g,ne_str_bool->a3f,ne_str_int->a3e
open PySem.EqNone renaming eq_bool_none->a3d,eq_int_none->a3c,eq_none_bool->a3b,eq_none_int->a3a,eq_none_none->a29,eq_none_str->a28,eq_str_none->a27,ne_bool_none->a26,ne_int_none->a25,ne_none_bool->a24,ne_none_int->a23,ne_none_none->a22,ne_none_str->a21,ne_str_none->a20
open PySem.F renaming args_object_init_2->a1k,args_tuple_add_2->Hv,args_tuple_iterator_next_1->a1j,args_zip_next_1->Hu,entry_all_loop->a1i,entry_list_iadd->a1h,entry_proto_collect->a1g,entry_tuple_add->Ht,entry_tuple_iterator_next->a1f,entry_zip_next->Hs,excAttr_ValueError->a1e,plainAttrs_list->Hr,plain_all_loop->Ah,plain_list_iadd->Ag,plain_proto_collect->a1d,slot_dict_getitem->a1c,slot_int_rmul->a1b,slot_list_append->a1a,slot_list_count->a09,slot_list_extend->a08,slot_list_index->a07,slot_list_pop->a06,slot_tuple_add->Hq,slot_tuple_eq->a05,slot_tuple_iterator_next->Af,slot_zip_next->rf
open PySem.Heap renaming ExtBut->a04,SameBut->nq,get?_none_of_le->a03,get?_push_of_some->cm,get?_push_size->dg,get?_update_other->Ho,get?_update_self->Ad,lt_size->br,size_push->ko
open PySem.Heap.DictOf renaming new->a2Z
open PySem.Heap.IsSliceOf renaming new->a2Y
open PySem.Heap.SameBut renaming update->q_
open PySem.IsL renaming update->a2X
open PySem.MeetsSeq renaming list_pop_at->a2W
open PySem.NameKind renaming cell->kg,free->jh
open PySem.Obj renaming data_mapFields->a01,mapSeq->fm,putSet->a00
open PySem.Paired renaming length->qz,snoc->Ab
open PySem.PassesOwn renaming leaving->a2V,never->gm
open PySem.SeqAt renaming EqAt->Hm
open PySem.SeqAt.EqAt renaming bool_bool->a0Z,bool_int->a2U,bool_none->a2T,bool_str->a2S,int_bool->a2R,int_int->a2Q,int_none->a2P,int_str->a0Y,int_tuple->a2O,none_bool->a2N,none_int->a2M,none_str->a2L,same->a0X,str_bool->a2K,str_int->a0W,str_none->a2J,str_str->a2I,str_tuple->a2H,tuple_int->a2G,tuple_str->a2F
open PySem.Str renaming ofString->pz
open PySem.Txt renaming split->pw
open PySem.Value renaming bool->kc,builtin->a0V,float->a0U,int->js,isInt->a0T,isStrOf->a0S,none->jg,ref->cz,str->z_,type->pq
open PySem.Value.ref renaming inj->a2E
open PySem.W renaming Frag->ao,KasT->pj,KatTups->zz,Looks->vp,OpenLaw->qw,WalkO->Hl,cellsFrom_some->a0M,exmOne->zy,findIn->a0L,funFrames_hide->a0K,hideAll_get->vn,hideAll_none->vm,kas_asc->jf,kas_ask->vk,kas_bin->zx,kas_count->zw,kas_desc->pf,kas_descPart->zv,kas_place->jm,kas_rev->iz,kas_sort->nh,kas_tail3->Hk,kia_one->je,kitOne->qv,kitx_dict->a0J,kitx_list->Hj,kitx_tuple->a0I,kla_fn->zu,kla_obj->zt,looks_findIn->Hi,nsIn->Hh,of_hideAll->Hg,plainGet->a0H,subIn->zr,tabIn->zq,tail_of_in->a0G
open PySem.W.KF renaming slot_gs->a0R
open PySem.W.KasT renaming ret->nj
open PySem.W.KatTups renaming cons->a0Q
open PySem.W.Looks renaming of_pure->a0P
open PySem.W.WData renaming int->a0O
open PySem.W.WShape renaming has->a0N
open PySem.Walks renaming list->a0F
open Sum renaming inl->cp,inr->jl
open Sum.inl renaming inj->yw,injEq->a0a
open Sum.inr renaming inj->Gj
open True renaming intro->jq
open PySem
set_option genSizeOf false
set_option compiler.extract_closed false
set_option bootstrap.genMatcherCode false
noncomputable section
local macro_rules|`(tactic|lia)=>`(tactic|first|cutsat|omega)
local macro_rules|`(∅)=>`(by lia)
local macro_rules|`(tactic|show $t)=>`(tactic|first|refine $t|fail)
set_option hygiene false
local macro_rules|`(tactic|symm$[$l:location]?)=>`(tactic|simp only[Dn]$[$l]?)
set_option hygiene true
local macro_rules|`(tactic|walk_at "0")=>`(tactic|first|show .inl rfl|show .inr rfl)
local macro_rules|`(tactic|walk_at "1")=>`(tactic|first|show cj rfl|show bu (cj rfl)|show bu (bu rfl))
local macro_rules|`(tactic|walk_at "2")=>`(tactic|first|show .inr rfl|show .inl rfl)
abbrev Q0a:=List (List Int)
abbrev Q0b:=List (ah×ax)
abbrev Q0c:=ai->ak->Prop
abbrev Q0d:=aj->Option ai
abbrev Q0e:=List Int
abbrev Q0f:=List ai
abbrev Q0g:=List aj
abbrev Z_.{u}:=@if_pos.{u}
abbrev Zz.{u}:=@if_neg.{u}
abbrev Zy:=@decide_eq_false
abbrev Zx:=@decide_eq_true
abbrev Zw.{u}:=@absurd.{u}

namespace L3
inductive D where
 |non
 |bl (b:Bool)
 |int (i:Int)
 |str (x:aj)
 |tup (xs:List D)
 |lst (xs:List D)
 |j5 (ns:Q0e)
 |lA (ks:List (Sum Int aj)) (xs:List D)
 |dC (q:Nat->ax->Prop) (ks:List (Sum (Sum Int aj) (List (Sum (Sum Int aj) (List (Sum Int aj)))))) (xs:List D)
 |exc (c:aj) (a:Nat)
 |rws (xs:Q0a)
mutual
noncomputable def D.AN:D->Bool
 |.non=>ae
 |.bl _=>ae
 |.int _=>ae
 |.str _=>ae
 |.tup ds=>qC ds
 |.lst _=>ag
 |.j5 _=>ae
 |.lA _ _=>ag
 |.dC _ _ _=>ag
 |.exc _ _=>ae
 |.rws _=>ag
noncomputable def qC:List D->Bool
 |[]=>ae
 |d::ds=>d.AN&&qC ds
end
abbrev dZ:=List (Option D)
inductive Sv where
 |no
 |ro (d:D)
 |ow (d:D)
abbrev bT:=List Sv
noncomputable def Sv.all:Sv->Option D
 |.no=>af
 |.ro d=>aa d
 |.ow d=>aa d
abbrev Sv.ri(n:Int):Sv:=.ro (.int n)
noncomputable def Sv.rd:Sv->Option D
 |.ro d=>aa d
 |_=>af
def bD(ρ:bT):dZ:=ρ.map Sv.all
def gF(ρ:bT):dZ:=ρ.map Sv.rd
end L3
namespace L4
open L3
inductive M (α:Type) where
 |no
 |ex (c:aj)
 |ok (a:α)
inductive Out where
 |no
 |nx (ρ:bT)
 |rt (d:D)
 |ex (c:aj)
abbrev EF:=dZ->Option D
abbrev TF:=dZ->Option Bool
abbrev AF:=dZ->Option (List D)
abbrev XF:=bT->Option (bT×D)
abbrev SF:=bT->Out
abbrev g8:=List D->M D
def nU:Nat:=16777216
def aS(i:Nat):EF:=λρ=>(ρ[i]?).join
def eC(d:D):EF:=λ_=>aa d
abbrev eI(n:Int):EF:=eC (.int n)
abbrev b8:EF:=aS 0
abbrev cV:EF:=aS 1
abbrev dQ:EF:=aS 2
abbrev eF:EF:=aS 3
abbrev gG:EF:=aS 4
abbrev jA:EF:=aS 5
abbrev m3:EF:=aS 6
abbrev vD:EF:=aS 7
abbrev YN:EF:=aS 8
abbrev um:EF:=aS 9
abbrev FL:EF:=aS 10
abbrev Us:EF:=aS 11
abbrev aO4:EF:=aS 12
def aB(g:D->D->Option D)(a b:EF):EF:=λρ=>(a ρ).bind λx=>(b ρ).bind λy=>g x y
noncomputable def kL:D->Option Bool
 |.bl b=>aa b
 |.lst ds=>aa (!ds.isEmpty)
 |.tup ds=>aa (!ds.isEmpty)
 |_=>af
def tV(f:EF):TF:=λρ=>(f ρ).bind kL
def jD(t:TF):TF:=λρ=>(t ρ).map (!·)
def qD(t u:TF):TF:=λρ=>(t ρ).bind λb=>if b=ae then u ρ else aa ag
def vE(t u:TF):TF:=λρ=>(t ρ).bind λb=>if b=ae then aa ae else u ρ
noncomputable def qG:D->Option Bool
 |.bl b=>aa b
 |_=>af
def qM(a b:EF):EF:=λρ=>(a ρ).bind λx=>(qG x).bind λc=>if c=ae then b ρ else aa (.bl ag)
def xk(a b:EF):EF:=λρ=>(a ρ).bind λx=>(qG x).bind λc=>if c=ae then aa (.bl ae) else b ρ
def FN(a:EF):EF:=λρ=>(a ρ).bind λx=>(qG x).map λc=>.bl (!c)
def R4(t:TF)(a b:EF):EF:=λρ=>(t ρ).bind λc=>if c=ae then a ρ else b ρ
noncomputable def YO:D->Option D
 |.int i=>aa (.int (-i))
 |_=>af
def qN(a:EF):EF:=λρ=>(a ρ).bind YO
def fP(f g:D->D->Option D)(a b c:EF):EF:=λρ=>(a ρ).bind λx=>(b ρ).bind λy=>(f x y).bind λz=>(qG z).bind λk=>if k=ae then(c ρ).bind λw=>g y w else aa (.bl ag)
noncomputable def IT(g:Int->Int->D):D->D->Option D
 |.int i,.int j=>aa (g i j)
 |_,_=>af
noncomputable def oA(c:Int->Int->Bool)(g:Int->Int->D):D->D->Option D
 |.int i,.int j=>if c i j=ae then aa (g i j) else af
 |_,_=>af
noncomputable def bX:D->D->Option D
 |.int i,.int j=>aa (.int (i+j))
 |.lst a,.lst b=>if a.length+b.length<=nU then aa (.lst (a++b)) else af
 |.tup a,.tup b=>if a.length+b.length<=nU then aa (.tup (a++b)) else af
 |.str a,.str b=>if a.length+b.length<=nU then aa (.str (a++b)) else af
 |_,_=>af
def dH:D->D->Option D:=IT λi j=>.int (i-j)
def xK(i j:Int):Bool:=Zv (i.natAbs<18446744073709551616)||Zv (j.natAbs<18446744073709551616)||Zv (i.natAbs.log2+j.natAbs.log2<=134217700)
def mulM:D->D->Option D:=oA xK λi j=>.int (i*j)
def e8:D->D->Option D:=oA (λ_ j=>Zv (0<j)) λi j=>.int (i%j)
def l8:D->D->Option D:=oA (λ_ j=>Zv (0<j)&&Zv (j.natAbs<1073741824)) λi j=>.int (i/j)
def i7:D->D->Option D:=oA (λi j=>Zv (0<=j)&&Zv (j.natAbs<=1000000)&&Zv (i.natAbs<18446744073709551616)) λi j=>.int (i^j.toNat)
def CV:D->D->Option D:=IT λi j=>.bl (Zv (i<j))
def AO:D->D->Option D:=IT λi j=>.bl (Zv (i<=j))
def n9:D->D->Option D:=IT λi j=>.bl (Zv (j<i))
def geM:D->D->Option D:=IT λi j=>.bl (Zv (j<=i))
noncomputable def Gh:D->D->Option Bool
 |.int i,.int j=>aa (Zv (i=j))
 |.bl i,.bl j=>aa (Zv (i=j))
 |.str i,.str j=>aa (Zv (i=j))
 |.non,.non=>aa ae
 |_,_=>af
def j9:D->D->Option D:=λx y=>(Gh x y).map .bl
def OH:D->D->Option D:=λx y=>(Gh x y).map λb=>.bl (!b)
noncomputable def xM:D->Bool
 |.non=>ae
 |_=>ag
def YQ:D->D->Option D:=λx y=>if xM y=ae then aa (.bl (xM x)) else af
noncomputable def intsOf:List D->Option (List Int)
 |[]=>aa []
 |.int i::ds=>(intsOf ds).map (i :: ·)
 |_::_=>af
noncomputable def vF:List D->Option (List Bool)
 |[]=>aa []
 |.bl i::ds=>(vF ds).map (i :: ·)
 |_::_=>af
def xN(neg:Bool):D->D->Option D
 |.int i,.tup ds=>(intsOf ds).map λns=>.bl (if neg then !ns.contains i else ns.contains i)
 |.int i,.lst ds=>(intsOf ds).map λns=>.bl (if neg then !ns.contains i else ns.contains i)
 |_,_=>af
def FO(n:Nat)(i:Int):Option Nat:=if 0<=i then(if i<n then aa i.toNat else af) else if -(n:Int)<=i then aa (i+n).toNat else af
def wL{α:Type}(xs:List α)(i:Int):Option α:=(FO xs.length i).bind λj=>xs[j]?
noncomputable def cZ:D->D->Option D
 |.lst a,.int i=>wL a i
 |.tup a,.int i=>wL a i
 |.j5 a,.int i=>(wL a i).map D.int
 |_,_=>af
noncomputable def xO:D->Option (Sum Int aj)
 |.int i=>aa (.inl i)
 |.str x=>aa (.inr x)
 |_=>af
def lF(ks:List (Sum Int aj))(ds:List D)(k:Sum Int aj):Option D:=((ks.zip ds).find? λa=>Zv (a.1=k)).map (·.2)
def xP:D->D->Option D
 |.lA ks ds,d=>(xO d).bind λk=>lF ks ds k
 |_,_=>af
def aG:AF:=λ_=>aa []
def aA(a:EF)(t:AF):AF:=λρ=>(a ρ).bind λd=>(t ρ).bind λds=>aa (d::ds)
abbrev aV(i:Nat):AF:=aA (aS i) aG
def eT(t:AF):EF:=λρ=>(t ρ).bind λds=>if ds.length<=nU then aa (.tup ds) else af
def eU(t:AF):EF:=λρ=>(t ρ).bind λds=>if ds.length<=nU then aa (.lst ds) else af
def cK(g:List D->Option D)(t:AF):EF:=λρ=>(t ρ).bind g
noncomputable def m4:M D->Option D
 |.ok d=>aa d
 |_=>af
def aF(R:g8)(t:AF):EF:=λρ=>(t ρ).bind λds=>m4 (R ds)
noncomputable def bU:List D->Option D
 |[.lst a]=>aa (.int a.length)
 |[.tup a]=>aa (.int a.length)
 |[.j5 a]=>aa (.int a.length)
 |_=>af
noncomputable def d8:List D->Option D
 |[.lst a]=>aa (.tup a)
 |[.tup a]=>aa (.tup a)
 |_=>af
noncomputable def FP:List D->Option D
 |[.lst a]=>aa (.lst a)
 |[.tup a]=>aa (.lst a)
 |_=>af
noncomputable def insI(a:Int):List Int->List Int
 |[]=>[a]
 |b::l=>if a<=b then a::b::l else b::insI a l
def sortI:List Int->List Int
 |[]=>[]
 |a::l=>insI a (sortI l)
def lG:List D->Option D
 |[.lst a]=>(intsOf a).bind λns=>if ns.length<64 then aa (.lst ((sortI ns).map D.int)) else af
 |_=>af
def IU:List D->Option D
 |[.lst a]=>(intsOf a).map λns=>.int ns.sum
 |_=>af
def tT:List D->Option (List Bool)
 |[]=>aa []
 |d::ds=>(kL d).bind λb=>(tT ds).map (b :: ·)
def allM:List D->Option D
 |[.lst a]=>(tT a).map λbs=>.bl (bs.all id)
 |_=>af
noncomputable def tyM:D->String
 |.non => "NoneType"
 |.bl _ => "bool"
 |.int _ => "int"
 |.str _ => "str"
 |.tup _ => "tuple"
 |.lst _ => "list"
 |.j5 _ => "list"
 |.lA _ _ => "dict"
 |.dC _ _ _ => "dict"
 |.exc _ _ => "NoneType"
 |.rws _ => "NoneType"
def IV(T:String)(d:D):Bool:=tyM d == T||(T == "int"&&tyM d == "bool")
noncomputable def IW:D->Bool
 |.exc _ _=>ag
 |.dC _ _ _=>ag
 |.rws _=>ag
 |_=>ae
def kM(T:String)(a:EF):EF:=λρ=>(a ρ).bind λd=>if IW d=ae then aa (.bl (IV T d)) else af
def bE(lo:Int)(n:Nat):List Int:=(b_ n).map λk:Nat=>lo+(k:Int)
def Ur(hi:Int)(n:Nat):List Int:=(b_ n).map λk:Nat=>hi-(k:Int)
noncomputable def IY(t:AF):EF:=λρ=>(t ρ).bind λds=>match ds with
 |[.int j]=>if j.natAbs<=16777216 then aa (.lst ((bE 0 j.toNat).map D.int)) else af
 |_=>af
noncomputable def LR(t:AF):EF:=λρ=>(t ρ).bind λds=>match ds with
 |[.int j]=>if j.natAbs<=16777216 then aa (.tup ((bE 0 j.toNat).map D.int)) else af
 |[.int i,.int j]=>if i.natAbs<=8388608/\j.natAbs<=8388608 then aa (.tup ((bE i (j-i).toNat).map D.int)) else af
 |_=>af
noncomputable def CW:List D->Option D
 |[.int i]=>aa (.int i)
 |[.bl b]=>aa (.int (if b=ae then 1 else 0))
 |_=>af
noncomputable def xQ:List D->Option D
 |[.int i,.int j]=>aa (.int (if j>i then j else i))
 |_=>af
noncomputable def repLM:D->D->Option D
 |.lst a,.int n=>if a.length*n.toNat<=nU/\n.natAbs<9223372036854775808 then aa (.lst (bp n.toNat a).flatten) else af
 |_,_=>af
noncomputable def FQ:D->D->Option D
 |.lst a,.lst b=>if a.length+b.length<=nU then aa (.lst (a++b)) else af
 |_,_=>af
noncomputable def A8:D->Option (List D)
 |.lst ds=>aa ds
 |.tup ds=>aa ds
 |_=>af
def cQ(f:EF):AF:=λρ=>(f ρ).bind A8
noncomputable def xR:List D->Option (List D)
 |[.int j]=>if j.natAbs<4611686018427387904 then aa ((bE 0 j.toNat).map D.int) else af
 |[.int i,.int j]=>if i.natAbs<4611686018427387904/\j.natAbs<4611686018427387904 then aa ((bE i (j-i).toNat).map D.int) else af
 |[.int i,.int j,.int k]=>if k=-1/\i.natAbs<1000000/\j.natAbs<1000000 then aa ((Ur i (i-j).toNat).map D.int) else af
 |_=>af
def b9(t:AF):AF:=λρ=>(t ρ).bind xR
noncomputable def LS:List D->Option (List D)
 |[.lst ds]=>aa (ds.zipIdx.map λp=>.tup [.int (p.2:Int),p.1])
 |[.tup ds]=>aa (ds.zipIdx.map λp=>.tup [.int (p.2:Int),p.1])
 |_=>af
def l9(t:AF):AF:=λρ=>(t ρ).bind LS
def Uq:List D->Option (List D)
 |[a,b]=>(A8 a).bind λxs=>(A8 b).map λys=>(xs.zip ys).map λp=>.tup [p.1,p.2]
 |_=>af
def yu(t:AF):AF:=λρ=>(t ρ).bind Uq
noncomputable def yt:List D->Option (List D)
 |[.lst ds]=>aa ds.reverse
 |[.tup ds]=>aa ds.reverse
 |_=>af
def yr(t:AF):AF:=λρ=>(t ρ).bind yt
abbrev YR:=D->dZ->Option dZ
def g1(i:Nat):YR:=λd ρ=>aa (ρ.set i (aa d))
noncomputable def A9:D->Option (D×D)
 |.tup [x,y]=>aa (x,y)
 |_=>af
def g2(i j:Nat):YR:=λd ρ=>(A9 d).map λp=>(ρ.set i (aa p.1)).set j (aa p.2)
def dM:TF:=λ_=>aa ae
def benv(nl:Nat)(fr:List Nat)(ρ:dZ):dZ:=bp nl af++fr.map λj=>(ρ[j]?).join
noncomputable def kN(g:YR)(t:TF)(e:EF)(ρ:dZ):List D->Option (List D)
 |[]=>aa []
 |d::ds=>(g d ρ).bind λρ1=>(t ρ1).bind λb=>if b=ae then(e ρ1).bind λy=>(kN g t e ρ ds).map (y :: ·) else kN g t e ρ ds
def cN(nl:Nat)(fr:List Nat)(it:AF)(g:YR)(t:TF)(e:EF):EF:=λρ=>(it ρ).bind λds=>if ds.length<=nU then(kN g t e (benv nl fr ρ) ds).map D.lst else af
abbrev OF:=dZ->Option (Option Int)
def wM:OF:=λ_=>aa af
noncomputable def asInt:D->Option Int
 |.int i=>aa i
 |_=>af
def oE(f:EF):OF:=λρ=>(f ρ).bind λd=>(asInt d).map aa
noncomputable def OJ(n d:Nat):Option Int->Nat
 |none=>d
 |some i=>if i<0 then(i+n).toNat else min i.toNat n
def vW(xs:List D)(lo hi:Option Int):List D:=(xs.drop (OJ xs.length 0 lo)).take (OJ xs.length xs.length hi-OJ xs.length 0 lo)
def slM(d:D)(lo hi:Option Int):Option D:=match d with
 |.lst ds=>aa (.lst (vW ds lo hi))
 |.tup ds=>aa (.tup (vW ds lo hi))
 |_=>af
def xS(f:EF)(lo hi:OF):EF:=λρ=>(f ρ).bind λd=>(lo ρ).bind λl=>(hi ρ).bind λh=>slM d l h
def mB(f:EF):XF:=λρ=>(f (bD ρ)).bind λd=>if d.AN=ae then aa (ρ,d) else af
def aX(f:EF):XF:=λρ=>(f (gF ρ)).bind λd=>aa (ρ,d)
noncomputable def nZ:Option Sv->Option (List D)
 |some (.ow (.lst ds))=>aa ds
 |_=>af
def qO(i:Nat)(m:List D->D->Option (List D×D))(x:XF):XF:=λρ=>(nZ ρ[i]?).bind λ_=>(x ρ).bind λp=>(nZ p.1[i]?).bind λds=>(m ds p.2).map λq=>(p.1.set i (.ow (.lst q.1)),q.2)
def n5:List D->D->Option (List D×D):=λds d=>if ds.length<nU then aa (ds++[d],.non) else af
noncomputable def YS:List D->D->Option (List D×D)
 |ds,.int k=>if k.natAbs<9223372036854775808 then(FO ds.length k).bind λj=>(ds[j]?).map λd=>(ds.eraseIdx j,d) else af
 |_,_=>af
noncomputable def tU:List D->D->Option (List D×D)
 |ds,.lst es=>if ds.length+es.length<=nU then aa (ds++es,.non) else af
 |_,_=>af
def dE:SF:=λρ=>.nx ρ
noncomputable def aH(f g:SF):SF:=λρ=>match f ρ with
 |.nx ρ'=>g ρ'
 |o=>o
def bI(f:EF):SF:=λρ=>match f (bD ρ) with
 |some d=>.rt d
 |none=>.no
def eO(t:TF)(a b:SF):SF:=λρ=>match t (bD ρ) with
 |some ae=>a ρ
 |some ag=>b ρ
 |none=>.no
def aO(i:Nat)(f:EF):SF:=λρ=>match f (gF ρ) with
 |some d=>.nx (ρ.set i (.ro d))
 |none=>.no
noncomputable def mC(i:Nat)(x:XF):SF:=λρ=>match x ρ with
 |some p=>.nx (p.1.set i (.ro p.2))
 |none=>.no
def kA(i:Nat)(f:EF):SF:=λρ=>match f (gF ρ) with
 |some d=>.nx (ρ.set i (.ow d))
 |none=>.no
def oB:D->Bool
 |.lst ds=>qC ds
 |_=>ag
def vG(i:Nat)(f:EF):SF:=λρ=>match f (bD ρ) with
 |some d=>if oB d=ae then .nx (ρ.set i (.ow d)) else .no
 |none=>.no
def nV(i:Nat)(f:EF):SF:=λρ=>match f (bD ρ) with
 |some d=>if oB d=ae then .nx (ρ.set i (.ro d)) else .no
 |none=>.no
def FR(i:Nat):SF:=λρ=>.nx (ρ.set i (.ow (.lA [] [])))
noncomputable def sX(x:XF):SF:=λρ=>match x ρ with
 |some p=>.nx p.1
 |none=>.no
def kO(i:Nat)(x:XF)(k:EF):SF:=λρ=>match ((x ρ).bind λp=>(nZ p.1[i]?).bind λds=>(k (bD p.1)).bind λkd=>(asInt kd).bind λkk=>(FO ds.length kk).map λj=>p.1.set i (.ow (.lst (ds.set j p.2)))) with
 |some ρ'=>.nx ρ'
 |none=>.no
noncomputable def xT:Option Sv->Option (List (Sum Int aj)×List D)
 |some (.ow (.lA ks ds))=>aa (ks,ds)
 |_=>af
def LU(i:Nat)(x:XF)(k:EF):SF:=λρ=>match ((x ρ).bind λp=>(xT p.1[i]?).bind λkd=>(k (bD p.1)).bind λa=>(xO a).bind λkk =>
  if(lF kd.1 kd.2 kk).isNone=ae/\kd.2.length<nU then aa (p.1.set i (.ow (.lA (kd.1++[kk]) (kd.2++[p.2])))) else af) with
 |some ρ'=>.nx ρ'
 |none=>.no
abbrev GSF:=D->bT->Option bT
def n6(i:Nat):GSF:=λd ρ=>aa (ρ.set i (.ro d))
def IL(i j:Nat):GSF:=λd ρ=>(A9 d).map λp=>(ρ.set i (.ro p.1)).set j (.ro p.2)
noncomputable def fX(g:GSF)(b:SF):List D->bT->Out
 |[],ρ=>.nx ρ
 |d::ds,ρ=>match g d ρ with
  |none=>.no
  |some ρ1=>match b ρ1 with
   |.nx ρ2=>fX g b ds ρ2
   |o=>o
def eM(it:AF)(g:GSF)(b:SF):SF:=λρ=>match it (gF ρ) with
 |some ds=>fX g b ds ρ
 |none=>.no
def fQ(t:TF)(b:SF):Nat->bT->Out
 |0,_=>.no
 |n+1,ρ=>match t (bD ρ) with
  |none=>.no
  |some ag=>.nx ρ
  |some ae=>match b ρ with
   |.nx ρ'=>fQ t b n ρ'
   |o=>o
def R5:Nat:=1000000
def R6(n:Nat)(t:TF)(b:SF):SF:=fQ t b n
def dD(n:Nat)(ds:List D):bT:=ds.map Sv.ro++bp (n-ds.length) Sv.no
noncomputable def bZ(n a:Nat)(b:SF):g8:=λds=>if ds.length=a then(match b (dD n ds) with
 |.rt d=>.ok d
 |.nx _=>.ok .non
 |.ex c=>.ex c
 |.no=>.no) else .no
noncomputable def fK:List Int->List Int->Bool
 |[],[]=>ag
 |[],_::_=>ae
 |_::_,[]=>ag
 |a::as,b::bs=>if a=b then fK as bs else Zv (a<b)
def OK(t:Q0e):List (List Int)->List (List Int)
 |[]=>[t]
 |u::us=>if fK u t=ae then u::OK t us else t::u::us
def mD:List (List Int)->List (List Int)
 |[]=>[]
 |t::ts=>OK t (mD ts)
def rO(t:Q0e):D:=.tup (t.map D.int)
def R7:D->Option (List Int)
 |.tup ds=>intsOf ds
 |_=>af
def lU:List D->Option (List (List Int))
 |[]=>aa []
 |d::ds=>(R7 d).bind λt=>(lU ds).map (t :: ·)
def qP:List D->Option D
 |[.lst a]=>(lU a).bind λd=>if d.length<64/\d.all (λt=>!t.isEmpty)=ae then aa (.lst ((mD d).map rO)) else af
 |_=>af
theorem CY:∀a b:Q0e,fK a b=ae->fK b a=ag
 |[],[],h=>by cases h
 |[],_::_,_=>rfl
 |_::_,[],h=>by cases h
 |a::as,b::bs,h=>by
  unfold fK at h ⊢;by_cases e:a=b
  .rw [Z_ e] at h;rw[Z_ e.symm];show CY as bs h
  .rw [Zz e] at h;rw[Zz (d_ e)];simp at h ⊢;lia
theorem CZ:∀a b c:Q0e,fK b a=ag->fK c b=ag->fK c a=ag
 |[],[],c,h1,h2=>h2
 |[],b::bs,[],h1,h2=>rfl
 |[],b::bs,c::cs,h1,h2=>rfl
 |a::as,[],c,h1,h2=>by cases h1
 |a::as,b::bs,[],h1,h2=>by cases h2
 |a::as,b::bs,c::cs,h1,h2=>by
  unfold fK at h1 h2 ⊢;by_cases h:b=a
  .subst h;rw[Z_ rfl] at h1;by_cases d:c=b
   .subst d;rw[Z_ rfl] at h2 ⊢;show CZ as bs cs h1 h2
   .rw [Zz d] at h2 ⊢;show h2
  .rw [Zz h] at h1;by_cases d:c=b
   .subst d;rw[Zz h];show h1
   .rw [Zz d] at h2;simp at h1 h2;rw[Zz ∅];simp;lia
theorem IZ:∀a b:Q0e,fK a b=ag->fK b a=ag->a=b
 |[],[],_,_=>rfl
 |[],_::_,h1,_=>by cases h1
 |_::_,[],_,h2=>by cases h2
 |a::as,b::bs,h1,h2=>by
  unfold fK at h1 h2;by_cases e:a=b
  .subst e;rw[Z_ rfl] at h1 h2;rw[IZ as bs h1 h2]
  .rw [Zz e] at h1;rw[Zz (d_ e)] at h2;simp at h1 h2;lia
theorem tW(t:Q0e):∀l,(OK t l).Perm (t::l)
 |[]=>.refl _
 |u::us=>by
  unfold OK;by_cases h:fK u t=ae
  .rw [Z_ h];show((tW t us).cons u).trans (.swap t u us)
  .rw [Zz h]
theorem gH:∀l,(mD l).Perm l
 |[]=>.refl _
 |t::ts=>(tW t _).trans ((gH ts).cons t)
def UpT(l:Q0a):Prop:=l.Pairwise λa b=>fK b a=ag
theorem LV(t:Q0e):∀l,UpT l->UpT (OK t l)
 |[],_=>List.pairwise_singleton _ _
 |u::us,h=>by
  have⟨h1,h2⟩:=fq.mp h;unfold OK;by_cases e:fK u t=ae
  .rw [Z_ e];show fq.mpr ⟨λx a=>?_,LV t us h2⟩;rcases bh.mp ((tW t us).mem_iff.mp a) with rfl|a
   .exact CY _ _ e
   .exact h1 x a
  .rw [Zz e];have e:fK u t=ag:=by simpa using e
   show fq.mpr ⟨λx a=>?_,h⟩;rcases(bh.mp a:x=u\/x∈us) with rfl|a
   .exact e
   .exact CZ t u x e (h1 x a)
theorem rP:∀l,UpT (mD l)
 |[]=>.nil
 |t::ts=>LV t _ (rP ts)
theorem C4:∀{l m:Q0a},l.Perm m->UpT l->UpT m->l=m
 |[],m,p,_,_=>by rw[List.nil_perm.mp p]
 |a::l,[],p,_,_=>by have:=p.length_eq;simp at this
 |a::l,b::m,p,h1,h2=>by
  obtain⟨v,q⟩:=fq.mp h1;obtain⟨o,n⟩:=fq.mp h2;have e:a=b:=by
   have j:=bh.mp (p.mem_iff.mp cb);have d:=bh.mp (p.mem_iff.mpr cb);rcases j with h|h
   .exact h
   .rcases d with h' | h'
    .exact h'.symm
    .exact IZ _ _ (o a h) (v b h')
  subst e;rw[C4 p.cons_inv q n]
noncomputable def Uo(ρ:bT)(i:Nat):bT:=match ρ[i]? with
 |some (.ow d)=>ρ.set i (.ro d)
 |_=>ρ
def yq(i:Nat)(f:SF):SF:=λρ=>f (Uo ρ i)
abbrev RF:=dZ->Option aj
noncomputable def FT:M D->Option aj
 |.ex c=>aa c
 |_=>af
def c6(R:g8)(t:AF):RF:=λρ=>(t ρ).bind λds=>FT (R ds)
def fR(r:RF)(f:SF):SF:=λρ=>match r (bD ρ) with
 |some c=>.ex c
 |none=>f ρ
def g9(t:AF)(c:aj):SF:=λρ=>match t (bD ρ) with
 |some ds=>if ds.length<=10 then .ex c else .no
 |none=>.no
noncomputable def JA(c:aj)(e:Nat)(b:Bool)(i:Nat):EF:=λρ=>match aS i ρ with
 |some (.exc c' a)=>if c'=c/\a=e then aa (.bl b) else af
 |_=>af
theorem LW(h:JA c e b i ρ=aa d):aS i ρ=aa (.exc c e)/\d=.bl b:=by
 unfold JA at h;split at h
 .rename_i c' a q;by_cases z:c'=c/\a=e
  .rw [Z_ z] at h;cases h;rw[q,z.1,z.2];show⟨rfl,rfl⟩
  .rw [Zz z] at h;cases h
 .cases h
def BA:D->D->Option D:=oA (λi j=>Zv (0<=j)&&Zv (j<=100)&&Zv (i.natAbs<2^1000)) λi j=>.int (i^j.toNat)
def nW(f:EF)(r:RF):RF:=λρ=>(f ρ).bind λ_=>r ρ
noncomputable def splitM:D->D->Option D
 |.str x,.str y=>if x.length+2<=nU/\(y.length == 0)=ag then aa (.lst ((pw x y).map D.str)) else af
 |_,_=>af
noncomputable def R8(x:XF)(g:GSF):SF:=λρ=>match (x ρ).bind λp=>g p.2 p.1 with
 |some ρ'=>.nx ρ'
 |none=>.no
noncomputable def kB:List Int->Int
 |[]=>0
 |a::l=>l.foldl (λm b=>if m<b then b else m) a
def FU:List D->Option D
 |[.tup ds]=>(intsOf ds).bind λns=>if ns=[] then af else aa (.int (kB ns))
 |_=>af
noncomputable def tX(f:SF):SF:=λρ=>match f ρ with
 |.ex _=>.no
 |o=>o
def kP:List D->Option D
 |[.tup ds]=>(intsOf ds).bind λns=>if ns.length<64 then aa (.lst ((sortI ns).map D.int)) else af
 |_=>af
abbrev i8:Nat->ax->Prop:=λ_ _=>True
def adr(q:Nat->ax->Prop):Nat->ax->Prop:=λa _=>∃o,q a o
abbrev JB:=Sum Int aj
abbrev PN1:=List (Sum JB (List JB))
abbrev BB:=Sum JB PN1
def BC:List D->Option (List JB)
 |[]=>aa []
 |d::ds=>(xO d).bind λk=>(BC ds).map (k :: ·)
def R9:D->Option (Sum JB (List JB))
 |.tup ds=>(BC ds).map .inr
 |d=>(xO d).map .inl
def xU:List D->Option PN1
 |[]=>aa []
 |d::ds=>(R9 d).bind λk=>(xU ds).map (k :: ·)
def tY:D->Option BB
 |.tup ds=>(xU ds).map .inr
 |d=>(xO d).map .inl
def bR(ks:List BB)(ds:List D)(k:BB):Option D:=((ks.zip ds).find? λp=>Zv (p.1=k)).map (·.2)
def kindB(ks:List BB)(k:BB):Bool:=ks.all λq=>q.isLeft == k.isLeft
def Eb:D->D->Option D
 |.dC _ ks ds,d=>(tY d).bind λk=>if kindB ks k=ae then bR ks ds k else af
 |_,_=>af
def OL(neg:Bool):D->D->Option D
 |d,.dC _ ks ds=>(tY d).bind λk=>if kindB ks k=ae then aa (.bl (if neg then !(bR ks ds k).isSome else(bR ks ds k).isSome)) else af
 |_,_=>af
def f9(ks:List BB)(ds:List D)(k:BB)(v:D):List BB×List D :=
 if ks.any (λq=>Zv (q=k))=ae then(ks,(ks.zip ds).map λp=>if p.1=k then v else p.2) else(ks++[k],ds++[v])
noncomputable def OM:Option Sv->Option ((Nat->ax->Prop)×List BB×List D)
 |some (.ow (.dC q ks ds))=>aa (q,ks,ds)
 |_=>af
def Gf(i:Nat):SF:=λρ=>.nx (ρ.set i (.ow (.dC i8 [] [])))
def BD(i:Nat)(x:XF)(k:EF):SF:=λρ=>match ((x ρ).bind λp=>(OM p.1[i]?).bind λkd=>(k (bD p.1)).bind λa=>(tY a).bind λkk =>
  if kindB kd.2.1 kk=ae/\kd.2.2.length<nU then aa (p.1.set i (.ow (.dC (adr kd.1) (f9 kd.2.1 kd.2.2 kk p.2).1 (f9 kd.2.1 kd.2.2 kk p.2).2))) else af) with
 |some ρ'=>.nx ρ'
 |none=>.no
noncomputable def Ge:List D->Option (List D)
 |[.lst xs,.lst ys]=>aa ((xs.zip ys).map λp=>.tup [p.1,p.2])
 |_=>af
def SD(t:AF):AF:=λρ=>(t ρ).bind Ge
abbrev KD:=List BB×List D
abbrev YT:=List D->KD->M (D×KD)
def startM(n:Nat)(ds:List D)(q:Nat->ax->Prop)(kd:KD):bT:=ds.map Sv.ro++Sv.ow (.dC q kd.1 kd.2)::bp (n-(ds.length+1)) Sv.no
def YU(j:Nat)(k:EF)(q:Nat->ax->Prop):bT->Option (D×KD):=λρ=>(OM ρ[j]?).bind λkd=>(k (gF ρ)).bind λh=>(tY h).bind λkk=>@ite _ (kindB kd.2.1 kk=ae /\∀a o,kd.1 a o ->∃o2,q a o2) (J_ _) ((bR kd.2.1 kd.2.2 kk).map λd=>(d,kd.2)) af
def xV(n a:Nat)(b:SF)(k:EF)(q:Nat->ax->Prop)(ds:List D)(kd:KD):Option (D×KD):=if ds.length+1=a then(match b (startM n ds q kd) with
 |.nx ρ=>YU (a-1) k q ρ
 |_=>af) else af
def runM(n a:Nat)(b:SF)(k:EF):YT:=λds kd=>@dite _ (∃r,∀q,xV n a b k q ds kd=aa r) (J_ _) (λh=>.ok h.choose) λ_=>.no
def LX(h:runM n np b k ds kd=.ok r)(q:Nat->ax->Prop):xV n np b k q ds kd=aa r:=by
 unfold runM at h;split at h
 .rename_i hx;cases h;show hx.choose_spec q
 .cases h
theorem YV(h:∀q,xV n np b k q ds kd=aa r):runM n np b k ds kd=.ok r:=by have a:∃r,∀q,xV n np b k q ds kd=aa r:=⟨r,h⟩;unfold runM;rw[dif_pos a];have e:=a.choose_spec i8;rw[h i8] at e;rw[cx e]
def stepM(R:YT)(t:AF)(j:Nat)(ρ:bT):Option ((Nat->ax->Prop)×D×KD):=(t (gF ρ)).bind λds=>(OM ρ[j]?).bind λkd=>match R ds kd.2 with
 |.ok r=>aa (kd.1,r)
 |_=>af
def tZ(i:Nat)(R:YT)(t:AF)(j:Nat):SF:=λρ=>match stepM R t j ρ with
 |some r=>.nx ((ρ.set j (.ow (.dC (adr r.1) r.2.2.1 r.2.2.2))).set i (.ro r.2.1))
 |none=>.no
def YW(R:YT)(t:AF)(j:Nat):SF:=λρ=>match stepM R t j ρ with
 |some r=>.nx (ρ.set j (.ow (.dC (adr r.1) r.2.2.1 r.2.2.2)))
 |none=>.no
def BE:List D->Option D
 |[.lst ds]=>(intsOf ds).bind λns=>if ns=[] then af else aa (.int (kB ns))
 |_=>af
noncomputable def xW(h:SF)(a:aj->Option bT)(fr:SF):SF:=λρ=>match h ρ with
 |.ex c=>(match a c with
  |some ρ1=>(match fr ρ1 with
   |.rt d=>.rt d
   |_=>.no)
  |none=>.no)
 |.nx ρ'=>fr ρ'
 |.rt d=>.rt d
 |.no=>.no
def wN:D->D->Option D
 |.lst ds,.bl ae=>(vF ds).map λbs=>.int ((bs.filter id).length:Nat)
 |_,_=>af
def wQ:D->D->Option D
 |.lst ds,.bl ae=>(vF ds).bind λbs=>(bs.findIdx? id).map λi:Nat=>.int (i:Int)
 |_,_=>af
noncomputable def oC(key:EF)(ρ:dZ):List D->Option (List D)
 |[]=>aa []
 |d::ds=>(key (ρ.set 0 (aa d))).bind λk=>(oC key ρ ds).map (k :: ·)
def pI(a:Q0a):List Int:=(mD a).map λt=>((a.idxOf t:Nat):Int)
def C5(ks:List D):Option D:=(lU ks).bind λa=>if a.length<64/\a.all (λt=>!t.isEmpty)=ae/\a.Nodup then aa (.lst ((pI a).map D.int)) else af
def C6(fr:List Nat)(a:EF)(key:EF):EF:=λρ=>(a ρ).bind λd=>(asInt d).bind λj=>if 0<=j/\j<64 then(oC key (benv 1 fr ρ) ((bE 0 j.toNat).map D.int)).bind C5 else af
theorem BF:∀{ds ks:List D},oC key ρ ds=aa ks->ks.length=ds.length
 |[],ks,h=>by cases h;rfl
 |d::ds,ks,h=>by
  unfold oC at h
  cases e:key (ρ.set 0 (aa d)) with
  |none=>rw[e] at h;cases h
  |some k =>
   rw[e] at h
   cases e2:oC key ρ ds with
   |none=>rw[e2] at h;cases h
   |some r =>
    rw[e2] at h;cases h;rw[cn,cn,BF e2]
theorem BG:∀{ds ks:List D} {i:Nat} {d:D},oC key ρ ds=aa ks->ds[i]?=aa d ->∃k,ks[i]?=aa k/\key (ρ.set 0 (aa d))=aa k
 |[],ks,i,d,h,hd=>by cases hd
 |d0::ds,ks,i,d,h,hd=>by
  unfold oC at h
  cases e:key (ρ.set 0 (aa d0)) with
  |none=>rw[e] at h;cases h
  |some k =>
   rw[e] at h
   cases e2:oC key ρ ds with
   |none=>rw[e2] at h;cases h
   |some r =>
    rw[e2] at h;cases h
    cases i with
    |zero=>cases hd;show⟨k,rfl,e⟩
    |succ i =>
     obtain⟨a,j,h2⟩:=BG (i:=i) (d:=d) e2 (by rw[me] at hd;show hd);show⟨a,by rw[<- j];show me,h2⟩
noncomputable def LY:List D->Option (List D)
 |[.tup xs,.tup ys]=>aa ((xs.zip ys).map λp=>.tup [p.1,p.2])
 |_=>af
def LZ(t:AF):AF:=λρ=>(t ρ).bind LY
end L4
namespace Ord
structure Rows (rows:Q0a):Prop where
 up:∀(b:Nat) (r:Q0e),rows[b]?=aa r->r.Pairwise (·<·)
 rng:∀(b:Nat) (r:Q0e),rows[b]?=aa r ->∀a∈r,0<=a/\a<(rows.length:Int)
 tr:∀(b a:Nat) (r v:Q0e),rows[b]?=aa r->(a:Int)∈r->rows[a]?=aa v ->∀c∈v,c∈r
 YX:∀(b:Nat) (r:Q0e),rows[b]?=aa r->(b:Int)∉r
theorem xX{α:Type}:∀(l:List α) (j:Nat) (x:α),l[j]?=aa x->(x::l.eraseIdx j).Perm l
 |[],j,x,h=>by simp at h
 |a::l,0,x,h=>by simp at h;subst h;simp
 |a::l,j+1,x,h=>by have d:=xX l j x (by simpa using h);rw[List.eraseIdx_cons_succ];show(a3B a x _).trans (d.cons a)
def C7{l:Q0e}(p:Int->Bool)(h:l.Nodup):(l.filter p).Nodup:=wj p h
def Under(d:Q0e)(h:Q0a)(t:Nat)(u:Q0e):Prop :=
 u.Nodup /\∀a∈u,∃(s:Nat) (v:Q0e),s<t/\d[s]?=aa a/\h[s]?=aa v /\∀c∈v,c∈u
def Good(d:Q0e)(a:Q0a):Prop:=∀(t:Nat) (u:Q0e),a[t]?=aa u->Under d a t u
def Under.mono(h:Under Ξ us t u)(m:t<=t'):Under Ξ us t' u :=
 ⟨h.1,λa d=>by obtain⟨s,v,n,h2,l,j⟩:=h.2 a d;show⟨s,v,by lia,h2,l,j⟩⟩
def xZ{d:Q0e}(h:d.Nodup){i j:Nat}{a:Int}(hi:d[i]?=aa a)(l:d[j]?=aa a):i=j:=by obtain⟨o,n⟩:=cg.mp hi;obtain⟨h2,m⟩:=cg.mp l;show(a2c h).mp (n.trans m.symm)
theorem Under.step{j:Q0e}{n:Q0a}{i:Nat}{u v:Q0e}{x:Int}(hw:j.Nodup)(g:Good j n)(h:Under j n i u)(F:j[i]?=aa x)(I:n[i]?=aa v):
  Under j n (i+1) (u++(v++[x]).filter λa=>!u.contains a):=by
 have p:=g i v I;have mem:∀c,c∈v++[x]->c∈u++(v++[x]).filter λa=>!u.contains a:=λc d=>by
  by_cases J:c∈u
  .exact gj _ J
  .exact gp _ (jj.mpr ⟨d,by simpa using J⟩)
 have K:(v++[x]).Nodup:=by show sy.mpr ⟨p.1,by simp,λa m b l e=>?_⟩;have l:=cc.mp l;subst l;subst e;obtain⟨s,_,o,h2,_⟩:=p.2 a m;have:=xZ hw h2 F;lia
 show⟨sy.mpr ⟨h.1,C7 _ K,λa m b l e=>?_⟩,λa m=>?_⟩
 .subst e;have:=(jj.mp l).2;simp at this;show this m
 .rcases gn.mp m with o|o
  .obtain ⟨s,z,L,A,y,q⟩:=h.2 a o;show⟨s,z,by lia,A,y,λc d=>gj _ (q c d)⟩
  .rcases gn.mp (jj.mp o).1 with h2|h2
   .obtain ⟨s,z,L,A,y,q⟩:=p.2 a h2;show⟨s,z,by lia,A,y,λc d=>mem c (gj _ (q c d))⟩
   .have e:=cc.mp h2;subst e;show⟨i,v,by lia,F,I,λc d=>mem c (gj _ d)⟩
def Good.snoc(g:Good Ξ us)(h:Under Ξ us us.length u):Good Ξ (us++[u]):=λt z e=>by
 have old:∀{s:Nat} {v:Q0e},us[s]?=aa v->(us++[u])[s]?=aa v:=λ{s v} e=>by rw[jv (cg.mp e).1];show e
 have up:∀{t:Nat} {z:Q0e},Under Ξ us t z->Under Ξ (us++[u]) t z:=λ{t z} q=>⟨q.1,λa j=>by obtain⟨s,v,p,o,n,m⟩:=q.2 a j;show⟨s,v,p,o,old n,m⟩⟩;by_cases d:t<us.length
 .rw [jv d] at e;show up (g t z e)
 .have l:t=us.length:=by have:=(cg.mp e).1;simp at this;lia
  subst l;rw[ju (bj _),Iq] at e;have e:u=z:=by simpa using e
  subst e;show up h
theorem Good.rows{d:Q0e}{m rows:Q0a}{n:Nat}(g:Good d m)(Y:m.length=n)(hw:d.Perm ((b_ n).map λk:Nat=>(k:Int)))(Z:rows.length=n)
  (h:∀(b t:Nat) (r u:Q0e),rows[b]?=aa r->d[t]?=aa (b:Int)->m[t]?=aa u->r.Perm u/\r.Pairwise (· <= ·)):Rows rows:=by
 have nd:d.Nodup:=hw.nodup_iff.mpr (by
  show tu _ (λa b A=>?_) a15;intro e;show A ∅)
 have find:∀(b:Nat),b<n ->∃t u,d[t]?=aa (b:Int)/\m[t]?=aa u:=λb p=>by
  have y:(b:Int)∈d:=hw.mem_iff.mpr (gi.mpr ⟨b,og.mpr p,rfl⟩);obtain⟨t,I⟩:=Ay.mp y;have hl:d.length=n:=by rw[hw.length_eq,az,oi]
  have:=(cg.mp I).1;show⟨t,m[t]'∅,I,bx ∅⟩
 have row:∀(b:Nat) (r:Q0e),rows[b]?=aa r ->∃t u,d[t]?=aa (b:Int)/\m[t]?=aa u/\r.Perm u/\r.Pairwise (· <= ·):=λb r e=>by have p:=(cg.mp e).1;obtain⟨t,u,l,h2⟩:=find b ∅;show⟨t,u,l,h2,h b t r u e l h2⟩
 show⟨λb r e=>?_,λb r e a F=>?_,λb a r v e F ev c O=>?_,λb r e p=>?_⟩
 .obtain ⟨t,u,l,h2,j,x⟩:=row b r e;have K:r.Nodup:=j.nodup_iff.mpr (g t u h2).1;show(List.pairwise_and_iff.mpr ⟨x,K⟩).imp λq=>by have:=q.1;have:=q.2;lia
 .obtain ⟨t,u,l,h2,j,x⟩:=row b r e;obtain⟨s,z,_,o,_⟩:=(g t u h2).2 a (j.mem_iff.mp F);have y:=hw.mem_iff.mp (lh o);obtain⟨k,L,rfl⟩:=gi.mp y;have:=og.mp L;lia
 .obtain ⟨t,u,l,h2,j,x⟩:=row b r e;obtain⟨t2,u2,k1,k2,k3,X⟩:=row a v ev;obtain⟨s,z,_,o,J,U⟩:=(g t u h2).2 _ (j.mem_iff.mp F);have es:=xZ nd o k1;subst es;rw[k2] at J;cases J;show j.mem_iff.mpr (U c (k3.mem_iff.mp O))
 .obtain ⟨t,u,l,h2,j,x⟩:=row b r e;obtain⟨s,z,a1,o,_⟩:=(g t u h2).2 _ (j.mem_iff.mp p);have:=xZ nd o l;lia
noncomputable def tri:Nat->Nat
 |0=>0
 |j+1=>tri j+j
theorem SE(h:i<=j):tri i<=tri j:=by
 induction h with
 |refl=>show bj _
 |step _ ih=>show f_ ih (kz _ _)
def aCd(a:j<n)(hi:i<j):tri j+i<tri n:=by have:=SE (show j+1<=n by lia);show tri j+i<tri n;have e:tri (j+1)=tri j+j:=rfl;lia
theorem e9:∀(l m:Q0e),l.Nodup->(∀a∈l,a∈m)->l.length<=m.length
 |[],m,_,_=>kh _
 |a::l,m,h,hs=>by
  obtain⟨o,h2⟩:=k_.mp h;have j:=hs a cb;have n:=e9 l (m.erase a) h2 λb d=>by have:b≠a:=λe=>o (e▸d);show(List.mem_erase_of_ne this).mpr (hs b (e_ _ d))
  rw[List.length_erase_of_mem j] at n;have:0<m.length:=a2a j;rw[cn];lia
end Ord
namespace LL
open L3 L4
def dR:g8:=bZ 2 2
  (aH (eO (tV (aB j9 (cK bU (aV 0)) (eI 0)))
   (bI (eI 0))
   dE)
  (bI (aB cZ b8 (aB e8 cV (cK bU (aV 0))))))
def iE:g8:=bZ 5 3
  (aH (aO 3 (aB e8 (aB mulM (aB bX (aB bX (aB bX b8 (aB mulM (aB mulM (eI 11) cV) cV)) (aB mulM (eI 17) cV)) dQ) (eI 48271)) (eI 2147483647)))
  (aH (aO 4 (aB e8 (aB bX (aB bX (aB mulM eF (aB bX (aB l8 eF (eI 4096)) (eI 5))) (aB mulM (eI 29) cV)) dQ) (eI 2147483629)))
  (bI (aB e8 (aB mulM gG (eI 39373)) (eI 1000000007)))))
def iF:g8:=bZ 6 3
  (aH (kA 3 (eU aG))
  (aH (aO 4 (eI 0))
  (aH (eO (tV (aB geM b8 (aB i7 (eI 10) (eI 18))))
   (aO 4 b8)
   dE)
  (aH (eM (b9 (aV 1)) (n6 5)
   (eO (tV (aB n9 gG (eI 0)))
    (aH (sX (qO 3 n5 (aX (aB e8 gG (eI 64)))))
    (aO 4 (aB l8 gG (eI 64))))
    (sX (qO 3 n5 (aX (aF LL.iE (aA b8 (aA jA (aV 2)))))))))
  (bI eF)))))
def eA:Nat->g8
 |0=>λ_=>.no
 |n+1=>bZ 2 2
  (aH (eO (tV (kM "tuple" cV))
   (aH (eO (vE (jD (tV (kM "tuple" b8))) (tV (aB OH (cK bU (aV 0)) (cK bU (aV 1)))))
    (bI (eC (.bl ag)))
    dE)
   (bI (cK allM (aA (cN 1 [0,1] (b9 (aA (cK bU (aV 1)) aG)) (g1 0) dM (aF (eA n) (aA (aB cZ cV b8) (aA (aB cZ dQ b8) aG)))) aG))))
   dE)
  (aH (eO (tV (aB YQ cV (eC .non)))
   (bI (aB YQ b8 (eC .non)))
   dE)
  (aH (eO (tV (kM "bool" cV))
   (bI (qM (kM "bool" b8) (aB j9 b8 cV)))
   dE)
  (aH (eO (tV (kM "int" cV))
   (bI (qM (kM "int" b8) (qM (FN (kM "bool" b8)) (aB j9 b8 cV))))
   dE)
  (bI (qM (kM "str" b8) (aB j9 b8 cV)))))))
def pJ:g8:=bZ 11 3
  (aH (kA 3 (IY (aV 1)))
  (aH (kA 4 (eU aG))
  (aH (eM (b9 (aV 1)) (n6 5)
   (sX (qO 4 n5 (qO 3 YS (mB (aB e8 (aB cZ b8 jA) (cK bU (aV 3))))))))
  (aH (FR 6)
  (aH (aO 7 cV)
  (aH (eM (b9 (aV 1)) (n6 8)
   (aH (aO 9 (eU aG))
   (aH (eM (b9 (aV 8)) (n6 10)
    (aH (eO (tV (aB CV (aB e8 (aB cZ b8 vD) (eI 4)) dQ))
     (nV 9 (aB FQ um (cN 1 [9] (cQ (aB bX (aB xP m3 (aB cZ gG FL)) (eU (aA (aB cZ gG FL) aG)))) (g1 0) (tV (aB (xN ae) b8 cV)) b8)))
     dE)
    (aO 7 (aB bX vD (eI 1)))))
   (LU 6 (aX um) (aB cZ gG YN)))))
  (bI (cK d8 (aA (cN 1 [6] (b9 (aV 1)) (g1 0) dM (cK d8 (aA (cK lG (aA (aB xP cV b8) aG)) aG))) aG)))))))))
def pK:g8:=bZ 7 4
  (aH (aO 4 (aF LL.iF (aA (aF LL.dR (aA b8 (aV 1))) (aA (eI 4) (aV 3)))))
  (aH (aO 5 (aB e8 (aB cZ gG (eI 0)) (aB bX dQ (eI 1))))
  (aH (aO 6 (aF LL.iF (aA (aF LL.dR (aA b8 (aA (aB bX cV (eI 1)) aG))) (aA (aB bX jA (aB l8 (aB mulM jA (aB dH jA (eI 1))) (eI 2))) (aA (aB bX eF (eI 10007)) aG)))))
  (bI (aF LL.pJ (aA m3 (aA jA (aA (aB cZ (eU (aA (eI 1) (aA (eI 1) (aA (eI 2) (aA (eI 2) (aA (eI 3) (aA (eI 1) (aA (eI 0) (aA (eI 4) aG))))))))) (aB e8 (aB cZ gG (eI 1)) (eI 8))) aG))))))))
def τ(xs:Q0e):D:=.tup (xs.map D.int)
def aE(xs:Q0e):D:=.lst (xs.map D.int)
def aK(rows:Q0a):D:=.tup (rows.map τ)
def rQ:bX (.int i) (.int j)=aa (.int (i+j)):=rfl
def x5:dH (.int i) (.int j)=aa (.int (i-j)):=rfl
def bV(h:0<j):e8 (.int i) (.int j)=aa (.int (i%j)):=by simp[e8,oA,h]
def iQ(h:0<j)(h2:j<1073741824):l8 (.int i) (.int j)=aa (.int (i/j)):=by simp[l8,oA,h,show j.natAbs<1073741824 by lia]
def pL:CV (.int i) (.int j)=aa (.bl (Zv (i<j))):=rfl
def wR:AO (.int i) (.int j)=aa (.bl (Zv (i<=j))):=rfl
def kC:n9 (.int i) (.int j)=aa (.bl (Zv (j<i))):=rfl
def rR:geM (.int i) (.int j)=aa (.bl (Zv (j<=i))):=rfl
def lH:j9 (.int i) (.int j)=aa (.bl (Zv (i=j))):=rfl
def rS:OH (.int i) (.int j)=aa (.bl (!Zv (i=j))):=rfl
def t6:j9 (.bl i) (.bl j)=aa (.bl (Zv (i=j))):=rfl
def pM:j9 (.str i) (.str j)=aa (.bl (Zv (i=j))):=rfl
def C8:YQ d .non=aa (.bl (xM d)):=rfl
def rT:cZ (.lst a) (.int i)=wL a i:=rfl
def wU:cZ (.tup a) (.int i)=wL a i:=rfl
def C9:cZ (.j5 a) (.int i)=(wL a i).map D.int:=rfl
def iR:bU [.lst a]=aa (.int a.length):=rfl
def kQ:bU [.tup a]=aa (.int a.length):=rfl
def x6:bU [.j5 a]=aa (.int a.length):=rfl
def m5:d8 [.lst a]=aa (.tup a):=rfl
def qQ:d8 [.tup a]=aa (.tup a):=rfl
def t7:FP [.lst a]=aa (.lst a):=rfl
def t8:FP [.tup a]=aa (.lst a):=rfl
def t9:A8 (.lst a)=aa a:=rfl
def uA:A8 (.tup a)=aa a:=rfl
def pN:kL (.bl b)=aa b:=rfl
def qR:kL (.lst b)=aa (!b.isEmpty):=rfl
def m6:kL (.tup b)=aa (!b.isEmpty):=rfl
def x8:qG (.bl b)=aa b:=rfl
def wV(h:ds.length<16777216):n5 ds d=aa (ds++[d],.non):=Z_ h
def YY(h:ds.length+es.length<=16777216):tU ds (.lst es)=aa (ds++es,.non):=Z_ h
def uB:LS [.tup ds]=aa (ds.zipIdx.map λp=>.tup [.int (p.2:Int),p.1]):=rfl
def uC:LS [.lst ds]=aa (ds.zipIdx.map λp=>.tup [.int (p.2:Int),p.1]):=rfl
def x9:yt [.tup ds]=aa ds.reverse:=rfl
def yA:yt [.lst ds]=aa ds.reverse:=rfl
def YZ(h:t ρ=aa ds)(a:ds.length<=16777216):eT t ρ=aa (.tup ds):=by unfold eT;rw[h];show Z_ a
def eQ(a:ds.length=np)(h:b (dD n ds)=.rt d):bZ n np b ds=.ok d:=by unfold bZ;rw[Z_ a,h]
def b7(a:bT)(d:f ρ=.nx a)(h2:g a=o):aH f g ρ=o:=by unfold aH;rw[d];show h2
def uD(a:f ρ=.rt d):aH f g ρ=.rt d:=by unfold aH;rw[a]
def d9(h:f (bD ρ)=aa d):bI f ρ=.rt d:=by unfold bI;rw[h]
def c8(d:D)(h:f (gF ρ)=aa d)(a:ρ.set i (.ro d)=ρ'):aO i f ρ=.nx ρ':=by unfold aO;rw[h,<- a]
def mE(h:t (bD ρ)=aa ae)(h2:a ρ=o):eO t a b ρ=o:=by unfold eO;rw[h];show h2
def fA(h:t (bD ρ)=aa ag)(h2:b ρ=o):eO t a b ρ=o:=by unfold eO;rw[h];show h2
def DA(ds:List D)(h:it (gF ρ)=aa ds)(h2:fX g b ds ρ=o):eM it g b ρ=o:=by unfold eM;rw[h];show h2
def gI(ds:List D)(h:it ρ=aa ds)(a:ds.length<=16777216)(h2:kN g t e (benv nl fr ρ) ds=aa ys):cN nl fr it g t e ρ=aa (.lst ys):=by unfold cN;rw[h];show(if ds.length<=nU then _ else _)=_;rw[Z_ (show ds.length<=nU from a),h2];rfl
def yB(h:a.length+b.length<=16777216):bX (.lst a) (.lst b)=aa (.lst (a++b)):=Z_ h
def FV(h:a.length+b.length<=16777216):bX (.tup a) (.tup b)=aa (.tup (a++b)):=Z_ h
def SG(h:a.length+b.length<=16777216):FQ (.lst a) (.lst b)=aa (.lst (a++b)):=Z_ h
def uE(h:i.natAbs<18446744073709551616):mulM (.int i) (.int j)=aa (.int (i*j)):=by simp[mulM,oA,xK,h]
def DB(h:j.natAbs<18446744073709551616):mulM (.int i) (.int j)=aa (.int (i*j)):=by simp[mulM,oA,xK,h]
def yC(h:j.natAbs<4611686018427387904):xR [.int j]=aa ((bE 0 j.toNat).map D.int):=Z_ h
def oD{n:Nat}(h:n<4611686018427387904):xR [.int (n:Int)]=aa ((bE 0 n).map D.int):=by rw[yC ∅];rfl
theorem dI:∀ns:Q0e,intsOf (ns.map D.int)=aa ns
 |[]=>rfl
 |n::ns=>by simp[intsOf,dI ns]
def pO{neg:Bool}{i:Int}{ns:Q0e}:xN neg (.int i) (.tup (ns.map D.int))=aa (.bl (if neg then !ns.contains i else ns.contains i)):=by simp[xN,dI]
def rV{neg:Bool}{i:Int}{ns:Q0e}:xN neg (.int i) (.lst (ns.map D.int))=aa (.bl (if neg then !ns.contains i else ns.contains i)):=by simp[xN,dI]
def sorted_ints(h:ns.length<64):lG [.lst (ns.map D.int)]=aa (.lst ((sortI ns).map D.int)):=by simp[lG,dI,h]
def sum_ints{ns:Q0e}:IU [.lst (ns.map D.int)]=aa (.int ns.sum):=by simp[IU,dI]
theorem BH:∀bs:List Bool,tT (bs.map D.bl)=aa bs
 |[]=>rfl
 |b::bs=>by simp[tT,kL,BH bs]
def m7{bs:List Bool}:allM [.lst (bs.map D.bl)]=aa (.bl (bs.all id)):=by simp[allM,BH]
def yD{n:Nat}{i:Int}(d:0<=i)(a:i<n):FO n i=aa i.toNat:=by unfold FO;rw[Z_ d,Z_ a]
def Y0(h:k<n):FO n (k:Int)=aa k:=by rw[yD ∅ ∅];rfl
def Y1{α:Type}{xs:List α}{k:Nat}(h:k<xs.length):wL xs (k:Int)=xs[k]?:=by unfold wL;rw[Y0 h];rfl
def DC{α:Type}{xs:List α}{i:Int}(h:0<=i)(d:i<xs.length):∃x∈xs,wL xs i=aa x/\xs[i.toNat]?=aa x:=by
 have a:i.toNat<xs.length:=by lia
 show⟨xs[i.toNat],md a,?_,by simp[a]⟩;unfold wL;rw[yD h d];simp[a]
theorem wW{α a:Type}(f:α->a)(xs:List α)(i:Int):wL (xs.map f) i=(wL xs i).map f:=by
 unfold wL;rw[az]
 cases FO xs.length i with
 |none=>rfl
 |some j=>simp
def rW{α:Type}{xs:List α}{k:Nat}{x:α}(h:xs[k]?=aa x):wL xs (k:Int)=aa x:=by rw[Y1 (cg.mp h).1,h]
def aN(lo:Int)(n:Nat):(bE lo n).length=n:=by simp[bE]
def kR(h:i<n):(bE lo n)[i]?=aa (lo+(i:Int)):=by simp[bE,h]
def BI(lo:Int)(n:Nat):bE lo (n+1)=bE lo n++[lo+(n:Int)]:=by simp[bE,a14]
def bF:x∈bE lo n↔lo<=x/\x<lo+n:=by
 unfold bE;rw[gi];simp only[og]
 constructor
 .rintro ⟨k,a,rfl⟩;lia
 .rintro ⟨d,h2⟩;show⟨(x-lo).toNat,by lia,by lia⟩
theorem FW(P:Nat->bT->Prop)(ds:List D)(y:P 0 ρ)(step:∀(i:Nat) (d:D) (ρ:bT),ds[i]?=aa d->P i ρ ->∃ρ1 j,g d ρ=aa ρ1/\b ρ1=.nx j/\P (i+1) j):
  ∃a,fX g b ds ρ=.nx a/\P ds.length a:=by
 suffices H:∀(l:List D) (k:Nat) (ρ:bT),ds.drop k=l->k<=ds.length->P k ρ ->∃a,fX g b l ρ=.nx a/\P ds.length a from H ds 0 ρ (by simp) (kh _) y
 intro l
 induction l with
 |nil =>
  intro k ρ m q p;have:ds.length<=k:=by simpa using m
  show⟨ρ,rfl,by rwa [show ds.length=k by lia]⟩
 |cons d l ih =>
  intro k ρ m q p;have n:k<ds.length:=by apply mw;intro h;rw[a2j ∅] at m;cases m
  have v:ds[k]?=aa d:=by have:=congrArg (λx=>x[0]?) m;simpa using this
  obtain⟨ρ1,j,F,A,p2⟩:=step k d ρ v p;have o:ds.drop (k+1)=l:=by rw[tq n] at m;show(Bh m).2
  obtain⟨a,z,p3⟩:=ih (k+1) j o n p2;show⟨a,by simp only[fX,F,A,z],p3⟩
theorem SH(P:Nat->bT->Prop)(lo:Int)(n:Nat)(m:P 0 ρ)(step:∀(i:Nat) (ρ:bT),i<n->P i ρ ->∃ρ1 a,g (.int (lo+(i:Int))) ρ=aa ρ1/\b ρ1=.nx a/\P (i+1) a):
  ∃h,fX g b ((bE lo n).map D.int) ρ=.nx h/\P n h:=by
 have:=FW (g:=g) (b:=b) P ((bE lo n).map D.int) m λi d ρ j l=>by
  have hi:i<n:=by have:=(cg.mp j).1;simpa[aN] using this
  rw[cf,kR hi] at j;cases j;show step i ρ hi l
 simpa[aN] using this
theorem BJ{α:Type}(mk:α->D)(f:α->D)(l:List α)(h:∀a∈l,(g (mk a) ρ).bind e=aa (f a)):kN g dM e ρ (l.map mk)=aa (l.map f):=by
 induction l with
 |nil=>rfl
 |cons a l ih =>
  have d:=h a (by simp);have h2:=ih λx m=>h x (by simp[m])
  cases hg:g (mk a) ρ with
  |none=>rw[hg] at d;cases d
  |some ρ1 =>
   rw[hg] at d;have j:e ρ1=aa (f a):=d;simp only[bo,kN,hg,c_,dM,if_true,j,h2,nu]
def eB{α:Type}(mk:α->D)(f:α->D)(l:List α)(h:∀a∈l,∃ρ1,g (mk a) ρ=aa ρ1/\e ρ1=aa (f a)):kN g dM e ρ (l.map mk)=aa (l.map f) :=
 BJ mk f l λa d=>by obtain⟨ρ1,j,h2⟩:=h a d;rw[j];show h2
theorem fM{α:Type}(mk:α->D)(p:α->Bool)(f:α->D)(l:List α)(h:∀a∈l,∃ρ1,g (mk a) ρ=aa ρ1/\t ρ1=aa (p a)/\(p a=ae->e ρ1=aa (f a))):
  kN g t e ρ (l.map mk)=aa ((l.filter p).map f):=by
 induction l with
 |nil=>rfl
 |cons a l d =>
  obtain⟨ρ1,j,h2,n⟩:=h a (by simp);have d:=d λx m=>h x (by simp[m])
  cases hp:p a with
  |false=>simp[kN,j,h2,hp,d]
  |true=>simp[kN,j,h2,hp,n hp,d]
theorem SI{α j:Type}(mk:α->D)(out:j->D)(R:α->j->Prop)(l:List α)(h:∀a∈l,∃ρ1 b,g (mk a) ρ=aa ρ1/\e ρ1=aa (out b)/\R a b):
  ∃bs:List j,bs.length=l.length/\(∀(i:Nat) (a:α) (b:j),l[i]?=aa a->bs[i]?=aa b->R a b)/\kN g dM e ρ (l.map mk)=aa (bs.map out):=by
 induction l with
 |nil=>show⟨[],rfl,λi a b h=>by simp at h,rfl⟩
 |cons a l ih =>
  obtain⟨ρ1,b,v,h2,q⟩:=h a (by simp);obtain⟨bs,o,n,p⟩:=ih λx d=>h x (by simp[d]);show⟨b::bs,by simp[o],λi x y d m=>?_,by simp[kN,v,h2,p,dM]⟩
  cases i with
  |zero=>simp at d m;subst d m;show q
  |succ i=>show n i x y (by simpa using d) (by simpa using m)
def Rt(o:Out)(Q:D->Prop):Prop:=∃d,o=.rt d/\Q d
def Nx(o:Out)(Q:bT->Prop):Prop:=∃ρ,o=.nx ρ/\Q ρ
def gU(M:bT->Prop)(d:Nx (f ρ) M)(h2:∀a,M a->Rt (g a) Q):Rt (aH f g ρ) Q:=by obtain⟨a,e,m⟩:=d;unfold aH;rw[e];show h2 a m
def SJ(M:bT->Prop)(d:Nx (f ρ) M)(h2:∀a,M a->Nx (g a) Q):Nx (aH f g ρ) Q:=by obtain⟨a,e,m⟩:=d;unfold aH;rw[e];show h2 a m
def aL(a:bT)(d:f ρ=.nx a)(h2:Rt (g a) Q):Rt (aH f g ρ) Q:=by unfold aH;rw[d];show h2
def lI(a:bT)(d:f ρ=.nx a)(h2:Nx (g a) Q):Nx (aH f g ρ) Q:=by unfold aH;rw[d];show h2
def pP(a:Rt (f ρ) Q):Rt (aH f g ρ) Q:=by obtain⟨d,e,m⟩:=a;unfold aH;rw[e];show⟨d,rfl,m⟩
def SK(c:Bool)(h:t (bD ρ)=aa c)(d:c=ae->Rt (a ρ) Q)(h2:c=ag->Rt (b ρ) Q):Rt (eO t a b ρ) Q:=by unfold eO;rw[h];cases c;show h2 rfl;show d rfl
def rX(c:Bool)(h:t (bD ρ)=aa c)(d:c=ae->Nx (a ρ) Q)(h2:c=ag->Nx (b ρ) Q):Nx (eO t a b ρ) Q:=by unfold eO;rw[h];cases c;show h2 rfl;show d rfl
def gA(d:D)(h:f (bD ρ)=aa d)(q:Q d):Rt (bI f ρ) Q:=⟨d,d9 h,q⟩
def uF(d:D)(h:f (gF ρ)=aa d)(q:Q (ρ.set i (.ro d))):Nx (aO i f ρ) Q:=⟨_,c8 d h rfl,q⟩
def DD(q:Q ρ):Nx (dE ρ) Q:=⟨ρ,rfl,q⟩
theorem oF(ds:List D)(P:Nat->bT->Prop)(h:it (gF ρ)=aa ds)(n:P 0 ρ)(step:∀(i:Nat) (d:D) (ρ:bT),ds[i]?=aa d->P i ρ ->∃ρ1,g d ρ=aa ρ1/\Nx (b ρ1) (P (i+1)))
  (fin:∀a,P ds.length a->Q a):Nx (eM it g b ρ) Q:=by
 obtain⟨a,e,p⟩:=FW (g:=g) (b:=b) P ds n λi d ρ m l=>by obtain⟨ρ1,q,j,o,p2⟩:=step i d ρ m l;show⟨ρ1,j,q,o,p2⟩
 show⟨a,DA ds h e,fin a p⟩
theorem oG{t:AF}{g:GSF}{b:SF}{ρ:bT}{Q:bT->Prop}(n:Nat)(P:Nat->bT->Prop)(h:t (gF ρ)=aa [.int (n:Int)])(m:n<4611686018427387904)(o:P 0 ρ)(step:∀(i:Nat) (ρ:bT),i<n->P i ρ ->∃ρ1,g (.int (i:Int)) ρ=aa ρ1/\Nx (b ρ1) (P (i+1)))
  (fin:∀a,P n a->Q a):Nx (eM (b9 t) g b ρ) Q:=by
 show oF ((bE 0 n).map D.int) P (by unfold b9;rw[h,c_,oD m]) o (λi d ρ j l=>?_) (λa p=>fin a (by simpa[aN] using p));have hi:i<n:=by have:=(cg.mp j).1;simpa[aN] using this
 rw[cf,kR hi] at j;have j:D.int (0+(i:Int))=d:=by simpa using j
 subst j;obtain⟨ρ1,e,q⟩:=step i ρ hi l;show⟨ρ1,by rw[jy];show e,q⟩
def lV(a:ds.length=np)(h:Rt (b (dD n ds)) Q):∃d,bZ n np b ds=.ok d/\Q d:=by obtain⟨d,e,q⟩:=h;show⟨d,eQ a e,q⟩
theorem BK:∀(l:Q0e) (j:Nat),(l.map D.int).eraseIdx j=(l.eraseIdx j).map D.int
 |[],j=>by simp
 |a::l,0=>by simp
 |a::l,j+1=>by simp[BK l j]
def bG(j:a ρ=aa x)(d:b ρ=aa y)(h:g x y=z):aB g a b ρ=z:=by unfold aB;rw[j,d];show h
def binI{g:D->D->Option D}{d a:EF}{ρ:dZ}{x y:Int}{z:Option D}(j:d ρ=aa (.int x))(h2:a ρ=aa (.int y))(h:g (.int x) (.int y)=z):aB g d a ρ=z:=bG j h2 h
def cC(d:a ρ=aa x)(h:g [x]=z):cK g (aA a aG) ρ=z:=by unfold cK aA aG;rw[d];show h
def Ea(j:a ρ=aa x)(d:b ρ=aa y)(h:g [x,y]=z):cK g (aA a (aA b aG)) ρ=z:=by unfold cK aA aG;rw[j,d];show h
def fF(j:a ρ=aa x)(h:f [x]=.ok d):aF f (aA a aG) ρ=aa d:=by unfold aF;(try unfold aV);unfold aA aG;rw[j];show m4 (f [x])=_;rw[h];rfl
def bW(l:a ρ=aa x)(j:b ρ=aa y)(h:f [x,y]=.ok d):aF f (aA a (aA b aG)) ρ=aa d:=by unfold aF;(try unfold aV);unfold aA aG;rw[l,j];show m4 (f [x,y])=_;rw[h];rfl
def cR(m:a ρ=aa x)(l:b ρ=aa y)(j:c ρ=aa z)(h:f [x,y,z]=.ok d):aF f (aA a (aA b (aA c aG))) ρ=aa d:=by unfold aF;(try unfold aV);unfold aA aG;rw[m,l,j];show m4 (f [x,y,z])=_;rw[h];rfl
def aCe(n:a ρ=aa x)(m:b ρ=aa y)(l:c ρ=aa z)(j:e ρ=aa w)(h:f [x,y,z,w]=.ok d):aF f (aA a (aA b (aA c (aA e aG)))) ρ=aa d:=by unfold aF;(try unfold aV);unfold aA aG;rw[n,m,l,j];show m4 (f [x,y,z,w])=_;rw[h];rfl
def args1(d:a ρ=aa x):aA a aG ρ=aa [x]:=by unfold aA aG;rw[d];rfl
def args2(h:a ρ=aa x)(d:b ρ=aa y):aA a (aA b aG) ρ=aa [x,y]:=by unfold aA aG;rw[h,d];rfl
def MA{a:EF}{ρ:dZ}{n:Nat}(h:a ρ=aa (.int (n:Int)))(d:n<4611686018427387904):b9 (aA a aG) ρ=aa ((bE 0 n).map D.int):=by unfold b9;rw[args1 h,c_,oD d]
def f6(h:f ρ=aa d)(a:kL d=aa b):tV f ρ=aa b:=by unfold tV;rw[h];show a
def AQ(h:t ρ=aa b)(a:(!b)=c):jD t ρ=aa c:=by unfold jD;rw[h,<- a];rfl
def Gb(h:t ρ=aa b)(h2:b=ae->u ρ=aa c)(a:b=ag->c=ag):qD t u ρ=aa c:=by
 unfold qD;rw[h];cases b
 .rw [a rfl];rfl
 .exact h2 rfl
def qE(h:t ρ=aa b)(h2:b=ag->u ρ=aa c)(a:b=ae->c=ae):vE t u ρ=aa c:=by
 unfold vE;rw[h];cases b
 .exact h2 rfl
 .rw [a rfl];rfl
def Y2{l:Q0e}{i:Int}{y:Int}(h:0<=i)(d:i<l.length)(h2:l.length<=16777216)(a:l[i.toNat]?=aa y):YS (l.map D.int) (.int i)=aa ((l.eraseIdx i.toNat).map D.int,.int y):=by show(if i.natAbs<9223372036854775808 then _ else _)=_;rw[Z_ ∅,az,yD h d,c_,cf,a,BK];rfl
def lJ{a:Q0e}{j:Nat}{x:Int}(h:a[j]?=aa x):wL (a.map D.int) (j:Int)=aa (.int x):=by rw[wW,rW h];rfl
def SM{α:Type}{l:List α}{i j:Nat}{x:α}(h:l[i]?=aa x)(a:i<j):(l.take j)[i]?=aa x:=by rw[Bd a];show h
theorem jE:∀ns:Q0e,qC (ns.map D.int)=ae
 |[]=>rfl
 |n::ns=>by rw[bo,qC,jE ns];rfl
def qS:lF (q::ks) (d::ds) k=if q=k then aa d else lF ks ds k:=by
 by_cases e:q=k
 .simp [lF,e]
 .simp [lF,e]
theorem uG:∀{j:Q0e} {a:Q0a} {i:Nat} {x:Int} {v:Q0e},j.Nodup->j[i]?=aa x->a[i]?=aa v->lF (j.map cp) (a.map aE) (cp x)=aa (aE v)
 |[],a,i,x,v,_,h,_=>by simp at h
 |w::ws,[],i,x,v,_,_,h=>by simp at h
 |w::ws,u::a,0,x,v,_,h1,h2=>by simp at h1 h2;subst h1 h2;rw[bo,bo,qS,Z_ rfl]
 |w::ws,u::a,i+1,x,v,hn,h1,h2=>by
  obtain⟨m,l⟩:=k_.mp hn;have d:ws[i]?=aa x:=by simpa using h1
  have ne:(cp w:Sum Int aj)≠cp x:=λe=>m (by cases e;show lh d);rw[bo,bo,qS,Zz ne];show uG l d (by simpa using h2)
theorem BL:∀{d:Q0e} {a:Q0a} {x:Int},x∉d->lF (d.map cp) (a.map aE) (cp x)=af
 |[],a,x,_=>by simp[lF]
 |w::ws,[],x,_=>by simp[lF]
 |w::ws,u::a,x,h=>by have ne:(cp w:Sum Int aj)≠cp x:=λe=>h (by cases e;show cb);rw[bo,bo,qS,Zz ne];show BL λz=>h (e_ _ z)
theorem insI_perm(a:Int):∀l:Q0e,(insI a l).Perm (a::l)
 |[]=>.refl _
 |b::l=>by
  unfold insI;split
  .exact .refl _
  .exact ((insI_perm a l).cons b).trans (.swap a b l)
theorem sortI_perm:∀l:Q0e,(sortI l).Perm l
 |[]=>.refl _
 |a::l=>(insI_perm a (sortI l)).trans ((sortI_perm l).cons a)
theorem vH(a:Int):∀l:Q0e,l.Pairwise (· <= ·)->(insI a l).Pairwise (· <= ·)
 |[],_=>by simp[insI]
 |b::l,h=>by
  unfold insI;split
  .rename_i hab;show fq.mpr ⟨λc d=>?_,h⟩;rcases bh.mp d with e|e
   .subst e;show hab
   .exact wo hab ((fq.mp h).1 c e)
  .rename_i hab;show fq.mpr ⟨λc d=>?_,vH a l (fq.mp h).2⟩;rcases bh.mp ((insI_perm a l).mem_iff.mp d) with e|e
   .subst e;lia
   .exact (fq.mp h).1 c e
theorem iS:∀l:Q0e,(sortI l).Pairwise (· <= ·)
 |[]=>Jq
 |a::l=>vH a _ (iS l)
theorem uH:∀{l m:Q0e},l.Perm m->l.Pairwise (· <= ·)->m.Pairwise (· <= ·)->l=m
 |[],m,p,_,_=>by rw[p.nil_eq]
 |a::l,[],p,_,_=>by have:=p.length_eq;simp at this
 |a::l,b::m,p,h1,h2=>by
  have e:a=b:=by
   have m1:=p.mem_iff.mp (cb (a:=a) (l:=l));have h:=p.mem_iff.mpr (cb (a:=b) (l:=m));rcases bh.mp m1 with e|e
   .exact e
   .rcases bh.mp h with d|d
    .exact d.symm
    .have:=(fq.mp h2).1 a e;have:=(fq.mp h1).1 b d;lia
  subst e;rw[uH p.cons_inv (fq.mp h1).2 (fq.mp h2).2]
def SN(p:m.Perm l)(h:m.Pairwise (· <= ·)):sortI l=m:=uH ((sortI_perm l).trans p.symm) (iS l) h
local macro_rules | `(tactic| walk_at "ev") => `(tactic| simp only[dD,aH,eO,bI,aO,mC,kA,vG,nV,FR,sX,eM,dE,aS,eC,aB,tV,jD,qD,vE,qM,xk,FN,R4,qN,fP,aG,aA,cK,aF,m4,kM,cQ,b9,l9,yu,yr,g1,g2,n6,IL,A9,dM,benv,xS,wM,oE,asInt,aX,qO,nZ,bD,gF,Sv.all,Sv.rd,bo,oh,Jh,me,Jg,Im,Io,c_,Ip,nu,Il,Iw,Iy,Iu,cn,gr,az,Bf,la,iq,Iz,Nat.reduceSub,Nat.reduceAdd,Nat.reduceEqDiff,pN,qR,m6,x8,YO,rQ,x5,pL,wR,kC,rR,lH,rS,t6,pM,C8,xM,rT,wU,C9,iR,kQ,x6,m5,qQ,t7,t8,t9,uA,uB,uC,x9,yA,if_true,if_false,ite_true,ite_false,reduceIte,decide_true,decide_false,decide_eq_true_eq,qi,Ka,Kb,pO,rV])
def lK(ns:Q0e)(k:Int):∃c,dR [.j5 ns,.int k]=.ok (.int c):=by
 unfold dR;by_cases h:(ns.length:Int)=0
 .exact ⟨0,eQ rfl (uD (mE (by walk_at "ev";rw[Zx h]) rfl))⟩
 .obtain ⟨x,_,e,_⟩:=DC (xs:=ns) (i:=k%(ns.length:Int)) (jz _ ∅) (lx _ ∅);show⟨x,eQ rfl (b7 _ (fA (by walk_at "ev";rw[Zy h]) rfl) (d9 ?_))⟩
  walk_at "ev"
  rw[bV ∅]
  walk_at "ev"
  rw[e];rfl
def SQ(c k s:Int):Int:=(c+11*k*k+17*k+s)*48271%2147483647
def D_(c k s:Int):Int:=(SQ c k s*(SQ c k s/4096+5)+29*k+s)%2147483629
def FX(c k s:Int)(l:0<=k)(h:k<1000000):∃r,0<=r/\iE [.int c,.int k,.int s]=.ok (.int r):=by
 unfold iE;have d:0<=SQ c k s:=jz ((c+11*k*k+17*k+s)*48271) (b:=2147483647) (by decide);have a:SQ c k s<2147483647:=lx ((c+11*k*k+17*k+s)*48271) (b:=2147483647) (by decide);show⟨D_ c k s*39373%1000000007,jz _ (b:=1000000007) (by decide),eQ rfl (b7 _ (c8 (.int (SQ c k s)) ?_ rfl) (b7 _ (c8 (.int (D_ c k s)) ?_ rfl) (d9 ?_)))⟩
 .walk_at "ev"
  rw[uE (by decide)]
  walk_at "ev"
  rw[DB ∅,uE (i:=17) (by decide)]
  walk_at "ev"
  rw[DB (j:=48271) (by decide)]
  walk_at "ev"
  rw[bV (by decide)];rfl
 .walk_at "ev"
  rw[iQ (by decide) (by decide)]
  walk_at "ev"
  rw[uE ∅,uE (i:=29) (by decide)]
  walk_at "ev"
  rw[bV (by decide)];rfl
 .walk_at "ev"
  rw[DB (j:=39373) (by decide)]
  walk_at "ev"
  rw[bV (by decide)]
def BM(xs:Q0e)(x:Int):D.lst (xs.map D.int++[.int x])=aE (xs++[x]):=by simp[aE]
def rY(c many s:Int)(F:0<=many)(A:many<1000000):∃xs:Q0e,xs.length=many.toNat/\(∀x∈xs,0<=x)/\iF [.int c,.int many,.int s]=.ok (aE xs):=by
 unfold iF;have key:∀left:Int,∃d,fX (n6 5) (eO (tV (aB n9 (aS 4) (eC (.int 0))))
    (aH (sX (qO 3 n5 (aX (aB e8 (aS 4) (eC (.int 64))))))
    (aO 4 (aB l8 (aS 4) (eC (.int 64)))))
    (sX (qO 3 n5 (aX (aF LL.iE (aA (aS 0) (aA (aS 5) (aA (aS 2) aG))))))))
    ((bE 0 many.toNat).map D.int) [Sv.ro (.int c),Sv.ro (.int many),Sv.ro (.int s),Sv.ow (.lst []),Sv.ro (.int left),Sv.no]=.nx d /\
    ∃(xs:Q0e) (l:Int) (v:Sv),xs.length=many.toNat/\(∀x∈xs,0<=x)/\d=[Sv.ro (.int c),Sv.ro (.int many),Sv.ro (.int s),Sv.ow (aE xs),Sv.ro (.int l),v]:=by
  intro left;show SH (λi d=>∃(xs:Q0e) (l:Int) (v:Sv),xs.length=i/\(∀x∈xs,0<=x)/\d=[Sv.ro (.int c),Sv.ro (.int many),Sv.ro (.int s),Sv.ow (aE xs),Sv.ro (.int l),v]) 0 _ ⟨[],left,_,rfl,by simp,rfl⟩ ?_;rintro i _ hi ⟨xs,l,v,j,p,rfl⟩;have hlen:(xs.map D.int).length<16777216:=by rw[az];lia
  by_cases q:0<l
  .refine ⟨_,_,rfl,mE (by walk_at "ev";rw[Zx q]) (b7 [Sv.ro (.int c),Sv.ro (.int many),Sv.ro (.int s),Sv.ow (aE (xs++[l%64])),Sv.ro (.int l),Sv.ro (.int (0+(i:Int)))] ?_ (c8 (.int (l/64)) ?_ rfl)),xs++[l%64],l/64,_,by simp[j],?_,rfl⟩
   .walk_at "ev"
    rw[bV (by decide)]
    walk_at "ev"
    simp only[aE,nZ]
    walk_at "ev"
    rw[wV hlen]
    walk_at "ev"
    rw[BM];rfl
   .walk_at "ev"
    rw[iQ (by decide) (by decide)]
   .intro x j;rcases gn.mp j with h|h
    .exact p x h
    .rw [cc.mp h];show jz _ (by decide)
  .obtain ⟨r,z,e⟩:=FX c (0+(i:Int)) s ∅ ∅;show⟨_,[Sv.ro (.int c),Sv.ro (.int many),Sv.ro (.int s),Sv.ow (aE (xs++[r])),Sv.ro (.int l),Sv.ro (.int (0+(i:Int)))],rfl,fA (by walk_at "ev";rw[Zy q]) ?_,xs++[r],l,_,by simp[j],?_,rfl⟩
   .walk_at "ev"
    rw[e];simp only[aE,nZ]
    walk_at "ev"
    rw[wV hlen]
    walk_at "ev"
    rw[BM];rfl
   .intro x j;rcases gn.mp j with h|h
    .exact p x h
    .rw [cc.mp h];show z
 have o:i7 (.int 10) (.int 18)=aa (.int 1000000000000000000):=rfl;have fin:∀left:Int,(0=0) ->∃xs:Q0e,xs.length=many.toNat/\(∀x∈xs,0<=x)/\aH (eM (b9 (aA (aS 1) aG)) (n6 5) (eO (tV (aB n9 (aS 4) (eC (.int 0))))
    (aH (sX (qO 3 n5 (aX (aB e8 (aS 4) (eC (.int 64))))))
    (aO 4 (aB l8 (aS 4) (eC (.int 64)))))
    (sX (qO 3 n5 (aX (aF LL.iE (aA (aS 0) (aA (aS 5) (aA (aS 2) aG))))))))) (bI (aS 3)) [Sv.ro (.int c),Sv.ro (.int many),Sv.ro (.int s),Sv.ow (.lst []),Sv.ro (.int left),Sv.no]=.rt (aE xs):=by
  intro left _;obtain⟨d,e,xs,l,v,n,m,rfl⟩:=key left;show⟨xs,n,m,b7 _ (DA _ ?_ e) (d9 rfl)⟩
  walk_at "ev"
  show yC ∅
 by_cases y:1000000000000000000<=c
 .obtain ⟨xs,a,b,e⟩:=fin c rfl;show⟨xs,a,b,eQ rfl (b7 _ rfl (b7 _ rfl (b7 _ (mE ?_ rfl) e)))⟩
  walk_at "ev"
  rw[o]
  walk_at "ev"
  rw[Zx y]
 .obtain ⟨xs,a,b,e⟩:=fin 0 rfl;show⟨xs,a,b,eQ rfl (b7 _ rfl (b7 _ rfl (b7 _ (fA ?_ rfl) e)))⟩
  walk_at "ev"
  rw[o]
  walk_at "ev"
  rw[Zy y]
theorem SR(dr:Q0e)(n:Nat)(o:Int)(hn:n<=9)(hl:n+Ord.tri n<=dr.length):
  ∃d,pJ [aE dr,.int n,.int o]=.ok d /\∃rows:Q0a,rows.length=n/\Ord.Rows rows/\d=aK rows:=by
 unfold pJ;show lV rfl ?_;rw[show dD 11 [aE dr,.int n,.int o]=[Sv.ro (aE dr),Sv.ro (.int n),Sv.ro (.int o),Sv.no,Sv.no,Sv.no,Sv.no,Sv.no,Sv.no,Sv.no,Sv.no] from rfl];show aL [Sv.ro (aE dr),Sv.ro (.int n),Sv.ro (.int o),Sv.ow (.lst ((bE 0 n).map D.int)),Sv.no,Sv.no,Sv.no,Sv.no,Sv.no,Sv.no,Sv.no] ?_ ?_
 .walk_at "ev"
  simp only[IY]
  walk_at "ev"
  rw[Z_ ∅];rfl
 show aL [Sv.ro (aE dr),Sv.ro (.int n),Sv.ro (.int o),Sv.ow (.lst ((bE 0 n).map D.int)),Sv.ow (.lst []),Sv.no,Sv.no,Sv.no,Sv.no,Sv.no,Sv.no] rfl ?_;show gU (λρ=>∃(l:Q0e) (p z:Sv),l.Perm (bE 0 n)/\ρ=[Sv.ro (aE dr),Sv.ro (.int n),Sv.ro (.int o),z,Sv.ow (aE l),p,Sv.no,Sv.no,Sv.no,Sv.no,Sv.no]) ?_ ?_
 .refine oG n (λi ρ=>∃(q l:Q0e) (p:Sv),l.length=i/\(l++q).Perm (bE 0 n)/\ρ=[Sv.ro (aE dr),Sv.ro (.int n),Sv.ro (.int o),Sv.ow (aE q),Sv.ow (aE l),p,Sv.no,Sv.no,Sv.no,Sv.no,Sv.no])
   rfl ∅ ⟨bE 0 n,[],Sv.no,rfl,.refl _,rfl⟩ ?_ ?_
  .rintro i _ hi ⟨q,l,p,hw,O,rfl⟩;have hlr:l.length+q.length=n:=by have:=O.length_eq;rw[cy,aN] at this;show this
   obtain⟨x,I⟩:∃x,dr[i]?=aa x:=⟨_,bx ∅⟩;have hr0:(0:Int)<q.length:=by lia
   have h0:=jz x (show(q.length:Int)≠0 by lia);have h1:=lx x hr0;obtain⟨y,hy⟩:∃y,q[(x%(q.length:Int)).toNat]?=aa y:=⟨_,bx ∅⟩;show⟨_,rfl,[Sv.ro (aE dr),Sv.ro (.int n),Sv.ro (.int o),Sv.ow (aE (q.eraseIdx (x%(q.length:Int)).toNat)),Sv.ow (aE (l++[y])),Sv.ro (.int i),Sv.no,Sv.no,Sv.no,Sv.no,Sv.no],?_,q.eraseIdx (x%(q.length:Int)).toNat,l++[y],Sv.ro (.int i),by simp[hw],?_,rfl⟩
   .have X:=Y2 h0 h1 ∅ hy;simp only[aE]
    walk_at "ev"
    simp only[mB]
    walk_at "ev"
    rw[lJ I]
    walk_at "ev"
    rw[bV hr0]
    walk_at "ev"
    simp only[D.AN,ite_true,c_]
    walk_at "ev"
    rw[X]
    walk_at "ev"
    rw[wV (by rw[az];lia)]
    walk_at "ev"
    rw[gq];rfl
   .rw [om];show((Ord.xX q _ y hy).append_left l).trans O
  .rintro _ ⟨q,l,p,hw,O,rfl⟩;have hlr:l.length+q.length=n:=by have:=O.length_eq;rw[cy,aN] at this;show this
   have e:q=[]:=qd.mp ∅;subst e;rw[iu] at O;show⟨l,p,_,O,rfl⟩
 rintro _ ⟨l,p,z,O,rfl⟩;have J:l.Perm ((b_ n).map λk:Nat=>(k:Int)):=by
  have e:bE 0 n=(b_ n).map λk:Nat=>(k:Int):=gk λk _=>by show 0+(k:Int)=k;lia
  rw[<- e];show O
 have hlw:l.length=n:=by rw[J.length_eq,az,oi]
 have F:l.Nodup:=J.nodup_iff.mpr (tu _ (λa b hab e=>hab ∅) a15);have yp:∀{m:Q0a} (t:Nat) (u:Q0e),Ord.Under l m t u->u.length<=n:=λ{m} t u h=>by rw[<- hlw];show Ord.e9 u l h.1 λa ha=>by obtain⟨s,_,_,h2,_⟩:=h.2 a ha;show lh h2
 show aL [Sv.ro (aE dr),Sv.ro (.int n),Sv.ro (.int o),z,Sv.ow (aE l),p,Sv.ow (.lA [] []),Sv.no,Sv.no,Sv.no,Sv.no] rfl ?_;show aL [Sv.ro (aE dr),Sv.ro (.int n),Sv.ro (.int o),z,Sv.ow (aE l),p,Sv.ow (.lA [] []),Sv.ro (.int n),Sv.no,Sv.no,Sv.no] rfl ?_;show gU (λρ=>∃(m:Q0a) (v7 L K v10:Sv),m.length=n/\Ord.Good l m/\ρ=[Sv.ro (aE dr),Sv.ro (.int n),Sv.ro (.int o),z,Sv.ow (aE l),p,Sv.ow (.lA (l.map cp) (m.map aE)),v7,L,K,v10]) ?_ ?_
 .refine oG n (λj ρ=>∃(m:Q0a) (L K v10:Sv),m.length=j/\Ord.Good l m/\ρ=[Sv.ro (aE dr),Sv.ro (.int n),Sv.ro (.int o),z,Sv.ow (aE l),p,Sv.ow (.lA ((l.take j).map cp) (m.map aE)),Sv.ro (.int ((n+Ord.tri j:Nat):Int)),L,K,v10])
   rfl ∅ ⟨[],Sv.no,Sv.no,Sv.no,rfl,(λt u e=>by simp at e),rfl⟩ ?_ ?_
  .rintro j _ hj ⟨m,L,K,v10,A,U,rfl⟩;show⟨_,rfl,?_⟩;show lI [Sv.ro (aE dr),Sv.ro (.int n),Sv.ro (.int o),z,Sv.ow (aE l),p,Sv.ow (.lA ((l.take j).map cp) (m.map aE)),Sv.ro (.int ((n+Ord.tri j:Nat):Int)),Sv.ro (.int j),Sv.ro (.lst []),v10] rfl ?_;show SJ (λρ=>∃(u:Q0e) (v10:Sv),Ord.Under l m j u/\ρ=[Sv.ro (aE dr),Sv.ro (.int n),Sv.ro (.int o),z,Sv.ow (aE l),p,Sv.ow (.lA ((l.take j).map cp) (m.map aE)),Sv.ro (.int ((n+Ord.tri (j+1):Nat):Int)),Sv.ro (.int j),Sv.ro (aE u),v10]) ?_ ?_
   .refine oG j (λi ρ=>∃(u:Q0e) (v10:Sv),Ord.Under l m i u/\ρ=[Sv.ro (aE dr),Sv.ro (.int n),Sv.ro (.int o),z,Sv.ow (aE l),p,Sv.ow (.lA ((l.take j).map cp) (m.map aE)),Sv.ro (.int ((n+Ord.tri j+i:Nat):Int)),Sv.ro (.int j),Sv.ro (aE u),v10])
     rfl ∅ ⟨[],_,⟨sx,λa ha=>(nomatch ha)⟩,rfl⟩ ?_ ?_
    .rintro i _ hi ⟨u,v10,hU,rfl⟩;have tl:=Ord.aCd hj hi;obtain⟨y,hy⟩:∃y,dr[n+Ord.tri j+i]?=aa y:=⟨_,bx ∅⟩;obtain⟨x,I⟩:∃x,l[i]?=aa x:=⟨_,bx ∅⟩;obtain⟨v,hv⟩:∃v,m[i]?=aa v:=⟨_,bx ∅⟩;have lv:=yp _ _ (U i v hv);have lu:=yp _ _ hU;show⟨_,rfl,?_⟩;show SJ (λρ=>∃u':Q0e,Ord.Under l m (i+1) u'/\ρ=[Sv.ro (aE dr),Sv.ro (.int n),Sv.ro (.int o),z,Sv.ow (aE l),p,Sv.ow (.lA ((l.take j).map cp) (m.map aE)),Sv.ro (.int ((n+Ord.tri j+i:Nat):Int)),Sv.ro (.int j),Sv.ro (aE u'),Sv.ro (.int i)]) ?_ ?_
     .refine rX (Zv (y%4<o)) ?_ (λ_=>?_) (λ_=>DD ⟨u,hU.mono ∅,rfl⟩)
      .simp only[aE]
       walk_at "ev"
       rw[lJ hy]
       walk_at "ev"
       rw[bV (by decide)]
       walk_at "ev"
      .refine ⟨_,?_,_,hU.step F U I hv,rfl⟩;have hf:=lj (λa=>!u.contains a) (v++[x]);have X:kN (g1 0) (tV (aB (xN ae) b8 cV)) b8 [af,aa (.lst (u.map D.int))] ((v++[x]).map D.int)=aa (((v++[x]).filter λa=>!u.contains a).map D.int) :=
        fM D.int _ D.int (v++[x]) λa _=>⟨_,rfl,by walk_at "ev",λ_=>rfl⟩
       have e2:aB bX (aB xP m3 (aB cZ gG FL)) (eU (aA (aB cZ gG FL) aG)) [aa (aE dr),aa (.int n),aa (.int o),z.all,aa (aE l),p.all,aa (.lA ((l.take j).map cp) (m.map aE)),aa (.int ((n+Ord.tri j+i:Nat):Int)),aa (.int j),aa (aE u),aa (.int i)]=aa (.lst ((v++[x]).map D.int)):=by
        simp only[aE]
        walk_at "ev"
        rw[lJ I]
        walk_at "ev"
        simp only[xP,xO,c_];have:=uG (a3D (a1X j l) F) (SM I hi) hv;simp only[aE] at this;rw[this];simp only[eU]
        walk_at "ev"
        rw[lJ I]
        walk_at "ev"
        rw[Z_ (by decide),c_,yB (by simp;lia)];simp
       have e3:cN 1 [9] (cQ (aB bX (aB xP m3 (aB cZ gG FL)) (eU (aA (aB cZ gG FL) aG)))) (g1 0) (tV (aB (xN ae) b8 cV)) b8 [aa (aE dr),aa (.int n),aa (.int o),z.all,aa (aE l),p.all,aa (.lA ((l.take j).map cp) (m.map aE)),aa (.int ((n+Ord.tri j+i:Nat):Int)),aa (.int j),aa (aE u),aa (.int i)]=aa (.lst (((v++[x]).filter λa=>!u.contains a).map D.int)) :=
        gI ((v++[x]).map D.int) (by unfold cQ;rw[e2];rfl) (by simp;lia) X
       unfold nV;have e4:aB FQ um (cN 1 [9] (cQ (aB bX (aB xP m3 (aB cZ gG FL)) (eU (aA (aB cZ gG FL) aG)))) (g1 0) (tV (aB (xN ae) b8 cV)) b8) [aa (aE dr),aa (.int n),aa (.int o),z.all,aa (aE l),p.all,aa (.lA ((l.take j).map cp) (m.map aE)),aa (.int ((n+Ord.tri j+i:Nat):Int)),aa (.int j),aa (aE u),aa (.int i)]=aa (aE (u++(v++[x]).filter λa=>!u.contains a)):=by show bG (x:=aE u) rfl e3 ?_;show FQ (.lst (u.map D.int)) _=_;rw[SG (by simp only[az,cy,cn,gr] at hf ⊢;lia),<- gq];rfl
       rw[show bD _=[aa (aE dr),aa (.int n),aa (.int o),z.all,aa (aE l),p.all,aa (.lA ((l.take j).map cp) (m.map aE)),aa (.int ((n+Ord.tri j+i:Nat):Int)),aa (.int j),aa (aE u),aa (.int i)] from rfl,e4];show(if oB (aE _)=ae then _ else _)=_;rw[Z_ (show oB (aE _)=ae from jE _)];rfl
     rintro _ ⟨u',hU',rfl⟩;show⟨_,rfl,u',_,hU',rfl⟩
    .rintro _ ⟨u,v10,hU,rfl⟩;show⟨u,v10,hU,by rw[a1R];rfl⟩
   rintro _ ⟨u,v10,hU,rfl⟩;obtain⟨x,I⟩:∃x,l[j]?=aa x:=⟨_,bx ∅⟩;show⟨[Sv.ro (aE dr),Sv.ro (.int n),Sv.ro (.int o),z,Sv.ow (aE l),p,Sv.ow (.lA ((l.take (j+1)).map cp) ((m++[u]).map aE)),Sv.ro (.int ((n+Ord.tri (j+1):Nat):Int)),Sv.ro (.int j),Sv.ro (aE u),v10],?_,m++[u],Sv.ro (.int j),Sv.ro (aE u),v10,by simp[A],U.snoc (by rw[A];show hU),rfl⟩;have hno:lF ((l.take j).map cp) (m.map aE) (cp x)=af:=BL λhm=>by
    obtain⟨t,Z⟩:=Ay.mp hm;have htl:t<j:=by have:=(cg.mp Z).1;rw[kj] at this;lia
    rw[Bd htl] at Z;have:=Ord.xZ F Z I;lia
   unfold LU
   walk_at "ev"
   simp only[xT,c_];have e5:cZ (aE l) (.int (j:Int))=aa (.int x):=lJ I;rw[e5];simp only[c_,xO,hno,Option.isNone_none,true_and];rw[Z_ (by rw[az];show m.length<16777216;lia),List.take_succ,I,gq,gq];rfl
  .rintro _ ⟨m,L,K,v10,A,U,rfl⟩;show⟨m,Sv.ro (.int ((n+Ord.tri n:Nat):Int)),L,K,v10,A,U,?_⟩;rw[r_ ∅]
 rintro _ ⟨m,v7,L,K,v10,A,U,rfl⟩;have ec:∃rows:Q0a,rows.length=(b_ n).length/\(∀(i:Nat) (b:Nat) (r:Q0e),(b_ n)[i]?=aa b->rows[i]?=aa r ->∀(t:Nat) (u:Q0e),l[t]?=aa (b:Int)->m[t]?=aa u->r.Perm u/\r.Pairwise (· <= ·)) /\
   kN (g1 0) dM (cK d8 (aA (cK lG (aA (aB xP cV b8) aG)) aG)) [af,aa (.lA (l.map cp) (m.map aE))] ((b_ n).map λb:Nat=>D.int (b:Int))=aa (rows.map τ):=by
  show SI (λb:Nat=>D.int (b:Int)) τ _ (b_ n) λb hb=>?_;have hb2:=og.mp hb;have hm:(b:Int)∈l:=J.mem_iff.mpr (gi.mpr ⟨b,hb,rfl⟩);obtain⟨t,Z⟩:=Ay.mp hm;obtain⟨u,Y⟩:∃u,m[t]?=aa u:=⟨_,bx (by have:=(cg.mp Z).1;lia)⟩;have lu:=yp _ _ (U t u Y);show⟨_,sortI u,rfl,?_,λt' u' X e2=>?_⟩
  .walk_at "ev"
   simp only[xP,xO,c_];rw[uG F Z Y];simp only[aE]
   walk_at "ev"
   rw[sorted_ints ∅];rfl
  .have e:=Ord.xZ F X Z;subst e;rw[Y] at e2;cases e2;show⟨sortI_perm u,iS u⟩
 obtain⟨rows,hr1,hr2,ec⟩:=ec;rw[oi] at hr1;show gA (aK rows) ?_ ⟨rows,hr1,U.rows A J hr1 λb t r u X e2 e3=>hr2 b b r (by rw[tm (by have:=(cg.mp X).1;lia)]) X t u e2 e3,rfl⟩;have e6:(bE 0 n).map D.int=(b_ n).map λb:Nat=>D.int (b:Int):=by unfold bE;rw[dh];show gk λb _=>by show D.int (0+(b:Int))=_;rw[jy]
 have e7:=gI (nl:=1) (fr:=[6]) (it:=b9 (aV 1)) (g:=g1 0) (t:=dM) (e:=cK d8 (aA (cK lG (aA (aB xP cV b8) aG)) aG)) (ρ:=bD [Sv.ro (aE dr),Sv.ro (.int n),Sv.ro (.int o),z,Sv.ow (aE l),p,Sv.ow (.lA (l.map cp) (m.map aE)),v7,L,K,v10]) ((bE 0 n).map D.int)
  (by walk_at "ev";show oD ∅) (by rw[az,aN];lia) (by rw[e6];show ec)
 show cC e7 rfl
theorem Y3(n:Nat):2*Ord.tri n+n=n*n:=by
 induction n with
 |zero=>rfl
 |succ n ih =>
  show 2*(Ord.tri n+n)+(n+1)=(n+1)*(n+1);have:(n+1)*(n+1)=n*n+2*n+1:=by rw[Nat.add_mul,Nat.mul_add];lia
  lia
theorem SS(ns:Q0e)(k m s:Int)(h0:0<=m)(h1:m<=9):
  ∃d,pK [.j5 ns,.int k,.int m,.int s]=.ok d /\∃rows:Q0a,(rows.length:Int)<=m/\Ord.Rows rows/\d=aK rows:=by
 unfold pK;show lV rfl ?_;obtain⟨c1,A⟩:=lK ns k;obtain⟨xs,F,J,ex⟩:=rY c1 4 s (by decide) (by decide);obtain⟨c2,z⟩:=lK ns (k+1);obtain⟨a,b,r,rfl⟩:∃a b r,xs=a::b::r:=by
  match xs,F with
  |a::b::r,_=>show⟨a,b,r,rfl⟩
 have X:=jz a (show m+1≠0 by lia);have U:=lx a (show 0<m+1 by lia);obtain⟨n,O⟩:∃n:Nat,a%(m+1)=(n:Int):=⟨(a%(m+1)).toNat,by lia⟩;have h:n<=9:=by lia
 have et:=Y3 n;have L:(n:Int)*((n:Int)-1)/2=(Ord.tri n:Int):=by
  have:(n:Int)*((n:Int)-1)=2*(Ord.tri n:Int):=by
   have e2:((n*n:Nat):Int)=(n:Int)*n:=by simp
   rw[Int.mul_sub,a2t];lia
  rw[this,Int.mul_ediv_cancel_left _ (by decide)]
 have aO7:Ord.tri n<=36:=Ord.SE h;obtain⟨ys,hy,I,Y⟩:=rY c2 ((n:Int)+Ord.tri n) (s+10007) ∅ ∅;show aL _ (c8 (aE (a::b::r)) (cR (bW rfl rfl A) rfl rfl ex) rfl) ?_;show aL _ (c8 (.int n) ?_ rfl) ?_
 .simp only[aE]
  walk_at "ev"
  rw[show wL (D.int a::D.int b::r.map D.int) 0=aa (D.int a) from rW (k:=0) rfl]
  walk_at "ev"
  rw[bV ∅,O]
 show aL _ (c8 (aE ys) (cR (bW rfl rfl z) ?_ rfl Y) rfl) ?_
 .walk_at "ev"
  rw[uE ∅]
  walk_at "ev"
  rw[iQ (by decide) (by decide),L]
  walk_at "ev"
 have q:=jz b (show(8:Int)≠0 by decide);have p:=lx b (show(0:Int)<8 by decide);have l:∃j:Int,aB cZ (eU (aA (eC (.int 1)) (aA (eC (.int 1)) (aA (eC (.int 2)) (aA (eC (.int 2)) (aA (eC (.int 3)) (aA (eC (.int 1)) (aA (eC (.int 0)) (aA (eC (.int 4)) aG))))))))) (aB e8 (aB cZ (aS 4) (eC (.int 1))) (eC (.int 8))) [aa (.j5 ns),aa (.int k),aa (.int m),aa (.int s),aa (aE (a::b::r)),aa (.int n),aa (aE ys)]=aa (.int j):=by
  obtain⟨x,F,e,_⟩:=DC (xs:=[(1:Int),1,2,2,3,1,0,4]) (i:=b%8) q p;show⟨x,bG (x:=.lst ([(1:Int),1,2,2,3,1,0,4].map D.int)) rfl (y:=.int (b%8)) ?_ ?_⟩
  .refine bG (x:=.int b) (y:=.int 8) ?_ rfl (bV (by decide));simp only[aE]
   walk_at "ev"
   show rW (k:=1) rfl
  .rw [rT,wW,e];rfl
 obtain⟨j,v⟩:=l;obtain⟨d,Z,rows,K,o,rfl⟩:=SR ys n j h ∅;show gA (aK rows) (cR rfl rfl v Z) ⟨rows,by lia,o,rfl⟩
noncomputable def JC:Nat->D->Prop
 |0,_=>False
 |n+1,.tup ds=>ds.length<=1000000 /\∀d∈ds,JC n d
 |_+1,.int _=>True
 |_+1,.bl _=>True
 |_+1,.non=>True
 |_+1,.str _=>True
 |_+1,_=>False
def isi(h:f ρ=aa d)(a:IW d=ae:=by rfl):kM T f ρ=aa (.bl (IV T d)):=by unfold kM;rw[h];show Z_ a
theorem same_refl:∀(n:Nat) (d:D),JC n d->eA n [d,d]=.ok (.bl ae)
 |0,_,h=>h.elim
 |n+1,.tup ds,h=>by
  have m:=h.1;unfold eA;show eQ rfl (uD (mE (by unfold tV;rw[isi rfl];rfl) (b7 _ (fA ?_ rfl) (d9 ?_))))
  .simp only[dD,aH,eO,bI,aO,mC,kA,vG,nV,FR,sX,eM,dE,aS,eC,aB,tV,jD,qD,vE,qM,xk,FN,R4,qN,fP,aG,aA,cK,aF,m4,kM,cQ,b9,l9,yu,yr,g1,g2,n6,IL,A9,dM,benv,xS,wM,oE,asInt,aX,qO,nZ,bD,gF,Sv.all,Sv.rd,bo,oh,Jh,me,Jg,Im,Io,c_,Ip,nu,Il,Iw,Iy,Iu,cn,gr,az,Bf,la,iq,Iz,Nat.reduceSub,Nat.reduceAdd,Nat.reduceEqDiff,pN,qR,m6,x8,YO,rQ,x5,pL,wR,kC,rR,lH,rS,t6,pM,C8,xM,rT,wU,C9,iR,kQ,x6,m5,qQ,t7,t8,t9,uA,uB,uC,x9,yA,if_true,if_false,ite_true,ite_false,reduceIte,decide_true,decide_false,decide_eq_true_eq,qi,Ka,Kb,pO,rV];simp[IV,tyM,dD,bD,kM,IW,aS,Sv.all,kL]
  .have l:=gI (nl:=1) (fr:=[0,1]) (it:=b9 (aA (cK bU (aV 1)) aG)) (g:=g1 0) (t:=dM) (e:=aF (eA n) (aA (aB cZ (aS 1) (aS 0)) (aA (aB cZ (aS 2) (aS 0)) aG))) (ρ:=[aa (.tup ds),aa (.tup ds)]) ((bE 0 ds.length).map D.int) (ys:=(bE 0 ds.length).map λ_=>D.bl ae)
    (by simp only[dD,aH,eO,bI,aO,mC,kA,vG,nV,FR,sX,eM,dE,aS,eC,aB,tV,jD,qD,vE,qM,xk,FN,R4,qN,fP,aG,aA,cK,aF,m4,kM,cQ,b9,l9,yu,yr,g1,g2,n6,IL,A9,dM,benv,xS,wM,oE,asInt,aX,qO,nZ,bD,gF,Sv.all,Sv.rd,bo,oh,Jh,me,Jg,Im,Io,c_,Ip,nu,Il,Iw,Iy,Iu,cn,gr,az,Bf,la,iq,Iz,Nat.reduceSub,Nat.reduceAdd,Nat.reduceEqDiff,pN,qR,m6,x8,YO,rQ,x5,pL,wR,kC,rR,lH,rS,t6,pM,C8,xM,rT,wU,C9,iR,kQ,x6,m5,qQ,t7,t8,t9,uA,uB,uC,x9,yA,if_true,if_false,ite_true,ite_false,reduceIte,decide_true,decide_false,decide_eq_true_eq,qi,Ka,Kb,pO,rV];show oD ∅) (by rw[az,aN];lia) (BJ D.int (λ_=>D.bl ae) (bE 0 ds.length) λk a=>by have a:=bF.mp a;obtain⟨x,j,e,_⟩:=DC (xs:=ds) (i:=k) ∅ ∅;show aF (eA n) _ _=_;show bW (bG rfl rfl e) (bG rfl rfl e) (same_refl n x (h.2 x j)))
   show cC l ?_;have:(bE 0 ds.length).map (λ_=>D.bl ae)=((bE 0 ds.length).map λ_=>ae).map D.bl:=by rw[dh];rfl
   rw[this,m7];congr 2;simp
 |n+1,.int i,_=>by unfold eA;show eQ rfl (b7 _ (fA rfl rfl) (b7 _ (fA rfl rfl) (b7 _ (fA rfl rfl) (uD (mE rfl (d9 ?_))))));show qM _ _ _=_;simp[qM,FN,kM,IW,aS,IV,tyM,qG,aB,lH,t6,pM,dD,bD,Sv.all]
 |n+1,.bl b,_=>by unfold eA;show eQ rfl (b7 _ (fA rfl rfl) (b7 _ (fA rfl rfl) (uD (mE rfl (d9 ?_)))));simp[qM,FN,kM,IW,aS,IV,tyM,qG,aB,lH,t6,pM,dD,bD,Sv.all]
 |n+1,.non,_=>by unfold eA;show eQ rfl (b7 _ (fA rfl rfl) (uD (mE rfl (d9 rfl))))
 |n+1,.str x,_=>by unfold eA;show eQ rfl (b7 _ (fA rfl rfl) (b7 _ (fA rfl rfl) (b7 _ (fA rfl rfl) (b7 _ (fA rfl rfl) (d9 ?_)))));simp[qM,FN,kM,IW,aS,IV,tyM,qG,aB,lH,t6,pM,dD,bD,Sv.all]
 |n+1,.lst _,h=>h.elim
 |n+1,.j5 _,h=>h.elim
 |n+1,.lA _ _,h=>h.elim
 |n+1,.dC _ _ _,h=>h.elim
 |n+1,.exc _ _,h=>h.elim
 |n+1,.rws _,h=>h.elim
def JD(h:xs.length<=1000000):JC (n+2) (τ xs):=⟨by rw[az];show h,λd a=>by obtain⟨i,_,rfl⟩:=gi.mp a;trivial⟩
theorem uI{α:Type}(P:bT->Prop)(mk:α->D)(ok:α->Bool):∀(l:List α) (ρ:bT),P ρ->(∀a∈l,∀ρ,P ρ ->∃ρ1,g (mk a) ρ=aa ρ1/\(ok a=ae->Nx (b ρ1) P)/\(ok a=ag->b ρ1=.rt z)) ->
  (l.all ok=ae->Nx (fX g b (l.map mk) ρ) P)/\(l.all ok=ag->fX g b (l.map mk) ρ=.rt z)
 |[],ρ,h,_=>⟨λ_=>⟨ρ,rfl,h⟩,λe=>by cases e⟩
 |a::l,ρ,h,step=>by
  obtain⟨ρ1,n,p,h2⟩:=step a (by simp) ρ h
  cases hd:ok a with
  |true =>
   obtain⟨d,m,p2⟩:=p hd;have o:=uI P mk ok l d p2 λd' j=>step d' (by simp[j]);simp only[bo,fX,n,m,mj,hd,wu];show o
  |false =>
   have m:=h2 hd;simp only[bo,fX,n,m,mj,hd,tw];show⟨λe=>(by cases e),λ_=>trivial⟩
def row(rows:Q0a)(b:Int):List Int:=(rows[b.toNat]?).getD []
def DF(h:0<=i)(d:i<rows.length):cZ (aK rows) (.int i)=aa (τ (row rows i)):=by
 have a:i.toNat<rows.length:=by lia
 rw[show aK rows=.tup (rows.map τ) from rfl,wU,wW];unfold wL row;rw[yD h d];simp[a]
def aCg:xN ag (.int i) (τ xs)=aa (.bl (xs.contains i)):=by unfold τ;rw[pO];rfl
def Y4:xN ae (.int i) (τ xs)=aa (.bl (!xs.contains i)):=by unfold τ;rw[pO];rfl
def d6:bU [aK rows]=aa (.int rows.length):=by unfold aK;rw[kQ,az]
def dS:bU [τ xs]=aa (.int xs.length):=by unfold τ;rw[kQ,az]
theorem zipIdx_map{α d:Type}(f:α->d)(l:List α)(m:Nat):(l.map f).zipIdx m=(l.zipIdx m).map λp=>(f p.1,p.2):=by
 induction l generalizing m with
 |nil=>rfl
 |cons a l ih=>simp[a1V,ih]
def pairD(p:Int×Int):D:=.tup [.int p.1,.int p.2]
end LL
namespace Ord
def rel(rows:Q0a)(a b:Nat):Bool:=(rows.getD b []).contains (a:Int)
def Rows.Um(h:Rows rows)(d:a<rows.length):rel rows a a=ag:=by unfold rel;rw[jw,bx d];have:=h.YX a _ (bx d);simpa using this
def Rows.tr'(h:Rows rows)(l:b<rows.length)(j:c<rows.length)(d:rel rows a b=ae)(h2:rel rows b c=ae):rel rows a c=ae:=by
 unfold rel at *;rw[jw,bx l] at d;rw[jw,bx j] at h2 ⊢;have d:(a:Int)∈rows[b]:=by simpa using d
 have h2:(b:Int)∈rows[c]:=by simpa using h2
 have:=h.tr c b _ _ (bx j) h2 (bx l) _ d;simpa using this
def Y5(h:x[b]?=aa r):rel x a b=ae↔(a:Int)∈r:=by unfold rel;rw[jw,h];simp
def JE(lo:Int)(n:Nat):(L4.bE lo n).Pairwise (·<·):=tu _ (λa b (h:a<b)=>by lia) Ja
def Rows.short(h:Rows x)(j:r∈x):r.length<=x.length:=by
 obtain⟨b,d⟩:=Ay.mp j;have nd:r.Nodup:=(h.up b r d).imp λq=>by lia
 have:=e9 r (L4.bE 0 x.length) nd λa l=>LL.bF.mpr (by have:=h.rng b r d a l;lia)
 rwa [LL.aN] at this
end Ord
namespace K45
open L3 L4 LL
def pr(p:Int×Int):List Int:=[p.1,p.2]
def gJ(x:Q0a)(k:Nat):List (Int×Int):=(bE 0 k).flatMap λb=>(row x b).map λa=>(a,b)
def qT(x:Q0a)(k:Nat):gJ x (k+1)=gJ x k++(row x (k:Int)).map λa=>(a,(k:Int)):=by unfold gJ;rw[BI,List.flatMap_append];simp
def oH{x:Q0a}{p:Int×Int}:p∈gJ x x.length↔0<=p.2/\p.2<(x.length:Int)/\p.1∈row x p.2:=by
 unfold gJ;rw[Jc]
 constructor
 .rintro ⟨b,h,d⟩;obtain⟨a,j,rfl⟩:=gi.mp d;have:=bF.mp h;show⟨by lia,by lia,j⟩
 .rintro ⟨m,l,h2⟩;show⟨p.2,bF.mpr ∅,gi.mpr ⟨p.1,h2,rfl⟩⟩
def m8{x:Q0a}{b:Int}(d:0<=b)(a:b<(x.length:Int)):x[b.toNat]?=aa (row x b):=by
 have:b.toNat<x.length:=by lia
 unfold row;rw[bx this];rfl
def FY{x:Q0a}{a b:Nat}(d:b<x.length):(((a:Int),(b:Int))∈gJ x x.length)↔Ord.rel x a b=ae:=by
 rw[oH];have e:=m8 (x:=x) (b:=(b:Int)) ∅ ∅;rw[jn] at e;rw[Ord.Y5 e]
 constructor
 .rintro ⟨_,_,h⟩;show h
 .intro h;show⟨by show(0:Int)<=(b:Int);lia,by show(b:Int)<_;lia,h⟩
def JF{x:Q0a}(j:Ord.Rows x):(gJ x x.length).Nodup:=by
 unfold gJ;rw[Js,List.pairwise_flatMap]
 constructor
 .intro b d;have d:=bF.mp d;have nd:(row x b).Nodup:=(j.up _ _ (m8 ∅ ∅)).imp λq=>by lia
  show tu _ (λa c h e=>h (congrArg Prod.fst e)) nd
 .refine (Ord.JE 0 x.length).imp λ{b c} h p m q l e=>?_;obtain⟨a,_,rfl⟩:=gi.mp m;obtain⟨n,_,rfl⟩:=gi.mp l;have:=congrArg Prod.snd e;simp at this;lia
theorem FZ(d:Ord.Rows x)(j:x.length<=9):∀k,k<=x.length->(gJ x k).length<=k*8:=by
 intro k
 induction k with
 |zero=>intro _;simp[gJ,bE]
 |succ k ih =>
  intro l;rw[qT,cy,az];have m:=ih ∅;have e:=m8 (x:=x) (b:=(k:Int)) ∅ ∅;rw[jn] at e;have nd:(row x (k:Int)).Nodup:=(d.up _ _ e).imp λq=>by lia
  have h2:((k:Int)::row x (k:Int)).length<=(bE 0 x.length).length:=Ord.e9 _ _ (k_.mpr ⟨d.YX _ _ e,nd⟩) λa h=>by
   rcases bh.1 h with rfl|h
   .exact bF.mpr ∅
   .have:=d.rng _ _ e a h;show bF.mpr ∅
  rw[aN,cn] at h2;lia
def un(t:Q0e):Int×Int:=(t.getD 0 0,t.getD 1 0)
def srt(l:List (Int×Int)):List (Int×Int):=(mD (l.map pr)).map un
def F0(l:List (Int×Int)):(srt l).Perm l:=by have:=(gH (l.map pr)).map un;rw[dh] at this;have e:(un∘pr)=id:=funext λp=>rfl;rw[e,a16] at this;show this
def Y6(l:List (Int×Int)):(mD (l.map pr)).map rO=(srt l).map pairD:=by unfold srt;rw[dh];show gk λt a=>?_;obtain⟨p,_,rfl⟩:=gi.mp ((gH (l.map pr)).mem_iff.mp a);rfl
theorem yE:∀l:List (Int×Int),lU (l.map pairD)=aa (l.map pr)
 |[]=>rfl
 |p::l=>by rw[bo,lU,yE l];rfl
def JG(h:l.length<64):qP [.lst (l.map pairD)]=aa (.lst ((srt l).map pairD)):=by unfold qP;simp only[yE,c_];rw[Z_ ⟨by simpa using h,gx.mpr λt a=>by obtain⟨p,_,rfl⟩:=gi.mp a;rfl⟩,Y6]
def code(p:Int×Int):Int:=if p.1<p.2 then p.1*9+p.2 else p.2*9+p.1
def codes:List Int:=(bE 0 9).flatMap λi=>(bE (i+1) (8-i).toNat).map λj=>i*9+j
def yF{x:Q0a}(j:Ord.Rows x){a b:Int}(l:(a,b)∈gJ x x.length)(h2:(b,a)∈gJ x x.length):False:=by obtain⟨o,n,h⟩:=oH.mp l;obtain⟨q,p,d⟩:=oH.mp h2;simp only at o n q p h d;obtain⟨m,rfl⟩:∃m:Nat,a=(m:Int):=⟨a.toNat,by lia⟩;obtain⟨k,rfl⟩:∃k:Nat,b=(k:Int):=⟨b.toNat,by lia⟩;have:=j.tr' ∅ ∅ ((FY ∅).mp l) ((FY ∅).mp h2);rw[j.Um ∅] at this;cases this
def rZ{a b c d:Int}(j:0<=b/\b<9)(h:0<=d/\d<9)(e:a*9+b=c*9+d):a=c/\b=d:=by lia
def Y8{x:Q0a}(o:Ord.Rows x)(J:x.length<=9):(gJ x x.length).length<=36:=by
 have y:∀p∈gJ x x.length,0<=p.1/\p.1<9/\0<=p.2/\p.2<9/\p.1≠p.2:=λp m=>by obtain⟨F,n,h2⟩:=oH.mp m;have e:=m8 F n;obtain⟨q1,q2⟩:=o.rng _ _ e _ h2;show⟨q1,by lia,F,by lia,λz=>?_⟩;obtain⟨a,b⟩:=p;simp only at z;subst z;show yF o m m
 have nd:((gJ x x.length).map code).Nodup:=by
  rw[Js,si];show a2m (λ{p q} m A v e=>?_) (JF o);have l:=y p m;have j:=y q A;obtain⟨a,b⟩:=p;obtain⟨c,d⟩:=q;simp only at l j;unfold code at e;simp only at e;by_cases n:a<b<;>by_cases h2:c<d
  .rw [Z_ n,Z_ h2] at e;obtain⟨rfl,rfl⟩:=rZ ⟨l.2.2.1,l.2.2.2.1⟩ ⟨j.2.2.1,j.2.2.2.1⟩ e;show v rfl
  .rw [Z_ n,Zz h2] at e;obtain⟨rfl,rfl⟩:=rZ ⟨l.2.2.1,l.2.2.2.1⟩ ⟨j.1,j.2.1⟩ e;show yF o m A
  .rw [Zz n,Z_ h2] at e;obtain⟨rfl,rfl⟩:=rZ ⟨l.1,l.2.1⟩ ⟨j.2.2.1,j.2.2.2.1⟩ e;show yF o m A
  .rw [Zz n,Zz h2] at e;obtain⟨rfl,rfl⟩:=rZ ⟨l.1,l.2.1⟩ ⟨j.1,j.2.1⟩ e;show v rfl
 have:=Ord.e9 _ codes nd λz I=>by
  obtain⟨p,m,rfl⟩:=gi.mp I;have:=y p m;unfold code codes;by_cases h:p.1<p.2
  .rw [Z_ h,Jc];show⟨p.1,bF.mpr ∅,gi.mpr ⟨p.2,bF.mpr ∅,rfl⟩⟩
  .rw [Zz h,Jc];show⟨p.2,bF.mpr ∅,gi.mpr ⟨p.1,bF.mpr ∅,rfl⟩⟩
 rw[az] at this;have e:codes.length=36:=by decide+kernel
 lia
def F3{x:Q0a}(a:Ord.Rows x)(d:x.length<=9):(gJ x x.length).length<64:=by have:=Y8 a d;lia
end K45
namespace yG
open L3 L4
def kG:g8:=bZ 4 1
  (aH (kA 1 (eU aG))
  (aH (eM (l9 (aV 0)) (IL 2 3)
   (sX (qO 1 tU (aX (cN 1 [2] (cQ eF) (g1 0) dM (eT (aA b8 (aV 1))))))))
  (bI (cK d8 (aA (cK qP (aV 1)) aG)))))
open LL K45
def Ki(h:x ρ=aa (ρ',d)):sX x ρ=.nx ρ':=by unfold sX;rw[h]
theorem Ul(l:nZ ρ[i]?=aa ds0)(a:x ρ=aa (ρ1,d))(j:nZ ρ1[i]?=aa ds)(h:m ds d=aa q):
  qO i m x ρ=aa (ρ1.set i (.ow (.lst q.1)),q.2):=by
 unfold qO;rw[l,c_,a,c_,j,c_,h];rfl
section
variable{x:Q0a}(hx:Ord.Rows x)
include hx
def yH(j:0<=c)(d:c<(x.length:Int))(h:a∈row x c):0<=a/\a<(x.length:Int):=hx.rng _ _ (m8 j d) a h
def Uk(d:0<=c)(a:c<(x.length:Int)):(row x c).Nodup:=(hx.up _ _ (m8 d a)).imp λq=>by lia
def Ga(h:0<=c)(d:c<(x.length:Int)):(row x c).length<=x.length:=by
 have:=Ord.e9 (row x c) (bE 0 x.length) (Uk hx h d) λa j=>bF.mpr (by have:=yH hx h d j;lia)
 rwa [aN] at this
end
def aCh(x:Q0a)(p:Int×Int):Bool:=!(row x p.2).any λc=>(row x c).contains p.1
structure Cl (x:Q0a) (P:List (Int×Int)) (b:Int) (u f:Q0e):Prop where
 nd:u.Nodup
 sub:∀a∈u,a∈row x b
 fr:∀a∈f,a=b\/a∈u
 cl:∀c,(c=b\/c∈u)->c∉f ->∀a,(a,c)∈P->a∈u
abbrev T(x:Q0a):List (Int×Int):=srt (gJ x x.length)
def qU(o:Ord.Rows x)(v:x.length<=9):kG [aK x]=.ok (.tup ((T x).map pairD)):=by
 have A:=F3 o v;unfold kG;show eQ rfl (b7 [.ro (aK x),.ow (.lst []),.no,.no] rfl ?_);obtain⟨z,e,n,m,rfl⟩:Nx (eM (l9 (aV 0)) (IL 2 3)
   (sX (qO 1 tU (aX (cN 1 [2] (cQ eF) (g1 0) dM (eT (aA b8 (aV 1))))))) [.ro (aK x),.ow (.lst []),.no,.no])
   (λρ=>∃n m,ρ=[Sv.ro (aK x),Sv.ow (.lst ((gJ x x.length).map pairD)),n,m]):=by
  show oF ((x.map τ).zipIdx.map λp=>.tup [.int (p.2:Int),p.1]) (λi ρ=>∃n m,ρ=[Sv.ro (aK x),Sv.ow (.lst ((gJ x i).map pairD)),n,m]) rfl ⟨_,_,rfl⟩ ?_ λρ h=>by simpa using h
  rintro i d _ l ⟨n,m,rfl⟩;rw[cf,Bc,cf] at l
  cases q:x[i]? with
  |none=>rw[q] at l;cases l
  |some r =>
   have hi:i<x.length:=(cg.mp q).1;rw[q] at l;have l:=cx l;subst l;have y:row x (i:Int)=r:=by unfold row;rw[jn,q];rfl
   have F:=FZ o v i ∅;have j:=FZ o v (i+1) ∅;rw[qT,cy,y] at j;show⟨[.ro (aK x),.ow (.lst ((gJ x i).map pairD)),.ro (.int (i:Int)),.ro (τ r)],by show aa [_,_,_,_]=_;rw[ki],_,Ki (Ul (ρ1:=[.ro (aK x),.ow (.lst ((gJ x i).map pairD)),.ro (.int (i:Int)),.ro (τ r)]) (ds0:=(gJ x i).map pairD) (ds:=(gJ x i).map pairD) (d:=.lst ((r.map λa=>(a,(i:Int))).map pairD)) rfl ?_ rfl (YY (by simp at j ⊢;lia))),.ro (.int (i:Int)),.ro (τ r),?_⟩
   .unfold aX;rw[gI (r.map D.int) rfl (by simp at j ⊢;lia) (eB D.int (λa=>pairD (a,(i:Int))) r λa _=>⟨_,rfl,rfl⟩),dh];rfl
   .rw [qT,gq,y];rfl
 show b7 _ e (d9 (cC (cC rfl (JG A)) rfl))
def MB:p∈T x↔0<=p.2/\p.2<(x.length:Int)/\p.1∈row x p.2:=by rw[(F0 _).mem_iff,oH]
def aFR(a:Ord.Rows x)(d:x.length<=9):(T x).length<64:=by rw[(F0 _).length_eq];show F3 a d
abbrev B(x:Q0a):List (Int×Int):=(T x).filter (aCh x)
end yG
namespace LL
open L3 L4
def eD:g8:=bZ 5 3
  (aH (eO (tV (aB geM b8 (aB i7 (eI 10) (eI 18))))
   (bI (aB e8 (aB l8 b8 (eI 64)) cV))
   dE)
  (aH (aO 3 (eI 0))
  (aH (eM (b9 (aA (eI 20) aG)) (n6 4)
   (aO 3 (aB bX (aB mulM eF (eI 1000000007)) (aF LL.iE (aA b8 (aA gG (aV 2)))))))
  (bI (aB e8 eF cV)))))
def kG:g8:=bZ 4 1
  (aH (kA 1 (eU aG))
  (aH (eM (l9 (aV 0)) (IL 2 3)
   (sX (qO 1 tU (aX (cN 1 [2] (cQ eF) (g1 0) dM (eT (aA b8 (aV 1))))))))
  (bI (cK d8 (aA (cK qP (aV 1)) aG)))))
def lL:g8:=bZ 3 3
  (aH (eO (tV (aB n9 cV dQ))
   (bI (aB CV (aB cZ b8 cV) (aB cZ b8 dQ)))
   dE)
  (bI (aB AO (aB cZ b8 cV) (aB cZ b8 dQ))))
def lM:g8:=bZ 3 3
  (aH (eO (vE (tV (aB CV dQ (eI 0))) (tV (aB OH (cK bU (aV 1)) (cK bU (aV 0)))))
   (bI (eC (.bl ag)))
   dE)
  (aH (eO (jD (tV (cK allM (aA (cN 1 [2] (cQ cV) (g1 0) dM (fP AO AO (eI 1) b8 cV)) aG))))
   (bI (eC (.bl ag)))
   dE)
  (bI (cK allM (aA (cN 2 [1] (cQ (aF LL.kG (aV 0))) (g2 0 1) dM (aF LL.lL (aA dQ (aA b8 (aV 1))))) aG)))))
def mF:g8:=bZ 4 2
  (aH (eM (b9 (aA (cK bU (aV 0)) aG)) (n6 2)
   (eM (cQ (aB cZ b8 dQ)) (n6 3)
    (eO (vE (tV (aB n9 (aB cZ cV eF) (aB cZ cV dQ))) (qD (tV (aB n9 eF dQ)) (tV (aB j9 (aB cZ cV eF) (aB cZ cV dQ)))))
     (bI (eC (.bl ag)))
     dE)))
  (bI (eC (.bl ae))))
def AR(a:ds.length=np)(h:b (dD n ds)=.ex c):bZ n np b ds=.ex c:=by unfold bZ;rw[Z_ a,h]
def DG(h:f ρ=.ex c):aH f g ρ=.ex c:=by unfold aH;rw[h]
def qF(h:r (bD ρ)=aa c):fR r f ρ=.ex c:=by unfold fR;rw[h]
def AS(h:r (bD ρ)=af)(h2:f ρ=o):fR r f ρ=o:=by unfold fR;rw[h];show h2
def rc1(d:a ρ=aa x)(h:FT (R [x])=c):c6 R (aA a aG) ρ=c:=by unfold c6;rw[args1 d];show h
def Dz(h:a ρ=aa x)(d:b ρ=aa y):eT (aA a (aA b aG)) ρ=aa (.tup [x,y]):=YZ (args2 h d) (by simp)
def Y9(o:p<=4000)(n:q<=4000)(hi:i.natAbs<2^p)(l:j.natAbs<2^q):mulM (.int i) (.int j)=aa (.int (i*j)):=by
 have d:∀m r:Nat,m<2^r->m.log2<r+1:=by
  intro m r h;by_cases z:m=0
  .rw [z];show Nat.succ_pos r
  .exact qa ((Nat.log2_lt z).mpr h)
 have a:=d _ _ hi;have b:=d _ _ l;have e:xK i j=ae:=by unfold xK;rw[Zx (show i.natAbs.log2+j.natAbs.log2<=134217700 by lia),Bool.or_true]
 unfold mulM oA;show Z_ e
def qV(ρ:dZ)(h:(Zv ((0:Int)<=j)&&Zv (j.natAbs<=1000000)&&Zv (i.natAbs<18446744073709551616))=ae):aB i7 (eI i) (eI j) ρ=aa (.int (i^j.toNat)) :=
 bG rfl rfl (Z_ h)
def oI(c s:Int)(d:0<most):∃r,0<=r/\r<most/\eD [.int c,.int most,.int s]=.ok (.int r):=by
 have j:∀ρ,aB i7 (eI 10) (eI 18) ρ=aa (.int 1000000000000000000):=λρ=>by rw[qV ρ (by decide+kernel)];rfl
 unfold eD;by_cases h:(1000000000000000000:Int)<=c
 .refine ⟨c/64%most,jz _ ∅,lx _ d,eQ rfl (uD (mE (f6 (binI (x:=c) (y:=1000000000000000000) rfl (j _) rR) (by rw[Zx h];rfl)) (d9 (binI (x:=(c/64)) (y:=most) (binI (x:=c) (y:=64) rfl rfl (iQ (by decide) (by decide))) rfl (bV d)))))⟩
 .obtain ⟨_,e,x,a,rfl⟩:Nx (eM (b9 (aA (eI 20) aG)) (n6 4)
   (aO 3 (aB bX (aB mulM eF (eI 1000000007)) (aF LL.iE (aA b8 (aA gG (aV 2)))))) [.ri c,.ri most,.ri s,.ri 0,.no])
   (λρ=>∃x a,ρ=[.ri c,.ri most,.ri s,.ri x,a]):=by
   show oG 20 (λi ρ=>∃x a,ρ=[.ri c,.ri most,.ri s,.ri x,a]) rfl (by decide) ⟨0,.no,rfl⟩ ?_ λρ h=>h;rintro i _ hi ⟨x,a,rfl⟩;obtain⟨r,_,l⟩:=FX c (i:Int) s ∅ ∅;show⟨_,rfl,_,c8 (.int (x*1000000007+r)) (binI (x:=(x*1000000007)) (y:=r) (binI (x:=x) (y:=1000000007) rfl rfl (DB (by decide))) (cR rfl rfl rfl l) rQ) rfl,_,_,rfl⟩
  show⟨x%most,jz _ ∅,lx _ d,eQ rfl (b7 _ (fA (f6 (binI (x:=c) (y:=1000000000000000000) rfl (j _) rR) (by rw[Zy h];rfl)) rfl) (b7 _ (c8 (.int 0) rfl rfl) (b7 _ e (d9 (binI (x:=x) (y:=most) rfl rfl (bV d))))))⟩
def qU(a:Ord.Rows x)(d:x.length<=9):LL.kG [aK x]=.ok (.tup ((yG.T x).map pairD)):=yG.qU a d
def η(fl:Q0e)(a:Int):Int:=(fl[a.toNat]?).getD 0
def oJ(h:0<=a)(d:a<(fl.length:Int)):cZ (τ fl) (.int a)=aa (.int (η fl a)):=by obtain⟨x,_,e,j⟩:=DC h d;show wL (fl.map D.int) a=_;rw[wW,e];unfold η;rw[j];rfl
def yI(h:0<=a)(d:a<(fl.length:Int)):cZ (aE fl) (.int a)=aa (.int (η fl a)):=oJ h d
def oK(fl:Q0e)(p:Int×Int):Bool:=if p.2<p.1 then Zv (η fl p.1<η fl p.2) else Zv (η fl p.1<=η fl p.2)
def rs(x:Q0a)(fl:Q0e):Bool:=(yG.T x).all (oK fl)
def DH(j:0<=a/\a<(fl.length:Int))(d:0<=b/\b<(fl.length:Int)):lL [τ fl,.int a,.int b]=.ok (.bl (oK fl (a,b))):=by
 unfold lL oK;by_cases h:b<a
 .rw [Z_ h];show eQ rfl (uD (mE (f6 (binI (x:=a) (y:=b) rfl rfl kC) (by rw[Zx h];rfl)) (d9 (bG (bG (x:=τ fl) (y:=.int a) rfl rfl (oJ j.1 j.2)) (bG (x:=τ fl) (y:=.int b) rfl rfl (oJ d.1 d.2)) pL))))
 .rw [Zz h];show eQ rfl (b7 _ (fA (f6 (binI (x:=a) (y:=b) rfl rfl kC) (by rw[Zy h];rfl)) rfl) (d9 (bG (bG (x:=τ fl) (y:=.int a) rfl rfl (oJ j.1 j.2)) (bG (x:=τ fl) (y:=.int b) rfl rfl (oJ d.1 d.2)) wR)))
def aFU(j:Ord.Rows x)(h:p∈yG.T x):(0<=p.1/\p.1<(x.length:Int))/\0<=p.2/\p.2<(x.length:Int):=by obtain⟨d,a,h2⟩:=yG.MB.mp h;show⟨yG.yH j d a h2,d,a⟩
def ZA(k:Int)(fl:Q0e):Bool:=fl.all λv=>Zv (1<=v)&&Zv (v<=k)
theorem oM(a:Ord.Rows x)(j:x.length<=9)(q:0<=k)(l:fl.length=x.length):lM [aK x,τ fl,.int k]=.ok (.bl (ZA k fl&&rs x fl)):=by
 unfold lM;have o:=yG.aFR a j;show eQ rfl (b7 [.ro (aK x),.ro (τ fl),.ri k] (fA (qE (b:=ag) (f6 (binI (x:=k) (y:=0) rfl rfl pL) (by rw[Zy (show ¬ k<0 by lia)];rfl)) (λ_=>f6 (bG (cC rfl dS) (cC rfl d6) rS) (by rw[l];simp[kL])) (λz=>by cases z)) rfl) ?_);have m:cK allM (aA (cN 1 [2] (cQ cV) (g1 0) dM (fP AO AO (eI 1) b8 cV)) aG) (bD [.ro (aK x),.ro (τ fl),.ri k])=aa (.bl (ZA k fl)):=by
  show cC (gI (fl.map D.int) rfl (by rw[az];lia) (eB D.int (λv=>D.bl (Zv (1<=v)&&Zv (v<=k))) fl λv _=>⟨_,rfl,?_⟩)) ?_
  .unfold fP;show(if Zv (1<=v)=ae then aa (D.bl (Zv (v<=k))) else aa (.bl ag))=_;cases Zv (1<=v)<;>rfl
  .have:=m7 (bs:=fl.map λv=>Zv (1<=v)&&Zv (v<=k));rw[dh] at this;show Jz this ?_;rw[qg];rfl
 cases hb:ZA k fl with
 |false=>show uD (mE (AQ (f6 m (by rw[hb];rfl)) rfl) (d9 rfl))
 |true =>
  show b7 _ (fA (AQ (f6 m (by rw[hb];rfl)) rfl) rfl) (d9 ?_);show cC (gI ((yG.T x).map pairD) ?_ (by rw[az];lia) (eB pairD (λp=>D.bl (oK fl p)) (yG.T x) λp n=>⟨_,rfl,?_⟩)) ?_
  .unfold cQ;rw[fF (x:=aK x) rfl (qU a j)];rfl
  .obtain ⟨h,d⟩:=aFU a n;rw[<- l] at h d;show cR (x:=τ fl) (y:=.int p.1) (z:=.int p.2) rfl rfl rfl (DH h d)
  .have:=m7 (bs:=(yG.T x).map (oK fl));rw[dh] at this;show Jz this ?_;rw[qg];rfl
theorem F4(Y:Ord.Rows x)(hn:x.length<=9)(J:∀a:Int,0<=a->a<(fl.length:Int)->cZ F (.int a)=aa (.int (η fl a)))(Z:fl.length=x.length):mF [aK x,F]=.ok (.bl (rs x fl)):=by
 unfold mF;have eq:rs x fl=(bE 0 x.length).all λb=>(row x b).all λa=>oK fl (a,b):=by
  rw[oo];simp only[rs,gx,bF,Prod.forall,yG.MB]
  constructor
  .intro h b l a o;show h a b ⟨by lia,by lia,o⟩
  .intro h a b l;show h b ∅ a l.2.2
 have inner:∀b:Int,0<=b->b<(x.length:Int) ->∀d:Sv,((row x b).all (λa=>oK fl (a,b))=ae->Nx (eM (cQ (aB cZ b8 dQ)) (n6 3)
    (eO (vE (tV (aB n9 (aB cZ cV eF) (aB cZ cV dQ))) (qD (tV (aB n9 eF dQ)) (tV (aB j9 (aB cZ cV eF) (aB cZ cV dQ)))))
     (bI (eC (.bl ag)))
     dE) [.ro (aK x),.ro F,.ri b,d]) λρ=>∃d,ρ=[.ro (aK x),.ro F,.ri b,d]) /\
   ((row x b).all (λa=>oK fl (a,b))=ag->(eM (cQ (aB cZ b8 dQ)) (n6 3)
    (eO (vE (tV (aB n9 (aB cZ cV eF) (aB cZ cV dQ))) (qD (tV (aB n9 eF dQ)) (tV (aB j9 (aB cZ cV eF) (aB cZ cV dQ)))))
     (bI (eC (.bl ag)))
     dE) [.ro (aK x),.ro F,.ri b,d])=.rt (.bl ag)):=by
  intro b q U d;have it:∀d:Sv,cQ (aB cZ b8 dQ) (gF [.ro (aK x),.ro F,.ri b,d])=aa ((row x b).map D.int):=by intro d;unfold cQ;rw[bG (x:=aK x) (y:=.int b) rfl rfl (DF q U)];rfl
  have L:=uI (g:=n6 3) (b:=eO (vE (tV (aB n9 (aB cZ cV eF) (aB cZ cV dQ))) (qD (tV (aB n9 eF dQ)) (tV (aB j9 (aB cZ cV eF) (aB cZ cV dQ)))))
     (bI (eC (.bl ag)))
     dE) (z:=.bl ag) (λρ=>∃d,ρ=[.ro (aK x),.ro F,.ri b,d]) D.int (λa=>oK fl (a,b)) (row x b) [.ro (aK x),.ro F,.ri b,d] ⟨_,rfl⟩ (by
   rintro a o _ ⟨m,rfl⟩;have n:=yG.yH Y q U o;rw[<- Z] at n;have X:b<(fl.length:Int):=by lia
   show⟨[.ro (aK x),.ro F,.ri b,.ri a],rfl,?_⟩;have c:vE (tV (aB n9 (aB cZ cV eF) (aB cZ cV dQ))) (qD (tV (aB n9 eF dQ)) (tV (aB j9 (aB cZ cV eF) (aB cZ cV dQ)))) (bD [.ro (aK x),.ro F,.ri b,.ri a])=aa (!oK fl (a,b)):=by
    have O:∀v:dZ,v=bD [.ro (aK x),.ro F,.ri b,.ri a]->aB cZ cV eF v=aa (.int (η fl a)):=by rintro _ rfl;show bG (x:=F) (y:=.int a) rfl rfl (J _ n.1 n.2)
    have K:∀v:dZ,v=bD [.ro (aK x),.ro F,.ri b,.ri a]->aB cZ cV dQ v=aa (.int (η fl b)):=by rintro _ rfl;show bG (x:=F) (y:=.int b) rfl rfl (J _ q X)
    show qE (b:=Zv (η fl b<η fl a)) (f6 (bG (O _ rfl) (K _ rfl) kC) rfl) (λh=>?_) (λh=>?_)
    .have h:¬ η fl b<η fl a:=by simpa using h
     show Gb (b:=Zv (b<a)) (f6 (binI (x:=a) (y:=b) rfl rfl kC) rfl) (λh2=>?_) (λh2=>?_)
     .have h2:b<a:=by simpa using h2
      show f6 (bG (O _ rfl) (K _ rfl) lH) ?_;show aa _=aa _;unfold oK;rw[Z_ h2];congr 1;rw[oo];simp;lia
     .have h2:¬ b<a:=by simpa using h2
      unfold oK;rw[Zz h2];simp;lia
    .have h:η fl b<η fl a:=by simpa using h
     unfold oK;split<;>simp<;>lia
   constructor
   .intro h;show⟨_,fA (by rw[c,h];rfl) rfl,_,rfl⟩
   .intro h;show mE (by rw[c,h];rfl) (d9 rfl))
  show⟨λh=>?_,λh=>DA _ (it d) (L.2 h)⟩;obtain⟨j,e,p⟩:=L.1 h;show⟨j,DA _ (it d) e,p⟩
 have L:=uI (g:=n6 2) (b:=eM (cQ (aB cZ b8 dQ)) (n6 3)
    (eO (vE (tV (aB n9 (aB cZ cV eF) (aB cZ cV dQ))) (qD (tV (aB n9 eF dQ)) (tV (aB j9 (aB cZ cV eF) (aB cZ cV dQ)))))
     (bI (eC (.bl ag)))
     dE)) (z:=.bl ag) (λρ=>∃A d,ρ=[.ro (aK x),.ro F,A,d]) D.int (λb=>(row x b).all λa=>oK fl (a,b)) (bE 0 x.length) [.ro (aK x),.ro F,.no,.no] ⟨_,_,rfl⟩ (by
  rintro b l _ ⟨w2,m,rfl⟩;have l:=bF.mp l;have I:=inner b ∅ ∅ m;show⟨[.ro (aK x),.ro F,.ri b,m],rfl,λh=>?_,I.2⟩;obtain⟨j,e,d,rfl⟩:=I.1 h;show⟨_,e,_,_,rfl⟩)
 have it:b9 (aA (cK bU (aV 0)) aG) (gF [.ro (aK x),.ro F,.no,.no])=aa ((bE 0 x.length).map D.int):=MA (cC rfl d6) ∅;show eQ rfl ?_;rw[eq]
 cases h:(bE 0 x.length).all λb=>(row x b).all λa=>oK fl (a,b) with
 |true =>
  obtain⟨j,e,A,d,rfl⟩:=L.1 h;show b7 _ (DA _ it e) (d9 rfl)
 |false=>show uD (DA _ it (L.2 h))
def F5(a:Ord.Rows x)(d:x.length<=9)(h:fl.length=x.length):mF [aK x,τ fl]=.ok (.bl (rs x fl)):=F4 a d (λ_ l j=>oJ l j) h
def iT:g8:=bZ 2 2
  (bI (cK d8 (aA (cK kP (aA (aB bX b8 (eT (aV 1))) aG)) aG)))
def dU:g8:=bZ 3 2
  (aH (aO 2 (cN 1 [1] (b9 (aA (cK bU (aV 0)) aG)) (g1 0) (tV (aB (xN ae) b8 cV)) b8))
  (bI (cN 1 [1,0] (cQ dQ) (g1 0) (tV (cK allM (aA (cN 1 [1] (cQ (aB cZ dQ b8)) (g1 0) dM (aB (xN ag) b8 cV)) aG))) b8)))
def aJ(x:Q0a)(a:Q0e):List Int:=((bE 0 x.length).filter λt=>!a.contains t).filter λt=>(row x t).all λl=>a.contains l
def bN(a:Q0e)(t:Int):List Int:=sortI (a++[t])
def rdI(x:Q0a)(a:Q0e):List (List Int):=(aJ x a).map (bN a)
def ZC(x:Q0a)(a:Q0e):Prop:=a.Nodup /\∀t∈a,0<=t/\t<(x.length:Int)
def m9(h:ns.length<64):kP [.tup (ns.map D.int)]=aa (.lst ((sortI ns).map D.int)):=by simp[kP,dI,h]
def ON(h:a.length<=9):iT [τ a,.int t]=.ok (τ (bN a t)):=by
 unfold iT;show eQ rfl (d9 (cC (x:=aE (bN a t)) (cC (x:=τ (a++[t])) (bG (x:=τ a) (y:=τ [t]) rfl rfl ?_) ?_) rfl))
 .unfold τ;rw[FV (by simp;lia),gq]
 .have:=m9 (ns:=a++[t]) (by simp;lia);show this
def sA(v:x.length<=9)(o:∀r∈x,r.length<=9):dU [aK x,τ a]=.ok (aE (aJ x a)):=by
 unfold dU aJ;have m:cN 1 [1] (b9 (aA (cK bU (aV 0)) aG)) (g1 0) (tV (aB (xN ae) b8 cV)) b8 (gF (dD 3 [aK x,τ a]))=aa (aE ((bE 0 x.length).filter λt=>!a.contains t)):=by show gI ((bE 0 x.length).map D.int) (MA (cC rfl d6) ∅) (by rw[az,aN];lia) ?_;show fM D.int _ D.int (bE 0 x.length) λt _=>⟨[aa (.int t),aa (τ a)],rfl,f6 (bG (x:=.int t) (y:=τ a) rfl rfl Y4) rfl,λ_=>rfl⟩
 generalize j:((bE 0 x.length).filter λt=>!a.contains t)=L at m;have p:∀t∈L,0<=t/\t<(x.length:Int):=λt h=>by rw[<- j] at h;have:=bF.mp (jj.mp h).1;lia
 have A:L.length<=9:=by rw[<- j];have:=lj (λt=>!a.contains t) (bE 0 x.length);rw[aN] at this;lia
 show eQ rfl (b7 _ (c8 (aE L) m rfl) (d9 ?_));show gI (L.map D.int) rfl (by rw[az];lia) ?_;show fM D.int _ D.int L λt h=>⟨[aa (.int t),aa (τ a),aa (aK x)],rfl,?_,λ_=>rfl⟩;obtain⟨n,t1⟩:=p t h;have q:(row x t).length<=9:=by unfold row;rw[bx ∅];show o _ (md _)
 show f6 (d:=.bl ((row x t).all λl=>a.contains l)) (cC (x:=.lst (((row x t).map λl=>a.contains l).map D.bl)) ?_ ?_) rfl
 .refine Jz (gI ((row x t).map D.int) ?_ (by rw[az];lia) (eB D.int (λl=>.bl (a.contains l)) (row x t) λl _=>⟨[aa (.int l),aa (τ a)],rfl,bG (x:=.int l) (y:=τ a) rfl rfl aCg⟩)) (by rw[dh];rfl);unfold cQ;rw[bG (x:=aK x) (y:=.int t) (z:=aa (τ (row x t))) rfl rfl (DF n t1)];rfl
 .rw [m7,qg];rfl
def jF(h:t∈aJ x a):(0<=t/\t<(x.length:Int))/\t∉a:=by unfold aJ at h;have d:=(jj.mp h).1;have h2:=jj.mp d;have:=bF.mp h2.1;show⟨by lia,by simpa using h2.2⟩
def JH(n:Nat):(bE 0 n).Nodup:=by show Aw.mpr λi j hi h l=>?_;have d:=kR (lo:=0) (n:=n) (i:=i) (by simpa[aN] using hi);have a:=kR (lo:=0) (n:=n) (i:=j) (by simpa[aN] using h);rw[bx hi] at d;rw[bx h] at a;have d:=cx d;have a:=cx a;lia
def jG(h:ZC x a):(aJ x a).length+a.length<=x.length:=by
 have nd:(aJ x a++a).Nodup:=by show sy.mpr ⟨?_,h.1,λu j v d e=>(jF j).2 (e▸d)⟩;unfold aJ;show wj _ (wj _ (JH x.length))
 have:=Ord.e9 _ (bE 0 x.length) nd λt l=>bF.mpr (by
  rcases gn.1 l with z|z
  .have:=(jF z).1;lia
  .have:=h.2 t z;lia)
 rwa [cy,aN] at this
def F_(h:ZC x a):(∀b∈rdI x a,ZC x b/\b.length=a.length+1)/\(rdI x a).length+a.length<=x.length:=by
 show⟨λb l=>?_,by unfold rdI;rw[az];show jG h⟩;unfold rdI at l;obtain⟨t,m,rfl⟩:=gi.mp l;obtain⟨n,o⟩:=jF m;have p:=sortI_perm (a++[t]);show⟨⟨?_,λu d=>?_⟩,?_⟩
 .unfold bN;show p.nodup_iff.mpr (sy.mpr ⟨h.1,by simp,λu d v j e=>?_⟩);rw[cc] at j;subst j;subst e;show o d
 .unfold bN at d;rcases gn.1 (p.mem_iff.mp d) with z|z
  .exact h.2 u z
  .rw [cc] at z;subst z;show n
 .unfold bN;rw[p.length_eq];simp
def sC(h:ZC x a):a.length<=x.length:=by have:=jG h;lia
def ZD:ZC x []:=⟨sx,λt a=>by cases a⟩
end LL
namespace YL
noncomputable def fact:Nat->Int
 |0=>1
 |k+1=>fact k*(k+1)
noncomputable def ff(x:Int):Nat->Int
 |0=>1
 |k+1=>ff x k*(x-k)
theorem sD:∀k,0<fact k
 |0=>by decide
 |k+1=>Int.mul_pos (sD k) ∅
theorem MC(x:Int):∀k,ff (x+1) (k+1)=(x+1)*ff x k
 |0=>by simp[ff]
 |k+1=>by rw[show ff (x+1) (k+1+1)=ff (x+1) (k+1)*(x+1-((k+1:Nat):Int)) from rfl,MC x k,show ff x (k+1)=ff x k*(x-k) from rfl,wm];congr 2;lia
def DI(x:Int)(k:Nat):ff (x+1) (k+1)=ff x (k+1)+(k+1)*ff x k:=by rw[MC,show ff x (k+1)=ff x k*(x-k) from rfl,mn (ff x k),<- wt];congr 1;lia
theorem MD:∀k,ff 0 (k+1)=0
 |0=>by simp[ff]
 |k+1=>by rw[show ff 0 (k+1+1)=ff 0 (k+1)*_ from rfl,MD k,qh]
theorem SU:∀(k:Nat) (x:Int),fact k ∣ ff x k
 |0,x=>by simp[fact,ff]
 |k+1,x=>by
  have st:∀y:Int,fact (k+1) ∣ (k+1)*ff y k:=λy=>by obtain⟨c,e⟩:=SU k y;show⟨c,by rw[e,show fact (k+1)=fact k*(k+1) from rfl,<- wm,mn (k+1:Int)]⟩
  have up:∀y:Int,fact (k+1) ∣ ff y (k+1)->fact (k+1) ∣ ff (y+1) (k+1):=λy h=>by rw[DI];show Int.dvd_add h (st y)
  have dn:∀y:Int,fact (k+1) ∣ ff (y+1) (k+1)->fact (k+1) ∣ ff y (k+1):=λy h=>by rw[DI] at h;show(Int.dvd_add_left (st y)).mp h
  have a:fact (k+1) ∣ ff 0 (k+1):=by rw[MD];show Int.dvd_zero _
  have d:∀n:Nat,fact (k+1) ∣ ff (n:Int) (k+1):=λn=>by
   induction n with
   |zero=>show a
   |succ n ih=>show up _ ih
  have neg:∀n:Nat,fact (k+1) ∣ ff (-(n:Int)) (k+1):=λn=>by
   induction n with
   |zero=>show a
   |succ n ih=>show dn _ (by rw[show -((n+1:Nat):Int)+1=-(n:Int) by lia];show ih)
  rcases Int.le_total 0 x with j|j
  .have:=d x.toNat;rwa [show((x.toNat:Nat):Int)=x by lia] at this
  .have:=neg (-x).toNat;rwa [show -(((-x).toNat:Nat):Int)=x by lia] at this
--CUT
def C(x:Int)(m:Nat):Int:=ff x m/fact m
def BN(x:Int)(m:Nat):C x m*fact m=ff x m:=Int.ediv_mul_cancel (SU m x)
def Dy(h:c*fact m=ff x m):c=C x m:=a2v (a2q (sD m)) (h.trans (BN x m).symm)
def lW(x:Int):C x 0=1:=rfl
def nA(x:Int)(m:Nat):C (x+1) (m+1)=C x (m+1)+C x m:=by show(Dy ?_).symm;rw[wt,BN,show fact (m+1)=fact m*(m+1) from rfl,<- wm,BN,DI,mn (ff x m)]
theorem ME:∀{m:Nat},x<m->ff (x:Int) m=0
 |m+1,h=>by
  show ff (x:Int) m*((x:Int)-(m:Int))=0;by_cases e:x=m
  .subst e;rw[Int.sub_self,Int.mul_zero]
  .rw [ME ∅,qh]
def DJ{x:Int}{m:Nat}(a:0<=x)(h:x<m):C x m=0:=by show(Dy ?_).symm;obtain⟨n,rfl⟩:∃n:Nat,x=(n:Int):=⟨x.toNat,by lia⟩;rw[ME ∅,qh]
theorem SV:∀n:Nat,C (n:Int) n=1
 |0=>rfl
 |n+1=>by rw[show((n+1:Nat):Int)=(n:Int)+1 from rfl,nA,DJ (m:=n+1) ∅ ∅,SV n];rfl
noncomputable def diffs:List Int->List Int
 |a::b::l=>(b-a)::diffs (b::l)
 |_=>[]
theorem sE:∀l:Q0e,(diffs l).length=l.length-1
 |[]=>rfl
 |[_]=>rfl
 |a::b::l=>by rw[diffs,cn,sE (b::l)];simp
def fd(l:Q0e):List Int:=match l with
 |[]=>[]
 |a::r=>a::fd (diffs (a::r))
termination_by l.length
decreasing_by rw[sE];simp
noncomputable def vals(f:Int->Int):Nat->Int->List Int
 |0,_=>[]
 |n+1,x=>f x::vals f n (x+1)
def DV(n:Nat)(d:Int):List Int->Int->Int
 |[],_=>0
 |w::l,k=>w*C (k+n-1-d) n+DV n (d+1) l k
def Bg(b:Nat)(x:Int):Prop:=x.natAbs<2^b
def Bg.mono(h:Bg a x)(d:a<=b):Bg b x:=fw h (r9 ∅ d)
def Bg.mul(h:Bg a x)(g:Bg b y):Bg (a+b) (x*y):=by unfold Bg at *;rw[Nat.pow_add,a2s];show Nat.mul_lt_mul_of_lt_of_lt h g
def Bg.sub(h:Bg a x)(g:Bg a y):Bg (a+1) (x-y):=by unfold Bg at *;rw[Nat.pow_succ];generalize 2^a=z at *;lia
end YL
namespace LL
open L3 L4
def pQ:g8:=bZ 2 2
  (bI (cN 2 [] (SD (aA b8 (aV 1))) (g2 0 1) dM (aB bX b8 cV)))
def c9:g8:=bZ 1 1
  (bI (aB bX (eU (aA (eI 0) aG)) (xS b8 wM (oE (qN (eI 1))))))
def cB:Nat->YT
 |0=>λ_ _=>.no
 |n+1=>runM 8 4
  ((aH (aO 4 (eT (aA cV (aV 2))))
  (eO (tV (aB (OL ae) gG eF))
   (aH (kA 5 (aB repLM (eU (aA (eI 0) aG)) (cK xQ (aA (cK bU (aV 0)) (aA (eI 1) aG)))))
   (aH (eO (tV (aB j9 (cK bU (aV 1)) (cK bU (aV 0))))
    (kO 5 (aX (eI 1)) (eI 0))
    dE)
   (aH (yq 5 (eM (cQ (aF LL.dU (aA b8 (aV 1)))) (n6 6)
    (aH (tZ 7 (cB n) (aA b8 (aA (aF LL.iT (aA cV (aV 6))) (aV 6))) 3)
    (aO 5 (aF LL.pQ (aA jA (aA (R4 (tV (aB n9 dQ m3)) (aF LL.c9 (aV 7)) vD) aG)))))))
   (BD 3 (aX jA) gG))))
   dE)))
  gG
def fN:g8:=bZ 2 1
  (aH (Gf 1)
  (aH (YW (LL.cB 11) (aA b8 (aA (eT aG) (aA (eI 0) aG))) 1)
  (bI cV)))
def fY:g8:=bZ 4 2
  (aH (aO 2 (eI 1))
  (aH (eM (b9 (aV 1)) (n6 3)
   (aO 2 (aB l8 (aB mulM dQ (aB dH b8 eF)) (aB bX eF (eI 1)))))
  (bI dQ)))
def oN{ks:List BB}{k a:BB}{v:D}:∀{ks:List BB} {ds:List D},ks.length=ds.length->bR (f9 ks ds k v).1 (f9 ks ds k v).2 a=if a=k then aa v else bR ks ds a:=by
 intro ks ds j;unfold f9;split
 .rename_i hc;have go:∀(ks:List BB) (ds:List D),ks.length=ds.length->bR ks ((ks.zip ds).map λp=>if p.1=k then v else p.2) a=if a=k then(bR ks ds a).map (λ_=>v) else bR ks ds a:=by
   intro ks
   induction ks with
   |nil=>intro ds _;simp[bR]
   |cons q ks ih =>
    intro ds j
    cases ds with
    |nil=>simp at j
    |cons d ds =>
     have:=ih ds (by simpa using j);unfold bR at this ⊢;by_cases l:q=a
     .subst l;by_cases h2:q=k
      .simp [h2]
      .simp [h2]
     .simpa [l] using this
  have m:k∈ks:=by rw[a2l] at hc;obtain⟨q,n,e⟩:=hc;rw[<- of_decide_eq_true e];show n
  have some_of:∀(ks:List BB) (ds:List D),ks.length=ds.length->k∈ks ->∃d,bR ks ds k=aa d:=by
   intro ks
   induction ks with
   |nil=>intro ds _ h;cases h
   |cons q ks ih =>
    intro ds j h
    cases ds with
    |nil=>simp at j
    |cons d ds =>
     by_cases l:q=k
     .exact ⟨d,by simp[bR,l]⟩
     .obtain ⟨d',e⟩:=ih ds (by simpa using j) ((bh.1 h).resolve_left (d_ l));show⟨d',by unfold bR at e ⊢;simpa[l] using e⟩
  rw[go ks ds j];by_cases h:a=k
  .subst h;obtain⟨d,e⟩:=some_of ks ds j m;rw[e];simp
  .rw [Zz h,Zz h]
 .rename_i hc;have x:k∉ks:=λh=>hc (a2l.2 ⟨k,h,by simp⟩);unfold bR;dsimp only;rw[a1U j,List.find?_append];by_cases h:a=k
  .subst h;have:((ks.zip ds).find? λp=>Zv (p.1=a))=af:=by rw[List.find?_eq_none];intro p o;have:=sr o;simp only[decide_eq_true_eq];show λe=>x (e▸this.1)
   rw[this];simp
  .rw [Zz h];have:([k].zip [v]).find? (λp=>Zv (p.1=a))=af:=by simp[d_ h]
   rw[this,Option.or_none]
def MF{ks:List BB}{ds:List D}{k:BB}{v:D}(h:ks.length=ds.length):(f9 ks ds k v).1.length=(f9 ks ds k v).2.length/\(f9 ks ds k v).1.length<=ks.length+1:=by
 unfold f9;split
 .simp [h]
 .simp [h]
def OO{ks:List BB}{ds:List D}{k:BB}{v:D}(h:∀q∈ks,q.isLeft=ag)(d:k.isLeft=ag):∀q∈(f9 ks ds k v).1,q.isLeft=ag:=by
 unfold f9;split
 .exact h
 .intro q a;rcases gn.1 a with z|z
  .exact h q z
  .rw [cc.1 z];show d
def nB(h:∀q∈ks,q.isLeft=ag)(d:k.isLeft=ag):kindB ks k=ae:=by unfold kindB;rw[gx];intro q a;rw[h q a,d];rfl
theorem BO:∀a:Q0e,BC (a.map D.int)=aa (a.map cp)
 |[]=>rfl
 |x::a=>by rw[bo,BC,BO a];rfl
def kS(a:Q0e)(l:Int):BB:=.inr [.inr (a.map cp),.inl (.inl l)]
def MG(a:Q0e)(l:Int):tY (.tup [τ a,.int l])=aa (kS a l):=by
 have e:R9 (τ a)=aa (.inr (a.map cp)):=by show(BC (a.map D.int)).map jl=_;rw[BO];rfl
 show(xU [τ a,.int l]).map jl=_;unfold xU;rw[e];rfl
theorem MH:∀{a b:Q0e},a.map (cp:Int->JB)=b.map cp->a=b
 |[],[],_=>rfl
 |[],_::_,h=>by simp at h
 |_::_,[],h=>by simp at h
 |x::a,y::b,h=>by simp only[bo,a2k,a0a] at h;rw[h.1,MH h.2]
theorem SW{a b:Q0e}{l m:Int}(h:kS a l=kS b m):a=b/\l=m:=by unfold kS at h;simp only[Sum.inr.injEq,a2k,a0a,and_true] at h;show⟨MH h.1,h.2⟩
def sF(a b:Q0e):List Int:=(a.zip b).map λp=>p.1+p.2
def sG(l:Q0e):List Int:=0::l.dropLast
def DK(n:Nat):List Int:=1::bp (max n 1-1) 0
def JI(n:Nat):List Int:=bp (max n 1) 0
section
variable(x:Q0a)
def Sh:Nat->List Int->Int->List Int
 |0,_,_=>DK x.length
 |m+1,a,l=>(aJ x a).foldl (λd t=>sF d (if t<l then sG (Sh m (bN a t) t) else Sh m (bN a t) t)) (JI x.length)
end
def SX(h:a.length<=1000):pQ [aE a,aE b]=.ok (aE (sF a b)):=by
 unfold pQ sF;show eQ rfl (d9 (gI ((a.zip b).map λp=>D.tup [.int p.1,.int p.2]) ?_ ?_ ?_))
 .unfold SD;rw[args2 (x:=aE a) (y:=aE b) rfl rfl];show aa (((a.map D.int).zip (b.map D.int)).map _)=_;rw[a1S,dh];rfl
 .rw [az,a19];lia
 .rw [eB (λp:Int×Int=>D.tup [.int p.1,.int p.2]) (λp=>.int (p.1+p.2)) (a.zip b) λp _=>⟨[aa (.int p.1),aa (.int p.2)],rfl,rfl⟩,dh];rfl
def ZE(d:1<=a.length)(h:a.length<=1000):c9 [aE a]=.ok (aE (sG a)):=by
 unfold c9;show eQ rfl (d9 (bG (x:=aE [0]) (y:=aE a.dropLast) rfl ?_ ?_))
 .show aa (D.lst (vW (a.map D.int) af (aa (-1))))=_;unfold aE vW OJ;rw[az];simp only[ny,oj];rw[Z_ (by decide),show((-1:Int)+(a.length:Int)).toNat=a.length-1 by lia,<- Az,List.dropLast_eq_take]
 .show (if _ then _ else _)=_;rw[Z_ (by simp[nU];lia)];rfl
def lN(h:a.length=b.length):(sF a b).length=a.length:=by unfold sF;simp[h]
def oO(h:1<=a.length):(sG a).length=a.length:=by unfold sG;simp;lia
def qW(n:Nat):(JI n).length=max n 1:=by simp[JI]
def F6(n:Nat):(DK n).length=max n 1:=by simp[DK];lia
theorem mG(x:Q0a):∀(m:Nat) (a:Q0e) (l:Int),(Sh x m a l).length=max x.length 1
 |0,a,l=>F6 _
 |m+1,a,l=>by
  unfold Sh;have go:∀(j:Q0e) (d:Q0e),d.length=max x.length 1->(j.foldl (λd t=>sF d (if t<l then sG (Sh x m (bN a t) t) else Sh x m (bN a t) t)) d).length=max x.length 1:=by
   intro j
   induction j with
   |nil=>intro d h;show h
   |cons t j ih =>
    intro d h;rw[mf];show ih _ ?_;rw[lN]
    .exact h
    .rw [h];have:=mG x m (bN a t) t;split
     .rw [oO ∅];show this.symm
     .exact this.symm
  show go _ _ (qW _)
noncomputable def most:Nat->Nat
 |0=>1
 |m+1=>1+(m+1)*most m
def gW(x:Q0a)(kd:KD):Prop:=kd.1.length=kd.2.length/\(∀q∈kd.1,q.isLeft=ag)/\(∀a l d,bR kd.1 kd.2 (kS a l)=aa d->d=aE (Sh x (x.length-a.length) a l)) /\∀a l,(bR kd.1 kd.2 (kS a l)).isSome=ae->a.length<x.length ->∀t∈aJ x a,(bR kd.1 kd.2 (kS (bN a t) t)).isSome=ae
def ZF(kd a:KD):Prop:=∀k,(bR kd.1 kd.2 k).isSome=ae->(bR a.1 a.2 k).isSome=ae
def gW.put{x:Q0a}{kd:KD}(h:gW x kd)(a:Q0e)(l:Int)(o:a.length<x.length ->∀t∈aJ x a,(bR kd.1 kd.2 (kS (bN a t) t)).isSome=ae):gW x (f9 kd.1 kd.2 (kS a l) (aE (Sh x (x.length-a.length) a l))):=by
 have up:∀k,(bR kd.1 kd.2 k).isSome=ae->(bR (f9 kd.1 kd.2 (kS a l) (aE (Sh x (x.length-a.length) a l))).1 (f9 kd.1 kd.2 (kS a l) (aE (Sh x (x.length-a.length) a l))).2 k).isSome=ae:=λk e=>by
  rw[oN (ks:=[]) h.1];split
  .rfl
  .exact e
 show⟨(MF h.1).1,OO h.2.1 rfl,λb m d e=>?_,λb m e n t j=>?_⟩
 .rw [oN (ks:=[]) h.1] at e;split at e
  .rename_i hk;obtain⟨rfl,rfl⟩:=SW hk;show(cx e).symm
  .exact h.2.2.1 b m d e
 .rw [oN (ks:=[]) h.1] at e;split at e
  .rename_i hk;obtain⟨rfl,rfl⟩:=SW hk;show up _ (o n t j)
  .exact up _ (h.2.2.2 b m e n t j)
def qH(x:Q0a)(a:Q0e)(l:Int)(q:Nat->ax->Prop)(kd:KD)(s v6 v7:Sv):bT:=[.ro (aK x),.ro (τ a),.ri l,.ow (.dC q kd.1 kd.2),.ro (.tup [τ a,.int l]),s,v6,v7]
def yo(h:gW x kd):tV (aB (OL ae) gG eF) (bD (qH x a l q kd s v6 v7))=aa (!(bR kd.1 kd.2 (kS a l)).isSome):=by show f6 (d:=.bl (!(bR kd.1 kd.2 (kS a l)).isSome)) (bG (x:=.tup [τ a,.int l]) (y:=.dC q kd.1 kd.2) rfl rfl ?_) rfl;show((tY (.tup [τ a,.int l])).bind _)=_;rw[MG];show(if _ then _ else _)=_;rw[Z_ (nB h.2.1 rfl)];rfl
def Fz(h:gW x kd)(j:∀b o,q b o ->∃o2,q0 b o2)(m:bR kd.1 kd.2 (kS a l)=aa d):YU 3 gG q0 (qH x a l q kd s v6 v7)=aa (d,kd):=by have e:YU 3 gG q0 (qH x a l q kd s v6 v7)=(tY (.tup [τ a,.int l])).bind λkk=>@ite _ (kindB kd.1 kk=ae /\∀b o,q b o ->∃o2,q0 b o2) (J_ _) ((bR kd.1 kd.2 kk).map λd=>(d,kd)) af:=rfl;rw[e,MG];show(Z_ ⟨nB h.2.1 rfl,j⟩).trans (by rw[m];rfl)
theorem rep0(n:Nat)(h:n<=1000):repLM (.lst [.int 0]) (.int (n:Int))=aa (aE (bp n 0)):=by
 show(if _ then _ else _)=_;rw[Z_ ⟨by simp[nU];lia,by lia⟩];unfold aE;congr 2;simp only[jn]
 induction n with
 |zero=>rfl
 |succ n ih=>rw[iq,lp,ih ∅,iq];rfl
def JJ(h:ZC x a)(d:a.length=x.length):aJ x a=[]:=by have:=jG h;show Jn ∅
def MI(d:x.length<=9)(h:ρ[0]?=aa (aa (aK x))):aB repLM (eU (aA (eI 0) aG)) (cK xQ (aA (cK bU (aV 0)) (aA (eI 1) aG))) ρ=aa (aE (JI x.length)):=by
 have a:aS 0 ρ=aa (aK x):=by unfold aS;rw[h];rfl
 show bG (x:=.lst [.int 0]) (y:=.int ((max x.length 1:Nat):Int)) rfl (Ea (x:=.int x.length) (y:=.int 1) (cC a d6) rfl ?_) (rep0 _ ∅);show aa (D.int (if _ then _ else _))=_;split<;>congr 2<;>lia
def F7(j:ρ[0]?=aa (aa (aK x)))(h:ρ[1]?=aa (aa (τ a))):tV (aB j9 (cK bU (aV 1)) (cK bU (aV 0))) ρ=aa (Zv (a.length=x.length)):=by
 have m:aS 0 ρ=aa (aK x):=by unfold aS;rw[j];rfl
 have l:aS 1 ρ=aa (τ a):=by unfold aS;rw[h];rfl
 show f6 (d:=.bl (Zv ((a.length:Int)=x.length))) (bG (cC l dS) (cC m d6) lH) ?_;rw[pN];congr 1;show decide_eq_decide.2 ∅
def vX(x:Q0a)(kd:KD)(a:Q0e)(l:Int):KD:=f9 kd.1 kd.2 (kS a l) (aE (Sh x (x.length-a.length) a l))
def MJ{x:Q0a}{kd:KD}{a:Q0e}{l:Int}(h:gW x kd)(d:a.length<x.length ->∀t∈aJ x a,(bR kd.1 kd.2 (kS (bN a t) t)).isSome=ae):gW x (vX x kd a l)/\(vX x kd a l).1.length<=kd.1.length+1/\bR (vX x kd a l).1 (vX x kd a l).2 (kS a l)=aa (aE (Sh x (x.length-a.length) a l))/\ZF kd (vX x kd a l) :=
 ⟨h.put a l d,(MF h.1).2,by unfold vX;rw[oN (ks:=[]) h.1,Z_ rfl],λk e=>by
  unfold vX;rw[oN (ks:=[]) h.1];split
  .rfl
  .exact e⟩
theorem Fy(h:gW x kd)(j:kd.1.length<16000000):
  BD 3 (aX jA) gG (qH x a l q kd (.ro (aE (Sh x (x.length-a.length) a l))) v6 v7)=.nx (qH x a l (adr q) (vX x kd a l) (.ro (aE (Sh x (x.length-a.length) a l))) v6 v7):=by
 have d:BD 3 (aX jA) gG (qH x a l q kd (.ro (aE (Sh x (x.length-a.length) a l))) v6 v7)=(match ((tY (.tup [τ a,.int l])).bind λkk=>if kindB kd.1 kk=ae/\kd.2.length<nU then aa ((qH x a l q kd (.ro (aE (Sh x (x.length-a.length) a l))) v6 v7).set 3 (.ow (.dC (adr q) (f9 kd.1 kd.2 kk (aE (Sh x (x.length-a.length) a l))).1 (f9 kd.1 kd.2 kk (aE (Sh x (x.length-a.length) a l))).2))) else af) with
  |some ρ'=>.nx ρ'
  |none=>.no):=rfl
 rw[d,MG,c_,Z_ ⟨nB h.2.1 rfl,by rw[<- h.1];unfold nU;lia⟩];rfl
def Uj(h:ρ[5]?=aa (.ow (aE (0::r)))):kO 5 (aX (eI 1)) (eI 0) ρ=.nx (ρ.set 5 (.ow (aE (1::r)))):=by
 have e:kO 5 (aX (eI 1)) (eI 0) ρ=(match ((nZ ρ[5]?).bind λds=>(FO ds.length 0).map λj=>ρ.set 5 (.ow (.lst (ds.set j (.int 1))))) with
  |some ρ'=>.nx ρ'
  |none=>.no):=rfl
 rw[e,h]
 show(match ((FO ((0::r).map D.int).length 0).map λj=>ρ.set 5 (.ow (.lst (((0::r).map D.int).set j (.int 1))))) with
  |some ρ'=>Out.nx ρ'
  |none=>.no)=_
 rw[yD (by decide) (by simp)];rfl
abbrev bS(n:Nat):SF:=(aH (aO 4 (eT (aA cV (aV 2))))
  (eO (tV (aB (OL ae) gG eF))
   (aH (kA 5 (aB repLM (eU (aA (eI 0) aG)) (cK xQ (aA (cK bU (aV 0)) (aA (eI 1) aG)))))
   (aH (eO (tV (aB j9 (cK bU (aV 1)) (cK bU (aV 0))))
    (kO 5 (aX (eI 1)) (eI 0))
    dE)
   (aH (yq 5 (eM (cQ (aF LL.dU (aA b8 (aV 1)))) (n6 6)
    (aH (tZ 7 (cB n) (aA b8 (aA (aF LL.iT (aA cV (aV 6))) (aV 6))) 3)
    (aO 5 (aF pQ (aA jA (aA (R4 (tV (aB n9 dQ m3)) (aF c9 (aV 7)) vD) aG)))))))
   (BD 3 (aX jA) gG))))
   dE))
theorem wZ(h:gW x kd)
  (there:∀d',bR kd.1 kd.2 (kS a l)=aa d'->d'=d/\tS=kd)
  (new:bR kd.1 kd.2 (kS a l)=af ->∀q,∃q2 j p v6 v7,(∀b o,q2 b o ->∃o2,q b o2)/\bS n (startM 8 [aK x,τ a,.int l] q kd)=.nx (qH x a l q2 j p v6 v7)/\gW x j/\bR j.1 j.2 (kS a l)=aa d/\j=tS):
  cB (n+1) [aK x,τ a,.int l] kd=.ok (d,tS):=by
 unfold cB;show YV λq=>?_
 have F:xV 8 4 (bS n) gG q [aK x,τ a,.int l] kd=(match bS n (startM 8 [aK x,τ a,.int l] q kd) with
  |.nx ρ=>YU 3 gG q ρ
  |_=>af):=rfl
 show F.trans ?_
 cases hl:bR kd.1 kd.2 (kS a l) with
 |some d' =>
  obtain⟨rfl,rfl⟩:=there d' hl;have A:bS n (startM 8 [aK x,τ a,.int l] q tS)=.nx (qH x a l q tS .no .no .no):=by show b7 (qH x a l q tS .no .no .no) (c8 (.tup [τ a,.int l]) rfl rfl) ?_;show fA ?_ rfl;rw[yo h,hl];rfl
  rw[A];show Fz h (λb o ho=>⟨o,ho⟩) hl
 |none =>
  obtain⟨q2,j,p,v6,v7,v,z,y,m,rfl⟩:=new hl q;rw[z];show Fz y v m
def Fx(j:a ρ=aa x)(h:b ρ=aa y)(d:c ρ=aa z):aA a (aA b (aA c aG)) ρ=aa [x,y,z]:=by have:=args2 h d;unfold aA at this ⊢;rw[j,this];rfl
abbrev lS(n:Nat):SF:=aH (tZ 7 (cB n) (aA b8 (aA (aF LL.iT (aA cV (aV 6))) (aV 6))) 3)
    (aO 5 (aF pQ (aA jA (aA (R4 (tV (aB n9 dQ m3)) (aF c9 (aV 7)) vD) aG))))
def qI(x:Q0a)(m:Nat)(a:Q0e)(l:Int)(d:Q0e)(t:Int):List Int:=sF d (if t<l then sG (Sh x m (bN a t) t) else Sh x m (bN a t) t)
theorem aCj(j:a.length<=9)(A:x.length<=9)(d:ψ.length=max x.length 1)
  (o:cB n [aK x,τ (bN a t),.int t] kd=.ok (aE (Sh x m (bN a t) t),tS)):
  lS n (qH x a l q kd (.ro (aE ψ)) (.ro (.int t)) v7)=.nx (qH x a l (adr q) tS (.ro (aE (qI x m a l ψ t))) (.ro (.int t)) (.ro (aE (Sh x m (bN a t) t)))):=by
 have F:=mG x m (bN a t) t;show b7 (qH x a l (adr q) tS (.ro (aE ψ)) (.ro (.int t)) (.ro (aE (Sh x m (bN a t) t)))) ?_ ?_
 .have e:stepM (cB n) (aA b8 (aA (aF LL.iT (aA cV (aV 6))) (aV 6))) 3 (qH x a l q kd (.ro (aE ψ)) (.ro (.int t)) v7)=aa (q,aE (Sh x m (bN a t) t),tS):=by
   unfold stepM;have z:aA b8 (aA (aF LL.iT (aA cV (aV 6))) (aV 6)) (gF (qH x a l q kd (.ro (aE ψ)) (.ro (.int t)) v7))=aa [aK x,τ (bN a t),.int t]:=by have y:aF LL.iT (aA cV (aV 6)) (gF (qH x a l q kd (.ro (aE ψ)) (.ro (.int t)) v7))=aa (τ (bN a t)):=bW rfl rfl (ON j);show Fx rfl y rfl
   rw[z,c_]
   show(match cB n [aK x,τ (bN a t),.int t] kd with
    |.ok r=>aa (q,r)
    |_=>af)=_
   rw[o]
  unfold tZ;rw[e];rfl
 .refine c8 (aE (qI x m a l ψ t)) ?_ rfl;have v:R4 (tV (aB n9 dQ m3)) (aF c9 (aV 7)) vD (gF (qH x a l (adr q) tS (.ro (aE ψ)) (.ro (.int t)) (.ro (aE (Sh x m (bN a t) t)))))=aa (aE (if t<l then sG (Sh x m (bN a t) t) else Sh x m (bN a t) t)):=by
   have p:tV (aB n9 dQ m3) (gF (qH x a l (adr q) tS (.ro (aE ψ)) (.ro (.int t)) (.ro (aE (Sh x m (bN a t) t)))))=aa (Zv (t<l)):=rfl;unfold R4;rw[p,c_];by_cases h:t<l
   .rw [Zx h,Z_ rfl,Z_ h];show fF rfl (ZE ∅ ∅)
   .rw [Zy h,Zz (by decide),Zz h];rfl
  show bW rfl v (SX ∅)
theorem SY(Y:a.length<=9)(X:x.length<=9):∀(h:Q0e) (j:Q0e) (kd:KD),j.length=max x.length 1->gW x kd ->
  (∀t∈h,∀kd,gW x kd->kd.1.length+most m<=10000000 ->∃p,cB n [aK x,τ (bN a t),.int t] kd=.ok (aE (Sh x m (bN a t) t),p)/\gW x p/\p.1.length<=kd.1.length+most m/\ZF kd p/\(bR p.1 p.2 (kS (bN a t) t)).isSome=ae) ->
  kd.1.length+h.length*most m<=10000000 ->
  ∃d,gW x d/\d.1.length<=kd.1.length+h.length*most m/\ZF kd d/\(∀t∈h,(bR d.1 d.2 (kS (bN a t) t)).isSome=ae) /\∀(y q:Nat->ax->Prop) (v6 v7:Sv),(∀b o,q b o ->∃o2,y b o2) ->∃(q2:Nat->ax->Prop) (F A:Sv),(∀b o,q2 b o ->∃o2,y b o2) /\
   fX (n6 6) (lS n) (h.map D.int) (qH x a l q kd (.ro (aE j)) v6 v7)=.nx (qH x a l q2 d (.ro (aE (h.foldl (qI x m a l) j))) F A)
 |[],j,kd,hacc,hM,_,_=>⟨kd,hM,by simp,λ_ e=>e,λt ht=>(nomatch ht),λy q v6 v7 O=>⟨q,v6,v7,O,rfl⟩⟩
 |t::h,j,kd,hacc,hM,hR,hc=>by
  rw[cn,As] at hc;obtain⟨J,e1,uj,hc1,I,in1⟩:=hR t cb kd hM ∅;have Z:=mG x m (bN a t) t;have U:(qI x m a l j t).length=max x.length 1:=by
   unfold qI;rw[lN]
   .exact hacc
   .rw [hacc];split
    .rw [oO ∅];show Z.symm
    .exact Z.symm
  obtain⟨d,Lj,hc2,v,K,go⟩:=SY Y X h (qI x m a l j t) J U uj (λu z=>hR u (e_ _ z)) ∅;show⟨d,Lj,by rw[cn,As];lia,λk e=>v k (I k e),λu z=>?_,λy q v6 v7 O=>?_⟩
  .rcases bh.1 z with e|z
   .rw [e];show v _ in1
   .exact K u z
  obtain⟨q2,F,A,L,e2⟩:=go y (adr q) (.ro (.int t)) (.ro (aE (Sh x m (bN a t) t))) λb o ⟨o1,h1⟩=>O b o1 h1;show⟨q2,F,A,L,?_⟩;rw[bo,mf]
  have e3:fX (n6 6) (lS n) (D.int t::h.map D.int) (qH x a l q kd (.ro (aE j)) v6 v7)=(match lS n (qH x a l q kd (.ro (aE j)) (.ro (.int t)) v7) with
   |.nx ρ2=>fX (n6 6) (lS n) (h.map D.int) ρ2
   |o=>o):=rfl
  rw[e3,aCj Y X hacc e1];show e2
theorem ZG(F:x.length<=9)(hr:∀r∈x,r.length<=9):∀(m e:Nat) (a:Q0e) (l:Int) (kd:KD),ZC x a->a.length+m=x.length->gW x kd->kd.1.length+most m<=10000000 ->
  ∃A,cB (m+1+e) [aK x,τ a,.int l] kd=.ok (aE (Sh x m a l),A)/\gW x A/\A.1.length<=kd.1.length+most m/\bR A.1 A.2 (kS a l)=aa (aE (Sh x m a l))/\ZF kd A:=by
 intro m
 induction m with
 |zero =>
  intro e a l kd ok I j hc;have I:a.length=x.length:=I;have m0:most 0=1:=rfl;have v:x.length-a.length=0:=by lia
  rw[show 0+1+e=e+1 by lia]
  cases hk:bR kd.1 kd.2 (kS a l) with
  |some d =>
   have J:=j.2.2.1 a l d hk;rw[v] at J;subst J;show⟨kd,wZ j (λd' h'=>by rw[hk] at h';show⟨(cx h').symm,rfl⟩) (λh'=>by rw[hk] at h';cases h'),j,by lia,hk,λ_ e=>e⟩
  |none =>
   obtain⟨p1,p2,p3,p4⟩:=MJ (a:=a) (l:=l) j (λz=>by lia);rw[v] at p3;show⟨vX x kd a l,wZ j (λd' h'=>by rw[hk] at h';cases h') λ_ q=>⟨adr q,vX x kd a l,.ro (aE (Sh x 0 a l)),.no,.no,λb o h=>h,?_,p1,p3,rfl⟩,p1,by lia,p3,p4⟩
   .refine b7 (qH x a l q kd .no .no .no) (c8 (.tup [τ a,.int l]) rfl rfl) (mE ?_ ?_)
    .rw [yo j,hk];rfl
    .have ez:JI x.length=0::bp (max x.length 1-1) 0:=by unfold JI;rw[<- iq];congr 1;lia
     show b7 (qH x a l q kd (.ow (aE (JI x.length))) .no .no) (by unfold kA;rw[MI F rfl];rfl) ?_;show b7 (qH x a l q kd (.ow (aE (DK x.length))) .no .no) (mE ((F7 rfl rfl).trans (by rw[Zx I])) ?_) ?_
     .rw [ez];show Uj rfl
     show b7 (qH x a l q kd (.ro (aE (DK x.length))) .no .no) ?_ ?_
     .show eM _ _ _ (qH x a l q kd (.ro (aE (DK x.length))) .no .no)=_;show DA [] ?_ rfl;unfold cQ;rw[bW (x:=aK x) (y:=τ a) rfl rfl (sA F hr),JJ ok I];rfl
     .have:=Fy (x:=x) (a:=a) (l:=l) (q:=q) (kd:=kd) (v6:=.no) (v7:=.no) j ∅;rw[v] at this;show this
 |succ m ih =>
  intro e a l kd ok I j hc;have mm:most (m+1)=1+(m+1)*most m:=rfl;have v:x.length-a.length=m+1:=by lia
  have hfew:=jG ok;have ha:=sC ok;rw[show m+1+1+e=(m+1+e)+1 by lia]
  cases hk:bR kd.1 kd.2 (kS a l) with
  |some d =>
   have J:=j.2.2.1 a l d hk;rw[v] at J;subst J;show⟨kd,wZ j (λd' h'=>by rw[hk] at h';show⟨(cx h').symm,rfl⟩) (λh'=>by rw[hk] at h';cases h'),j,by lia,hk,λ_ e=>e⟩
  |none =>
   have hlen:(aJ x a).length*most m<=(m+1)*most m:=Nat.mul_le_mul_right _ ∅;obtain⟨p,Z,hc1,sb,O,go⟩:=SY (n:=m+1+e) (m:=m) (l:=l) (by lia:a.length<=9) F (aJ x a) (JI x.length) kd (qW _) j (λt ht kd Y X=>(ih e (bN a t) t kd ((F_ ok).1 _ (Jb ht)).1 (by have:=((F_ ok).1 _ (Jb ht)).2;lia) Y X).imp λ_ h=>⟨h.1,h.2.1,h.2.2.1,h.2.2.2.2,by rw[h.2.2.2.1];rfl⟩) ∅;obtain⟨p1,p2,p3,p4⟩:=MJ (a:=a) (l:=l) Z (λ_=>O);rw[v] at p3;show⟨vX x p a l,wZ j (λd' h'=>by rw[hk] at h';cases h') λ_ q=>?_,p1,by lia,p3,λk e=>p4 k (sb k e)⟩;obtain⟨q2,L,K,U,el⟩:=go q q .no .no λb o h=>⟨o,h⟩;show⟨adr q2,vX x p a l,.ro (aE (Sh x (m+1) a l)),L,K,λb o ⟨o1,h1⟩=>U b o1 h1,?_,p1,p3,rfl⟩;show b7 (qH x a l q kd .no .no .no) (c8 (.tup [τ a,.int l]) rfl rfl) (mE ?_ ?_)
   .rw [yo j,hk];rfl
   .refine b7 (qH x a l q kd (.ow (aE (JI x.length))) .no .no) (by unfold kA;rw[MI F rfl];rfl) ?_;show b7 (qH x a l q kd (.ow (aE (JI x.length))) .no .no) (fA ((F7 rfl rfl).trans (by rw[Zy ∅])) rfl) ?_;show b7 (qH x a l q2 p (.ro (aE (Sh x (m+1) a l))) L K) ?_ ?_
    .show eM _ _ _ (qH x a l q kd (.ro (aE (JI x.length))) .no .no)=_;show DA ((aJ x a).map D.int) ?_ el;unfold cQ;rw[bW (x:=aK x) (y:=τ a) rfl rfl (sA F hr)];rfl
    .have:=Fy (x:=x) (a:=a) (l:=l) (q:=q2) (kd:=p) (v6:=L) (v7:=K) Z ∅;rw[v] at this;show this
def aCk:∀{n:Nat},n<=9->most n<=1000000:=by
 intro n h;have:∀n,n<=9->most n<=1000000:=by decide
 show this n h
def shares(x:Q0a):List Int:=Sh x x.length [] 0
def oP{x:Q0a}(j:x.length<=9)(m:∀r∈x,r.length<=9):∃kd,fN [aK x]=.ok (.dC (adr i8) kd.1 kd.2)/\gW x kd/\bR kd.1 kd.2 (kS [] 0)=aa (aE (shares x)):=by
 obtain⟨kd,e,p,A,o,_⟩:=ZG j m x.length (10-x.length) [] 0 ([],[]) ZD (by simp) ⟨rfl,λq n=>(by cases n),λa l d h=>(by simp[bR] at h),λa l h=>(by simp[bR] at h)⟩ (by have:=aCk j;simp;lia);rw[show x.length+1+(10-x.length)=11 by lia] at e;show⟨kd,?_,p,o⟩
 .unfold fN;show eQ rfl (b7 [.ro (aK x),.ow (.dC i8 [] [])] rfl (b7 [.ro (aK x),.ow (.dC (adr i8) kd.1 kd.2)] ?_ (d9 rfl)));have v:stepM (cB 11) (aA b8 (aA (eT aG) (aA (eI 0) aG))) 1 [.ro (aK x),.ow (.dC i8 [] [])]=aa (i8,aE (Sh x x.length [] 0),kd):=by
   unfold stepM;rw[Fx (x:=aK x) (y:=τ []) (z:=.int 0) rfl rfl rfl,c_]
   show(match cB 11 [aK x,τ [],.int 0] ([],[]) with
    |.ok r=>aa (i8,r)
    |_=>af)=_
   rw[e]
  unfold YW;rw[v];rfl
open YL
theorem S3(a:Bg 210 x):∀m:Nat,m<=1000->Bg (211*m+1) (ff x m)
 |0,_=>by unfold Bg ff;decide
 |m+1,h=>by
  have d:=S3 a m ∅;have h2:Bg 211 (x-m):=by
   have:Bg 210 (m:Int):=by
    unfold Bg;have:(m:Int).natAbs<2^10:=by lia
    show fw this (r9 (by decide) (by decide))
   show a.sub this
  show(d.mul h2).mono ∅
def Fw(a:Bg 210 x)(d:m<=1000):Bg (211*m+1) (C x m):=by
 have h:=S3 a m d;have e:=BN x m;unfold Bg at h ⊢;rw[<- e,a2s] at h;have:1<=(fact m).natAbs:=by have:=sD m;lia
 show Nat.lt_of_le_of_lt (Nat.le_mul_of_pos_right _ this) h
def aCl(x:Int)(i:Nat):C x i*(x-i)/((i:Int)+1)=C x (i+1):=by
 have a:=BN x i;have h2:=BN x (i+1);have e:C x i*(x-i)=C x (i+1)*((i:Int)+1):=by
  show a2v (a2q (sD i)) ?_;rw[show fact (i+1)=fact i*(i+1) from rfl,show ff x (i+1)=ff x i*(x-i) from rfl,<- a] at h2
  calc C x i*(x - ↑i)*fact i=C x i*fact i*(x - ↑i):=by rw[Int.mul_right_comm]
   _=C x (i+1)*(fact i*(↑i+1)):=h2.symm
   _=C x (i+1)*(↑i+1)*fact i:=by rw[mn (fact i),wm]
 rw[e,Int.mul_ediv_cancel _ ∅]
def kH{x:Int}{m:Nat}(a:Bg 210 x)(j:m<=12):fY [.int x,.int m]=.ok (.int (C x m)):=by
 unfold fY;have h:Rt (aH (aO 2 (eI 1)) (aH (eM (b9 (aV 1)) (n6 3) (aO 2 (aB l8 (aB mulM dQ (aB dH b8 eF)) (aB bX eF (eI 1))))) (bI dQ)) (dD 4 [.int x,.int m])) λd=>d=.int (C x m):=by
  show aL [.ri x,.ri m,.ri 1,.no] rfl ?_;show gU (λρ=>∃v,ρ=[.ri x,.ri m,.ro (.int (C x m)),v]) ?_ λρ ⟨v,e⟩=>by subst e;show gA _ rfl rfl
  show oG m (λi ρ=>∃v,ρ=[.ri x,.ri m,.ro (.int (C x i)),v]) rfl ∅ ⟨_,rfl⟩ (λi ρ hi ⟨v,e⟩=>?_) λρ h=>h;subst e;show⟨_,rfl,uF (.int (C x (i+1))) (binI (x:=(C x i*(x-i))) (y:=((i:Int)+1)) (binI (x:=(C x i)) (y:=(x-i)) rfl rfl (Y9 (p:=211*i+1) (q:=211) ∅ ∅ (Fw a ∅) ?_)) rfl ?_) ⟨_,rfl⟩⟩
  .have:Bg 210 (i:Int):=by
    unfold Bg;have:(i:Int).natAbs<2^10:=by lia
    show fw this (r9 (by decide) (by decide))
   show a.sub this
  .rw [iQ ∅ ∅,aCl]
 obtain⟨d,e,rfl⟩:=lV rfl h;show e
theorem Dx(h:f (gF ρ)=aa d)(h2:ρ[i]?=aa (.ow (.lst ds)))(a:ds.length<16777216):sX (qO i n5 (aX f)) ρ=.nx (ρ.set i (.ow (.lst (ds++[d])))):=by
 have e:qO i n5 (aX f) ρ=aa (ρ.set i (.ow (.lst (ds++[d]))),.non):=by unfold qO aX;rw[h2,h];show((nZ ρ[i]?).bind λds=>(n5 ds d).map _)=_;rw[h2];show((n5 ds d).map _)=_;rw[wV a];rfl
 unfold sX;rw[e]
noncomputable def ev(k:Int):List Int->Int
 |[]=>0
 |a::l=>a+k*ev k l
def aCm(s:Int)(l:Q0e):List Int:=((l++[0]).zip (0::l)).map λp:Int×Int=>s*p.1+p.2
noncomputable def Fv(s t:Int):Nat->List Int
 |0=>[s]
 |n+1=>aCm (t-n) (Fv s t n)
def Fu(n:Nat):List Int->Nat->List Int->List Int
 |[],_,ψ=>ψ
 |s::w,d,ψ=>Fu n w (d+1) (sF ψ (Fv s ((n:Int)-1-d) n))
def S4(x:Q0a)(a:Q0e):(aJ x a).length<=x.length:=by unfold aJ;have d:=lj (λt=>(row x t).all λl=>a.contains l) ((bE 0 x.length).filter λt=>!a.contains t);have h2:=lj (λt=>!a.contains t) (bE 0 x.length);rw[aN] at h2;lia
theorem S5(v:x.length<=9):∀(m:Nat) (a:Q0e) (l:Int),∀y∈Sh x m a l,0<=y/\y<=9^m
 |0,a,l,y,d=>by
  unfold Sh DK at d;rcases bh.1 d with e|e
  .subst e;decide
  .rw [a2i e];decide
 |m+1,a,l,y,d=>by
  have q:=S5 v m;have go:∀(n:Q0e) (j:Q0e) (c:Int),0<=c->(∀y∈j,0<=y/\y<=c*9^m) ->∀y∈n.foldl (λj t=>sF j (if t<l then sG (Sh x m (bN a t) t) else Sh x m (bN a t) t)) j,0<=y/\y<=(c+n.length)*9^m:=by
   intro n
   induction n with
   |nil=>intro j c A h;simpa using h
   |cons t n iht =>
    intro j c A h;rw[mf];have:=iht (sF j (if t<l then sG (Sh x m (bN a t) t) else Sh x m (bN a t) t)) (c+1) ∅ ?_
    .rw [cn];rw[show c+((n.length+1:Nat):Int)=c+1+n.length by lia];show this
    .intro y d;unfold sF at d;obtain⟨p,z,rfl⟩:=gi.1 d;obtain⟨m1,o⟩:=sr z;have g1:=h _ m1;have g2:0<=p.2/\p.2<=9^m:=by
      split at o
      .unfold sG at o;rcases bh.1 o with e|e
       .rw [e];show⟨by decide,Jy (a2o (by decide))⟩
       .exact q _ _ _ (List.dropLast_subset _ e)
      .exact q _ _ _ o
     rw[wt,Jv];lia
  unfold Sh at d;have:=go (aJ x a) (JI x.length) 0 (by decide) (λy d=>by rw[a2i d];simp) y d
  show⟨this.1,wo this.2 ?_⟩;rw[jy,Ju,mn];have F:=S4 x a;show Int.mul_le_mul_of_nonneg_left ∅ (Jy (a2o (by decide)))
def aCn(x:Q0a):List Int:=fd (vals (DV x.length 0 (shares x)) (x.length+1) 0)
def S7{a b:Q0e}{j:Nat}{y z:Int}(d:a[j]?=aa y)(h2:b[j]?=aa z):(sF a b)[j]?=aa (y+z):=by unfold sF;rw[cf,Bb (z:=(y,z)) |>.2 ⟨d,h2⟩];rfl
theorem F8:∀(m i:Nat),0<=C (m:Int) i
 |0,0=>by decide
 |0,i+1=>by rw[DJ ∅ ∅];decide
 |m+1,0=>by rw[lW];decide
 |m+1,i+1=>by rw[show((m+1:Nat):Int)=(m:Int)+1 from rfl,nA];have:=F8 m i;have:=F8 m (i+1);lia
def ZH(x:Q0a)(m:Nat)(a:Q0e)(l:Int):Sh x (m+1) a l=(aJ x a).foldl (qI x m a l) (JI x.length):=rfl
def yJ:u∈bN a t↔u∈a\/u=t:=by unfold bN;rw[(sortI_perm (a++[t])).mem_iff];simp
section
variable{x:Q0a}
def vI(h:∀t,t∈a↔t∈b):aJ x a=aJ x b:=by
 have d:∀t,a.contains t=b.contains t:=λt=>by rw[oo];simp[h t]
 unfold aJ;simp only[d]
def uJ:t∈aJ x a↔(0<=t/\t<(x.length:Int))/\t∉a /\∀l∈row x t,l∈a:=by
 unfold aJ;rw[jj,jj,bF,gx];simp only[Kc,List.contains_eq_mem,decide_eq_false_iff_not,decide_eq_true_eq]
 constructor
 .rintro ⟨⟨h,h2⟩,d⟩;show⟨by lia,h2,d⟩
 .rintro ⟨h,h2,d⟩;show⟨⟨by lia,h2⟩,d⟩
end
end LL
namespace K25
open L3 L4 YL LL
section
variable{x:Q0a}
def aFY(x:Q0a):List Int:=Fu x.length (shares x) 0 (bp (x.length+1) 0)
end
abbrev st(ns:Q0e)(x:Q0a)(h:Int)(v7 d a:Sv):bT:=[.ro (.j5 ns),.ro (aK x),.ri x.length,.ro (τ (shares x)),.ro (τ (aCn x)),.ro (τ (aFY x)),.ri h,v7,d,a]
end K25
namespace LL
open L3 L4 YL
theorem sum_map_add{α:Type}(f g:α->Int):∀L:List α,(L.map λa=>f a+g a).sum=(L.map f).sum+(L.map g).sum
 |[]=>rfl
 |a::L=>by have d:=sum_map_add f g L;simp only[bo,ib,d];lia
theorem iU{α:Type}:∀L:List α,(L.map λ_=>(0:Int)).sum=0
 |[]=>rfl
 |a::L=>by rw[bo,ib,iU L];rfl
theorem BP{α d:Type}(f:α->d->Int)(M:List d):∀L:List α,(L.map λa=>(M.map λb=>f a b).sum).sum=(M.map λb=>(L.map λa=>f a b).sum).sum
 |[]=>by simp only[oh,List.sum_nil];rw[iU]
 |a::L=>by have h:=BP f M L;simp only[bo,ib,h];rw[<- sum_map_add]
theorem BQ{α:Type}(c:Int)(f:α->Int):∀L:List α,(L.map λa=>c*f a).sum=c*(L.map f).sum
 |[]=>by simp
 |a::L=>by have d:=BQ c f L;simp only[bo,ib,d,Int.mul_add]
section
variable(x:Q0a)
def SF:Nat->List Int->Int->Int->Int
 |0,_,_,j=>if j=0 then 1 else 0
 |m+1,a,l,j=>((aJ x a).map λt=>SF m (bN a t) t (j-if t<l then 1 else 0)).sum
end
section
variable{x:Q0a}
theorem JK:∀(m:Nat) (a:Q0e) (l j:Int),j<0->SF x m a l j=0
 |0,a,l,j,h=>Zz ∅
 |m+1,a,l,j,h=>by have e:(λt=>SF x m (bN a t) t (j-if t<l then 1 else 0))=λ_=>0:=funext λt=>JK m _ _ _ (by split<;>lia);show((aJ x a).map _).sum=0;rw[e,iU]
theorem yK:∀(m:Nat) {a b:Q0e} (l j:Int),(∀t,t∈a↔t∈b)->SF x m a l j=SF x m b l j
 |0,a,b,l,j,_=>rfl
 |m+1,a,b,l,j,h=>by show((aJ x a).map λt=>SF x m (bN a t) t (j-if t<l then 1 else 0)).sum=((aJ x b).map λt=>SF x m (bN b t) t (j-if t<l then 1 else 0)).sum;rw[vI h];congr 1;show gk λt _=>yK m _ _ λu=>?_;rw[yJ,yJ,h u]
def nE(l:Q0e)(j:Nat):η l (j:Int)=l[j]?.getD 0:=by unfold η;rw[jn]
def S8(h:a.length=b.length):η (sF a b) j=η a j+η b j:=by
 unfold η;by_cases d:j.toNat<a.length
 .rw [S7 (bx d) (bx ∅),bx d,bx ∅];rfl
 .rw [km (by rw[lN h];lia),km ∅,km ∅];rfl
def ZI(h:0<=j)(d:j<w.length):η (sG w) j=if j=0 then 0 else η w (j-1):=by
 unfold η sG;split
 .rename_i z;subst z;rfl
 .obtain ⟨k,a⟩:∃k:Nat,j.toNat=k+1:=⟨j.toNat-1,by lia⟩;rw[a,me,List.getElem?_dropLast,Z_ ∅,show(j-1).toNat=k by lia]
def ZJ(n:Nat)(j:Int):η (JI n) j=0:=by unfold η JI;rw[jc];split<;>rfl
theorem MK:∀(m:Nat) (a:Q0e) (l j:Int),0<=j->j<(max x.length 1:Nat)->η (Sh x m a l) j=SF x m a l j
 |0,a,l,j,h0,h1=>by
  show η (DK x.length) j=if j=0 then 1 else 0
  unfold η DK;split
  .rename_i z;subst z;rfl
  .obtain ⟨k,p⟩:∃k:Nat,j.toNat=k+1:=⟨j.toNat-1,by lia⟩;rw[p,me,jc];split<;>rfl
 |m+1,a,l,j,h0,h1=>by
  rw[ZH];have go:∀(n d:Q0e),d.length=max x.length 1->η (n.foldl (qI x m a l) d) j=η d j+(n.map λt=>SF x m (bN a t) t (j-if t<l then 1 else 0)).sum:=by
   intro n
   induction n with
   |nil=>intro d _;simp
   |cons t n ih =>
    intro d h;have o:=mG x m (bN a t) t;have hlen:d.length=(if t<l then sG (Sh x m (bN a t) t) else Sh x m (bN a t) t).length:=by
     rw[h];split
     .rw [oO ∅];show o.symm
     .exact o.symm
    have ev:η (if t<l then sG (Sh x m (bN a t) t) else Sh x m (bN a t) t) j=SF x m (bN a t) t (j-if t<l then 1 else 0):=by
     split
     .rw [ZI h0 (by rw[o];show h1)];split
      .rename_i z;subst z;rw[JK _ _ _ _ ∅]
      .exact MK m _ _ _ ∅ ∅
     .rw [Jt];show MK m _ _ _ h0 h1
    rw[mf,ih _ (by unfold qI;rw[lN hlen,h]),bo,ib];unfold qI;rw[S8 hlen,ev];lia
  rw[go _ _ (qW _),ZJ,jy];rfl
def JE(k:Nat):bE 0 (k+1)=0::(bE 0 k).map λd=>d+1:=by unfold bE;rw[show k+1=1+k by lia,List.range_add,gq,dh,dh];have e:a17 (λk:Nat=>(0:Int)+(k:Int)) (b_ 1)=[0]:=rfl;rw[e,List.singleton_append];congr 1;show gk λj7 _=>?_;simp only[a3F];lia
end
noncomputable def dl:Int->List Int->Int
 |_,[]=>0
 |l,t::w=>(if t<l then 1 else 0)+dl t w
def lO(w:Q0e):Int:=w.getLast?.getD (-1)
theorem ML:∀(l:Int) (w:Q0e) (t:Int),dl l (w++[t])=dl l w+if t<(w.getLast?.getD l) then 1 else 0
 |l,[],t=>by
  show(if t<l then 1 else 0)+0=0+if t<l then 1 else 0
  rw[wq,jy]
 |l,a::w,t=>by
  show(if a<l then 1 else 0)+dl a (w++[t])=(if a<l then 1 else 0)+dl a w+_;rw[ML a w t];have e:(a::w).getLast?.getD l=w.getLast?.getD a:=by
   cases w with
   |nil=>rfl
   |cons b w=>rw[List.getLast?_cons_cons];rw[List.getLast?_eq_getLast (List.cons_ne_nil b w)];rfl
  rw[e];lia
section
variable{x:Q0a}
theorem TB:∀(l:Int) (w:Q0e),0<=dl l w/\dl l w<=w.length
 |_,[]=>⟨lr 0,by simp[dl]⟩
 |l,t::w=>by have a:=TB t w;show 0<=(if t<l then 1 else 0)+dl t w/\(if t<l then 1 else 0)+dl t w<=((t::w).length:Int);rw[cn];split<;>lia
end
section
variable{x y:Q0a}
def mH{w:Q0e}(h:∀u t v,w=u++t::v->t∈aJ x u):w.Nodup /\∀t∈w,0<=t/\t<(x.length:Int):=by
 have key:∀(r u:Q0e),(∀p t v,u++r=p++t::v->t∈aJ x p)->u.Nodup->(u++r).Nodup:=by
  intro r
  induction r with
  |nil=>intro u _ d;rw[iu];show d
  |cons t r ih =>
   intro u l d;have j:=(jF (l u t r rfl)).2;have e:u++t::r=(u++[t])++r:=by simp
   rw[e];show ih (u++[t]) (λp s v o=>l p s v (by rw[e,o])) ?_;rw[sy];show⟨d,by simp,λa n b m e=>j (by rw[cc] at m;rw[<- m,<- e];show n)⟩
 show⟨key w [] h sx,λt j=>?_⟩;obtain⟨u,v,rfl⟩:=qf j;show(jF (h u t v rfl)).1
def pR(m:w.length=x.length)(h:∀u t v,w=u++t::v->t∈aJ x u)(l:0<=b)(n:b<(x.length:Int)):b∈w:=by
 obtain⟨nd,d⟩:=mH h;show mw λj=>?_;have:=Ord.e9 (b::w) (bE 0 x.length) (k_.2 ⟨j,nd⟩) λt a=>by
  rcases bh.1 a with z|z
  .rw [z];show bF.2 ⟨l,by lia⟩
  .have:=d t z;show bF.2 ⟨this.1,by lia⟩
 rw[cn,aN] at this;lia
def TC(a:0<=t):dl (-1) (t::w)=dl t w:=by show(if t < -1 then 1 else 0)+dl t w=_;rw[Zz ∅,jy]
def Turned(x y:Q0a):Prop:=y.length=x.length /\∀a b:Int,0<=b->b<(x.length:Int)->(a∈row y ((x.length:Int)-1-b)↔(x.length:Int)-1-a∈row x b)
def Turned.symm(h:Turned x y):Turned y x:=by show⟨h.1.symm,λa b j d=>?_⟩;rw[h.1] at d ⊢;have e:=h.2 ((x.length:Int)-1-a) ((x.length:Int)-1-b) ∅ ∅;rw[show(x.length:Int)-1-((x.length:Int)-1-b)=b by lia,show(x.length:Int)-1-((x.length:Int)-1-a)=a by lia] at e;show e.symm
def JL(x z:Q0a):Prop:=z.length=x.length /\∀a b:Int,0<=a->a<(x.length:Int)->0<=b->b<(x.length:Int)->(a∈row x b↔b∈row z a)
def JL.symm(h:JL x y):JL y x:=⟨h.1.symm,λa b l j h2 d=>by rw[h.1] at j d;show(h.2 b a h2 d l j).symm⟩
end
section
variable{x:Q0a}
def Lx(fl:Q0e)(a b:Int):Prop:=η fl a<η fl b\/(η fl a=η fl b/\a<b)
def MM(h:a≠b):oK fl (a,b)=ae↔Lx fl a b:=by
 unfold oK Lx;dsimp only;split
 .rw [decide_eq_true_eq];lia
 .rw [decide_eq_true_eq];lia
def TH(n:Ord.Rows x):rs x fl=ae ↔ ∀b:Int,0<=b->b<(x.length:Int) ->∀a∈row x b,Lx fl a b:=by
 have m:∀b:Int,0<=b->b<(x.length:Int)->b∉row x b:=λb j d=>by have:=n.YX b.toNat (row x b) (K45.m8 j d);rw[show((b.toNat:Nat):Int)=b by lia] at this;show this
 unfold rs;rw[gx];show⟨λh b j d a l=>(MM (a:=a) (b:=b) λe=>m b j d (by rw[e] at l;show l)).1 (h (a,b) (yG.MB.2 ⟨j,d,l⟩)),λh p o=>?_⟩;obtain⟨j,d,h2⟩:=yG.MB.1 o;show(MM (a:=p.1) (b:=p.2) λe=>m p.2 j d (by rw[e] at h2;show h2)).2 (h p.2 j d p.1 h2)
end
section
variable{x y z:Q0a}
structure Sd (x y z:Q0a):Prop where
 len:z.length=x.length+y.length
 lo:∀t:Int,0<=t->t<(x.length:Int) ->∀a,a∈row z t↔a∈row x t
 hi:∀t:Int,0<=t->t<(y.length:Int) ->∀a,a∈row z (t+x.length)↔a-x.length∈row y t
 rx:∀t:Int,0<=t->t<(x.length:Int) ->∀a∈row x t,0<=a/\a<(x.length:Int)
 ry:∀t:Int,0<=t->t<(y.length:Int) ->∀a∈row y t,0<=a/\a<(y.length:Int)
structure Cb (x y:Q0a) (a b c:Q0e):Prop where
 lo:∀t:Int,0<=t->t<(x.length:Int)->(t∈c↔t∈a)
 hi:∀t:Int,0<=t->t<(y.length:Int)->(t+x.length∈c↔t∈b)
structure Av (x y z:Q0a) (s t:Int):Prop where
 len:z.length=x.length+y.length
 lo:∀a:Int,0<=a->a<(x.length:Int) ->∀b,b∈row z (a+s)↔b-s∈row x a
 hi:∀a:Int,0<=a->a<(y.length:Int) ->∀b,b∈row z (a+t)↔(s<=b/\b<s+x.length)\/b-t∈row y a
 rx:∀a:Int,0<=a->a<(x.length:Int) ->∀b∈row x a,0<=b/\b<(x.length:Int)
 ry:∀a:Int,0<=a->a<(y.length:Int) ->∀b∈row y a,0<=b/\b<(y.length:Int)
 st:(s=0/\t=x.length)\/(s=y.length/\t=0)
def BR:t∈aJ x a↔0<=t/\t<(x.length:Int)/\t∉a /\∀l∈row x t,l∈a:=by
 unfold aJ;rw[jj,jj,bF,gx]
 constructor
 .intro ⟨⟨⟨j,m⟩,h2⟩,h⟩;show⟨j,by lia,by simpa using h2,λl d=>by simpa using h l d⟩
 .intro ⟨j,m,h2,h⟩;show⟨⟨⟨j,by lia⟩,by simpa using h2⟩,λl d=>by simpa using h l d⟩
end
def ym(h:f (gF ρ)=aa d):kA i f ρ=.nx (ρ.set i (.ow d)):=by unfold kA;rw[h]
def aFZ(h:f (bD ρ)=aa (aE l)):vG i f ρ=.nx (ρ.set i (.ow (aE l))):=by unfold vG;rw[h];show(if qC (l.map D.int)=ae then _ else _)=_;rw[jE,Z_ rfl]
def MN(a:j<l.length)(i:Nat):η (l.set j v) i=if i=j then v else η l i:=by
 unfold η;rw[jn,a2d];by_cases h:j=i
 .rw [Z_ h,Z_ a,Z_ h.symm];rfl
 .rw [Zz h,Zz (d_ h)]
def ZK(j:a.length=b.length)(h:∀i:Nat,i<a.length->η a i=η b i):a=b:=by apply Jm j;intro i d h2;have:=h i d;unfold η at this;rw[jn,bx d,bx h2] at this;show this
def ZL(h:i<n):η ((bE 0 n).map f) i=f i:=by unfold η;rw[jn,cf,kR h];show f (0+(i:Int))=f i;rw[jy]
def yL(h:x.length+y.length<=1000):bX (τ x) (τ y)=aa (τ (x++y)):=by unfold τ;rw[FV (by simp;lia),gq]
def sH(w:Q0e):List Int:=(bE 0 ((w.length:Int)-1).toNat).filter λk=>Zv (η w k>η w (k+1))
def ZM(w:Q0e):(sH w).length<=w.length:=by unfold sH;show f_ (lj _ _) ?_;rw[aN];lia
def Ui(l:d=τ w\/d=aE w)(hw:w.length<=1000)(h:aS i ρ=aa d)(p:benv 1 [i] ρ=[af,aa d]):cN 1 [i] (b9 (aA (aB dH (cK bU (aV i)) (eI 1)) aG)) (g1 0) (tV (aB n9 (aB cZ cV b8) (aB cZ cV (aB bX b8 (eI 1))))) b8 ρ=aa (aE (sH w)):=by
 have j:∀{a:Int},0<=a->a<(w.length:Int)->cZ d (.int a)=aa (.int (η w a)):=λ{a} n m=>by
  rcases l with z|z
  .rw [z];show oJ n m
  .rw [z];show yI n m
 have hlen:bU [d]=aa (.int (w.length:Int)):=by
  rcases l with z|z
  .rw [z];show dS
  .rw [z];show aa (D.int ((w.map D.int).length:Nat))=_;rw[az]
 show gI ((bE 0 ((w.length:Int)-1).toNat).map D.int) ?_ (by rw[az,aN];lia) ?_
 .unfold b9;rw[args1 (bG (g:=dH) (a:=cK bU (aV i)) (b:=eC (.int 1)) (x:=.int (w.length:Int)) (y:=.int 1) (cC h hlen) rfl rfl),c_,yC ∅]
 .rw [p];show fM D.int (λk=>Zv (η w k>η w (k+1))) D.int _ λk o=>?_;have q:=bF.1 o;show⟨[aa (.int k),aa d],rfl,f6 (binI (x:=(η w k)) (y:=(η w (k+1))) (bG (x:=d) (y:=.int k) rfl rfl (j ∅ ∅)) (bG (x:=d) (y:=.int (k+1)) rfl rfl (j ∅ ∅)) kC) rfl,λ_=>rfl⟩
def F9(a:Int)(w:Q0e)(h:0<=k):η (a::w) (k+1)=η w k:=by unfold η;rw[show(k+1).toNat=k.toNat+1 by lia,me]
theorem TJ:∀(a:Int) (w:Q0e),((sH (a::w)).length:Int)=dl a w
 |a,[]=>rfl
 |a,b::w=>by
  have j:=TJ b w;have e:(sH (a::b::w)).length=(if b<a then 1 else 0)+(sH (b::w)).length:=by
   unfold sH;rw[show(((a::b::w).length:Int)-1).toNat=((((b::w).length:Int)-1).toNat)+1 by simp only[cn];lia,JE,we,List.filter_map];have o:(bE 0 ((((b::w).length:Int)-1).toNat)).filter ((λk=>Zv (η (a::b::w) k>η (a::b::w) (k+1)))∘λd=>d+1)=(bE 0 ((((b::w).length:Int)-1).toNat)).filter λk=>Zv (η (b::w) k>η (b::w) (k+1)):=Jj λk l=>by have p:=bF.1 l;show Zv (η (a::b::w) (k+1)>η (a::b::w) (k+1+1))=_;rw[F9 _ _ ∅,F9 _ _ ∅]
   rw[o];have n:η (a::b::w) 0=a:=rfl;have m:η (a::b::w) (0+1)=b:=rfl;rw[n,m];by_cases h:b<a
   .rw [Z_ (by simpa using h),Z_ h,cn,az];lia
   .rw [Zz (by simpa using h),Zz h,az];lia
  show _=(if b<a then 1 else 0)+dl b w;rw[e,<- j];split<;>simp
theorem MO(h:∀a∈w,0<=a):((sH w).length:Int)=dl (-1) w:=by
 cases w with
 |nil=>rfl
 |cons a w=>rw[TC (h a cb),TJ]
section
variable{x:Q0a}
def oQ(d:0<=t)(a:t<(x.length:Int)):x[t.toNat]?=aa (row x t):=by unfold row;rw[bx ∅];rfl
def GA(h:Ord.Rows x)(n:0<=t)(m:t<(x.length:Int))(j:l∈row x t):(0<=l/\l<(x.length:Int))/\(row x l).length<(row x t).length:=by
 have d:=h.rng _ _ (oQ n m) l j;show⟨d,?_⟩;have e:((l.toNat:Nat):Int)=l:=by lia
 have sub:∀c∈l::row x l,c∈row x t:=λc o=>by
  rcases bh.1 o with q|q
  .rw [q];show j
  .exact h.tr t.toNat l.toNat _ _ (oQ n m) (by rw[e];show j) (oQ d.1 d.2) c q
 have nd:(l::row x l).Nodup:=k_.2 ⟨by have:=h.YX l.toNat _ (oQ d.1 d.2);rwa [e] at this,(h.up _ _ (oQ d.1 d.2)).imp λ{a b} (q:a<b)=>by lia⟩;have:=Ord.e9 _ _ nd sub;rw[cn] at this;lia
def TK(v:Ord.Rows x){a:Q0e}(F:ZC x a)(A:a.length<x.length):∃t,t∈aJ x a:=by
 have go:∀(n:Nat) (t:Int),(row x t).length<=n->0<=t->t<(x.length:Int)->t∉a ->∃t,t∈aJ x a:=by
  intro n
  induction n with
  |zero =>
   intro t z m j d;show⟨t,BR.2 ⟨m,j,d,λl h=>?_⟩⟩;have:=(GA v m j h).2;lia
  |succ n ih =>
   intro t z m j d;by_cases c:∃l∈row x t,l∉a
   .obtain ⟨l,h,p⟩:=c;have:=GA v m j h;show ih l ∅ this.1.1 this.1.2 p
   .exact ⟨t,BR.2 ⟨m,j,d,λl h=>mw λq=>c ⟨l,h,q⟩⟩⟩
 have:∃t∈bE 0 x.length,t∉a:=by show mw λq=>?_;have:=Ord.e9 (bE 0 x.length) a (JH _) λt d=>mw λc=>q ⟨t,d,c⟩;rw[aN] at this;lia
 obtain⟨t,d,o⟩:=this;have y:=bF.1 d;show go _ t (bj _) y.1 ∅ o
end
def DL(a:Ord.Rows x)(h:x.length<=9):∀r∈x,r.length<=9:=λr d=>f_ (Ord.Rows.short a d) h
def GB(d:D)(h:f (bD ρ)=aa d)(hi:d.AN=ae)(a:ρ.set i (.ro d)=ρ'):mC i (mB f) ρ=.nx ρ':=by unfold mC mB;rw[h,c_,Z_ hi];show Out.nx (ρ.set i (.ro d))=_;rw[a]
def aF0(ds:List D)(h:f (bD ρ)=aa (.lst ds))(hi:qC ds=ae)(a:ρ.set i (.ro (.lst ds))=ρ'):nV i f ρ=.nx ρ':=by unfold nV;rw[h];show(if qC ds=ae then _ else _)=_;rw[Z_ hi,a]
theorem TL(h:ns≠[]):kB ns∈ns:=by
 cases ns with
 |nil=>show Zw rfl h
 |cons a l =>
  have go:∀(l:Q0e) (a:Int),l.foldl (λm b=>if m<b then b else m) a=a\/l.foldl (λm b=>if m<b then b else m) a∈l:=by
   intro l
   induction l with
   |nil=>intro a;show .inl rfl
   |cons b l ih =>
    intro a;rw[mf];rcases ih (if a<b then b else a) with z|z
    .rw [z];split
     .exact .inr cb
     .exact .inl rfl
    .exact .inr (e_ _ z)
  show l.foldl (λm b=>if m<b then b else m) a∈a::l;rcases go l a with z|z
  .rw [z];show cb
  .exact e_ _ z
def Ed(h:0<=x)(i:Nat):0<=C x i:=by obtain⟨m,rfl⟩:∃m:Nat,x=(m:Int):=⟨x.toNat,by lia⟩;show F8 m i
theorem aF2(h:0<=x)(i:Nat):C x i<=C (x+1) i:=by
 cases i with
 |zero=>rw[lW,lW];show lr _
 |succ i =>
  rw[nA];have:=Ed h i;lia
theorem TN(h:0<=x)(i:Nat):∀d:Nat,C x i<=C (x+d) i
 |0=>by rw[show x+((0:Nat):Int)=x by lia];show lr _
 |d+1=>by have a:=TN h i d;have h2:=aF2 (x:=x+d) ∅ i;rw[show x+((d+1:Nat):Int)=x+d+1 by lia];lia
theorem ZN(h:0<=x)(a:x<=y)(i:Nat):C x i<=C y i:=by
 have:=TN h i (y-x).toNat
 rwa [show x+((y-x).toNat:Int)=y by lia] at this
def rk:List Int->Int
 |[]=>0
 |a::c=>C a (c.length+1)+rk c
noncomputable def Dec:Int->List Int->Prop
 |_,[]=>True
 |t,a::c=>a<t/\(c.length:Int)<=a/\Dec a c
theorem TQ:∀{c:Q0e} {t:Int},Dec t c->0<=rk c
 |[],_,_=>lr _
 |a::c,t,⟨_,h1,h2⟩=>by have:=TQ h2;have:=Ed (x:=a) ∅ (c.length+1);show 0<=C a (c.length+1)+rk c;lia
theorem TR:∀{c:Q0e} {t:Int},Dec t c->rk c<C t c.length
 |[],t,_=>by show(0:Int)<C t 0;rw[lW];decide
 |a::c,t,⟨h0,h1,h2⟩=>by
  have d:=TR h2;have h:C (a+1) (c.length+1)=C a (c.length+1)+C a c.length:=by have:=nA a c.length;lia
  have:=ZN (x:=a+1) (y:=t) ∅ ∅ (c.length+1);show C a (c.length+1)+rk c<C t (c.length+1);lia
def Pick(m:Nat)(N x:Int):Prop:=(m:Int)<=x+1/\C x m<=N/\N<C (x+1) m
theorem TU(a:1<=m)(h:Pick m N x)(g:Pick m N y):x=y:=by
 obtain⟨j,h2,d⟩:=h;obtain⟨g1,g2,g3⟩:=g;show mw λne=>?_;rcases(by lia:x<y\/y<x) with z|z
 .have:=ZN (x:=x+1) (y:=y) ∅ ∅ m;lia
 .have:=ZN (x:=y+1) (y:=x) ∅ ∅ m;lia
def Gd:List Int->Int->Prop
 |[],_=>True
 |a::c,N=>Pick (c.length+1) N a/\Gd c (N-C a (c.length+1))
theorem TV:∀{c:Q0e} {t:Int},Dec t c->Gd c (rk c)
 |[],_,_=>trivial
 |a::c,t,⟨h0,h1,h2⟩=>by
  have h:=TQ h2;have j:=TR h2;have d:C (a+1) (c.length+1)=C a (c.length+1)+C a c.length:=by have:=nA a c.length;lia
  show⟨⟨by lia,?_,?_⟩,?_⟩
  .show C a (c.length+1)<=C a (c.length+1)+rk c;lia
  .show C a (c.length+1)+rk c<_;lia
  .rw [show rk (a::c)-C a (c.length+1)=rk c by show C a (c.length+1)+rk c-_=_;lia];show TV h2
theorem Ft:∀{c:Q0e} {t N:Int},Gd c N->0<=t->0<=N->N<C t c.length->rk c=N/\Dec t c
 |[],t,N,_,_,h0,h=>by rw[show([]:Q0e).length=0 from rfl,lW] at h;show⟨by show(0:Int)=N;lia,trivial⟩
 |a::c,t,N,⟨⟨p1,p2,p3⟩,g⟩,ht,h0,h=>by
  have m:C (a+1) (c.length+1)=C a (c.length+1)+C a c.length:=by have:=nA a c.length;lia
  have l:0<=a:=by lia
  have j:a<t:=by show mw λq=>?_;have:=ZN (x:=t) (y:=a) ht ∅ (c.length+1);have h:N<C t (c.length+1):=h;lia
  obtain⟨e,d⟩:=Ft (t:=a) g l ∅ ∅;show⟨by show C a (c.length+1)+rk c=N;lia,j,by lia,d⟩
theorem TY:∀{c d:Q0e} {N:Int},c.length=d.length->Gd c N->Gd d N->c=d
 |[],[],_,_,_,_=>rfl
 |a::c,b::d,N,hl,⟨p,g⟩,⟨q,h⟩=>by
  have j:c.length=d.length:=by simpa using hl
  clear hl
  rw[<- j] at q h;have e:=TU ∅ p q;subst e;rw[TY j g h]
def kT:g8:=bZ 1 1
  (bI (cK d8 (aA (C6 [0] (cK bU (aV 0)) (eT (aA (aB cZ cV b8) (aV 0)))) aG)))
def mI:g8:=bZ 1 1
  (bI (cK d8 (aA (cK kP (aV 0)) aG)))
def dF:g8:=bZ 5 2
  (aH (kA 2 (aB repLM (eU (aA (eI 0) aG)) (cK bU (aV 0))))
  (aH (eM (LZ (aA b8 (aV 1))) (IL 3 4)
   (kO 2 (aX gG) eF))
  (bI (cK d8 (aV 2)))))
def BS(a:ds.length=np)(h:Rt (b (dD n ds)) λe=>e=d):bZ n np b ds=.ok d:=by obtain⟨d',e,rfl⟩:=lV a h;show e
def kts(fl:Q0e):List (List Int):=(bE 0 fl.length).map λi=>[η fl i,i]
def uK(fl:Q0e):List Int:=pI (kts fl)
def Lk(fl:Q0e)(a b:Int):Prop:=η fl a<η fl b\/(η fl a=η fl b/\a<b)
def Uh:fK [p,a] [q,b]=(Zv (p<q)||(Zv (p=q)&&Zv (a<b))):=by
 unfold fK;by_cases h:p=q
 .subst h;rw[Z_ rfl];unfold fK;by_cases h2:a=b
  .subst h2;rw[Z_ rfl];simp[fK]
  .rw [Zz h2];simp
 .rw [Zz h];simp[h]
def ZO{fl:Q0e}{i:Nat}(h:i<fl.length):(kts fl)[i]?=aa [η fl i,(i:Int)]:=by unfold kts;rw[cf,kR h];simp
def MP(fl:Q0e):(kts fl).length=fl.length:=by unfold kts;rw[az,aN]
def aF3(lo:Int)(n:Nat):(L4.bE lo n).Pairwise (·<·):=tu _ (λa b (h:a<b)=>by lia) Ja
def JM(fl:Q0e):(kts fl).Nodup:=by
 unfold kts;rw[Js,si];show a2n ?_ (aF3 0 fl.length);intro a b h e;have:a=b:=by have:=(Bh (Bh e).2).1;show this
 lia
def aF4{fl:Q0e}{a:Int}(l:0<=a)(j:a<fl.length):(((kts fl).idxOf [η fl a,a]:Nat):Int)=a:=by
 obtain⟨i,rfl⟩:∃i:Nat,a=i:=⟨a.toNat,by lia⟩;have hi:i<fl.length:=by lia
 have e:=ZO hi;have d:i<(kts fl).length:=by rw[MP];show hi
 have h:(kts fl)[i]=[η fl i,(i:Int)]:=by rw[bx d] at e;show cx e
 rw[<- h,Jr (JM fl) i d]
def GC(fl:Q0e):(uK fl).Perm (bE 0 fl.length)/\(uK fl).Pairwise (Lk fl):=by
 have l:∀t∈mD (kts fl),t=[η fl (η t 1),η t 1]/\0<=η t 1/\η t 1<fl.length:=λt d=>by
  have:=(gH (kts fl)).mem_iff.1 d;unfold kts at this;obtain⟨a,q,rfl⟩:=gi.1 this;have:=bF.1 q;show⟨rfl,?_,?_⟩
  .show 0<=a;lia
  .show a<_;lia
 have e:uK fl=(mD (kts fl)).map λt=>η t 1:=by unfold uK pI;show gk λt d=>?_;obtain⟨e,v,h2⟩:=l t d;have:=aF4 v h2;rw[<- e] at this;show this
 have p:(uK fl).Perm (bE 0 fl.length):=by
  rw[e];show((gH (kts fl)).map _).trans ?_;unfold kts;rw[dh];have:(bE 0 fl.length).map ((λt=>η t 1)∘λi=>[η fl i,i])=bE 0 fl.length:=by
   conv=>rhs;rw[<- a16 (bE 0 fl.length)]
   show gk λa _=>rfl
  rw[this]
 show⟨p,?_⟩;rw[e,si];have nd:(mD (kts fl)).Nodup:=(gH _).nodup_iff.2 (JM fl);show a2m ?_ ((rP (kts fl)).and nd);intro t u d o ⟨h,j⟩;obtain⟨n,y,t1⟩:=l t d;obtain⟨m,x,u1⟩:=l u o;rw[n,m,Uh] at h;simp only[Bool.or_eq_false_iff,Bool.and_eq_false_imp,decide_eq_false_iff_not,decide_eq_true_eq] at h;have A:η t 1≠η u 1:=λz=>j (by rw[n,m,z]);unfold Lk;lia
theorem BU:∀{l:Q0e},(∀i∈l,key (ρ.set 0 (aa (.int i)))=aa (g i))->oC key ρ (l.map D.int)=aa (l.map g)
 |[],_=>rfl
 |i::l,h=>by rw[bo];unfold oC;rw[h i cb,BU λj a=>h j (e_ _ a)];rfl
theorem yM:∀a:Q0a,lU (a.map τ)=aa a
 |[]=>rfl
 |t::a=>by rw[bo];unfold lU;rw[show R7 (τ t)=aa t by unfold τ;show dI t,yM a];rfl
def sI:bU [τ l]=aa (.int l.length):=by unfold τ;rw[kQ,az]
def ZP:bU [aE l]=aa (.int l.length):=by unfold aE;rw[iR,az]
def GD(h:fl.length<64):kT [τ fl]=.ok (τ (uK fl)):=by
 unfold kT;show eQ rfl (d9 (cC (x:=aE (uK fl)) ?_ rfl));unfold C6;rw[cC (x:=τ fl) (z:=aa (.int fl.length)) rfl sI];show(if 0<=(fl.length:Int)/\(fl.length:Int)<64 then(oC _ _ ((bE 0 (fl.length:Int).toNat).map D.int)).bind C5 else af)=_;rw[Z_ ∅,jn];have m:=BU (key:=eT (aA (aB cZ cV b8) (aV 0))) (ρ:=benv 1 [0] (bD (dD 1 [τ fl]))) (g:=λi=>τ [η fl i,i]) (l:=bE 0 fl.length) (λi hi=>by have:=bF.1 hi;show Dz (x:=.int (η fl i)) (y:=.int i) (bG (x:=τ fl) (y:=.int i) rfl rfl (oJ ∅ ∅)) rfl)
 rw[m];show C5 ((bE 0 fl.length).map λi=>τ [η fl i,i])=_;have e:((bE 0 fl.length).map λi=>τ [η fl i,i])=(kts fl).map τ:=by unfold kts;rw[dh];rfl
 rw[e];unfold C5;rw[yM];show(if(kts fl).length<64/\_/\_ then _ else af)=_;have d:(kts fl).all (λt=>!t.isEmpty)=ae:=by rw[gx];intro t j;unfold kts at j;obtain⟨a,_,rfl⟩:=gi.1 j;rfl
 rw[Z_ ⟨by rw[MP];show h,d,JM fl⟩];rfl
theorem OP(h:fl.length<64):mI [τ fl]=.ok (τ (sortI fl)):=by unfold mI;show eQ rfl (d9 (cC (x:=aE (sortI fl)) (cC (x:=τ fl) rfl (m9 h)) rfl))
noncomputable def yN:List Int->List (Int×Int)->List Int
 |l,[]=>l
 |l,p::ps=>yN (l.set p.1.toNat p.2) ps
def ZQ:LY [τ a,τ b]=aa ((a.zip b).map λp=>.tup [.int p.1,.int p.2]):=by unfold LY τ;show aa (((a.map D.int).zip (b.map D.int)).map λp=>D.tup [p.1,p.2])=_;rw[a1S,dh];rfl
def TZ(j:x ρ=aa (ρ,.int v))(h2:ρ[i]?=aa (.ow (aE l)))(h:k (bD ρ)=aa (.int kk))(m:0<=kk)(a:kk<(l.length:Int)):kO i x k ρ=.nx (ρ.set i (.ow (aE (l.set kk.toNat v)))):=by
 have d:FO l.length kk=aa kk.toNat:=by unfold FO;rw[Z_ m,Z_ a]
 unfold kO;rw[j];simp only[c_];rw[h2,h];simp only[aE,nZ,c_,asInt,az];rw[d];simp only[nu,Jd]
def lX(K:g.length<=1000)(I:∀a∈g,0<=a/\a<g.length):dF [τ g,τ r]=.ok (τ (yN (bp g.length 0) (g.zip r))):=by
 unfold dF;show BS rfl ?_;show aL [.ro (τ g),.ro (τ r),.ow (aE (bp g.length 0)),.no,.no] (ym (d:=aE (bp g.length 0)) (bG (x:=.lst [.int 0]) (y:=.int (g.length:Int)) rfl (cC (x:=τ g) rfl sI) (rep0 g.length K))) ?_;show gU (λρ=>∃j h:Sv,ρ=[.ro (τ g),.ro (τ r),.ow (aE (yN (bp g.length 0) (g.zip r))),j,h]) ?_ ?_
 .have loop:∀(v:List (Int×Int)) (l:Q0e) (j h:Sv),l.length=g.length->(∀p∈v,0<=p.1/\p.1<g.length) ->∃n m,fX (IL 3 4) (kO 2 (aX gG) eF) (v.map λp=>.tup [.int p.1,.int p.2]) [.ro (τ g),.ro (τ r),.ow (aE l),j,h]=.nx [.ro (τ g),.ro (τ r),.ow (aE (yN l v)),n,m]:=by
   intro v
   induction v with
   |nil=>intro l j h _ _;show⟨j,h,rfl⟩
   |cons p v ih =>
    intro l j h A z;have F:=z p cb;obtain⟨n,m,e⟩:=ih (l.set p.1.toNat p.2) (.ro (.int p.1)) (.ro (.int p.2)) (by rw[dm];show A) λq J=>z q (e_ _ J);show⟨n,m,?_⟩;have L:kO 2 (aX gG) eF [.ro (τ g),.ro (τ r),.ow (aE l),.ri p.1,.ri p.2]=.nx [.ro (τ g),.ro (τ r),.ow (aE (l.set p.1.toNat p.2)),.ri p.1,.ri p.2]:=TZ rfl rfl rfl F.1 (by rw[A];show F.2);rw[bo];unfold fX
    show(match kO 2 (aX gG) eF [.ro (τ g),.ro (τ r),.ow (aE l),.ri p.1,.ri p.2] with
     |.nx ρ2=>fX (IL 3 4) (kO 2 (aX gG) eF) (v.map λp:Int×Int=>D.tup [.int p.1,.int p.2]) ρ2
     |o=>o)=_
    rw[L];show e
  obtain⟨j,h,e⟩:=loop (g.zip r) (bp g.length 0) .no .no ig λp z=>I p.1 (sr z).1;have it:LZ (aA b8 (aV 1)) (gF [.ro (τ g),.ro (τ r),.ow (aE (bp g.length 0)),.no,.no])=aa ((g.zip r).map λp=>.tup [.int p.1,.int p.2]):=by unfold LZ;rw[args2 (x:=τ g) (y:=τ r) rfl rfl];show ZQ
  show⟨_,DA _ it e,j,h,rfl⟩
 .rintro _ ⟨j,h,rfl⟩;show gA _ (cC (x:=aE (yN (bp g.length 0) (g.zip r))) rfl rfl) rfl
theorem uL:∀(w l:Q0e),l.length=fl.length->(∀a∈w,0<=a/\a<fl.length)->(∀j:Nat,j<fl.length->(j:Int)∉w->η l j=η fl j)->yN l (w.zip (w.map (η fl)))=fl
 |[],l,hl,_,h=>ZK hl λj d=>h j (by rw[<- hl];show d) ie
 |a::w,l,hl,hw,h=>by
  have o:=hw a cb;show yN (l.set a.toNat (η fl a)) (w.zip (w.map (η fl)))=fl;show uL w _ (by rw[dm];show hl) (λb n=>hw b (e_ _ n)) λj d m=>?_;rw[MN ∅];by_cases e:j=a.toNat
  .rw [Z_ e,show(a:Int)=(j:Int) by lia]
  .rw [Zz e];show h j d λz=>by
    rcases bh.1 z with z|z
    .exact e ∅
    .exact m z
def T4{fl w:Q0e}(j:w.Perm (bE 0 fl.length))(d:w.Pairwise (Lk fl)):sortI fl=w.map (η fl):=by
 show SN ?_ ?_
 .refine (j.map (η fl)).trans ?_;have:(bE 0 fl.length).map (η fl)=fl:=by
   show Be λi=>?_;rw[cf];by_cases hi:i<fl.length
   .rw [kR hi,bx hi];show aa ((fl[(0+(i:Int)).toNat]?).getD 0)=_;rw[show(0+(i:Int)).toNat=i by lia,bx hi];rfl
   .rw [km (by rw[aN];lia),km ∅];rfl
  rw[this]
 .rw [si];show a2n ?_ d;intro a b h;unfold Lk at h;lia
def kU:g8:=bZ 5 2
  (aH (kA 2 (eU aG))
  (aH (eM (b9 (aA (cK bU (aV 0)) aG)) (n6 3)
   (aH (nV 4 (cN 1 [2,0] (b9 (aA (cK bU (aV 0)) aG)) (g1 0) (qD (tV (aB (xN ae) b8 cV)) (tV (cK allM (aA (cN 1 [1] (cQ (aB cZ dQ b8)) (g1 0) dM (aB (xN ag) b8 cV)) aG)))) b8))
   (sX (qO 2 n5 (aX (aB cZ gG (aB e8 (aB cZ cV eF) (cK bU (aV 4)))))))))
  (bI (cK d8 (aV 2)))))
def jH:g8:=bZ 5 3
  (aH (aO 3 (aF LL.dR (aA b8 (aV 1))))
  (aH (aO 4 (aB cZ (aF LL.iF (aA eF (aA (eI 1) (aV 2)))) (eI 0)))
  (aH (eO (tV (aB CV (aB e8 gG (eI 4)) (eI 2)))
   (bI (eI 0))
   dE)
  (aH (eO (tV (aB j9 (aB e8 gG (eI 4)) (eI 2)))
   (bI (aB bX (eI 1) (aB e8 (aB l8 gG (eI 4)) (eI 3))))
   dE)
  (bI (aF LL.eD (aA eF (aA (aB i7 (eI 10) (eI 58)) (aV 2)))))))))
def kW:g8:=bZ 8 5
  (aH (kA 5 (aB repLM (eU (aA (eC (.int 0)) aG)) (cK bU (aA (aS 2) aG))))
  (aH (eM (cQ (aS 3)) (n6 6)
   (aH (mC 7 (mB (cK BE (aA (aB bX (eU (aA (eC (.int 1)) aG)) (cN 1 [5,6] (cQ (aB cZ (aS 2) (aS 6))) (g1 0) dM (aB bX (aB cZ (aS 1) (aS 0)) (cK CW (aA (aB n9 (aS 0) (aS 2)) aG))))) aG))))
   (kO 5 (aX (aB bX (aS 7) (aF LL.jH (aA (aS 0) (aA (aB bX (aS 1) (aS 6)) (aA (aB bX (aS 4) (aB mulM (eC (.int 1009)) (aS 6))) aG)))))) (aS 6))))
  (bI (cK d8 (aA (aS 5) aG)))))
def Gg(x:Q0a)(w:Q0e):Prop:=w.length=x.length /\∀u t v,w=u++t::v->t∈aJ x u
section
variable{x:Q0a}
theorem T5(m:Ord.Rows x)(v:x.length<=9)(p:benv 1 [2,0] ρ=[af,aa W,aa (aK x)])(o:W=aE w)(n:aS 0 ρ=aa (aK x)):
  cN 1 [2,0] (b9 (aA (cK bU (aV 0)) aG)) (g1 0) (qD (tV (aB (xN ae) (aS 0) (aS 1))) (tV (cK allM (aA (cN 1 [1] (cQ (aB cZ (aS 2) (aS 0))) (g1 0) dM (aB (xN ag) (aS 0) (aS 1))) aG)))) (aS 0) ρ=aa (aE (aJ x w)):=by
 subst o;show gI ((bE 0 x.length).map D.int) (MA (cC n d6) ∅) (by rw[az,aN];lia) ?_;rw[p];have e:aJ x w=(bE 0 x.length).filter λb=>!w.contains b&&(row x b).all λl=>w.contains l:=by unfold aJ;rw[List.filter_filter];show Jj λa _=>Bool.and_comm _ _
 rw[e];show fM D.int (λb=>!w.contains b&&(row x b).all λl=>w.contains l) D.int _ λb j=>⟨[aa (.int b),aa (aE w),aa (aK x)],rfl,?_,λ_=>rfl⟩;have j:=bF.1 j;have q:=yG.Ga m (c:=b) ∅ ∅;show Gb (b:=!w.contains b) (f6 (bG rfl rfl rV) rfl) (λh=>?_) λh=>by rw[h];rfl
 rw[h,wu];show f6 (d:=.bl ((row x b).all λl=>w.contains l)) (cC (x:=.lst (((row x b).map λl=>w.contains l).map D.bl)) ?_ ?_) rfl
 .rw [dh];show gI ((row x b).map D.int) ?_ (by rw[az];lia) ?_
  .unfold cQ;rw[bG (g:=cZ) (a:=aS 2) (b:=aS 0) (x:=aK x) (y:=.int b) rfl rfl (DF ∅ ∅)];rfl
  .exact eB D.int (λl=>.bl (w.contains l)) _ λl _=>⟨[aa (.int l),aa (aE w)],rfl,bG rfl rfl rV⟩
 .rw [m7];simp[qg,a3E]
def ZR(p:Ord.Rows x)(I:x.length<=9)(L:x.length<=dr.length):∃w,Gg x w/\kU [aK x,aE dr]=.ok (τ w):=by
 have main:∃d,kU [aK x,aE dr]=.ok d /\∃w,Gg x w/\d=τ w:=by
  unfold kU;show lV rfl ?_;show aL [.ro (aK x),.ro (aE dr),.ow (aE []),.no,.no] rfl ?_;show gU (λρ=>∃(w:Q0e) (l j:Sv),Gg x w/\ρ=[.ro (aK x),.ro (aE dr),.ow (aE w),l,j]) ?_ ?_
  .refine oG x.length (λi ρ=>∃(w:Q0e) (l j:Sv),w.length=i/\(∀u t v,w=u++t::v->t∈aJ x u)/\ρ=[.ro (aK x),.ro (aE dr),.ow (aE w),l,j]) (args1 (cC (x:=aK x) rfl d6)) ∅ ⟨[],.no,.no,rfl,(λu t v e=>by cases u<;>cases e),rfl⟩ (λi ρ hi ⟨w,l,j,n,h2,e⟩=>?_) λρ ⟨w,l,j,n,h2,e⟩=>⟨w,l,j,⟨n,h2⟩,e⟩;subst e;show⟨[.ro (aK x),.ro (aE dr),.ow (aE w),.ri i,j],rfl,?_⟩;have nd:=mH h2;obtain⟨t,A⟩:=TK p (a:=w) nd ∅;have K:0<(aJ x w).length:=a2a A;show lI [.ro (aK x),.ro (aE dr),.ow (aE w),.ri i,.ro (aE (aJ x w))] (aF0 ((aJ x w).map D.int) (T5 p I (W:=aE w) rfl rfl rfl) (jE _) rfl) ?_;have o:=jz (η dr i) (show((aJ x w).length:Int)≠0 by lia);have m1:=lx (η dr i) (show(0:Int)<(aJ x w).length by lia);have F:η (aJ x w) (η dr i%((aJ x w).length:Int))∈aJ x w:=by unfold η;rw[bx (by unfold η at o m1;lia)];show md _
   show⟨_,Dx (d:=.int (η (aJ x w) (η dr i%((aJ x w).length:Int)))) (ds:=w.map D.int) ?_ rfl (by rw[az];lia),w++[η (aJ x w) (η dr i%((aJ x w).length:Int))],.ri i,.ro (aE (aJ x w)),by simp[n],λu t v e=>?_,?_⟩
   .exact bG (x:=aE (aJ x w)) (y:=.int (η dr i%((aJ x w).length:Int))) rfl (binI (x:=(η dr i)) (y:=((aJ x w).length:Int)) (bG (x:=aE dr) (y:=.int i) rfl rfl (yI ∅ ∅)) (cC (x:=aE (aJ x w)) rfl ZP) (bV ∅)) (yI o m1)
   .rcases wg v with z|⟨m,q,z⟩
    .subst z;have:=Bi e rfl;rw[<- this.1];have J:η (aJ x w) (η dr i%((aJ x w).length:Int))=t:=(Bh this.2).1;rw[<- J];show F
    .subst z;rw[Jp] at e;have:=Bi (e.trans (show u++t::(m++[q])=(u++t::m)++[q] by simp)) rfl;show h2 u t m this.1
   .unfold aE;rw[gq];rfl
  .rintro _ ⟨w,l,j,h,rfl⟩;show gA (τ w) (cC (x:=aE w) rfl rfl) ⟨w,h,rfl⟩
 obtain⟨d,e,w,h,rfl⟩:=main;show⟨w,h,e⟩
def yO(h:f ρ=.rt d):aH f g ρ=.rt d:=by unfold aH;rw[h]
def GF(ns:Q0e)(a t:Int):∃v:Int,0<=v/\v<=10^58/\jH [.j5 ns,.int a,.int t]=.ok (.int v):=by
 obtain⟨c,F⟩:=lK ns a;obtain⟨xs,z,q,ex⟩:=rY c 1 t (by decide) (by decide);obtain⟨d,rfl⟩:∃d,xs=[d]:=by
  match xs,z with
  |[d],_=>show⟨d,rfl⟩
 obtain⟨r,p,o,A⟩:=oI c t (most:=10^58) (by decide);unfold jH;have j:∀{ρ:dZ},ρ[4]?=aa (aa (.int d))->aB e8 (aS 4) (eI 4) ρ=aa (.int (d%4)):=λ{ρ} h=>binI (x:=d) (y:=4) (by unfold aS;rw[h];rfl) rfl (bV (by decide));have I:∀ρ,aB i7 (eI 10) (eI 58) ρ=aa (.int (10^58)):=λρ=>by rw[qV ρ (by decide+kernel)];rfl
 have s3:aO 3 (aF LL.dR (aA (aS 0) (aV 1))) (dD 5 [.j5 ns,.int a,.int t])=.nx [.ro (.j5 ns),.ri a,.ri t,.ri c,.no]:=c8 (.int c) (bW rfl rfl F) rfl;have s4:aO 4 (aB cZ (aF LL.iF (aA (aS 3) (aA (eI 1) (aV 2)))) (eI 0)) [.ro (.j5 ns),.ri a,.ri t,.ri c,.no]=.nx [.ro (.j5 ns),.ri a,.ri t,.ri c,.ri d]:=c8 (.int d) (bG (x:=aE [d]) (y:=.int 0) (cR rfl rfl rfl ex) rfl (rW (k:=0) rfl)) rfl;by_cases m:d%4<2
 .exact ⟨0,by lia,by decide,eQ rfl (b7 _ s3 (b7 _ s4 (yO (mE (f6 (d:=.bl (Zv (d%4<2))) (binI (x:=(d%4)) (y:=2) (j rfl) rfl rfl) (by rw[Zx m];rfl)) (d9 rfl)))))⟩
 .have l:(eO (tV (aB CV (aB e8 (aS 4) (eI 4)) (eI 2))) (bI (eI 0)) dE) [.ro (.j5 ns),.ri a,.ri t,.ri c,.ri d]=.nx [.ro (.j5 ns),.ri a,.ri t,.ri c,.ri d]:=fA (f6 (d:=.bl (Zv (d%4<2))) (binI (x:=(d%4)) (y:=2) (j rfl) rfl rfl) (by rw[Zy m];rfl)) rfl;by_cases h2:d%4=2
  .refine ⟨1+d/4%3,by lia,?_,eQ rfl (b7 _ s3 (b7 _ s4 (b7 _ l (yO (mE (f6 (d:=.bl (Zv (d%4=2))) (binI (x:=(d%4)) (y:=2) (j rfl) rfl rfl) (by rw[Zx h2];rfl)) (d9 (binI (x:=1) (y:=(d/4%3)) rfl (binI (x:=(d/4)) (y:=3) (binI (x:=d) (y:=4) rfl rfl (iQ (by decide) (by decide))) rfl (bV (by decide))) rfl)))))))⟩;have:(3:Int)<=10^58:=by decide
   lia
  .have n:(eO (tV (aB j9 (aB e8 (aS 4) (eI 4)) (eI 2))) (bI (aB bX (eI 1) (aB e8 (aB l8 (aS 4) (eI 4)) (eI 3)))) dE) [.ro (.j5 ns),.ri a,.ri t,.ri c,.ri d]=.nx [.ro (.j5 ns),.ri a,.ri t,.ri c,.ri d]:=fA (f6 (d:=.bl (Zv (d%4=2))) (binI (x:=(d%4)) (y:=2) (j rfl) rfl rfl) (by rw[Zy h2];rfl)) rfl;show⟨r,p,Jy o,eQ rfl (b7 _ s3 (b7 _ s4 (b7 _ l (b7 _ n (d9 (cR rfl (I _) rfl A))))))⟩
theorem MQ:∀(l:Q0e) (a:Int),(a<=kB (a::l)) /\∀b∈l,b<=kB (a::l)
 |[],a=>⟨lr _,λb h=>(nomatch h)⟩
 |c::l,a=>by
  have d:=MQ l (if a<c then c else a);have e:kB (a::c::l)=kB ((if a<c then c else a)::l):=rfl;rw[e];show⟨?_,λb j=>?_⟩
  .have:=d.1;split at this<;>split<;>lia
  .rcases bh.1 j with z|z
   .subst z;have:=d.1;split at this<;>split<;>lia
   .exact d.2 b z
def OQ(J:Ord.Rows x)(hn:x.length<=9)(hw:Gg x w)(ns:Q0e)(k s:Int):∃fl:Q0e,fl.length=x.length/\(∀v∈fl,1<=v/\v<=10^60)/\rs x fl=ae/\kW [.j5 ns,.int k,aK x,τ w,.int s]=.ok (τ fl):=by
 have nd:=mH hw.2;have main:∃d,kW [.j5 ns,.int k,aK x,τ w,.int s]=.ok d /\∃fl:Q0e,fl.length=x.length/\(∀v∈fl,1<=v/\v<=10^60)/\rs x fl=ae/\d=τ fl:=by
  unfold kW;show lV rfl ?_;show aL [.ro (.j5 ns),.ri k,.ro (aK x),.ro (τ w),.ri s,.ow (aE (bp x.length 0)),.no,.no] (ym (d:=aE (bp x.length 0)) (bG (x:=.lst [.int 0]) (y:=.int (x.length:Int)) rfl (cC (x:=aK x) rfl d6) (rep0 _ ∅))) ?_;show gU (λρ=>∃(fl:Q0e) (v6 v7:Sv),(fl.length=x.length/\(∀v∈fl,1<=v/\v<=10^60)/\rs x fl=ae)/\ρ=[.ro (.j5 ns),.ri k,.ro (aK x),.ro (τ w),.ri s,.ow (aE fl),v6,v7]) ?_ ?_
  .refine oF (w.map D.int) (λi ρ=>∃(fl:Q0e) (v6 v7:Sv),(fl.length=x.length/\(∀t∈w.take i,(1<=η fl t/\η fl t<=i*(10^58+1)) /\∀a∈row x t,Lx fl a t))/\ρ=[.ro (.j5 ns),.ri k,.ro (aK x),.ro (τ w),.ri s,.ow (aE fl),v6,v7]) rfl ⟨_,_,_,⟨ig,λt h=>(nomatch h)⟩,rfl⟩ (λi d ρ K ⟨l,v6,v7,⟨I,h2⟩,e⟩=>?_) λρ ⟨fl,v6,v7,⟨I,h2⟩,e⟩=>⟨fl,v6,v7,⟨I,?_,?_⟩,e⟩
   .subst e;rw[cf] at K;obtain⟨b,U,rfl⟩:∃b,w[i]?=aa b/\D.int b=d:=by
     cases e:w[i]? with
     |none=>rw[e] at K;cases K
     |some y=>rw[e] at K;show⟨y,rfl,cx K⟩
    have hi:i<w.length:=(cg.mp U).1;have hwi:i<9:=by rw[hw.1] at hi;lia
    have sp:w=w.take i++b::w.drop (i+1):=by have:=List.getElem_cons_drop (as:=w) (i:=i) hi;rw[(cg.mp U).2] at this;rw[this,a1Z]
    have n:=uJ.1 (hw.2 _ b _ sp);show⟨[.ro (.j5 ns),.ri k,.ro (aK x),.ro (τ w),.ri s,.ow (aE l),.ri b,v7],rfl,?_⟩
    let ups:=(row x b).map λa=>η l a+(if b<a then 1 else 0)
    have hrl:=yG.Ga J n.1.1 n.1.2;have em:cK BE (aA (aB bX (eU (aA (eI 1) aG)) (cN 1 [5,6] (cQ (aB cZ (aS 2) (aS 6))) (g1 0) dM (aB bX (aB cZ (aS 1) (aS 0)) (cK CW (aA (aB n9 (aS 0) (aS 2)) aG))))) aG) (bD [.ro (.j5 ns),.ri k,.ro (aK x),.ro (τ w),.ri s,.ow (aE l),.ri b,v7])=aa (.int (kB (1::ups))):=by
     show cC (x:=aE (1::ups)) (bG (x:=aE [1]) (y:=aE ups) rfl (gI ((row x b).map D.int) ?_ (by rw[az];lia) ?_) ?_) ?_
     .unfold cQ;rw[bG (g:=cZ) (a:=aS 2) (b:=aS 6) (x:=aK x) (y:=.int b) rfl rfl (DF n.1.1 n.1.2)];rfl
     .rw [dh];show eB D.int (D.int∘λa=>η l a+(if b<a then 1 else 0)) (row x b) λa p=>⟨[aa (.int a),aa (aE l),aa (.int b)],rfl,?_⟩;have A:=yG.yH J n.1.1 n.1.2 p;show binI (x:=(η l a)) (y:=(if b<a then 1 else 0)) (bG (x:=aE l) (y:=.int a) rfl rfl (yI A.1 ∅)) (cC (x:=.bl (Zv (b<a))) (binI (x:=a) (y:=b) rfl rfl rfl) ?_) rfl;show aa (D.int (if Zv (b<a)=ae then 1 else 0))=_;simp
     .unfold aE;show(yB ?_).trans rfl;rw[az,az,az];show 1+_<=_;lia
     .unfold aE;show((intsOf ((1::ups).map D.int)).bind λns=>if ns=[] then af else aa (D.int (kB ns)))=_;rw[dI];rfl
    generalize hm:kB (1::ups)=m at em;have g:=MQ ups 1;rw[hm] at g;have mm:m∈1::ups:=hm▸TL (ns:=1::ups) (by simp);have mle:m<=(i:Int)*(10^58+1)+1:=by
     have z:(0:Int)<=(i:Int)*(10^58+1):=a2u ∅ (by decide);rcases bh.1 mm with q|q
     .omega
     .obtain ⟨a,p,rfl⟩:=gi.1 q;have:=(h2 a (n.2.2 a p)).1;split<;>lia
    show lI [.ro (.j5 ns),.ri k,.ro (aK x),.ro (τ w),.ri s,.ow (aE l),.ri b,.ri m] (GB (.int m) em rfl rfl) ?_;obtain⟨v,v0,v1,ev⟩:=GF ns (k+b) (s+1009*b);have e1:kO 5 (aX (aB bX (aS 7) (aF jH (aA (aS 0) (aA (aB bX (aS 1) (aS 6)) (aA (aB bX (aS 4) (aB mulM (eI 1009) (aS 6))) aG)))))) (aS 6) [.ro (.j5 ns),.ri k,.ro (aK x),.ro (τ w),.ri s,.ow (aE l),.ri b,.ri m]=.nx [.ro (.j5 ns),.ri k,.ro (aK x),.ro (τ w),.ri s,.ow (aE (l.set b.toNat (m+v))),.ri b,.ri m]:=by show TZ (v:=m+v) (kk:=b) ?_ rfl rfl n.1.1 (by rw[I];show n.1.2);unfold aX;rw[binI (x:=m) (y:=v) (z:=aa (.int (m+v))) rfl (cR (x:=.j5 ns) (y:=.int (k+b)) (z:=.int (s+1009*b)) rfl (binI (x:=k) (y:=b) rfl rfl rfl) (binI (x:=s) (y:=(1009*b)) rfl (binI (x:=1009) (y:=b) rfl rfl rfl) rfl) ev) rfl];rfl
    have O:b.toNat<l.length:=by lia
    have keep:∀t:Int,0<=t->η (l.set b.toNat (m+v)) t=if t=b then m+v else η l t:=λt L=>by
     have:=MN (v:=m+v) O t.toNat;rw[show((t.toNat:Nat):Int)=t by lia] at this;rw[this];by_cases q:t=b
     .rw [Z_ ∅,Z_ q]
     .rw [Zz ∅,Zz q]
    show⟨_,e1,l.set b.toNat (m+v),.ri b,.ri m,⟨by rw[dm];show I,λt L=>?_⟩,rfl⟩;have Z:((i+1:Nat):Int)*(10^58+1)=(i:Int)*(10^58+1)+(10^58+1):=by rw[a2r,wt];lia
    rw[Ir,U] at L;rcases gn.1 L with q|q
    .have F:=nd.2 t (List.mem_of_mem_take q);have ne:t≠b:=λz=>n.2.1 (by rw[<- z];show q);have o:=h2 t q;show⟨?_,λa p=>?_⟩
     .rw [keep t F.1,Zz ne];lia
     .have A:=yG.yH J F.1 F.2 p;obtain⟨p1,p2,ep⟩:=qf q;have X:a∈w.take i:=by have:=(uJ.1 (hw.2 p1 t (p2++b::w.drop (i+1)) (sp.trans (by rw[ep];simp)))).2.2 a p;rw[ep];show gj _ this
      have ne2:a≠b:=λz=>n.2.1 (by rw[<- z];show X);have:=o.2 a p;unfold Lx at this ⊢;rw[keep t F.1,Zz ne,keep a A.1,Zz ne2];show this
    .have q:t=b:=by simpa using q
     subst q;show⟨?_,λa p=>?_⟩
     .rw [keep t n.1.1,Z_ rfl];lia
     .have A:=yG.yH J n.1.1 n.1.2 p;have ne2:a≠t:=λz=>n.2.1 (by rw[<- z];show n.2.2 a p);have:=g.2 _ (gi.2 ⟨a,p,rfl⟩);unfold Lx;rw[keep t n.1.1,Z_ rfl,keep a A.1,Zz ne2];split at this<;>lia
   .intro v hv;rw[az,a1Y] at h2;obtain⟨j,hj,rfl⟩:=Ba hv;have:=(h2 (j:Int) (pR hw.1 hw.2 ∅ ∅)).1;have e:η fl (j:Int)=fl[j]:=by unfold η;rw[jn,bx hj];rfl
    rw[e] at this;have z:(w.length:Int)*(10^58+1)<=9*(10^58+1):=Bj (by rw[hw.1];lia) (by decide);have y:(9:Int)*(10^58+1)<=10^60:=by decide
    lia
   .rw [az,a1Y] at h2;show(TH J).2 λb b0 b1 a p=>(h2 b (pR hw.1 hw.2 b0 b1)).2 a p
  .rintro _ ⟨fl,v6,v7,⟨I,h2,Y⟩,rfl⟩;show gA (τ fl) (cC (x:=aE fl) rfl rfl) ⟨fl,I,h2,Y,rfl⟩
 obtain⟨d,e,fl,I,h2,Y,rfl⟩:=main;show⟨fl,I,h2,Y,e⟩
def OR(j:Ord.Rows x)(o:fl.length=x.length)(h:rs x fl=ae):Gg x (uK fl):=by
 obtain⟨d,m⟩:=GC fl;have rr:=(TH j).1 h;show⟨by rw[d.length_eq,aN];show o,λu t v e=>?_⟩;have nd:(uK fl).Nodup:=d.nodup_iff.2 (JH _);have p:=bF.1 (d.mem_iff.1 (show t∈uK fl by rw[e];simp));show uJ.2 ⟨by lia,λq=>?_,λl a=>?_⟩
 .rw [e,sy] at nd;show nd.2.2 t q t cb rfl
 .have y:=yG.yH j (c:=t) ∅ ∅ a;have n:l∈uK fl:=d.mem_iff.2 (bF.2 ∅);have lt:=rr t ∅ ∅ l a;rw[e] at n m;rcases gn.1 n with q|q
  .exact q
  .exfalso;rcases bh.1 q with z|z
   .subst z;unfold Lx at lt;lia
   .have:=(fq.1 (Ax.1 m).2.1).1 l z;unfold Lx at lt;unfold Lk at this;lia
end
theorem qX{g:Int->Int}(d:∀t,0<=g t):∀L:Q0e,0<=(L.map g).sum
 |[]=>lr 0
 |a::L=>by have:=qX d L;have:=d a;rw[bo,ib];lia
theorem BV:∀(L:Q0e) (d j:Int),d<=j->j<d+(L.map g).sum ->∃u t v,L=u++t::v/\d+(u.map g).sum<=j/\j<d+(u.map g).sum+g t
 |[],d,j,h1,h2=>by simp at h2;lia
 |a::L,d,j,h1,h2=>by
  rw[bo,ib] at h2;by_cases h:j<d+g a
  .exact ⟨[],a,L,rfl,by simpa using h1,by simpa using h⟩
  .obtain ⟨u,t,v,e,q1,q2⟩:=BV (g:=g) L (d+g a) j ∅ ∅;show⟨a::u,t,v,by rw[e];rfl,?_,?_⟩<;>rw[bo,ib]<;>lia
theorem filter_lt{u v:Q0e}{t:Int}(h:(u++t::v).Pairwise (·<·)):(u++t::v).filter (λs=>Zv (s<t))=u:=by
 obtain⟨_,h2,l⟩:=Ax.1 h;have j:=(fq.1 h2).1;rw[Jk,we,Zz (by simp)];have n:u.filter (λs=>Zv (s<t))=u:=a2g.2 λa d=>by simpa using l a d t cb
 have m:v.filter (λs=>Zv (s<t))=[]:=a2h.2 λa d=>by have:=j a d;simp;lia
 rw[n,m,iu]
section
variable(x:Q0a)(R:List Int->Int)
def Gn:Nat->List Int->Int
 |0,b=>R b
 |m+1,b=>((aJ x b).map λt=>Gn m (b++[t])).sum
def qJ(m:Nat)(b:Q0e)(t:Int):Int:=(((aJ x b).filter λs=>Zv (s<t)).map λs=>Gn x R m (b++[s])).sum
def gK(b:Q0e):List Int->Int
 |[]=>0
 |t::w=>qJ x R w.length b t+gK (b++[t]) w
def Way(b:Q0e):List Int->Prop
 |[]=>True
 |t::w=>t∈aJ x b/\Way (b++[t]) w
end
section
variable{x:Q0a}{R:List Int->Int}
def ZS(n:Nat):(bE 0 n).Pairwise (·<·):=by unfold bE;show tu _ (λa b h=>by lia) Ja
def pS(b:Q0e):(aJ x b).Pairwise (·<·):=wj _ (wj _ (ZS x.length))
theorem MR(a:∀w,0<=R w):∀(m:Nat) (b:Q0e),0<=Gn x R m b
 |0,b=>a b
 |m+1,b=>qX (λt=>MR a m (b++[t])) _
def ZT(p:∀w,0<=R w){m:Nat}{b:Q0e}{a:Int}(y:0<=a)(q:a<Gn x R (m+1) b):∃t u v,aJ x b=u++t::v/\qJ x R m b t<=a/\a<qJ x R m b t+Gn x R m (b++[t])/\(aJ x b).filter (λs=>Zv (qJ x R m b s<=a))=u++[t]:=by
 have l:∀t,0<=Gn x R m (b++[t]):=λt=>MR p m _;obtain⟨u,t,v,e,q1,q2⟩:=BV (g:=λt=>Gn x R m (b++[t])) (aJ x b) 0 a y (by rw[jy];show q);have inc:=pS (x:=x) b;have h:∀{u t v},aJ x b=u++t::v->qJ x R m b t=(u.map λs=>Gn x R m (b++[s])).sum:=λ{u t v} e=>by unfold qJ;rw[e] at inc ⊢;rw[filter_lt inc]
 have A:=h e;show⟨t,u,v,e,by lia,by lia,?_⟩;rw[e] at inc;have z:u.filter (λs=>Zv (qJ x R m b s<=a))=u:=a2g.2 λs d=>by obtain⟨u1,u2,rfl⟩:=qf d;have:=h (u:=u1) (t:=s) (v:=u2++t::v) (by rw[e];simp);have o:=qX l (s::u2);rw[gq,wa] at q1;simp only[decide_eq_true_eq];lia
 have ev:v.filter (λs=>Zv (qJ x R m b s<=a))=[]:=a2h.2 λs d=>by obtain⟨j,n,rfl⟩:=qf d;have:=h (u:=u++t::j) (t:=s) (v:=n) (by rw[e];simp);have o:=qX l j;rw[gq,wa,bo,ib] at this;simp only[decide_eq_true_eq];lia
 rw[e,Jk,we,Z_ (by simp only[decide_eq_true_eq];lia),z,ev]
theorem yP(d:∀w,0<=R w):∀(w b:Q0e),Way x b w->0<=gK x R b w/\gK x R b w+R (b++w)<=Gn x R w.length b
 |[],b,_=>by rw[iu];show⟨lr 0,by show 0+R b<=R b;lia⟩
 |t::w,b,h=>by
  obtain⟨p,j⟩:=yP d w (b++[t]) h.2;rw[om] at j;have a:∀t,0<=Gn x R w.length (b++[t]):=λt=>MR d _ _;obtain⟨u,v,e⟩:=qf h.1;have inc:=pS (x:=x) b;have q:qJ x R w.length b t=(u.map λs=>Gn x R w.length (b++[s])).sum:=by unfold qJ;rw[e] at inc ⊢;rw[filter_lt inc]
  have o:=qX a u;have n:=qX a v;have m:Gn x R (w.length+1) b=(u.map λs=>Gn x R w.length (b++[s])).sum+(Gn x R w.length (b++[t])+(v.map λs=>Gn x R w.length (b++[s])).sum):=by show((aJ x b).map λt=>Gn x R w.length (b++[t])).sum=_;rw[e,gq,wa,bo,ib]
  show⟨?_,?_⟩
  .show 0<=qJ x R w.length b t+gK x R (b++[t]) w;lia
  .show qJ x R w.length b t+gK x R (b++[t]) w+R (b++t::w)<=Gn x R (w.length+1) b;rw[m];have l:gK x R (b++[t]) w+R (b++t::w)<=Gn x R w.length (b++[t]):=j;lia
theorem T6(d:∀w,0<=R w):∀(w z b:Q0e),w.length=z.length->Way x b w->Way x b z->fK w z=ae->gK x R b w+R (b++w)<=gK x R b z
 |[],[],_,_,_,_,h=>by cases h
 |s::w,t::z,b,hl,hw,hz,h=>by
  have a:w.length=z.length:=by simpa using hl
  by_cases e:s=t
  .subst e;have o:fK w z=ae:=by unfold fK at h;rwa [Z_ rfl] at h
   have:=T6 d w z (b++[s]) a hw.2 hz.2 o;rw[om] at this;show qJ x R w.length b s+gK x R (b++[s]) w+R (b++s::w)<=qJ x R z.length b s+gK x R (b++[s]) z;rw[a];have J:gK x R (b++[s]) w+R (b++s::w)<=gK x R (b++[s]) z:=this;lia
  .have p:s<t:=by unfold fK at h;rw[Zz e] at h;simpa using h
   obtain⟨_,j⟩:=yP d w (b++[s]) hw.2;obtain⟨h2,_⟩:=yP d z (b++[t]) hz.2;rw[om] at j;have A:∀t,0<=Gn x R z.length (b++[t]):=λt=>MR d _ _;have inc:=pS (x:=x) b;have key:qJ x R z.length b s+Gn x R z.length (b++[s])<=qJ x R z.length b t:=by
    obtain⟨u,v,e⟩:=qf hz.1;have y:s∈u:=by
     have l:=hw.1;rw[e] at l inc;obtain⟨_,n,_⟩:=Ax.1 inc;rcases gn.1 l with q|q
     .exact q
     .rcases bh.1 q with q|q
      .omega
      .have:=(fq.1 n).1 s q;lia
    obtain⟨u1,u2,m⟩:=qf y;have L:qJ x R z.length b t=(u.map λs=>Gn x R z.length (b++[s])).sum:=by unfold qJ;rw[e] at inc ⊢;rw[filter_lt inc]
    have K:qJ x R z.length b s=(u1.map λs=>Gn x R z.length (b++[s])).sum:=by
     have I:aJ x b=u1++s::(u2++t::v):=by rw[e,m];simp
     unfold qJ;rw[I] at inc ⊢;rw[filter_lt inc]
    rw[L,K,m,gq,wa,bo,ib];have:=qX A u2;lia
   show qJ x R w.length b s+gK x R (b++[s]) w+R (b++s::w)<=qJ x R z.length b t+gK x R (b++[t]) z;rw[a] at j ⊢;have F:gK x R (b++[s]) w+R (b++s::w)<=Gn x R z.length (b++[s]):=j;lia
theorem sJ:∀(m:Nat) (a:Q0e) (l j:Int),(m:Int)<j->SF x m a l j=0
 |0,a,l,j,h=>Zz ∅
 |m+1,a,l,j,h=>by have e:(λt=>SF x m (bN a t) t (j-if t<l then 1 else 0))=λ_=>0:=funext λt=>sJ m _ _ _ (by split<;>lia);show((aJ x a).map _).sum=0;rw[e,iU]
def aCp(m:Nat)(a:Q0e)(h:l<=0):SF x (m+1) a l ((m:Int)+1)=0:=by
 show((aJ x a).map λt=>SF x m (bN a t) t ((m:Int)+1-if t<l then 1 else 0)).sum=0;have e:(aJ x a).map (λt=>SF x m (bN a t) t ((m:Int)+1-if t<l then 1 else 0))=(aJ x a).map λ_=>0:=gk λt d=>by have:=(jF d).1.1;rw[Zz ∅];show sJ m _ _ _ ∅
 rw[e,iU]
theorem oR(f:Nat->Int)(N:Nat):∀M:Nat,(∀d,N<=d->d<N+M->f d=0)->((b_ (N+M)).map f).sum=((b_ N).map f).sum
 |0,_=>rfl
 |M+1,h=>by rw[show N+(M+1)=(N+M)+1 by lia,a14,gq,wa,oR f N M λd a h2=>h d a ∅];show _+(f (N+M)+0)=_;rw[h (N+M) ∅ ∅];lia
theorem T7(W:Int->Int):∀(m:Nat) (b:Q0e) (N:Nat),m+1<=N->Gn x (λw=>W (dl (-1) w)) m b=((b_ N).map λd:Nat=>SF x m b (lO b) (d:Int)*W (dl (-1) b+(d:Int))).sum
 |0,b,N,hN=>by obtain⟨M,rfl⟩:∃M,N=1+M:=⟨N-1,by lia⟩;rw[oR _ 1 M λd o _=>by show(if(d:Int)=0 then 1 else 0)*_=0;rw[Zz ∅,qh]];show W (dl (-1) b)=1*W (dl (-1) b+((0:Nat):Int))+0;rw[Jv,wq];congr 1;lia
 |m+1,b,N,hN=>by
  show((aJ x b).map λt=>Gn x (λw=>W (dl (-1) w)) m (b++[t])).sum=_;have e:∀d:Nat,SF x (m+1) b (lO b) (d:Int)*W (dl (-1) b+(d:Int))=((aJ x b).map λt=>SF x m (b++[t]) t ((d:Int)-if t<lO b then 1 else 0)*W (dl (-1) b+(d:Int))).sum:=λd=>by show((aJ x b).map λt=>SF x m (bN b t) t ((d:Int)-if t<lO b then 1 else 0)).sum*_=_;rw[mn,<- BQ];show congrArg n_ (gk λt _=>?_);rw[mn,yK m (a:=bN b t) (b:=b++[t]) t _ λu=>by rw[yJ];simp]
  have n:((b_ N).map λd:Nat=>SF x (m+1) b (lO b) (d:Int)*W (dl (-1) b+(d:Int)))=(b_ N).map λd:Nat=>((aJ x b).map λt=>SF x m (b++[t]) t ((d:Int)-if t<lO b then 1 else 0)*W (dl (-1) b+(d:Int))).sum:=gk λd _=>e d;rw[n,BP];show congrArg n_ (gk λt _=>?_);have l:lO (b++[t])=t:=by unfold lO;simp
  have j:dl (-1) (b++[t])=dl (-1) b+if t<lO b then 1 else 0:=ML (-1) b t
  by_cases h:t<lO b
  .rw [Z_ h] at j;simp only[Z_ h];obtain⟨M,rfl⟩:∃M,N=M+1:=⟨N-1,by lia⟩;rw[T7 W m (b++[t]) M ∅,I_,bo,ib,dh,l,j,JK m _ _ _ ∅,qh,jy];show congrArg n_ (gk λd _=>?_);show _=SF x m (b++[t]) t (((d+1:Nat):Int)-1)*W (dl (-1) b+((d+1:Nat):Int));rw[show((d+1:Nat):Int)-1=(d:Int) by lia,show dl (-1) b+((d+1:Nat):Int)=dl (-1) b+1+(d:Int) by lia]
  .rw [Zz h] at j;simp only[Zz h];rw[T7 W m (b++[t]) N ∅,l,j];show congrArg n_ (gk λd _=>?_);rw[Jt,wq]
def iN(b:Q0e):Int:=b.getLast?.getD 0
def yQ(x:Q0a)(b:Q0e):Prop:=∀u t v,b=u++t::v->t∈aJ x u
def yQ.snoc(h:yQ x b)(l:t∈aJ x b):yQ x (b++[t]):=by
 intro u s r e;rcases wg r with a|⟨j,c,a⟩
 .subst a;obtain⟨m,d⟩:=Bi e rfl;rw[<- m];injection d with d _;rw[<- d];show l
 .subst a;have n:b++[t]=(u++s::j)++[c]:=by rw[e];simp
  show h u s j (Bi n rfl).1
def yQ.front(h:yQ x (b++[t])):yQ x b/\t∈aJ x b:=⟨λu s r e=>h u s (r++[t]) (by rw[e];simp),h b t [] rfl⟩
def yQ.ok(h:yQ x b):ZC x b:=mH h
def OS(b:Q0e)(t:Int):bN (sortI b) t=sortI (b++[t]):=by unfold bN;show uH ((sortI_perm _).trans (((sortI_perm b).append_right [t]).trans (sortI_perm _).symm)) (iS _) (iS _)
theorem T8(h:gW x kd)(j:(bR kd.1 kd.2 (kS [] 0)).isSome=ae):∀(n:Nat) (b:Q0e),b.length=n->yQ x b->(bR kd.1 kd.2 (kS (sortI b) (iN b))).isSome=ae
 |0,b,hl,_=>by rw[Jn hl];show j
 |n+1,b,hl,hb=>by
  rcases wg b with e|⟨u,t,e⟩
  .rw [e] at hl;cases hl
  .rw [Jp] at e;subst e;obtain⟨m,o⟩:=hb.front;have d:u.length=n:=by rw[cy] at hl;simpa using hl
   have l:=T8 h j n u d m;have a:=sC hb.ok;rw[cy] at a;have a:u.length+1<=x.length:=a;have p:t∈aJ x (sortI u):=by rw[vI λs=>(sortI_perm u).mem_iff];show o
   have:=h.2.2.2 (sortI u) (iN u) l (by rw[(sortI_perm u).length_eq];lia) t p;rw[OS] at this;have q:iN (u++[t])=t:=by unfold iN;simp
   rw[q];show this
theorem T9(a:gW x kd)(l:(bR kd.1 kd.2 (kS [] 0)).isSome=ae)(j:yQ x b):bR kd.1 kd.2 (kS (sortI b) (iN b))=aa (aE (Sh x (x.length-b.length) (sortI b) (iN b))):=by
 have h:=T8 a l b.length b rfl j
 cases e:bR kd.1 kd.2 (kS (sortI b) (iN b)) with
 |none=>rw[e] at h;cases h
 |some d =>
  have:=a.2.2.1 _ _ d e;rw[(sortI_perm b).length_eq] at this;rw[this]
end
end LL
namespace MS
open L3 L4 YL LL
def sL{l:Q0e}{i:Nat}(h:i<l.length):η l i=l[i]:=by unfold η;rw[jn,bx h];rfl
def nX(d N:Q0e):List Int:=(bE 0 d.length).map λa=>η N (d.idxOf a)
def UA(d N:Q0e):(nX d N).length=d.length:=by unfold nX;rw[az,aN]
def ZU{d N:Q0e}(nd:d.Nodup)(n:∀a∈d,0<=a/\a<(d.length:Int)){p:Nat}(l:p<d.length):η (nX d N) (d[p])=η N p:=by have h:=n d[p] (md l);obtain⟨j,m⟩:∃j:Nat,d[p]=(j:Int):=⟨d[p].toNat,by lia⟩;rw[m];unfold nX;rw[ZL ∅,<- m,Jr nd p l]
def UB{d N:Q0e}(nd:d.Nodup)(h:∀a∈d,0<=a/\a<(d.length:Int))(hN:N.length=d.length):d.map (η (nX d N))=N:=by show Jm (by rw[az,hN]) λp j h2=>?_;rw[qe,ZU nd h ∅,sL h2]
end MS
namespace bH
open L3 L4
def fB:g8:=bZ 1 1
  (bI (cK d8 (aA (cN 1 [0] (b9 (aA (aB dH (cK bU (aV 0)) (eI 1)) aG)) (g1 0) (tV (aB n9 (aB cZ cV b8) (aB cZ cV (aB bX b8 (eI 1))))) b8) aG)))
def aR:g8:=bZ 1 1
  (eO (tV (aB CV b8 (eI 0)))
   (g9 (aA (eC (.str "k is below 0")) aG) "NoNumber")
   dE)
def iV:g8:=bZ 2 2
  (bI (aB dH (aB dH (aB bX cV (cK bU (aV 0))) (eI 1)) (cK bU (aA (aF fB (aV 0)) aG))))
def bL:g8:=bZ 2 2
  (aH (sX (aX (aF aR (aV 1))))
  (bI (aF LL.fY (aA (aF iV (aA b8 (aV 1))) (aA (cK bU (aV 0)) aG)))))
def fC:g8:=bZ 2 2
  (bI (aB dH cV (cK bU (aA (aF fB (aA (xS b8 wM (oE (aB bX cV (eI 1)))) aG)) aG))))
def fG:g8:=bZ 6 3
  (aH (aO 3 (aB dH cV (eI 1)))
  (aH (aO 4 b8)
  (aH (R6 R5 (tV (aB n9 (aB dH gG eF) (eI 1)))
   (aH (aO 5 (aB l8 (aB bX eF gG) (eI 2)))
   (eO (tV (aB AO (aF LL.fY (aA jA (aV 1))) dQ))
    (aO 3 jA)
    (aO 4 jA))))
  (bI eF))))
def aP:g8:=bZ 9 3
  (aH (aO 3 (aF bL (aA b8 (aV 1))))
  (aH (eO (jD (tV (fP AO CV (eI 0) dQ eF)))
   (g9 (aA (eC (.str "no row has this number")) aG) "NoNumber")
   dE)
  (aH (aO 4 (aF iV (aA b8 (aV 1))))
  (aH (aO 5 (aB dH (aB dH eF (eI 1)) dQ))
  (aH (aO 6 gG)
  (aH (kA 7 (eU aG))
  (aH (tX (eM (b9 (aA (cK bU (aV 0)) aG)) (n6 8)
   (aH (aO 6 (aF fG (aA m3 (aA (aB dH (cK bU (aV 0)) YN) (aV 5)))))
   (aH (aO 5 (aB dH jA (aF LL.fY (aA m3 (aA (aB dH (cK bU (aV 0)) YN) aG)))))
   (sX (qO 7 n5 (aX (aB dH (aB dH gG m3) (aF fC (aA b8 (aV 8)))))))))))
  (bI (cK d8 (aV 7))))))))))
def iW:g8:=bZ 3 3
  (aH (eO (tV dQ)
   (bI (aB CV (aB cZ b8 cV) (aB cZ b8 (aB bX cV (eI 1)))))
   dE)
  (bI (aB AO (aB cZ b8 cV) (aB cZ b8 (aB bX cV (eI 1))))))
def iG:g8:=bZ 4 3
  (aH (eO (vE (tV (aB OH (cK bU (aV 2)) (cK bU (aV 0)))) (jD (tV (cK allM (aA (cN 1 [1] (cQ dQ) (g1 0) dM (fP AO AO (eI 1) b8 cV)) aG)))))
   (bI (eC (.bl ag)))
   dE)
  (aH (aO 3 (aF fB (aV 0)))
  (bI (cK allM (aA (cN 1 [2,3] (b9 (aA (aB dH (cK bU (aV 2)) (eI 1)) aG)) (g1 0) dM (aF iW (aA cV (aA b8 (aA (aB (xN ag) b8 dQ) aG))))) aG)))))
def bM:g8:=bZ 8 3
  (aH (aO 3 (aF bL (aA b8 (aV 1))))
  (aH (eO (jD (tV (aF iG (aA b8 (aA cV (aV 2))))))
   (g9 (aA (eC (.str "no row of the going")) aG) "NoRow")
   dE)
  (aH (aO 4 (aF iV (aA b8 (aV 1))))
  (aH (aO 5 (eI 0))
  (aH (tX (eM (l9 (aV 2)) (IL 6 7)
   (aO 5 (aB bX jA (aF LL.fY (aA (aB dH (aB dH gG vD) (aF fC (aA b8 (aV 6)))) (aA (aB dH (cK bU (aV 2)) m3) aG)))))))
  (bI (aB dH (aB dH eF (eI 1)) jA)))))))
def gL:g8:=bZ 2 1
  (aH (aO 1 (eC (.str "NoThing Looped NoOrder NoNumber TooGreat NoGoing NoRow NoFilling NotLoose NotForest NoShape")))
  (aH (aO 1 (aB bX (aS 1) (eC (.str " NoName NoLine"))))
  (aH (eO (vE (tV (aB OH (aB wN (aS 0) (eC (.bl ae))) (eC (.int 2)))) (jD (tV (aB cZ (aS 0) (eC (.int 13))))))
   (bI (eC (.str "other")))
   dE)
  (bI (aB cZ (aB splitM (aS 1) (eC (.str " "))) (aB wQ (aS 0) (eC (.bl ae))))))))
open YL LL
def run_eq(a:ds.length=np)(h:Rt (b (dD n ds)) λe=>e=d):bZ n np b ds=.ok d:=by obtain⟨d',e,rfl⟩:=lV a h;show e
def kD(hw:w.length<=1000):fB [τ w]=.ok (τ (sH w)):=by unfold fB;show eQ rfl (d9 (cC (x:=aE (sH w)) (Ui (.inl rfl) hw rfl rfl) rfl))
def bA(w:Q0e)(k:Int):Int:=k+w.length-1-(sH w).length
def gS(w:Q0e)(i:Nat):Int:=i-(sH (w.take (i+1))).length
def dS:bU [τ l]=aa (.int l.length):=by unfold τ;rw[kQ,az]
def JN(hw:w.length<=1000):iV [τ w,.int k]=.ok (.int (bA w k)):=by unfold iV;show eQ rfl (d9 ?_);show bG (x:=.int (k+w.length-1)) (y:=.int (sH w).length) (binI (x:=(k+w.length)) (y:=1) (binI (x:=k) (y:=w.length) rfl (cC (x:=τ w) rfl dS) rfl) rfl rfl) (cC (x:=τ (sH w)) (fF rfl (kD hw)) dS) rfl
def kJ(h:0<=k):aR [.int k]=.ok .non:=by have e:(eO (tV (aB CV b8 (eI 0))) (g9 (aA (eC (.str "k is below 0")) aG) "NoNumber") dE) (dD 1 [D.int k])=.nx [.ri k]:=fA (f6 (d:=.bl (Zv (k<0))) (binI (x:=k) (y:=0) rfl rfl rfl) (by rw[Zy ∅];rfl)) rfl;unfold aR bZ;rw[Z_ (show[D.int k].length=1 from rfl),e]
def DM(hw:w.length<=12)(h:0<=k)(a:Bg 210 (bA w k)):bL [τ w,.int k]=.ok (.int (C (bA w k) w.length)):=by unfold bL;show eQ rfl (b7 [.ro (τ w),.ri k] ?_ (d9 (bW (x:=.int (bA w k)) (y:=.int w.length) (bW rfl rfl (JN ∅)) (cC (x:=τ w) rfl dS) (kH a hw))));unfold sX aX;rw[fF (x:=.int k) (d:=.non) rfl (kJ h)];rfl
def GG{w:Q0e}{i:Nat}(h:i<w.length):(w.take (i+1)).length=i+1:=by rw[kj];lia
abbrev gT:TF:=tV (aB n9 (aB dH gG eF) (eI 1))
abbrev gB:SF:=aH (aO 5 (aB l8 (aB bX eF gG) (eI 2)))
   (eO (tV (aB AO (aF LL.fY (aA jA (aV 1))) dQ))
    (aO 3 jA)
    (aO 4 jA))
theorem ZV{m:Nat}(X:1<=m)(L:m<=12){bd most:Int}:∀(p N:Nat) (low high:Int) (a:Sv),p<N->low<high->high-low<=2^p->(m:Int)<=low+1->C low m<=most->most<C high m->Bg 210 high ->
  ∃x h' o,fQ gT gB N [.ri bd,.ri m,.ri most,.ri low,.ri high,a]=.nx [.ri bd,.ri m,.ri most,.ri x,h',o]/\Pick m most x/\x<high:=by
 intro p
 induction p with
 |zero =>
  intro N low high a hN z q h l j F;obtain⟨N,rfl⟩:∃n,N=n+1:=⟨N-1,by lia⟩;have e:high=low+1:=by rw[show(2:Int)^0=1 from rfl] at q;lia
  show⟨low,.ri high,a,?_,⟨h,l,by rw[<- e];show j⟩,z⟩;have t:gT (bD [.ri bd,.ri m,.ri most,.ri low,.ri high,a])=aa ag:=f6 (d:=.bl (Zv (1<high-low))) (binI (x:=(high-low)) (y:=1) rfl rfl rfl) (by rw[Zy ∅];rfl);unfold fQ;rw[t]
 |succ p ih =>
  intro N low high a hN z q h l j F;obtain⟨N,rfl⟩:∃n,N=n+1:=⟨N-1,by lia⟩;by_cases K:1<high-low
  .have t:gT (bD [.ri bd,.ri m,.ri most,.ri low,.ri high,a])=aa ae:=f6 (d:=.bl (Zv (1<high-low))) (binI (x:=(high-low)) (y:=1) rfl rfl rfl) (by rw[Zx K];rfl);have U:(2:Int)^(p+1)=2*2^p:=by rw[Ju,mn]
   rw[U] at q;generalize (2:Int)^p=P at q ih;have m1:low<(low+high)/2:=by lia
   have O:(low+high)/2<high:=by lia
   have bm:Bg 210 ((low+high)/2):=by unfold Bg at F ⊢;lia
   have I:aO 5 (aB l8 (aB bX eF gG) (eI 2)) [.ri bd,.ri m,.ri most,.ri low,.ri high,a]=.nx [.ri bd,.ri m,.ri most,.ri low,.ri high,.ro (.int ((low+high)/2))]:=c8 (.int ((low+high)/2)) (binI (x:=(low+high)) (y:=2) rfl rfl (iQ (by decide) (by decide))) rfl;by_cases A:C ((low+high)/2) m<=most
   .obtain ⟨x,h',o,e,v,J⟩:=ih N ((low+high)/2) high (.ro (.int ((low+high)/2))) ∅ O ∅ ∅ A j F;show⟨x,h',o,?_,v,J⟩;have b:gB [.ri bd,.ri m,.ri most,.ri low,.ri high,a]=.nx [.ri bd,.ri m,.ri most,.ro (.int ((low+high)/2)),.ri high,.ro (.int ((low+high)/2))]:=b7 _ I (mE (f6 (d:=.bl (Zv (C ((low+high)/2) m<=most))) (binI (x:=(C ((low+high)/2) m)) (y:=most) (bW rfl rfl (kH bm L)) rfl rfl) (by rw[Zx A];rfl)) rfl);unfold fQ;rw[t];dsimp only;rw[b];show e
   .obtain ⟨x,h',o,e,v,J⟩:=ih N low ((low+high)/2) (.ro (.int ((low+high)/2))) ∅ m1 ∅ h l ∅ bm;show⟨x,h',o,?_,v,by lia⟩;have b:gB [.ri bd,.ri m,.ri most,.ri low,.ri high,a]=.nx [.ri bd,.ri m,.ri most,.ri low,.ro (.int ((low+high)/2)),.ro (.int ((low+high)/2))]:=b7 _ I (fA (f6 (d:=.bl (Zv (C ((low+high)/2) m<=most))) (binI (x:=(C ((low+high)/2) m)) (y:=most) (bW rfl rfl (kH bm L)) rfl rfl) (by rw[Zy A];rfl)) rfl);unfold fQ;rw[t];dsimp only;rw[b];show e
  .refine ⟨low,.ri high,a,?_,⟨h,l,by rw[show low+1=high by lia];show j⟩,z⟩;have t:gT (bD [.ri bd,.ri m,.ri most,.ri low,.ri high,a])=aa ag:=f6 (d:=.bl (Zv (1<high-low))) (binI (x:=(high-low)) (y:=1) rfl rfl rfl) (by rw[Zy K];rfl);unfold fQ;rw[t]
def yR{m:Nat}(o:1<=m)(l:m<=12){bd most:Int}(d:Bg 210 bd)(v:0<=most)(a:most<C bd m)(n:(m:Int)<=bd):∃x,fG [.int bd,.int m,.int most]=.ok (.int x)/\Pick m most x/\x<bd:=by unfold fG;have q:C ((m:Int)-1) m=0:=DJ ∅ ∅;obtain⟨x,h',p,e,h,j⟩:=ZV o l (bd:=bd) (most:=most) 210 R5 ((m:Int)-1) bd .no (by decide) ∅ (by unfold Bg at d;lia) ∅ ∅ a d;show⟨x,eQ rfl (b7 [.ri bd,.ri m,.ri most,.ro (.int ((m:Int)-1)),.no,.no] rfl (b7 [.ri bd,.ri m,.ri most,.ro (.int ((m:Int)-1)),.ri bd,.no] rfl (b7 _ e (d9 rfl)))),h,j⟩
def yS{w:Q0e}{i:Nat}(h:i<w.length):slM (τ w) af (aa ((i:Int)+1))=aa (τ (w.take (i+1))):=by show aa (D.tup (vW (w.map D.int) af (aa ((i:Int)+1))))=_;unfold vW OJ τ;dsimp only;rw[Zz ∅];rw[oj,az,ny,show min ((i:Int)+1).toNat w.length=i+1 by lia,Az]
theorem oM{w:Q0e}{i:Nat}(hw:w.length<=1000)(h:i<w.length):fC [τ w,.int i]=.ok (.int (gS w i)):=by unfold fC;show eQ rfl (d9 ?_);show bG (x:=.int i) (y:=.int (sH (w.take (i+1))).length) rfl (cC (x:=τ (sH (w.take (i+1)))) (fF (x:=τ (w.take (i+1))) ?_ (kD (by rw[GG h];lia))) dS) rfl;unfold xS;show(slM (τ w) af (aa ((i:Int)+1)))=_;show yS h
noncomputable def fS(w:Q0e)(t:Int):Nat->List Int->List Int
 |_,[]=>[]
 |i,a::c=>(t-a-gS w i)::fS w t (i+1) c
theorem gX(w:Q0e)(t:Int):∀(i:Nat) (c:Q0e),(fS w t i c).length=c.length
 |_,[]=>rfl
 |i,a::c=>by show(fS w t (i+1) c).length+1=_;rw[gX w t (i+1) c];rfl
theorem GH(w:Q0e)(t a:Int):∀(i:Nat) (c:Q0e),fS w t i (c++[a])=fS w t i c++[t-a-gS w (i+c.length)]
 |i,[]=>rfl
 |i,b::c=>by show(t-b-gS w i)::fS w t (i+1) (c++[a])=_;rw[GH w t a (i+1) c,show i+1+c.length=i+(b::c).length by simp only[cn];lia];rfl
def JO(h:Nx (f ρ) Q):Nx (tX f ρ) Q:=by obtain⟨a,e,q⟩:=h;show⟨a,by unfold tX;rw[e],q⟩
def DN(j:a ρ=aa x)(h:b ρ=aa y)(d:c ρ=aa w)(l:f x y=aa (.bl ae))(h2:g y w=aa z):fP f g a b c ρ=aa z:=by unfold fP;rw[j,h,d];simp only[c_,l,qG,if_true,h2]
def UC(h:a ρ=aa x)(d:b ρ=aa y)(j:f x y=aa (.bl ag)):fP f g a b c ρ=aa (.bl ag):=by unfold fP;rw[h,d];simp only[c_,j,qG];rfl
def yO(h:f ρ=.rt d):aH f g ρ=.rt d:=by unfold aH;rw[h]
def Ug(a:0<=x)(h:0<C x m):(m:Int)<=x:=by show mw λq=>?_;rw[DJ a ∅] at h;lia
def UD(d:0<=x)(h:x<=y)(a:Bg 210 y):Bg 210 x:=by unfold Bg at a ⊢;lia
theorem OT{w:Q0e}{k N:Int}(hw:w.length<=9)(h0:0<=k)(F:Bg 210 (bA w k))(ht:w.length=0\/0<=bA w k)(hN:0<=N)(O:N<C (bA w k) w.length):
  ∃c:Q0e,c.length=w.length/\Gd c (C (bA w k) w.length-1-N)/\aP [τ w,.int k,.int N]=.ok (τ (fS w (bA w k) 0 c)):=by
 generalize U:C (bA w k) w.length=M at O ⊢;have q:=DM ∅ h0 F;rw[U] at q;have main:∃d,aP [τ w,.int k,.int N]=.ok d /\∃c:Q0e,c.length=w.length/\Gd c (M-1-N)/\d=τ (fS w (bA w k) 0 c):=by
  unfold aP;show lV rfl ?_;show aL [.ro (τ w),.ri k,.ri N,.ri M,.no,.no,.no,.no,.no] (c8 (.int M) (bW rfl rfl q) rfl) ?_;show aL [.ro (τ w),.ri k,.ri N,.ri M,.no,.no,.no,.no,.no] (fA (AQ (b:=ae) (f6 (d:=.bl ae) ?_ rfl) rfl) rfl) ?_
  .exact DN (x:=.int 0) (y:=.int N) (w:=.int M) rfl rfl rfl (show aa (D.bl (Zv (0<=N)))=_ by rw[Zx hN]) (show aa (D.bl (Zv (N<M)))=_ by rw[Zx O])
  show aL [.ro (τ w),.ri k,.ri N,.ri M,.ro (.int (bA w k)),.no,.no,.no,.no] (c8 (.int (bA w k)) (bW rfl rfl (JN ∅)) rfl) ?_;show aL [.ro (τ w),.ri k,.ri N,.ri M,.ro (.int (bA w k)),.ro (.int (M-1-N)),.no,.no,.no] rfl ?_;show aL [.ro (τ w),.ri k,.ri N,.ri M,.ro (.int (bA w k)),.ro (.int (M-1-N)),.ro (.int (bA w k)),.no,.no] rfl ?_;show aL [.ro (τ w),.ri k,.ri N,.ri M,.ro (.int (bA w k)),.ro (.int (M-1-N)),.ro (.int (bA w k)),.ow (aE []),.no] rfl ?_;show gU (λρ=>∃(c:Q0e) (J v6 a:Sv),c.length=w.length/\Gd c (M-1-N)/\ρ=[.ro (τ w),.ri k,.ri N,.ri M,.ro (.int (bA w k)),J,v6,.ow (aE (fS w (bA w k) 0 c)),a]) (JO ?_) ?_
  .refine oG w.length (λi ρ=>∃(c:Q0e) (L B:Int) (a:Sv),c.length=i/\(w.length=0\/0<=L)/\L<=bA w k/\0<=B/\B<C L (w.length-i)/\(∀r:Q0e,r.length=w.length-i->Gd r B->Gd (c++r) (M-1-N))/\ρ=[.ro (τ w),.ri k,.ri N,.ri M,.ro (.int (bA w k)),.ri B,.ri L,.ow (aE (fS w (bA w k) 0 c)),a]) (args1 (cC (x:=τ w) rfl dS)) ∅ ⟨[],bA w k,M-1-N,.no,rfl,ht,lr _,by lia,by rw[ny,U];lia,λr _ h=>h,rfl⟩ (λi ρ hi ⟨c,L,B,a,p,o,Z,X,Y,A,e⟩=>?_) λρ ⟨c,L,B,a,p,o,Z,X,Y,A,e⟩=>⟨c,_,_,a,p,by have:=A [] (by simp) trivial;rwa [iu] at this,e⟩;subst e;have o:0<=L:=by lia
   obtain⟨m,q⟩:∃m:Nat,w.length-i=m+1:=⟨w.length-i-1,by lia⟩;have Lm:=Ug o (show 0<C L (w.length-i) by lia);obtain⟨x,ex,K,hx⟩:=yR (m:=w.length-i) ∅ ∅ (UD o Z F) X Y Lm;obtain⟨p1,p2,p3⟩:=id K;have l:0<=x:=by lia
   have n:aB dH (cK bU (aV 0)) YN [aa (τ w),aa (.int k),aa (.int N),aa (.int M),aa (.int (bA w k)),aa (.int B),aa (.int L),af,aa (.int i)]=aa (.int ((w.length-i:Nat):Int)):=binI (x:=w.length) (y:=i) (cC (x:=τ w) rfl dS) rfl (by rw[Jw ∅];rfl);have j:aB dH (cK bU (aV 0)) YN [aa (τ w),aa (.int k),aa (.int N),aa (.int M),aa (.int (bA w k)),aa (.int B),aa (.int x),af,aa (.int i)]=aa (.int ((w.length-i:Nat):Int)):=binI (x:=w.length) (y:=i) (cC (x:=τ w) rfl dS) rfl (by rw[Jw ∅];rfl);show⟨[.ro (τ w),.ri k,.ri N,.ri M,.ro (.int (bA w k)),.ri B,.ri L,.ow (aE (fS w (bA w k) 0 c)),.ri i],rfl,?_⟩;show lI [.ro (τ w),.ri k,.ri N,.ri M,.ro (.int (bA w k)),.ri B,.ri x,.ow (aE (fS w (bA w k) 0 c)),.ri i] (c8 (.int x) (cR (x:=.int L) (y:=.int ((w.length-i:Nat):Int)) (z:=.int B) rfl n rfl ex) rfl) ?_;show lI [.ro (τ w),.ri k,.ri N,.ri M,.ro (.int (bA w k)),.ro (.int (B-C x (w.length-i))),.ri x,.ow (aE (fS w (bA w k) 0 c)),.ri i] (c8 (.int (B-C x (w.length-i))) (binI (x:=B) (y:=(C x (w.length-i))) rfl (bW (x:=.int x) (y:=.int ((w.length-i:Nat):Int)) rfl j (kH (UD l ∅ F) ∅)) rfl) rfl) ?_;have hst:C (x+1) (w.length-i)=C x (w.length-i)+C x (w.length-(i+1)):=by rw[q,show w.length-(i+1)=m by lia];have:=nA x m;lia
   show⟨_,Dx (d:=.int (bA w k-x-gS w i)) (ds:=(fS w (bA w k) 0 c).map D.int) (binI (x:=(bA w k-x)) (y:=(gS w i)) rfl (bW rfl rfl (oM ∅ hi)) rfl) rfl (by rw[az,gX];lia),c++[x],x,B-C x (w.length-i),.ri i,by simp[p],.inr l,by lia,by lia,by lia,λr hr v=>?_,?_⟩
   .have:=A (x::r) (by simp only[cn];lia) ⟨by rw[show r.length+1=w.length-i by lia];show K,by rw[show r.length+1=w.length-i by lia];show v⟩
    rwa [om]
   .rw [GH,p,ki];unfold aE;rw[gq];rfl
  .rintro _ ⟨c,J,v6,a,I,h2,rfl⟩;show gA (τ (fS w (bA w k) 0 c)) (cC (x:=aE (fS w (bA w k) 0 c)) rfl m5) ⟨c,I,h2,rfl⟩
 obtain⟨d,e,c,I,h2,rfl⟩:=main;show⟨c,I,h2,e⟩
def GI{w:Q0e}{i:Nat}{k:Int}(a:0<=k)(h:k<=i):η (w.take (i+1)) k=η w k:=by unfold η;rw[Bd ∅]
def yT(h:i<w.length):sH (w.take (i+1))=(bE 0 i).filter λk=>Zv (η w k>η w (k+1)):=by unfold sH;rw[GG h,show(((i+1:Nat):Int)-1).toNat=i by lia];show Jj λk a=>?_;have:=bF.1 a;rw[GI ∅ ∅,GI ∅ ∅]
def fl(w:Q0e)(i:Nat):Int:=if η w i>η w ((i:Int)+1) then 1 else 0
def UE(h:0<w.length):gS w 0=0:=by unfold gS;rw[yT h];rfl
def yU(h:i+1<w.length):gS w (i+1)=gS w i+1-fl w i:=by
 unfold gS fl;rw[yT h,yT ∅,BI,Jk,cy,jy];by_cases c:η w i>η w ((i:Int)+1)
 .rw [Z_ c,List.filter_cons_of_pos (by simpa using c)];simp only[a2f,cn,gr];lia
 .rw [Zz c,List.filter_cons_of_neg (by simpa using c)];simp only[a2f,gr];lia
def GJ(h:0<w.length):bA w k-gS w (w.length-1)=k:=by unfold bA gS;rw[show w.length-1+1=w.length by lia,r_ (bj _)];lia
theorem Fs(w:Q0e)(i:Nat):0<=fl w i/\fl w i<=1:=by unfold fl;split<;>lia
noncomputable def OU(w:Q0e)(k:Int):Nat->Int->List Int->Prop
 |_,_,[]=>True
 |i,lo,e::r=>lo<=e/\e<=k/\OU w k (i+1) (e+fl w i) r
theorem MT:∀(r:Q0e) (i:Nat) (lo:Int),i+r.length=w.length->OU w k i lo r->Dec (bA w k-lo-gS w i+1) (fS w (bA w k) i r)
 |[],_,_,_,_=>trivial
 |e::r,i,lo,a,⟨h1,h2,h3⟩=>by
  have a:i+(r.length+1)=w.length:=a;have d:=MT r (i+1) (e+fl w i) ∅ h3;show⟨by lia,?_,?_⟩
  .rw [gX]
   cases r with
   |nil =>
    have:=GJ (w:=w) (k:=k) ∅;rw[show w.length-1=i by simp only[gr] at a;lia] at this;simp only[gr];lia
   |cons f r =>
    obtain⟨g1,g2,_⟩:=d;rw[gX] at g2;have:=yU (w:=w) (i:=i) (by simp only[cn] at a;lia);simp only[cn];lia
  .cases r with
   |nil=>trivial
   |cons f r =>
    have:=yU (w:=w) (i:=i) (by simp only[cn] at a;lia);rw[show bA w k-e-gS w i=bA w k-(e+fl w i)-gS w (i+1)+1 by lia];show d
theorem MU:∀(c:Q0e) (i:Nat) (lo:Int),i+c.length=w.length->Dec (bA w k-lo-gS w i+1) c->OU w k i lo (fS w (bA w k) i c) /\∀a∈c.head?,bA w k-a-gS w i<=k
 |[],_,_,_,_=>⟨trivial,λa h=>(nomatch h)⟩
 |a::c,i,lo,m,⟨h1,h2,h3⟩=>by
  have m:i+(c.length+1)=w.length:=m
  cases c with
  |nil =>
   have:=GJ (w:=w) (k:=k) ∅;rw[show w.length-1=i by simp only[gr] at m;lia] at this;simp only[gr] at h2;have j:bA w k-a-gS w i<=k:=by lia
   show⟨⟨by lia,j,trivial⟩,λb l=>by cases l;show j⟩
  |cons b c =>
   have d:i+1+(b::c).length=w.length:=by lia
   have p:=yU (w:=w) (i:=i) (by simp only[cn] at d;lia);have n:=MU (k:=k) (b::c) (i+1) (bA w k-a-gS w i+fl w i) d (by
    rw[show bA w k-(bA w k-a-gS w i+fl w i)-gS w (i+1)+1=a by lia];show h3)
   have l:=n.2 b rfl;have q:=Fs w i;have o:b<a:=h3.1;have j:bA w k-a-gS w i<=k:=by lia
   show⟨⟨by lia,j,n.1⟩,λb l=>by cases l;show j⟩
theorem jI(w:Q0e)(t:Int):∀(i:Nat) (c:Q0e),fS w t i (fS w t i c)=c
 |_,[]=>rfl
 |i,a::c=>by show(t-(t-a-gS w i)-gS w i)::fS w t (i+1) (fS w t (i+1) c)=_;rw[jI w t (i+1) c,show t-(t-a-gS w i)-gS w i=a by lia]
theorem GK(w:Q0e)(t:Int):∀(r:Q0e) (i j:Nat) (e:Int),r[j]?=aa e->(fS w t i r)[j]?=aa (t-e-gS w (i+j))
 |[],_,_,_,h=>by cases h
 |a::r,i,0,e,h=>by cases h;rfl
 |a::r,i,j+1,e,h=>by have:=GK w t r (i+1) j e h;rw[show i+1+j=i+(j+1) by lia] at this;show this
theorem MV:∀{c:Q0e} {t:Int} {j:Nat} {a:Int},Dec t c->c[j]?=aa a->0<=a/\a<t
 |[],_,_,_,_,h=>by cases h
 |b::c,t,0,a,⟨h1,h2,h3⟩,h=>by cases h;show⟨by lia,h1⟩
 |b::c,t,j+1,a,⟨h1,h2,h3⟩,h=>by have:=MV h3 (show c[j]?=aa a from h);lia
def ZW{c:Q0e}{j:Nat}{a:Int}(h:c[j]?=aa a):rk (c.drop j)=C a (c.length-j)+rk (c.drop (j+1)):=by obtain⟨d,e⟩:=cg.1 h;rw[tq d,e];show C a ((c.drop (j+1)).length+1)+_=_;rw[wb,show c.length-(j+1)+1=c.length-j by lia]
theorem AU{w r:Q0e}{k:Int}(hw:w.length<=9)(O:0<=k)(F:Bg 210 (bA w k))(K:iG [τ w,.int k,τ r]=.ok (.bl ae))(v:r.length=w.length)(z:Dec (bA w k) (fS w (bA w k) 0 r)):
  bM [τ w,.int k,τ r]=.ok (.int (C (bA w k) w.length-1-rk (fS w (bA w k) 0 r))):=by
 have J:=DM ∅ O F;generalize X:C (bA w k) w.length=M at J ⊢;generalize A:fS w (bA w k) 0 r=c at z ⊢;have n:c.length=w.length:=by rw[<- A,gX,v]
 unfold bM;show run_eq rfl ?_;show aL [.ro (τ w),.ri k,.ro (τ r),.ri M,.no,.no,.no,.no] (c8 (.int M) (bW rfl rfl J) rfl) ?_;show aL [.ro (τ w),.ri k,.ro (τ r),.ri M,.no,.no,.no,.no] (fA (AQ (b:=ae) (f6 (d:=.bl ae) (cR rfl rfl rfl K) rfl) rfl) rfl) ?_;show aL [.ro (τ w),.ri k,.ro (τ r),.ri M,.ro (.int (bA w k)),.no,.no,.no] (c8 (.int (bA w k)) (bW rfl rfl (JN ∅)) rfl) ?_;show aL [.ro (τ w),.ri k,.ro (τ r),.ri M,.ro (.int (bA w k)),.ri 0,.no,.no] rfl ?_;show gU (λρ=>∃v6 v7,ρ=[.ro (τ w),.ri k,.ro (τ r),.ri M,.ro (.int (bA w k)),.ro (.int (rk c)),v6,v7]) (JO ?_) λρ ⟨v6,v7,e⟩=>by subst e;show gA _ rfl rfl
 show oF ((r.map D.int).zipIdx.map λp=>.tup [.int (p.2:Int),p.1]) (λj ρ=>∃(B:Int) (v6 v7:Sv),B+rk (c.drop j)=rk c/\ρ=[.ro (τ w),.ri k,.ro (τ r),.ri M,.ro (.int (bA w k)),.ri B,v6,v7]) rfl ⟨0,.no,.no,by rw[oj];lia,rfl⟩ (λj d ρ hd2 ⟨B,v6,v7,o,e⟩=>?_) λρ ⟨B,v6,v7,o,e⟩=>⟨v6,v7,by
  rw[az,a18,az,List.drop_of_length_le ∅] at o;rw[e,<- o];show _=[_,_,_,_,_,Sv.ro (.int (B+0)),_,_];rw[wq]⟩
 subst e;rw[cf,Bc,cf] at hd2;obtain⟨q,L,rfl⟩:=ip.1 hd2;obtain⟨q2,m,rfl⟩:=ip.1 L;obtain⟨a,I,rfl⟩:=ip.1 m;have U:j<r.length:=(cg.1 I).1;have h:c[j]?=aa (bA w k-a-gS w j):=by
  have:=GK w (bA w k) r 0 j a I
  rwa [A,ki] at this
 have l:=MV z h;show⟨[.ro (τ w),.ri k,.ro (τ r),.ri M,.ro (.int (bA w k)),.ri B,.ro (.int (j:Int)),.ri a],by rw[ki];rfl,?_⟩;show uF (.int (B+C (bA w k-a-gS w j) (r.length-j))) (binI (x:=B) (y:=(C (bA w k-a-gS w j) (r.length-j))) rfl (bW (x:=.int (bA w k-a-gS w j)) (y:=.int ((r.length-j:Nat):Int)) (binI (x:=(bA w k-a)) (y:=(gS w j)) rfl (bW rfl rfl (oM ∅ ∅)) rfl) (binI (x:=r.length) (y:=j) (cC (x:=τ r) rfl dS) rfl (by rw[Jw ∅];rfl)) (kH (UD l.1 ∅ F) ∅)) rfl) ⟨_,_,_,?_,rfl⟩;have:=ZW h;rw[n,<- v] at this;lia
def UG(k e:Int):Bool:=Zv (1<=e)&&Zv (e<=k)
def JP(w r:Q0e)(p:Int):Bool:=Zv (η r p+(if η w p>η w (p+1) then 1 else 0)<=η r (p+1))
def isR(w:Q0e)(k:Int)(r:Q0e):Bool:=r.all (UG k)&&(bE 0 ((r.length:Int)-1).toNat).all (JP w r)
def UH(a:0<=p)(h:p<(r.length:Int)):cZ (τ r) (.int p)=aa (.int (η r p)):=by obtain⟨n,rfl⟩:∃n:Nat,p=(n:Int):=⟨p.toNat,by lia⟩;show lJ ?_;rw[nE,bx ∅];rfl
theorem ZX(l:0<=p)(h:p+1<(r.length:Int)):iW [τ r,.int p,.bl b]=.ok (.bl (if b=ae then Zv (η r p<η r (p+1)) else Zv (η r p<=η r (p+1)))):=by
 unfold iW;have j:∀{v:Sv},aB cZ b8 cV (bD [.ro (τ r),.ri p,v])=aa (.int (η r p)):=λ{v}=>bG (x:=τ r) (y:=.int p) rfl rfl (UH l ∅);have a:∀{v:Sv},aB cZ b8 (aB bX cV (eI 1)) (bD [.ro (τ r),.ri p,v])=aa (.int (η r (p+1))):=λ{v}=>bG (x:=τ r) (y:=.int (p+1)) rfl rfl (UH ∅ h)
 cases b with
 |true =>
  show run_eq rfl (pP ?_);show⟨_,mE (f6 (d:=.bl ae) rfl rfl) (d9 (binI (x:=(η r p)) (y:=(η r (p+1))) j a rfl)),rfl⟩
 |false =>
  show eQ rfl (b7 [.ro (τ r),.ri p,.ro (.bl ag)] (fA (f6 (d:=.bl ag) rfl rfl) rfl) (d9 (binI (x:=(η r p)) (y:=(η r (p+1))) j a rfl)))
def ZY(a:0<=p)(h:p+1<(w.length:Int)):(sH w).contains p=Zv (η w p>η w (p+1)):=by rw[oo,List.contains_iff_mem,decide_eq_true_eq];unfold sH;rw[jj,decide_eq_true_eq];show⟨λq=>q.2,λq=>⟨bF.2 ⟨a,by lia⟩,q⟩⟩
def OV(hw:w.length<=9)(q:r.length=w.length):iG [τ w,.int k,τ r]=.ok (.bl (isR w k r)):=by
 unfold iG;have l:∀{v:Sv},cK allM (aA (cN 1 [1] (cQ dQ) (g1 0) dM (fP AO AO (eI 1) b8 cV)) aG) (bD [.ro (τ w),.ri k,.ro (τ r),v])=aa (.bl (r.all (UG k))):=λ{v}=>by
  show cC (x:=.lst ((r.map (UG k)).map D.bl)) ?_ (by rw[m7,qg];rfl);rw[dh];show gI (r.map D.int) rfl (by rw[az];lia) (eB D.int (λe=>.bl (UG k e)) _ λe _=>⟨[aa (.int e),aa (.int k)],rfl,?_⟩);unfold UG;by_cases h:1<=e
  .exact DN (x:=.int 1) (y:=.int e) (w:=.int k) rfl rfl rfl (show aa (D.bl (Zv (1<=e)))=_ by rw[Zx h]) (show aa (D.bl (Zv (e<=k)))=_ by rw[Zx h,wu])
  .rw [Zy h,tw];show UC (x:=.int 1) (y:=.int e) rfl rfl (show aa (D.bl (Zv (1<=e)))=_ by rw[Zy h])
 have ne:∀{v:Sv},tV (aB OH (cK bU (aV 2)) (cK bU (aV 0))) (bD [.ro (τ w),.ri k,.ro (τ r),v])=aa ag:=λ{v}=>f6 (d:=.bl (!Zv ((r.length:Int)=w.length))) (binI (x:=r.length) (y:=w.length) (cC (x:=τ r) rfl dS) (cC (x:=τ w) rfl dS) rfl) (by rw[Zx ∅];rfl);unfold isR;by_cases j:r.all (UG k)=ae
 .rw [j,wu];show eQ rfl (b7 [.ro (τ w),.ri k,.ro (τ r),.no] (fA (qE (b:=ag) ne (λ_=>AQ (b:=ae) (f6 (d:=.bl ae) ((l (v:=.no)).trans (by rw[j])) rfl) rfl) λh=>by cases h) rfl) (b7 [.ro (τ w),.ri k,.ro (τ r),.ro (τ (sH w))] (c8 (τ (sH w)) (fF rfl (kD ∅)) rfl) (d9 ?_)));show cC (x:=.lst (((bE 0 ((r.length:Int)-1).toNat).map (JP w r)).map D.bl)) ?_ (by rw[m7,qg];rfl);rw[dh];show gI ((bE 0 ((r.length:Int)-1).toNat).map D.int) ?_ (by rw[az,aN];lia) (eB D.int (λp=>.bl (JP w r p)) _ λp m=>⟨[aa (.int p),aa (τ r),aa (τ (sH w))],rfl,?_⟩)
  .unfold b9;rw[args1 (x:=.int ((r.length:Int)-1)) (binI (x:=r.length) (y:=1) (cC (x:=τ r) rfl dS) rfl rfl)];show(if _ then _ else _)=_;rw[Z_ ∅]
  .have o:=bF.1 m;have n:=cR (f:=iW) (a:=aS 1) (b:=aS 0) (c:=aB (xN ag) b8 dQ) (ρ:=[aa (.int p),aa (τ r),aa (τ (sH w))]) (x:=τ r) (y:=.int p) (z:=.bl ((sH w).contains p)) rfl rfl (bG rfl rfl pO) (ZX ∅ ∅);rw[n,ZY ∅ ∅];unfold JP;by_cases c:η w p>η w (p+1)
   .rw [Zx c,Z_ rfl,Z_ c];congr 2
   .rw [Zy c,Zz (by decide),Zz c];congr 2;show decide_eq_decide.2 ∅
 .have j:r.all (UG k)=ag:=by simpa using j
  rw[j,tw];show run_eq rfl (pP ⟨_,mE (qE (b:=ag) ne (λ_=>AQ (b:=ag) (f6 (d:=.bl ag) ((l (v:=.no)).trans (by rw[j])) rfl) rfl) λh=>by cases h) (d9 rfl),rfl⟩)
theorem MW:∀(r:Q0e) (i:Nat) (lo:Int),(∀e∈r.head?,lo<=e)->(∀e∈r,e<=k)->(∀(j:Nat) (a b:Int),r[j]?=aa a->r[j+1]?=aa b->a+fl w (i+j)<=b)->OU w k i lo r
 |[],_,_,_,_,_=>trivial
 |e::r,i,lo,h1,h2,h3=>⟨h1 e rfl,h2 e cb,MW r (i+1) (e+fl w i) (λf d=>h3 0 e f rfl (by
   cases r with
   |nil=>cases d
   |cons g r=>cases d;rfl)) (λf d=>h2 f (e_ _ d)) λj a b l h=>by
    have:=h3 (j+1) a b l h
    rwa [show i+(j+1)=i+1+j by lia] at this⟩
theorem DO:∀(r:Q0e) (i:Nat) (lo:Int),OU w k i lo r->(∀e∈r,lo<=e/\e<=k) /\∀(j:Nat) (a b:Int),r[j]?=aa a->r[j+1]?=aa b->a+fl w (i+j)<=b
 |[],_,_,_=>⟨λe h=>(nomatch h),λj a b h=>by cases h⟩
 |e::r,i,lo,⟨h1,h2,h3⟩=>by
  have d:=DO r (i+1) (e+fl w i) h3;have o:=Fs w i;show⟨λf l=>?_,λj a b n m=>?_⟩
  .rcases bh.1 l with z|z
   .subst z;show⟨h1,h2⟩
   .have:=d.1 f z;lia
  .cases j with
   |zero =>
    cases n;have:=(d.1 b (lh m)).1;show this
   |succ j =>
    have:=d.2 j a b n m
    rwa [show i+1+j=i+(j+1) by lia] at this
def MX:isR w k r=ae↔OU w k 0 1 r:=by
 unfold isR;rw[gy,gx,gx];show⟨λ⟨m,h2⟩=>MW r 0 1 (λe d=>?_) (λe d=>?_) λj a b o l=>?_,λh=>⟨λe d=>?_,λp n=>?_⟩⟩
 .have:=m e (List.mem_of_mem_head? d);unfold UG at this;rw[gy,decide_eq_true_eq,decide_eq_true_eq] at this;show this.1
 .have:=m e d;unfold UG at this;rw[gy,decide_eq_true_eq,decide_eq_true_eq] at this;show this.2
 .have v:j+1<r.length:=(cg.1 l).1;have:=h2 (j:Int) (bF.2 ⟨by lia,by lia⟩);unfold JP at this;rw[decide_eq_true_eq,nE,o,show(j:Int)+1=((j+1:Nat):Int) from rfl,nE r,l] at this;rw[ki];show this
 .have:=(DO r 0 1 h).1 e d;unfold UG;rw[gy,decide_eq_true_eq,decide_eq_true_eq];show this
 .have q:=bF.1 n;obtain⟨j,rfl⟩:∃j:Nat,p=(j:Int):=⟨p.toNat,by lia⟩;have:=(DO r 0 1 h).2 j (r[j]'∅) (r[j+1]'∅) (bx _) (bx _);unfold JP;rw[decide_eq_true_eq,nE r,bx ∅,show(j:Int)+1=((j+1:Nat):Int) from rfl,nE r,bx ∅];rw[ki] at this;show this
def aCq(w:Q0e)(a:0<=k):w.length=0\/0<=bA w k:=by
 by_cases h:w.length=0
 .exact .inl h
 .have:(sH w).length<=((w.length:Int)-1).toNat:=by unfold sH;show f_ (lj _ _) ?_;rw[aN];show bj _
  show .inr ?_;unfold bA;lia
theorem BW(d:c.length=w.length):Dec (bA w k-1-gS w 0+1) c↔Dec (bA w k) c:=by
 cases c with
 |nil=>show⟨λ_=>trivial,λ_=>trivial⟩
 |cons a c =>
  rw[UE (by rw[<- d];simp),show bA w k-1-0+1=bA w k by lia]
theorem MY{w:Q0e}{k N:Int}(hw:w.length<=9)(j:0<=k)(m:Bg 210 (bA w k))(hN:0<=N)(a:N<C (bA w k) w.length):
  ∃c:Q0e,c.length=w.length/\Dec (bA w k) c/\rk c=C (bA w k) w.length-1-N/\aP [τ w,.int k,.int N]=.ok (τ (fS w (bA w k) 0 c)):=by
 have d:=aCq w j;obtain⟨c,h,l,e⟩:=OT hw j m d hN a;rcases d with z|z
 .have:c=[]:=qd.1 ∅;subst this;rw[z,lW] at a ⊢;show⟨[],rfl,trivial,by show(0:Int)=_;lia,e⟩
 .obtain ⟨n,o⟩:=Ft l z ∅ (by rw[h];lia);show⟨c,h,o,n,e⟩
def aCr(a:c.length=w.length)(d:Dec (bA w k) c):isR w k (fS w (bA w k) 0 c)=ae:=MX.2 (MU c 0 1 ∅ ((BW a).2 d)).1
def OW{w c:Q0e}{k:Int}(hw:w.length<=9)(j:0<=k)(h:Bg 210 (bA w k))(a:c.length=w.length)(d:Dec (bA w k) c):bM [τ w,.int k,τ (fS w (bA w k) 0 c)]=.ok (.int (C (bA w k) w.length-1-rk c)):=by
 have:=AU (r:=fS w (bA w k) 0 c) hw j h (by rw[OV hw (by rw[gX,a]),aCr a d]) (by rw[gX,a]) (by rw[jI];show d)
 rwa [jI] at this
def aCs(a:r.length=w.length)(h:isR w k r=ae):Dec (bA w k) (fS w (bA w k) 0 r):=(BW (by rw[gX,a])).1 (MT r 0 1 ∅ (MX.1 h))
def nms:aj:=("NoThing Looped NoOrder NoNumber TooGreat NoGoing NoRow NoFilling NotLoose NotForest NoShape":aj)++(" NoName NoLine":aj)
def OX:pw nms (" ":aj)=[("NoThing":aj),"Looped","NoOrder","NoNumber","TooGreat","NoGoing","NoRow","NoFilling","NotLoose","NotForest","NoShape","NoName","NoLine"]:=by decide+kernel
def ZZ:nms.length+2<=nU/\((" ":aj).length == 0)=ag:=by decide+kernel
def UI(h:a.length+b.length<=nU):bX (.str a) (.str b)=aa (.str (a++b)):=Z_ h
def JQ(h:a.length+2<=nU/\(b.length == 0)=ag):splitM (.str a) (.str b)=aa (.lst ((pw a b).map D.str)):=Z_ h
def Z0:bX (.str ("NoThing Looped NoOrder NoNumber TooGreat NoGoing NoRow NoFilling NotLoose NotForest NoShape":aj)) (.str (" NoName NoLine":aj))=aa (.str nms):=UI (by decide+kernel)
theorem qY{ks:D}{i:Nat}{c:aj}(l:wN ks (.bl ae)=aa (.int 2))(h2:cZ ks (.int 13)=aa (.bl ae))(j:wQ ks (.bl ae)=aa (.int (i:Int)))
  (a:[("NoThing":aj),"Looped","NoOrder","NoNumber","TooGreat","NoGoing","NoRow","NoFilling","NotLoose","NotForest","NoShape","NoName","NoLine"][i]?=aa c):gL [ks]=.ok (.str c):=by
 unfold gL;show eQ rfl (b7 _ (c8 _ rfl rfl) (b7 [.ro ks,.ro (.str nms)] (c8 (.str nms) (bG rfl rfl Z0) rfl) (b7 [.ro ks,.ro (.str nms)] (fA (qE (b:=ag) (f6 (d:=.bl ag) (binI (x:=2) (y:=2) (bG (x:=ks) (y:=.bl ae) rfl rfl l) rfl rfl) rfl) (λ_=>AQ (b:=ae) (f6 (d:=.bl ae) (bG (x:=ks) (y:=.int 13) rfl rfl h2) rfl) rfl) λh=>by cases h) rfl) (d9 ?_))));show bG (x:=.lst ((pw nms (" ":aj)).map D.str)) (y:=.int (i:Int)) (bG (x:=.str nms) (y:=.str (" ":aj)) rfl rfl (JQ ZZ)) (bG (x:=ks) (y:=.bl ae) rfl rfl j) ?_;rw[OX];show rW ?_;rw[cf,a];rfl
abbrev By:D:=.lst [.bl ag,.bl ag,.bl ag,.bl ae,.bl ag,.bl ag,.bl ag,.bl ag,.bl ag,.bl ag,.bl ag,.bl ag,.bl ag,.bl ae]
def aCt:gL [By]=.ok (.str "NoNumber"):=qY (i:=3) rfl rfl rfl rfl
def aF6(h:fb ρ=.nx ρ')(h2:fr ρ'=o):xW fb fh fr ρ=o:=by unfold xW;rw[h];show h2
def UJ(h:fb ρ=.ex c)(a:fh c=aa ρ1)(h2:fr ρ1=.rt d):xW fb fh fr ρ=.rt d:=by unfold xW;rw[h];dsimp only;rw[a];dsimp only;rw[h2]
def IM(a:t ρ=aa ds)(h:FT (R ds)=c):c6 R t ρ=c:=by unfold c6;rw[a];show h
def Ec(l:Q0e)(lo hi:Option Int):∃a:Q0e,vW (l.map D.int) lo hi=a.map D.int/\a.length<=l.length:=by unfold vW;rw[<- List.map_drop,<- Az];show⟨_,rfl,?_⟩;rw[kj,wb];lia
def slL(h:f ρ=aa (aE l))(m:lo ρ=aa a)(h2:hi ρ=aa b):∃d:Q0e,xS f lo hi ρ=aa (aE d)/\d.length<=l.length:=by obtain⟨d,e,j⟩:=Ec l a b;show⟨d,?_,j⟩;unfold xS;rw[h,m,h2];show aa (D.lst (vW (l.map D.int) a b))=_;rw[e];rfl
def slT(h:f ρ=aa (τ l))(m:lo ρ=aa a)(h2:hi ρ=aa b):∃d:Q0e,xS f lo hi ρ=aa (τ d)/\d.length<=l.length:=by obtain⟨d,e,j⟩:=Ec l a b;show⟨d,?_,j⟩;unfold xS;rw[h,m,h2];show aa (D.tup (vW (l.map D.int) a b))=_;rw[e];rfl
def Ko(h:f ρ=aa (.int i)):oE f ρ=aa (aa i):=by unfold oE;rw[h];rfl
def sM(h:a.length+b.length<=16777216):bX (aE a) (aE b)=aa (aE (a++b)):=by unfold aE;rw[yB (by rw[az,az];show h),gq]
def UK(h:a.length+b.length<=16777216):FQ (aE a) (aE b)=aa (aE (a++b)):=by unfold aE;rw[gq];show Z_ (by rw[az,az];show h)
theorem GL(f:Int->D):∀(n:Nat) (a:Q0e),(bp n (a.map f)).flatten=(bp n a).flatten.map f
 |0,_=>rfl
 |n+1,a=>by rw[iq,lp,iq,lp,gq,GL f n a]
theorem mJ:∀(n:Nat) (a:Q0e),(bp n a).flatten.length=n*a.length
 |0,_=>by simp
 |n+1,a=>by rw[iq,lp,cy,mJ n a,As];lia
def GN(h:a.length<=4000):repLM (aE a) (.int 290)=aa (aE (bp 290 a).flatten):=by unfold aE;rw[<- GL];show Z_ ⟨?_,by decide⟩;rw[az,show(290:Int).toNat=290 from rfl];unfold nU;lia
def OY(h:x ρ=aa (ρ,.int v))(h2:ρ[i]?=aa (.ow (aE l)))(d:k (bD ρ)=aa (.int kk))(a:FO l.length kk=aa j):kO i x k ρ=.nx (ρ.set i (.ow (aE (l.set j v)))):=by unfold kO;rw[h];simp only[c_];rw[h2,d];simp only[aE,nZ,c_,asInt,az];rw[a];simp only[nu,Jd]
def xrE(h:f (gF ρ)=aa d):aX f ρ=aa (ρ,d):=by unfold aX;rw[h];rfl
def xpE(h:f (bD ρ)=aa (.int i)):mB f ρ=aa (ρ,.int i):=by unfold mB;rw[h];rfl
def GB(h:x ρ=aa (ρ,d))(a:ρ.set i (.ro d)=ρ'):mC i x ρ=.nx ρ':=by unfold mC;rw[h];show Out.nx (ρ.set i (.ro d))=_;rw[a]
def UL{l:Q0e}{p:Nat}(h:p<l.length):∃v,wL (l.map D.int) (p:Int)=aa (.int v)/\l[p]?=aa v:=⟨l[p],lJ (bx h),bx h⟩
def uM(h:p<n):FO n (p:Int)=aa p:=by unfold FO;rw[Z_ ∅,Z_ ∅];simp
theorem DP:∀(l:Q0e) (a:Int),0<=a->a<=B->(∀e∈l,0<=e/\e<=B)->0<=l.foldl (λm b=>if m<b then b else m) a/\l.foldl (λm b=>if m<b then b else m) a<=B
 |[],a,h0,h1,_=>⟨h0,h1⟩
 |b::l,a,h0,h1,h=>by
  have j:=h b cb;rw[mf];by_cases c:a<b
  .rw [Z_ c];show DP l b j.1 j.2 λe d=>h e (e_ b d)
  .rw [Zz c];show DP l a h0 h1 λe d=>h e (e_ b d)
def JR(hw:w.length<=9)(h:0<=k)(d:k<=10^61):Bg 210 (bA w k):=by
 have h2:=ZM w;have a:((10:Int)^61)+20<((2^210:Nat):Int):=by decide
 unfold Bg bA;lia
def Dw(h:f (gF ρ)=aa (.tup [p,q])):R8 (aX f) (IL i j) ρ=.nx ((ρ.set i (.ro p)).set j (.ro q)):=by unfold R8;rw[xrE h];rfl
def OZ(h:r.length<=1000000):LL.eA 6 [.tup [.str "told",τ r],.tup [.str "told",τ r]]=.ok (.bl ae):=same_refl 6 _ ⟨v_ rfl,λd a=>by
 rcases bh.1 a with z|a
 .rw [z];trivial
 .rcases bh.1 a with z|a
  .rw [z];show JD h
  .cases a⟩
theorem jE:∀l:Q0e,qC (l.map D.int)=ae
 |[]=>rfl
 |_::l=>jE l
def UM(r:Q0e):(D.tup [.str "told",τ r]).AN=ae:=by show((D.str "told").AN&&(qC (r.map D.int)&&ae))=ae;rw[jE];rfl
end bH
namespace gC
open L3 L4
def cU:g8:=bZ 2 2
  (bI (cN 1 [0,1] (b9 (aA (cK xQ (aA b8 (aA (eI 1) aG))) aG)) (g1 0) dM (aF LL.fY (aA (aB dH (aB dH (aB bX dQ cV) (eI 1)) b8) (aV 1)))))
def eV:g8:=bZ 6 3
  (aH (aO 3 (R4 (tV dQ) (aB cZ dQ (qN (eI 1))) (eI 0)))
  (aH (aO 4 (aB Eb b8 (eT (aA (cK d8 (aA (cK kP (aA dQ aG)) aG)) (aA eF aG)))))
  (aH (aO 5 (cK bU (aA (aF bH.fB (aA dQ aG)) aG)))
  (bI (cK IU (aA (cN 2 [1,5] (l9 (aA gG aG)) (g2 0 1) (tV (aB n9 cV (eI 0))) (aB mulM cV (aB cZ dQ (aB bX eF b8)))) aG))))))
def cH:g8:=bZ 6 5
  (aH (aO 5 (cN 1 [4] (cQ (aF LL.dU (aA b8 (aV 3)))) (g1 0) (tV (aB CV b8 cV)) b8))
  (bI (cK IU (aA (cN 1 [1,2,3] (cQ jA) (g1 0) dM (aF eV (aA cV (aA dQ (aA (aB bX eF (eT (aV 0))) aG))))) aG))))
def jJ:g8:=bZ 6 5
  (aH (aO 5 (aF LL.dU (aA b8 (aV 3))))
  (bI (cK BE (aA (cN 1 [4,0,1,2,3] (cQ jA) (g1 0) (tV (aB AO (aF cH (aA dQ (aA eF (aA gG (aA jA (aV 0)))))) cV)) b8) aG))))
def bK:g8:=bZ 9 3
  (aH (fR (c6 bH.aR (aV 1)) (sX (aX (aF bH.aR (aV 1)))))
  (aH (aO 3 (aF LL.fN (aV 0)))
  (aH (aO 4 (aF cU (aA (cK bU (aV 0)) (aV 1))))
  (aH (eO (jD (tV (fP AO CV (eI 0) dQ (aF eV (aA eF (aA gG (aA (eT aG) aG)))))))
   (g9 (aA (eC (.str "no filling has this number")) aG) "NoNumber")
   dE)
  (aH (aO 5 (eT aG))
  (aH (aO 6 dQ)
  (aH (tX (eM (b9 (aA (cK bU (aV 0)) aG)) (n6 7)
   (aH (aO 8 (aF jJ (aA b8 (aA eF (aA gG (aA jA (aV 6)))))))
   (aH (aO 6 (aB dH m3 (aF cH (aA b8 (aA eF (aA gG (aA jA (aV 8))))))))
   (aO 5 (aB bX jA (eT (aV 8))))))))
  (fR (nW jA (c6 bH.aP (aA jA (aA cV (aV 6))))) (bI (aF LL.dF (aA jA (aA (aF bH.aP (aA jA (aA cV (aV 6)))) aG))))))))))))
def aW:g8:=bZ 9 3
  (aH (sX (aX (aF bH.aR (aV 1))))
  (aH (eO (jD (tV (aF LL.lM (aA b8 (aA dQ (aV 1))))))
   (λ_=>.no)
   dE)
  (aH (aO 3 (aF LL.fN (aV 0)))
  (aH (aO 4 (aF cU (aA (cK bU (aV 0)) (aV 1))))
  (aH (aO 5 (aF LL.kT (aV 2)))
  (aH (aO 6 (aF bH.bM (aA jA (aA cV (aA (aF LL.mI (aV 2)) aG)))))
  (aH (eM (l9 (aV 5)) (IL 7 8)
   (aO 6 (aB bX m3 (aF cH (aA b8 (aA eF (aA gG (aA (xS jA wM (oE vD)) (aV 8)))))))))
  (bI m3))))))))
def c7:g8:=bZ 4 3
  (aH (eO (vE (jD (tV (kM "tuple" dQ))) (tV (aB OH (cK bU (aV 2)) (cK bU (aV 0)))))
   (bI (eC (.bl ag)))
   dE)
  (aH (eM (cQ dQ) (n6 3)
   (eO (vE (jD (tV (kM "int" eF))) (vE (tV (kM "bool" eF)) (vE (tV (aB CV eF (eI 1))) (tV (aB n9 eF cV)))))
    (bI (eC (.bl ag)))
    dE))
  (bI (qM (aB geM cV (eI 0)) (aF LL.mF (aA b8 (aV 2)))))))
open YL LL
section
variable{x:Q0a}
abbrev Wt(n:Nat)(k:Int)(e:Int):Int:=max 0 (C (k+n-1-e) n)
abbrev Rw(n:Nat)(k:Int)(w:Q0e):Int:=Wt n k (dl (-1) w)
def uN(n:Nat)(k:Int):List Int:=(b_ (max n 1)).map λd:Nat=>Wt n k (d:Int)
theorem aCu:∀(m:Nat) (a:Q0e) {l d:Int} (j:Int),l<=0->d<=0->SF x m a l j=SF x m a d j
 |0,_,_,_,_,_,_=>rfl
 |m+1,a,l,d,j,h,h'=>by show((aJ x a).map λt=>SF x m (bN a t) t (j-if t<l then 1 else 0)).sum=((aJ x a).map λt=>SF x m (bN a t) t (j-if t<d then 1 else 0)).sum;show congrArg n_ (gk λt n=>?_);have:=(jF n).1.1;rw[Zz ∅,Zz ∅]
def Z1(m:Nat)(b:Q0e)(j:Int):SF x m (sortI b) (iN b) j=SF x m b (lO b) j:=by
 rw[yK m (b:=b) (iN b) j λs=>(sortI_perm b).mem_iff];rcases wg b with e|⟨u,t,e⟩
 .subst e;show aCu m [] j (by decide) (by decide)
 .subst e;simp[iN,lO]
theorem MZ(f:Nat->Int):∀(S:Q0e) (i:Nat),((S.zipIdx i).map λp=>p.1*f p.2).sum=((b_ S.length).map λd=>S.getD d 0*f (i+d)).sum
 |[],_=>rfl
 |s::S,i=>by rw[a1V,bo,ib,MZ f S (i+1),cn,I_,bo,ib,dh];congr 1;show congrArg n_ (gk λd _=>?_);show _=(s::S).getD (d+1) 0*f (i+(d+1));rw[show i+(d+1)=i+1+d by lia];rfl
theorem GO(f:Int×Nat->Int):∀L:List (Int×Nat),(∀p∈L,0<=p.1)->((L.filter λp=>Zv (0<p.1)).map λp=>p.1*f p).sum=(L.map λp=>p.1*f p).sum
 |[],_=>rfl
 |p::L,h=>by
  have a:=GO f L λq d=>h q (e_ _ d);have j:=h p cb;rw[we];by_cases q:0<p.1
  .rw [Z_ (by simpa using q),bo,ib,bo,ib,a]
  .rw [Zz (by simpa using q),bo,ib,a,show p.1=0 by lia,qh,jy]
def aFb(l:yQ x b):Gn x (Rw x.length k) (x.length-b.length) b=((b_ (max x.length 1)).map λd:Nat=>(Sh x (x.length-b.length) (sortI b) (iN b)).getD d 0*Wt x.length k (dl (-1) b+(d:Int))).sum:=by
 have o:=sC l.ok;have e:∀d:Nat,d<max x.length 1->(Sh x (x.length-b.length) (sortI b) (iN b)).getD d 0=SF x (x.length-b.length) b (lO b) (d:Int):=λd h=>by have:=MK (x:=x) (x.length-b.length) (sortI b) (iN b) (d:Int) ∅ ∅;rw[Z1,nE] at this;rw[<- this,jw]
 rw[T7 (Wt x.length k) (x.length-b.length) b (max x.length 1+1) ∅,oR _ (max x.length 1) 1 λd j h2=>?_]
 .exact congrArg n_ (gk λd h=>by rw[e d (og.1 h)])
 .have z:SF x (x.length-b.length) b (lO b) (d:Int)=0:=by
   by_cases a:b=[]
   .subst a
    cases hn:x.length with
    |zero=>show sJ _ _ _ _ (by simp[hn] at j ⊢;lia)
    |succ n =>
     have m:(d:Int)=(n:Int)+1:=by rw[hn] at j h2;lia
     rw[m];show aCp n [] (by decide)
   .have:=Jf.2 a;show sJ _ _ _ _ ∅
  rw[z,qh]
def aFc{n:Nat}{k:Int}{e:Int}(h:0<=e)(a:e<(max n 1:Nat)):cZ (aE (uN n k)) (.int e)=aa (.int (Wt n k e)):=by obtain⟨d,rfl⟩:∃d:Nat,e=(d:Int):=⟨e.toNat,by lia⟩;unfold aE;rw[rT];show lJ ?_;unfold uN;rw[cf,tm ∅];rfl
theorem JS(a:yQ x b)(h:b≠[]):0<=dl (-1) b/\dl (-1) b+1<=b.length:=by
 cases b with
 |nil=>show Zw rfl h
 |cons t w =>
  have:=(a.ok.2 t cb).1;rw[TC this];have:=TB t w;rw[cn];lia
def O0:cZ (.tup (ds++[d])) (.int (-1))=aa d:=by show wL (ds++[d]) (-1)=_;unfold wL FO;rw[Zz (by decide),Z_ (by rw[cy];simp;lia),c_,cy];show(ds++[d])[(-1+((ds.length+1:Nat):Int)).toNat]?=_;rw[show(-1+((ds.length+1:Nat):Int)).toNat=ds.length by lia];simp
def oS(A:x.length<=9){kd:KD}(v:gW x kd)(I:(bR kd.1 kd.2 (kS [] 0)).isSome=ae){q:Nat->ax->Prop}{k:Int}{b:Q0e}(j:yQ x b):eV [.dC q kd.1 kd.2,aE (uN x.length k),τ b]=.ok (.int (Gn x (Rw x.length k) (x.length-b.length) b)):=by
 have U:=sC j.ok;unfold eV
 let S:=Sh x (x.length-b.length) (sortI b) (iN b)
 let st:Sv->Sv->Sv->bT:=λa c d=>[.ro (.dC q kd.1 kd.2),.ro (aE (uN x.length k)),.ro (τ b),a,c,d]
 have J:S.length=max x.length 1:=mG x _ _ _;show eQ rfl (b7 (st (.ro (.int (iN b))) .no .no) (c8 (.int (iN b)) ?_ rfl) (b7 (st (.ro (.int (iN b))) (.ro (aE S)) .no) (c8 (aE S) ?_ rfl) (b7 (st (.ro (.int (iN b))) (.ro (aE S)) (.ro (.int (dl (-1) b)))) (c8 (.int (dl (-1) b)) ?_ rfl) (d9 ?_))))
 .rcases wg b with e|⟨u,t,e⟩
  .subst e;rfl
  .rw [Jp] at e;subst e;unfold R4;rw[f6 (b:=ae) (d:=τ (u++[t])) rfl ?_]
   .rw [c_,Z_ rfl];show bG (x:=τ (u++[t])) (y:=.int (-1)) rfl rfl ?_;unfold τ iN;rw[gq];simp only[List.getLast?_append,List.getLast?_singleton];show O0
   .unfold τ;rw[m6];simp
 .refine bG (x:=.dC q kd.1 kd.2) (y:=.tup [τ (sortI b),.int (iN b)]) rfl (Dz (cC (x:=aE (sortI b)) (cC rfl (m9 ∅)) rfl) rfl) ?_;show((tY (.tup [τ (sortI b),.int (iN b)])).bind λk=>if kindB kd.1 k=ae then bR kd.1 kd.2 k else af)=_;rw[MG,c_,Z_ (nB v.2.1 rfl),T9 v I j]
 .refine cC (fF rfl (bH.kD ∅)) ?_;rw[bH.dS,MO λa F=>(j.ok.2 a F).1]
 .have rng:=S5 A (x.length-b.length) (sortI b) (iN b);have val:Gn x (Rw x.length k) (x.length-b.length) b=((S.zipIdx.filter λp=>Zv (0<p.1)).map λp:Int×Nat=>p.1*Wt x.length k (dl (-1) b+(p.2:Int))).sum:=by rw[GO (λp=>Wt x.length k (dl (-1) b+(p.2:Int))) _ λp m=>(rng p.1 (a2e m)).1,MZ (λd=>Wt x.length k (dl (-1) b+(d:Int))),aFb j,J];show congrArg n_ (gk λd _=>?_);rw[ki]
  rw[val];show cC (x:=aE ((S.zipIdx.filter λp=>Zv (0<p.1)).map λp:Int×Nat=>p.1*Wt x.length k (dl (-1) b+(p.2:Int)))) ?_ sum_ints;have L:aE ((S.zipIdx.filter λp=>Zv (0<p.1)).map λp:Int×Nat=>p.1*Wt x.length k (dl (-1) b+(p.2:Int)))=.lst ((S.zipIdx.filter λp=>Zv (0<p.1)).map λp:Int×Nat=>D.int (p.1*Wt x.length k (dl (-1) b+(p.2:Int)))):=by unfold aE;rw[dh];rfl
  rw[L];show gI (S.zipIdx.map λp:Int×Nat=>D.tup [.int (p.2:Int),.int p.1]) ?_ (by simp;lia) (fM (λp:Int×Nat=>D.tup [.int (p.2:Int),.int p.1]) (λp=>Zv (0<p.1)) (λp=>D.int (p.1*Wt x.length k (dl (-1) b+(p.2:Int)))) S.zipIdx λp m=>⟨[aa (.int (p.2:Int)),aa (.int p.1),aa (aE (uN x.length k)),aa (.int (dl (-1) b))],rfl,f6 (binI (x:=p.1) (y:=0) rfl rfl kC) rfl,λl=>?_⟩)
  .unfold l9;rw[args1 (show aS 4 _=aa (aE S) from rfl),c_];show aa (((S.map D.int).zipIdx).map _)=_;rw[zipIdx_map,dh];rfl
  .have l:0<p.1:=by simpa using l
   have o:=List.mem_zipIdx m;have y:=rng p.1 (a2e m);have pm:(9:Int)^(x.length-b.length)<=9^9:=by
    have:=r9 (n:=9) (by decide) (show x.length-b.length<=9 by lia)
    exact_mod_cast this
   have Y:(9:Int)^9<18446744073709551616:=by decide
   show binI (x:=p.1) (y:=(Wt x.length k (dl (-1) b+(p.2:Int)))) rfl (bG (x:=aE (uN x.length k)) (y:=.int (dl (-1) b+(p.2:Int))) rfl rfl (aFc ?_ ?_)) (uE ∅)
   .by_cases h:b=[]
    .subst h;show 0<=0+(p.2:Int);lia
    .have:=JS j h;lia
   .by_cases h:b=[]
    .subst h;show 0+(p.2:Int)<_;have:=o.2.1;lia
    .have:=JS j h;have O:(p.2:Int)<=(x.length-b.length:Nat):=by
      by_cases z:(p.2:Int)<=(x.length-b.length:Nat)
      .exact z
      .exfalso;have X:p.2<max x.length 1:=by have:=o.2.1;lia
       have e:=MK (x:=x) (x.length-b.length) (sortI b) (iN b) (p.2:Int) ∅ ∅;rw[sJ _ _ _ _ ∅,nE] at e;have K:S[p.2]?=aa p.1:=by have:=o.2.2;rw[bx ∅,this];simp
       have e:(S[p.2]?).getD 0=0:=e;rw[K] at e;have e:p.1=0:=e;lia
     lia
def aFd{n:Nat}{k e:Int}(h:0<=k)(d:e<(max n 1:Nat)):0<=C (k+n-1-e) n:=by
 by_cases a:n=0
 .subst a;rw[lW];lia
 .have:=F8 (k+n-1-e).toNat n
  rwa [Int.toNat_of_nonneg ∅] at this
def Dv{n:Nat}{k e:Int}(d:0<=k)(a:e<(max n 1:Nat)):Wt n k e=C (k+n-1-e) n:=by have:=aFd d a;unfold Wt;lia
def Du{a:Int}(j:-1<=a)(h:a<=10^61+9):Bg 210 a:=by
 have d:((10:Int)^61)+20<((2^210:Nat):Int):=by decide
 unfold Bg;lia
def gM{n:Nat}{k:Int}(l:n<=9)(j:0<=k)(m:k<=10^61):cU [.int n,.int k]=.ok (aE (uN n k)):=by
 unfold cU;show eQ rfl (d9 (show _=aa (aE (uN n k)) from ?_));unfold aE uN;rw[dh];have e:(bE 0 (max n 1)).map D.int=(b_ (max n 1)).map λd:Nat=>D.int (d:Int):=by unfold bE;rw[dh];show gk λd _=>by show D.int (0+(d:Int))=_;rw[jy]
 show gI ((bE 0 (max n 1)).map D.int) (MA (n:=max n 1) ?_ ∅) (by rw[az,aN];lia) ?_
 .refine Ea (x:=.int n) (y:=.int 1) rfl rfl ?_;show aa (D.int _)=aa (D.int _);congr 2;split<;>lia
 .rw [e];show eB (λd:Nat=>D.int (d:Int)) _ (b_ (max n 1)) λd a=>⟨[aa (.int d),aa (.int n),aa (.int k)],rfl,?_⟩;have a:=og.1 a;have h:=Dv (n:=n) (e:=(d:Int)) j ∅;show _=aa (D.int (Wt n k d));rw[h];show bW (x:=.int (k+n-1-d)) (y:=.int n) rfl rfl (kH (Du ∅ ∅) ∅)
structure Tb (x:Q0a) (kd:KD):Prop where
 m:gW x kd
 o:(bR kd.1 kd.2 (kS [] 0)).isSome=ae
def yV(j:x.length<=9)(l:∀r∈x,r.length<=9)(T:Tb x kd)(d:yQ x b)(t:Int):cH [aK x,.dC q kd.1 kd.2,aE (uN x.length k),τ b,.int t]=.ok (.int (qJ x (Rw x.length k) (x.length-(b.length+1)) b t)):=by
 unfold cH
 let L:=(aJ x b).filter λs=>Zv (s<t)
 show eQ rfl (b7 [.ro (aK x),.ro (.dC q kd.1 kd.2),.ro (aE (uN x.length k)),.ro (τ b),.ri t,.ro (aE L)] (c8 (aE L) ?_ rfl) (d9 (cC (x:=aE (L.map λs=>Gn x (Rw x.length k) (x.length-(b.length+1)) (b++[s]))) ?_ sum_ints)))
 .have n:=jG d.ok;show gI ((aJ x b).map D.int) ?_ (by rw[az];lia) ?_
  .unfold cQ;rw[bW rfl rfl (sA j l)];rfl
  .exact fM D.int (λs=>Zv (s<t)) D.int (aJ x b) λs a=>⟨[aa (.int s),aa (.int t)],rfl,f6 (binI (x:=s) (y:=t) rfl rfl rfl) rfl,λ_=>rfl⟩
 .have n:=jG d.ok;have v:L.length<=(aJ x b).length:=lj _ _;unfold aE;rw[dh];show gI (L.map D.int) rfl (by rw[az];lia) (eB D.int (D.int∘λs=>Gn x (Rw x.length k) (x.length-(b.length+1)) (b++[s])) L λs a=>⟨[aa (.int s),aa (.dC q kd.1 kd.2),aa (aE (uN x.length k)),aa (τ b)],rfl,?_⟩);have a:=(jj.1 a).1;have h:=d.snoc a;have e:=oS (q:=q) (k:=k) j T.m T.o h;rw[cy,A_] at e;have p:=sC d.ok;show cR (x:=.dC q kd.1 kd.2) (y:=aE (uN x.length k)) (z:=τ (b++[s])) rfl rfl (bG (x:=τ b) (y:=τ [s]) rfl rfl (yL (by simp;lia))) e
theorem fold_lt:∀(l:Q0e) (a:Int),a<t->(∀b∈l,b<t)->l.foldl (λm b=>if m<b then b else m) a<t
 |[],a,h,_=>h
 |b::l,a,h,hl=>by rw[mf];have j:=hl b cb;show fold_lt l _ (by split<;>assumption) λc d=>hl c (e_ _ d)
theorem UN(h:∀a∈u,a<t):kB (u++[t])=t:=by
 cases u with
 |nil=>rfl
 |cons a u =>
  show(u++[t]).foldl _ a=t;rw[List.foldl_append];show Z_ (fold_lt u a (h a cb) λb d=>h b (e_ _ d))
def M0(w:Q0e):0<=Rw n k w:=by show 0<=max 0 _;lia
theorem UO(h:x.length<=9)(d:∀r∈x,r.length<=9)(T:Tb x kd)(j:yQ x b)(z:b.length<x.length)(n:0<=Θ)(l:Θ<Gn x (Rw x.length k) (x.length-b.length) b):
  ∃t,t∈aJ x b/\qJ x (Rw x.length k) (x.length-(b.length+1)) b t<=Θ/\Θ<qJ x (Rw x.length k) (x.length-(b.length+1)) b t+Gn x (Rw x.length k) (x.length-(b.length+1)) (b++[t])/\jJ [aK x,.dC q kd.1 kd.2,aE (uN x.length k),τ b,.int Θ]=.ok (.int t):=by
 rw[show x.length-b.length=x.length-(b.length+1)+1 by lia] at l;obtain⟨t,u,v,e,p1,p2,p3⟩:=ZT M0 n l;have inc:=pS (x:=x) b;show⟨t,by rw[e];simp,p1,p2,?_⟩;have A:=jG j.ok;unfold jJ;show eQ rfl (b7 [.ro (aK x),.ro (.dC q kd.1 kd.2),.ro (aE (uN x.length k)),.ro (τ b),.ro (.int Θ),.ro (aE (aJ x b))] (c8 _ (bW rfl rfl (sA h d)) rfl) (d9 (cC (x:=aE (u++[t])) ?_ ?_)))
 .rw [<- p3];show gI ((aJ x b).map D.int) rfl (by rw[az];lia) (fM D.int (λs=>Zv (qJ x (Rw x.length k) (x.length-(b.length+1)) b s<=Θ)) D.int (aJ x b) λs p=>⟨[aa (.int s),aa (.int Θ),aa (aK x),aa (.dC q kd.1 kd.2),aa (aE (uN x.length k)),aa (τ b)],rfl,f6 (bG (x:=.int (qJ x (Rw x.length k) (x.length-(b.length+1)) b s)) (y:=.int Θ) ?_ rfl rfl) rfl,λ_=>rfl⟩);have o:=yV (q:=q) (k:=k) h d T j s;unfold aF;(try unfold aV);unfold aA aG;show m4 (cH [aK x,.dC q kd.1 kd.2,aE (uN x.length k),τ b,.int s])=_;rw[o];rfl
 .show ((intsOf ((u++[t]).map D.int)).bind λns=>if ns=[] then af else aa (D.int (kB ns)))=_;rw[dI,c_,Zz (by simp),UN λa m=>?_];rw[e] at inc;show(Ax.1 inc).2.2 a m t cb
def DQ(hw:Gg x w)(l:0<=k):Rw x.length k w=C (bH.bA w k) w.length:=by
 have d:yQ x w:=hw.2;have h:=MO λa j=>(d.ok.2 a j).1;show Wt x.length k (dl (-1) w)=_;rw[Dv l,bH.bA,h,hw.1];rw[<- hw.1];by_cases e:w=[]
 .subst e;show(0:Int)<_;simp
 .have:=JS d e;lia
def of_ok(q:x.length<=9)(hw:Gg x w)(o:r.length=w.length):dF [τ w,τ r]=.ok (τ (MS.nX w r)):=by
 have dn:=mH hw.2;have d:∀a∈w,0<=a/\a<(w.length:Int):=λa l=>by have:=dn.2 a l;rw[hw.1];show this
 have dl:=hw.1;have n:=MS.UA w r;have m:=MS.UB dn.1 d o;have p:=lX (g:=w) (r:=r) ∅ d
 rwa [<- m,uL (fl:=MS.nX w r) w (bp w.length 0) (by rw[ig,n]) (λa l=>by rw[n];show d a l) (λj v h=>Zw (pR hw.1 hw.2 (b:=(j:Int)) ∅ ∅) h),m] at p
abbrev JT(x:Q0a)(k:Int):Int:=Gn x (Rw x.length k) x.length []
abbrev Num(x:Q0a)(k:Int)(w c:Q0e):Int:=gK x (Rw x.length k) [] w+(C (bH.bA w k) w.length-1-rk c)
abbrev S9(x:Q0a)(k N:Int)(j h d v6 v7 a:Sv):bT:=[.ro (aK x),.ri k,.ri N,j,h,d,v6,v7,a]
def sN:yQ x []:=λu t v e=>by cases u<;>cases e
theorem MY(hx:Ord.Rows x)(n:x.length<=9)(v:0<=k)(U:k<=10^61)(hN:0<=N)(L:N<JT x k):
  ∃w c:Q0e,Gg x w/\c.length=w.length/\Dec (bH.bA w k) c/\N=Num x k w c/\bK [aK x,.int k,.int N]=.ok (τ (MS.nX w (bH.fS w (bH.bA w k) 0 c))):=by
 have K:=DL hx n;obtain⟨kd,et,O,hl⟩:=oP n K;have T:Tb x kd:=⟨O,by rw[hl];rfl⟩;have X:=oS (q:=adr i8) (k:=k) n O T.o (sN (x:=x));rw[gr,ny] at X
 let h:Sv:=.ro (.dC (adr i8) kd.1 kd.2)
 let j:Sv:=.ro (aE (uN x.length k))
 have main:∃d,bK [aK x,.int k,.int N]=.ok d /\∃w c:Q0e,Gg x w/\c.length=w.length/\Dec (bH.bA w k) c/\N=Num x k w c/\d=τ (MS.nX w (bH.fS w (bH.bA w k) 0 c)):=by
  unfold bK;show lV rfl ?_;show aL (S9 x k N .no .no .no .no .no .no) (AS (rc1 (x:=.int k) rfl (by rw[bH.kJ v];rfl)) (by
   unfold sX;rw[bH.xrE (fF (x:=.int k) rfl (bH.kJ v))];rfl)) ?_
  show aL (S9 x k N h .no .no .no .no .no) (c8 _ (fF rfl et) rfl) ?_;show aL (S9 x k N h j .no .no .no .no) (c8 _ (bW (x:=.int x.length) (y:=.int k) (cC (x:=aK x) rfl d6) rfl (gM n v U)) rfl) ?_;show aL (S9 x k N h j .no .no .no .no) (fA (AQ (b:=ae) (f6 (d:=.bl ae) ?_ rfl) rfl) rfl) ?_
  .exact bH.DN (x:=.int 0) (y:=.int N) (w:=.int (JT x k)) rfl rfl (cR rfl rfl rfl X) (show aa (D.bl (Zv (0<=N)))=_ by rw[Zx hN]) (show aa (D.bl (Zv (N<JT x k)))=_ by rw[Zx L])
  show aL (S9 x k N h j (.ro (τ [])) .no .no .no) rfl ?_;show aL (S9 x k N h j (.ro (τ [])) (.ro (.int N)) .no .no) rfl ?_;show gU (λρ=>∃(w:Q0e) (a:Int) (v7 l:Sv),Gg x w/\0<=a/\a<Rw x.length k w/\N=gK x (Rw x.length k) [] w+a/\ρ=S9 x k N h j (.ro (τ w)) (.ro (.int a)) v7 l) (bH.JO ?_) ?_
  .refine oG x.length (λi ρ=>∃(b:Q0e) (a:Int) (v7 l:Sv),b.length=i/\yQ x b/\0<=a/\a<Gn x (Rw x.length k) (x.length-i) b/\(∀z:Q0e,z.length+i=x.length->gK x (Rw x.length k) [] (b++z)=N-a+gK x (Rw x.length k) b z)/\ρ=S9 x k N h j (.ro (τ b)) (.ro (.int a)) v7 l) (args1 (cC (x:=aK x) rfl d6)) ∅ ⟨[],N,.no,.no,rfl,sN,hN,L,λz _=>by rw[la];lia,rfl⟩ (λi ρ hi ⟨b,a,v7,l,p,I,F,m,J,e⟩=>?_) λρ ⟨b,a,v7,l,p,I,F,m,J,e⟩=>⟨b,a,v7,l,⟨p,I⟩,F,by rw[Iq] at m;show m,by
    have:=J [] (by simp);rw[iu] at this;rw[this];show N=N-a+0+a;lia,e⟩
   subst e;subst p;obtain⟨t,ht,p1,p2,e1⟩:=UO (q:=adr i8) n K T I hi F m;have Y:=yV (q:=adr i8) (k:=k) n K T I t;generalize hA:qJ x (Rw x.length k) (x.length-(b.length+1)) b t=A at p1 p2 Y;show⟨S9 x k N h j (.ro (τ b)) (.ro (.int a)) (.ro (.int b.length)) l,rfl,?_⟩;show lI (S9 x k N h j (.ro (τ b)) (.ro (.int a)) (.ro (.int b.length)) (.ro (.int t))) (c8 (.int t) ?_ rfl) ?_
   .unfold aF;(try unfold aV);unfold aA aG;show m4 (jJ [aK x,.dC (adr i8) kd.1 kd.2,aE (uN x.length k),τ b,.int a])=_;rw[e1];rfl
   show lI (S9 x k N h j (.ro (τ b)) (.ro (.int (a-A))) (.ro (.int b.length)) (.ro (.int t))) (c8 (.int (a-A)) (bG (x:=.int a) (y:=.int A) rfl ?_ rfl) rfl) ?_
   .unfold aF;(try unfold aV);unfold aA aG;show m4 (cH [aK x,.dC (adr i8) kd.1 kd.2,aE (uN x.length k),τ b,.int t])=_;rw[Y];rfl
   show uF (τ (b++[t])) (bG (x:=τ b) (y:=τ [t]) rfl rfl (yL (by simp;lia))) ⟨b++[t],a-A,.ro (.int b.length),.ro (.int t),by simp,I.snoc ht,by lia,by lia,λz hz2=>?_,rfl⟩;have:=J (t::z) (by simp;lia);rw[om];show gK x (Rw x.length k) [] (b++t::z)=_;rw[this];show N-a+(qJ x (Rw x.length k) z.length b t+gK x (Rw x.length k) (b++[t]) z)=_;rw[show z.length=x.length-(b.length+1) by lia,hA];lia
  .rintro _ ⟨w,a,v7,l,hw,F,m,eN,rfl⟩;rw[DQ hw v] at m;have wl:=hw.1;obtain⟨c,Z,cd,cr,ce⟩:=bH.MY (w:=w) ∅ v (bH.JR ∅ v U) F m;show⟨_,AS ?_ (d9 (bW (x:=τ w) (y:=τ (bH.fS w (bH.bA w k) 0 c)) rfl (cR rfl rfl rfl ce) (of_ok n hw (by rw[bH.gX,Z])))),w,c,hw,Z,cd,?_,rfl⟩
   .unfold nW;show(aa (τ w)).bind _=af;rw[c_];show bH.IM (ds:=[τ w,.int k,.int a]) rfl (by rw[ce];rfl)
   .show N=_+(_-1-rk c);lia
 obtain⟨d,e,w,c,a1,a2,a3,a4,rfl⟩:=main;show⟨w,c,a1,a2,a3,a4,e⟩
def yQ.take(h:yQ x w)(j:Nat):yQ x (w.take j):=λu t v e=>h u t (v++w.drop j) (by
 conv=>lhs;rw[<- a1Z j w,e]
 simp)
def yS{w:Q0e}{i:Nat}(h:i<=w.length):slM (τ w) af (aa (i:Int))=aa (τ (w.take i)):=by show aa (D.tup (vW (w.map D.int) af (aa (i:Int))))=_;unfold vW OJ τ;dsimp only;rw[Zz ∅];rw[oj,az,ny,show min ((i:Int)).toNat w.length=i by lia,Az]
def Z2(o:∀v∈fl,1<=v/\v<=k)(m:w.Perm (bE 0 fl.length))(j:w.Pairwise (Lk fl)):bH.isR w k (w.map (η fl))=ae:=by
 have n:∀a∈w,0<=a/\a<fl.length:=λa h=>by have:=bF.1 (m.mem_iff.1 h);lia
 unfold bH.isR;rw[gy];show⟨gx.2 λe q=>?_,gx.2 λp d=>?_⟩
 .obtain ⟨a,h,rfl⟩:=gi.1 q;obtain⟨J,I⟩:=n a h;have:η fl a∈fl:=by unfold η;rw[bx ∅];show md _
  have:=o _ this;unfold bH.UG;rw[Zx this.1,Zx this.2];rfl
 .have d:=bF.1 d;rw[az] at d;obtain⟨i,rfl⟩:∃i:Nat,p=(i:Int):=⟨p.toNat,by lia⟩;have hi:i+1<w.length:=by lia
  have l:=Aw.1 j i (i+1) ∅ hi ∅;have F:η (w.map (η fl)) i=η fl w[i]:=by rw[MS.sL (by rw[az];lia),qe]
  have A:η (w.map (η fl)) ((i:Int)+1)=η fl w[i+1]:=by rw[show(i:Int)+1=((i+1:Nat):Int) by lia,MS.sL (by rw[az];lia),qe]
  have z:η w i=w[i]:=MS.sL ∅;have y:η w ((i:Int)+1)=w[i+1]:=by rw[show(i:Int)+1=((i+1:Nat):Int) by lia,MS.sL hi]
  unfold bH.JP;rw[F,A,z,y];unfold Lk at l;show Zx (by split<;>lia)
theorem O1(Y:Ord.Rows x)(I:x.length<=9){k:Int}(L:0<=k)(h1:k<=10^61){fl:Q0e}(hl:fl.length=x.length)(hk:∀v∈fl,1<=v/\v<=k)(J:rs x fl=ae):
  ∃w c:Q0e,Gg x w/\c.length=w.length/\Dec (bH.bA w k) c/\uK fl=w/\sortI fl=bH.fS w (bH.bA w k) 0 c/\fl=MS.nX w (bH.fS w (bH.bA w k) 0 c)/\aW [aK x,.int k,τ fl]=.ok (.int (Num x k w c)):=by
 have hr:=DL Y I;have A:=OR Y hl J;obtain⟨hp,hs⟩:=GC fl;have eg:=GD (fl:=fl) ∅;have er:=OP (fl:=fl) ∅;have l:=T4 hp hs;have hR:=Z2 hk hp hs;generalize hw:uK fl=w at *;rw[<- l] at hR;have wl:=A.1;have X:(sortI fl).length=w.length:=by rw[l,az]
 have hd:=bH.aCs X hR;have cl:(bH.fS w (bH.bA w k) 0 (sortI fl)).length=w.length:=by rw[bH.gX,X]
 have en:=bH.OW ∅ L (bH.JR (w:=w) ∅ L h1) cl hd;rw[bH.jI] at en;have wn:=mH A.2;have fo:=of_ok I A X;have O:=lX (g:=w) (r:=sortI fl) ∅ (λa K=>by have:=wn.2 a K;lia);rw[l,uL (fl:=fl) w (bp w.length 0) (by rw[ig,wl,hl]) (λa K=>by have:=wn.2 a K;lia) (λj hj hnm=>Zw (pR A.1 A.2 (b:=(j:Int)) ∅ ∅) hnm),<- l,fo] at O;have efl:fl=MS.nX w (sortI fl):=by
  have e:τ (MS.nX w (sortI fl))=τ fl:=by injection O
  unfold τ at e;injection e with e;show(List.map_inj_right (f:=D.int) (λa b h=>by injection h)).1 e.symm
 show⟨w,bH.fS w (bH.bA w k) 0 (sortI fl),A,cl,hd,rfl,(bH.jI ..).symm,by rw[bH.jI];show efl,?_⟩;generalize bH.fS w (bH.bA w k) 0 (sortI fl)=c at *;obtain⟨kd,et,hM,hl2⟩:=oP I hr;have T:Tb x kd:=⟨hM,by rw[hl2];rfl⟩
 let m:Sv:=.ro (.dC (adr i8) kd.1 kd.2)
 let o:Sv:=.ro (aE (uN x.length k))
 let S:Sv->Sv->Sv->Sv->Sv->Sv->bT:=λa b c d e f=>[.ro (aK x),.ro (.int k),.ro (τ fl),a,b,c,d,e,f]
 have hk2:ZA k fl=ae:=gx.2 λv hv=>by have:=hk v hv;rw[Zx this.1,Zx this.2];rfl
 have U:=LL.oM Y I (fl:=fl) L hl;rw[hk2,J] at U;generalize hQ:C (bH.bA w k) w.length-1-rk c=Q at en;have eN:Num x k w c=gK x (Rw x.length k) [] w+Q:=by rw[<- hQ]
 rw[eN];unfold aW;show BS rfl ?_;show aL (S .no .no .no .no .no .no) (by
   unfold sX;rw[bH.xrE (fF (x:=.int k) rfl (bH.kJ L))];rfl) ?_
 show aL (S .no .no .no .no .no .no) (fA (AQ (b:=ae) (f6 (d:=.bl ae) (cR rfl rfl rfl U) rfl) rfl) rfl) ?_;show aL (S m .no .no .no .no .no) (c8 _ (fF rfl et) rfl) ?_;show aL (S m o .no .no .no .no) (c8 _ (bW (x:=.int x.length) (y:=.int k) (cC (x:=aK x) rfl d6) rfl (gM I L h1)) rfl) ?_;show aL (S m o (.ro (τ w)) .no .no .no) (c8 _ (fF rfl eg) rfl) ?_;show aL (S m o (.ro (τ w)) (.ro (.int Q)) .no .no) (c8 _ (cR (x:=τ w) (y:=.int k) (z:=τ (sortI fl)) rfl rfl (fF rfl er) en) rfl) ?_;show gU (λρ=>∃v7 n,ρ=S m o (.ro (τ w)) (.ro (.int (gK x (Rw x.length k) [] w+Q))) v7 n) ?_ λρ ⟨v7,n,e⟩=>by subst e;show gA _ rfl rfl
 show oF ((w.map D.int).zipIdx.map λp=>.tup [.int (p.2:Int),p.1]) (λj ρ=>∃(B:Int) (v7 n:Sv),B+gK x (Rw x.length k) (w.take j) (w.drop j)=gK x (Rw x.length k) [] w+Q/\ρ=S m o (.ro (τ w)) (.ro (.int B)) v7 n) rfl ⟨Q,.no,.no,by rw[a1W,oj];lia,rfl⟩ (λj d ρ hd2 ⟨B,v7,n,F,e⟩=>?_) λρ ⟨B,v7,n,F,e⟩=>⟨v7,n,by
  rw[az,a18,az,Jo] at F;rw[e,<- F];show _=S _ _ _ (Sv.ro (.int (B+0))) _ _;rw[wq]⟩
 subst e;rw[cf,Bc,cf] at hd2;obtain⟨q,hq,rfl⟩:=ip.1 hd2;obtain⟨q2,Z,rfl⟩:=ip.1 hq;obtain⟨t,K,rfl⟩:=ip.1 Z;obtain⟨hj,ht⟩:=cg.1 K;have hb:=yQ.take (x:=x) A.2 j;have tl:(w.take j).length=j:=by rw[kj];lia
 have ea:=yV (q:=adr i8) (k:=k) I hr T hb t;rw[tl] at ea;rw[tq hj,ht] at F;have F:B+(qJ x (Rw x.length k) (w.drop (j+1)).length (w.take j) t+gK x (Rw x.length k) (w.take j++[t]) (w.drop (j+1)))=gK x (Rw x.length k) [] w+Q:=F;rw[wb,wl] at F;show⟨S m o (.ro (τ w)) (.ro (.int B)) (.ro (.int (j:Int))) (.ro (.int t)),by rw[ki];rfl,?_⟩;show uF (.int (B+qJ x (Rw x.length k) (x.length-(j+1)) (w.take j) t)) (bG (x:=.int B) (y:=.int (qJ x (Rw x.length k) (x.length-(j+1)) (w.take j) t)) rfl ?_ rfl) ⟨_,_,_,?_,rfl⟩
 .have es:xS (aS 5) wM (oE (aS 7)) (gF (S m o (.ro (τ w)) (.ro (.int B)) (.ro (.int (j:Int))) (.ro (.int t))))=aa (τ (w.take j)):=yS ∅;unfold aF;(try unfold aV);unfold aA aG;rw[es];show m4 (cH [aK x,.dC (adr i8) kd.1 kd.2,aE (uN x.length k),τ (w.take j),.int t])=_;rw[ea];rfl
 .have:w.take (j+1)=w.take j++[t]:=by rw[List.take_succ_eq_append_getElem hj,ht]
  rw[this];lia
theorem yW:∀(w b:Q0e),yQ x (b++w)->Way x b w
 |[],_,_=>trivial
 |t::w,b,h=>⟨h b t w rfl,yW w (b++[t]) (by rw[om];show h)⟩
def UP(d:c.length=w.length)(a:Dec (bH.bA w k) c):0<=rk c/\rk c<C (bH.bA w k) w.length:=by have:=TR a;rw[d] at this;show⟨TQ a,this⟩
def M1(m:0<=k)(hw:Gg x w)(a:Gg x z)(l:c.length=w.length)(j:d.length=z.length)(n:Dec (bH.bA w k) c)(dd:Dec (bH.bA z k) d)(h:fK w z=ae):Num x k w c<Num x k z d:=by have e:=T6 (R:=Rw x.length k) M0 w z [] (by rw[hw.1,a.1]) (yW w [] hw.2) (yW z [] a.2) h;rw[la,DQ hw m] at e;have:=UP l n;have:=UP j dd;show gK x (Rw x.length k) [] w+(_-1-rk c)<gK x (Rw x.length k) [] z+(_-1-rk d);lia
theorem Z3(n:0<=k)(hw:Gg x w)(j:Gg x z)(m:c.length=w.length)(l:d.length=z.length)(a:Dec (bH.bA w k) c)(dd:Dec (bH.bA z k) d)(h:Num x k w c=Num x k z d):w=z/\c=d:=by
 cases q:fK w z with
 |true=>have:=M1 n hw j m l a dd q;lia
 |false =>
  cases q2:fK z w with
  |true=>have:=M1 n j hw l m dd a q2;lia
  |false =>
   have e:=IZ _ _ q q2;subst e;have h:gK x (Rw x.length k) [] w+(C (bH.bA w k) w.length-1-rk c)=gK x (Rw x.length k) [] w+(C (bH.bA w k) w.length-1-rk d):=h;have e:rk c=rk d:=by lia
   show⟨rfl,TY (N:=rk c) ∅ (TV a) (by rw[e];show TV dd)⟩
def aCv(h:0<=k)(hw:Gg x w)(d:c.length=w.length)(j:Dec (bH.bA w k) c):0<=Num x k w c/\Num x k w c<JT x k:=by obtain⟨a,b⟩:=yP (R:=Rw x.length k) M0 w [] (yW w [] hw.2);rw[la,DQ hw h] at b;have:=UP d j;have b:gK x (Rw x.length k) [] w+C (bH.bA w k) w.length<=Gn x (Rw x.length k) w.length []:=b;rw[hw.1] at b;show 0<=gK x (Rw x.length k) [] w+(_-1-rk c)/\gK x (Rw x.length k) [] w+(_-1-rk c)<Gn x (Rw x.length k) x.length [];rw[hw.1] at *;lia
end
end gC
namespace K18
open L3 L4
def qK:g8:=bZ 4 2
  (aH (kA 2 (eU aG))
  (aH (eM (cQ cV) (n6 3)
   (sX (qO 2 tU (aX (cN 1 [3] (cQ (aF LL.dU (aA b8 (aV 3)))) (g1 0) dM (aB bX cV (eT (aV 0))))))))
  (bI dQ)))
def bL:g8:=bZ 2 2
  (aH (fR (c6 bH.aR (aV 1)) (sX (aX (aF bH.aR (aV 1)))))
  (bI (aF LL.fY (aA (aF bH.iV (aA b8 (aV 1))) (aA (cK bU (aV 0)) aG)))))
def aP:g8:=bZ 9 3
  (aH (fR (c6 bL (aA b8 (aV 1))) (aO 3 (aF bL (aA b8 (aV 1)))))
  (aH (eO (jD (tV (fP AO CV (eI 0) dQ eF)))
   (g9 (aA (eC (.str "no row has this number")) aG) "NoNumber")
   dE)
  (aH (aO 4 (aF bH.iV (aA b8 (aV 1))))
  (aH (aO 5 (aB dH (aB dH eF (eI 1)) dQ))
  (aH (aO 6 gG)
  (aH (kA 7 (eU aG))
  (aH (tX (eM (b9 (aA (cK bU (aV 0)) aG)) (n6 8)
   (aH (aO 6 (aF bH.fG (aA m3 (aA (aB dH (cK bU (aV 0)) YN) (aV 5)))))
   (aH (aO 5 (aB dH jA (aF LL.fY (aA m3 (aA (aB dH (cK bU (aV 0)) YN) aG)))))
   (sX (qO 7 n5 (aX (aB dH (aB dH gG m3) (aF bH.fC (aA b8 (aV 8)))))))))))
  (bI (cK d8 (aV 7))))))))))
def bM:g8:=bZ 8 3
  (aH (fR (c6 bL (aA b8 (aV 1))) (aO 3 (aF bL (aA b8 (aV 1)))))
  (aH (eO (jD (tV (aF bH.iG (aA b8 (aA cV (aV 2))))))
   (g9 (aA (eC (.str "no row of the going")) aG) "NoRow")
   dE)
  (aH (aO 4 (aF bH.iV (aA b8 (aV 1))))
  (aH (aO 5 (eI 0))
  (aH (tX (eM (l9 (aV 2)) (IL 6 7)
   (aO 5 (aB bX jA (aF LL.fY (aA (aB dH (aB dH gG vD) (aF bH.fC (aA b8 (aV 6)))) (aA (aB dH (cK bU (aV 2)) m3) aG)))))))
  (bI (aB dH (aB dH eF (eI 1)) jA)))))))
def bK:g8:=bZ 9 3
  (aH (fR (c6 bH.aR (aV 1)) (sX (aX (aF bH.aR (aV 1)))))
  (aH (aO 3 (aF LL.fN (aV 0)))
  (aH (aO 4 (aF gC.cU (aA (cK bU (aV 0)) (aV 1))))
  (aH (eO (jD (tV (fP AO CV (eI 0) dQ (aF gC.eV (aA eF (aA gG (aA (eT aG) aG)))))))
   (g9 (aA (eC (.str "no filling has this number")) aG) "NoNumber")
   dE)
  (aH (aO 5 (eT aG))
  (aH (aO 6 dQ)
  (aH (tX (eM (b9 (aA (cK bU (aV 0)) aG)) (n6 7)
   (aH (aO 8 (aF gC.jJ (aA b8 (aA eF (aA gG (aA jA (aV 6)))))))
   (aH (aO 6 (aB dH m3 (aF gC.cH (aA b8 (aA eF (aA gG (aA jA (aV 8))))))))
   (aO 5 (aB bX jA (eT (aV 8))))))))
  (fR (nW jA (c6 aP (aA jA (aA cV (aV 6))))) (bI (aF LL.dF (aA jA (aA (aF aP (aA jA (aA cV (aV 6)))) aG))))))))))))
def aW:g8:=bZ 9 3
  (aH (fR (c6 bH.aR (aV 1)) (sX (aX (aF bH.aR (aV 1)))))
  (aH (eO (jD (tV (aF LL.lM (aA b8 (aA dQ (aV 1))))))
   (g9 (aA (eC (.str "no filling that rises")) aG) "NoFilling")
   dE)
  (aH (aO 3 (aF LL.fN (aV 0)))
  (aH (aO 4 (aF gC.cU (aA (cK bU (aV 0)) (aV 1))))
  (aH (aO 5 (aF LL.kT (aV 2)))
  (aH (fR (c6 bM (aA jA (aA cV (aA (aF LL.mI (aV 2)) aG)))) (aO 6 (aF bM (aA jA (aA cV (aA (aF LL.mI (aV 2)) aG))))))
  (aH (tX (eM (l9 (aV 5)) (IL 7 8)
   (aO 6 (aB bX m3 (aF gC.cH (aA b8 (aA eF (aA gG (aA (xS jA wM (oE vD)) (aV 8))))))))))
  (bI m3))))))))
def hJ:g8:=bZ 5 3
  (aH (aO 3 (eU (aA (eT aG) aG)))
  (aH (eM (b9 (aA (cK bU (aV 0)) aG)) (n6 4)
   (aO 3 (cN 1 [1,2] (cQ (aF qK (aA b8 (aV 3)))) (g1 0) (tV (aB n9 (aF gC.eV (aA cV (aA dQ (aV 0)))) (eI 0))) b8)))
  (bI eF)))
def bJ:g8:=bZ 6 2
  (aH (fR (c6 bH.aR (aV 1)) (sX (aX (aF bH.aR (aV 1)))))
  (aH (aO 2 (aF LL.fN (aV 0)))
  (aH (aO 3 (aF gC.cU (aA (cK bU (aV 0)) (aV 1))))
  (aH (eO (tV (aB n9 (aF gC.eV (aA dQ (aA eF (aA (eT aG) aG)))) (eI 200)))
   (g9 (aA (eC (.str "too many fillings to list")) aG) "TooGreat")
   dE)
  (aH (kA 4 (eU aG))
  (aH (eM (cQ (aF hJ (aA b8 (aA dQ (aV 3))))) (n6 5)
   (sX (qO 4 tU (aX (cN 1 [5,1] (b9 (aA (aF bL (aA jA (aV 1))) aG)) (g1 0) dM (aF LL.dF (aA cV (aA (aF aP (aA cV (aA dQ (aV 0)))) aG))))))))
  (bI (cK d8 (aV 4)))))))))
def dO:g8:=bZ 9 5
  (aH (aO 5 (eC .non))
  (aH (aO 6 (eU aG))
  (aH (aO 7 (LR (aA (cK bU (aV 1)) aG)))
  (xW (eO (tV (aB j9 b8 (eC (.str "rows"))))
    (fR (c6 bL (aA vD (aV 2))) (aO 5 (aF bL (aA vD (aV 2)))))
    (eO (tV (aB j9 b8 (eC (.str "row"))))
     (fR (c6 aP (aA vD (aA dQ (aV 3)))) (aO 5 (aF aP (aA vD (aA dQ (aV 3))))))
     (eO (tV (aB j9 b8 (eC (.str "place"))))
      (fR (c6 bM (aA vD (aA dQ (aV 4)))) (aO 5 (aF bM (aA vD (aA dQ (aV 4))))))
      (eO (tV (aB j9 b8 (eC (.str "filling"))))
       (fR (c6 bK (aA cV (aA dQ (aV 3)))) (aO 5 (aF bK (aA cV (aA dQ (aV 3))))))
       (eO (tV (aB j9 b8 (eC (.str "number"))))
        (fR (c6 aW (aA cV (aA dQ (aV 4)))) (aO 5 (aF aW (aA cV (aA dQ (aV 4))))))
        (fR (c6 bJ (aA cV (aV 2))) (aO 5 (aF bJ (aA cV (aV 2)))))))))) (λc=>if c="NoNumber" then aa [.no,.no,.no,.no,.no,.no,.ro (.lst [.bl ag,.bl ag,.bl ag,.bl ae,.bl ag,.bl ag,.bl ag,.bl ag,.bl ag,.bl ag,.bl ag,.bl ag,.bl ag,.bl ae]),.no,.no] else if c="NoFilling" then aa [.no,.no,.no,.no,.no,.no,.ro (.lst [.bl ag,.bl ag,.bl ag,.bl ag,.bl ag,.bl ag,.bl ag,.bl ae,.bl ag,.bl ag,.bl ag,.bl ag,.bl ag,.bl ae]),.no,.no] else if c="TooGreat" then aa [.no,.no,.no,.no,.no,.no,.ro (.lst [.bl ag,.bl ag,.bl ag,.bl ag,.bl ae,.bl ag,.bl ag,.bl ag,.bl ag,.bl ag,.bl ag,.bl ag,.bl ag,.bl ae]),.no,.no] else af)
  (aH (eO (tV (aB n9 (cK bU (aV 6)) (eI 0)))
   (bI (eT (aA (eC (.str "refused")) (aA (aF bH.gL (aV 6)) aG))))
   dE)
  (bI (eT (aA (eC (.str "told")) (aV 5)))))))))
def iA:g8:=bZ 8 3
  (aH (kA 3 (cK FP (aV 0)))
  (aH (aO 4 (aB e8 (aB cZ dQ (eI 0)) (eI 9)))
  (aH (eO (tV (aB j9 gG (eI 8)))
   (aH (aO 5 (aB bX (eI 1) (aB e8 (aB bX (aB mulM (eI 64) (aB cZ dQ (eI 1))) (aB cZ dQ (eI 2))) (eI 290))))
   (bI (cK d8 (aA (xS (aB bX (aB bX eF (aB repLM eF (eI 290))) (aB repLM (eU (aA (eI 1) aG)) (eI 290))) wM (oE (aB bX (cK bU (aV 3)) jA))) aG))))
   dE)
  (aH (eO (tV (aB j9 gG (eI 0)))
   (aH (mC 6 (mB (aB e8 (aB cZ dQ (eI 1)) (aB bX (cK bU (aV 3)) (eI 1)))))
   (bI (cK d8 (aA (aB bX (aB bX (xS eF wM (oE m3)) (eU (aA (aB bX (eI 1) (aB e8 (aB cZ dQ (eI 2)) (eI 3))) aG))) (xS eF (oE m3) wM)) aG))))
   dE)
  (aH (eO (tV (aB j9 (cK bU (aV 3)) (eI 0)))
   (bI (eT aG))
   dE)
  (aH (mC 6 (mB (aB e8 (aB cZ dQ (eI 1)) (cK bU (aV 3)))))
  (aH (mC 7 (mB (aB e8 (aB cZ dQ (eI 2)) (cK bU (aV 3)))))
  (aH (eO (tV (aB j9 gG (eI 1)))
   (vG 3 (aB FQ (xS eF wM (oE m3)) (xS eF (oE (aB bX m3 (eI 1))) wM)))
   (eO (tV (aB j9 gG (eI 2)))
    (kO 3 (aX (aB cZ (eU (aA (eI 0) (aA (qN (eI 1)) (aA (qN cV) aG)))) (aB e8 (aB cZ dQ (eI 3)) (eI 3)))) m3)
    (eO (tV (aB j9 gG (eI 3)))
     (kO 3 (aX (aB bX cV (eI 1))) m3)
     (eO (tV (aB j9 gG (eI 4)))
      (kO 3 (mB (aB dH (aB cZ eF m3) (eI 1))) m3)
      (eO (tV (aB j9 gG (eI 5)))
       (kO 3 (mB (aB bX (aB cZ eF m3) (eI 1))) m3)
       (eO (tV (aB j9 gG (eI 6)))
        (aH (kO 3 (aX (aB cZ b8 vD)) m3)
        (kO 3 (aX (aB cZ b8 m3)) vD))
        dE))))))
  (bI (cK d8 (aV 3)))))))))))
def pT:g8:=bZ 7 3
  (aH (aO 3 (aB dH (qN (eI 1)) (aB e8 (aB cZ dQ (eI 0)) (eI 3))))
  (aH (eO (tV (aB j9 (aB e8 (aB l8 (aB cZ dQ (eI 0)) (eI 3)) (eI 2)) (eI 1)))
   (aO 3 (aB dH (qN (eI 1)) (aF LL.eD (aA (aF LL.dR (aA b8 (aA (eI 3) aG))) (aA (aB dH (aB i7 (eI 10) (eI 60)) (eI 1)) (aA (eI 300007) aG))))))
   dE)
  (aH (aO 4 (aB cZ (eU (aA (eI 0) (aA (qN (eI 1)) (aA (eI 5) (aA (aF LL.eD (aA (aF LL.dR (aA b8 (aA (eI 4) aG))) (aA (aB i7 (eI 10) (eI 60)) (aA (eI 400009) aG)))) aG))))) (aB e8 (aB cZ dQ (eI 1)) (eI 4))))
  (aH (aO 5 (cK d8 (aA (cN 1 [2] (b9 (aA (aB cZ (eU (aA (cK bU (aV 1)) (aA (eI 0) (aA (eI 3) aG)))) (aB e8 (aB cZ dQ (eI 2)) (eI 3))) aG)) (g1 0) dM (aB dH (aB e8 (aB cZ cV (aB bX (eI 3) b8)) (eI 5)) (eI 1))) aG)))
  (aH (eM (cQ (eT (aA (eC (.str "list")) (aA (eC (.str "number")) (aA (eC (.str "rows")) (aA (eC (.str "filling")) (aA (eC (.str "place")) (aA (eC (.str "row")) aG)))))))) (n6 6)
   (eO (jD (tV (aF (LL.eA 6) (aA (aF dO (aA m3 (aA cV (aA eF (aA gG (aV 5)))))) (aA (eT (aA (eC (.str "refused")) (aA (eC (.str "NoNumber")) aG))) aG)))))
    (bI (eC (.bl ag)))
    dE))
  (bI (eC (.bl ae))))))))
def BX:g8:=bZ 12 1
  (aH (aO 1 (aF LL.pK (aA b8 (aA (eI 0) (aA (eI 9) (aA (eI 100003) aG))))))
  (aH (aO 2 (cK bU (aV 1)))
  (aH (aO 3 (aF LL.iF (aA (aF LL.dR (aA b8 (aA (eI 2) aG))) (aA (eI 14) (aA (eI 200017) aG)))))
  (aH (eO (tV (aB j9 (aB e8 (aB cZ eF (eI 12)) (eI 2)) (eI 1)))
   (bI (aF pT (aA b8 (aA cV (aV 3)))))
   dE)
  (aH (aO 4 (aF LL.kW (aA b8 (aA (eI 4) (aA cV (aA (aF LL.kU (aA cV (aV 3))) (aA (eI 300007) aG)))))))
  (aH (aO 5 (aB bX (cK FU (aA (aB bX (eT (aA (eI 0) aG)) gG) aG)) (aF LL.jH (aA b8 (aA (eI 3) (aA (eI 400009) aG))))))
  (aH (aO 6 (aF iA (aA gG (aA jA (aA (xS eF (oE (eI 9)) wM) aG)))))
  (aH (eO (tV (aB j9 (aB e8 (aB l8 (aB cZ eF (eI 13)) (eI 3)) (eI 2)) (eI 1)))
   (aO 6 (xS (aF iA (aA m3 (aA jA (aA (xS eF (oE (eI 10)) wM) aG)))) wM (oE (eI 300))))
   dE)
  (aH (R8 (aX (aF dO (aA (eC (.str "number")) (aA cV (aA jA (aA (eI 0) (aV 6))))))) (IL 7 8))
  (aH (eO (jD (tV (aF gC.c7 (aA cV (aA jA (aV 6))))))
   (eO (vE (tV (aB OH vD (eC (.str "refused")))) (tV (aB OH YN (eC (.str "NoFilling")))))
    (bI (eC (.bl ag)))
    dE)
   (eO (tV (aB OH vD (eC (.str "told"))))
    (bI (eC (.bl ag)))
    (eO (jD (tV (aF (LL.eA 6) (aA (aF dO (aA (eC (.str "filling")) (aA cV (aA jA (aA YN (aA (eT aG) aG)))))) (aA (eT (aA (eC (.str "told")) (aV 6))) aG)))))
     (bI (eC (.bl ag)))
     dE)))
  (aH (aO 9 (aB cZ (eU (aA (qN (eI 1)) (aA (aB dH (qN (eI 1)) (aF LL.eD (aA (aF LL.dR (aA b8 (aA (eI 13) aG))) (aA (aB i7 (eI 10) (eI 60)) (aA (eI 500009) aG))))) (aA (aB dH (aB BA (aB i7 (eI 10) (eI 60)) (eI 10)) (eI 1)) aG)))) (aB e8 (aB cZ eF (eI 13)) (eI 3))))
  (aH (eO (jD (tV (aF (LL.eA 6) (aA (aF dO (aA (eC (.str "filling")) (aA cV (aA jA (aA um (aA (eT aG) aG)))))) (aA (eT (aA (eC (.str "refused")) (aA (eC (.str "NoNumber")) aG))) aG)))))
   (bI (eC (.bl ag)))
   dE)
  (aH (aO 10 (eT (aA (eC (.str "refused")) (aA (eC (.str "TooGreat")) aG))))
  (aH (eO (tV (aB j9 dQ (eI 0)))
   (aO 10 (eT (aA (eC (.str "told")) (aA (eT (aA (eT aG) aG)) aG))))
   dE)
  (aH (aO 11 (aB bX (aB i7 (eI 10) (eI 9)) (aF LL.eD (aA (aF LL.dR (aA b8 (aA (eI 14) aG))) (aA (aB i7 (eI 10) (eI 59)) (aA (eI 600011) aG))))))
  (bI (aF (LL.eA 6) (aA (aF dO (aA (eC (.str "list")) (aA cV (aA Us (aA (eI 0) (aA (eT aG) aG)))))) (aV 10)))))))))))))))))))
open YL LL
def Le(o a:Out):Prop:=(∀ρ,o=.nx ρ->a=.nx ρ) /\∀d,o=.rt d->a=.rt d
def le_refl(o:Out):Le o o:=⟨λ_ h=>h,λ_ h=>h⟩
def yX(h:o=.no):Le o o':=⟨λ_ e=>(by rw[h] at e;cases e),λ_ e=>(by rw[h] at e;cases e)⟩
def le_eq(h:o'=o):Le o o':=by rw[h];show le_refl _
theorem gO(h:Le (f ρ) (f' ρ))(k:∀a,Le (t a) (t' a)):Le (aH f t ρ) (aH f' t' ρ):=by
 unfold aH
 cases e:f ρ with
 |no=>show yX rfl
 |nx a=>rw[h.1 _ e];show k a
 |rt d=>rw[h.2 _ e];show le_refl _
 |ex c=>show⟨λ_ e=>(by cases e),λ_ e=>(by cases e)⟩
def yY(h:Le (b (dD n ds)) (b' (dD n ds)))(e:bZ n np b ds=.ok d):bZ n np b' ds=.ok d:=by
 unfold bZ at e ⊢;by_cases a:ds.length=np
 .rw [Z_ a] at e ⊢
  cases q:b (dD n ds) with
  |no=>rw[q] at e;cases e
  |ex c=>rw[q] at e;cases e
  |nx ρ=>rw[q] at e;rw[h.1 _ q];show e
  |rt d'=>rw[q] at e;rw[h.2 _ q];show e
 .rw [Zz a] at e;cases e
abbrev UpA(t:AF):Prop:=∀ρ ds,t (gF ρ)=aa ds->t (bD ρ)=aa ds
abbrev UpE(f:EF):Prop:=∀ρ d,f (gF ρ)=aa d->f (bD ρ)=aa d
def uO:UpA aG:=λ_ _ h=>h
theorem nF(i:Nat):UpE (aS i):=λρ d h=>by
 unfold aS at h ⊢;unfold gF at h;unfold bD;rw[cf] at h ⊢
 cases e:ρ[i]? with
 |none=>rw[e] at h;cases h
 |some s=>rw[e] at h;cases s<;>first|show h|cases h
theorem jO(j:UpE f)(a:UpA t):UpA (aA f t):=λρ ds h=>by
 unfold aA at h ⊢
 cases e:f (gF ρ) with
 |none=>rw[e] at h;cases h
 |some d =>
  rw[j _ _ e];rw[e] at h
  cases e2:t (gF ρ) with
  |none=>rw[e2] at h;cases h
  |some ds2=>rw[a _ _ e2];rw[e2] at h;show h
theorem Z4(a:UpA t):UpE (aF R t):=λρ d h=>by
 unfold aF at h ⊢
 cases e:t (gF ρ) with
 |none=>rw[e] at h;cases h
 |some ds=>rw[a _ _ e];rw[e] at h;show h
theorem M4(a:∀ds d,R ds=.ok d->R' ds=.ok d)(j:UpA t)(h:aF R t (gF ρ)=aa d):c6 R' t (bD ρ)=af/\aF R' t (gF ρ)=aa d:=by
 unfold aF at h
 cases e:t (gF ρ) with
 |none=>rw[e] at h;cases h
 |some ds =>
  rw[e] at h;have h:m4 (R ds)=aa d:=h
  cases q:R ds with
  |no=>rw[q] at h;cases h
  |ex c=>rw[q] at h;cases h
  |ok d' =>
   rw[q] at h;cases h;show⟨?_,?_⟩
   .unfold c6;rw[j _ _ e];show FT (R' ds)=af;rw[a _ _ q];rfl
   .unfold aF;rw[e];show m4 (R' ds)=_;rw[a _ _ q];rfl
theorem JU(j:∀ds d,R ds=.ok d->R' ds=.ok d)(h:UpA t)(ρ:bT):Le (aO i (aF R t) ρ) (fR (c6 R' t) (aO i (aF R' t)) ρ):=by
 cases e:aF R t (gF ρ) with
 |none=>show yX (by unfold aO;rw[e])
 |some d =>
  obtain⟨a,b⟩:=M4 j h e;show le_eq ((AS a rfl).trans ?_);unfold aO;rw[e,b]
theorem M5(a:UpA t)(ρ:bT):Le (sX (aX (aF R t)) ρ) (fR (c6 R t) (sX (aX (aF R t))) ρ):=by
 cases e:aF R t (gF ρ) with
 |none=>show yX (by unfold sX aX;rw[e];rfl)
 |some d=>show le_eq (AS (M4 (λ_ _ h=>h) a e).1 rfl)
theorem aFg(ρ:bT):Le (eO c (λ_=>.no) e ρ) (eO c r e ρ):=by
 unfold eO
 cases c (bD ρ) with
 |none=>show le_refl _
 |some b=>cases b;show le_refl _;show yX rfl
def aCx(f:SF)(ρ:bT):Le (f ρ) (tX f ρ):=by unfold tX;cases f ρ<;>first|show le_refl _|show⟨λ_ e=>(by cases e),λ_ e=>(by cases e)⟩
def DR(h:bH.bL ds=.ok d):bL ds=.ok d:=by unfold bL;unfold bH.bL at h;show yY (gO (M5 (jO (nF _) uO) _) λ_=>le_refl _) h
def UQ(h:bH.aP ds=.ok d):aP ds=.ok d:=by unfold aP;unfold bH.aP at h;show yY (gO (JU (λ_ _=>DR) (jO (nF _) (jO (nF _) uO)) _) λ_=>le_refl _) h
def Z6(h:bH.bM ds=.ok d):bM ds=.ok d:=by unfold bM;unfold bH.bM at h;show yY (gO (JU (λ_ _=>DR) (jO (nF _) (jO (nF _) uO)) _) λ_=>le_refl _) h
def Z7(h:gC.aW ds=.ok d):aW ds=.ok d:=by unfold aW;unfold gC.aW at h;show yY (gO (M5 (jO (nF _) uO) _) λ_=>gO (aFg _) λ_=>gO (le_refl _) λ_=>gO (le_refl _) λ_=>gO (le_refl _) λ_=>gO (JU (λ_ _=>Z6) (jO (nF _) (jO (nF _) (jO (Z4 (jO (nF _) uO)) uO))) _) λ_=>gO (aCx _ _) λ_=>le_refl _) h
theorem aCy:Le (fR (nW f (c6 bH.aP t)) (bI (aF LL.dF (aA f (aA (aF bH.aP t) aG)))) ρ) (fR (nW f (c6 aP t)) (bI (aF LL.dF (aA f (aA (aF aP t) aG)))) ρ):=by
 have quiet:aF bH.aP t (bD ρ)=af->c6 bH.aP t (bD ρ)=af->fR (nW f (c6 bH.aP t)) (bI (aF LL.dF (aA f (aA (aF bH.aP t) aG)))) ρ=.no:=λh h2=>by
  show(AS ?_ rfl).trans ?_
  .unfold nW;cases f (bD ρ);rfl;show h2
  .unfold bI;generalize aF bH.aP t=g at h ⊢;unfold aF;(try unfold aV);unfold aA aG;rw[h];cases f (bD ρ)<;>rfl
 cases e:t (bD ρ) with
 |none=>show yX (quiet (by unfold aF;rw[e];rfl) (by unfold c6;rw[e];rfl))
 |some ds =>
  cases q:bH.aP ds with
  |no=>show yX (quiet (by unfold aF;rw[e];show m4 (bH.aP ds)=_;rw[q];rfl) (by unfold c6;rw[e];show FT (bH.aP ds)=_;rw[q];rfl))
  |ex c =>
   have j:c6 bH.aP t (bD ρ)=aa c:=by unfold c6;rw[e];show FT (bH.aP ds)=_;rw[q];rfl
   cases hf:f (bD ρ) with
   |none =>
    show yX ((AS ?_ rfl).trans ?_)
    .unfold nW;rw[hf];rfl
    .unfold bI aF aA aG;rw[hf];rfl
   |some d =>
    have:nW f (c6 bH.aP t) (bD ρ)=aa c:=by unfold nW;rw[hf];show j
    rw[qF this];show⟨λ_ e=>(by cases e),λ_ e=>(by cases e)⟩
  |ok d =>
   have q2:=UQ q;have a:aF aP t (bD ρ)=aF bH.aP t (bD ρ):=by unfold aF;rw[e];show m4 (aP ds)=m4 (bH.aP ds);rw[q,q2]
   have l:c6 aP t (bD ρ)=c6 bH.aP t (bD ρ):=by unfold c6;rw[e];show FT (aP ds)=FT (bH.aP ds);rw[q,q2]
   show le_eq ?_;unfold fR bI nW;rw[l];generalize aF aP t=g at a ⊢;generalize aF bH.aP t=g' at a ⊢;unfold aF;(try unfold aV);unfold aA aG;rw[a]
def aCz(h:gC.bK ds=.ok d):bK ds=.ok d:=by unfold bK;unfold gC.bK at h;show yY (gO (le_refl _) λ_=>gO (le_refl _) λ_=>gO (le_refl _) λ_=>gO (le_refl _) λ_=>gO (le_refl _) λ_=>gO (le_refl _) λ_=>gO (le_refl _) λ_=>aCy) h
section
def Ux(d:f (gF ρ)=aa (.lst es))(h2:ρ[i]?=aa (.ow (.lst ds)))(a:ds.length+es.length<=16777216):sX (qO i tU (aX f)) ρ=.nx (ρ.set i (.ow (.lst (ds++es)))):=by
 have e:qO i tU (aX f) ρ=aa (ρ.set i (.ow (.lst (ds++es))),.non):=by unfold qO aX;rw[h2,d];show((nZ ρ[i]?).bind λds=>(tU ds (.lst es)).map _)=_;rw[h2];show((tU ds (.lst es)).map _)=_;rw[show tU ds (.lst es)=aa (ds++es,.non) from Z_ a];rfl
 unfold sX;rw[e]
variable{x:Q0a}
def pU(h:k<0):bH.aR [.int k]=.ex "NoNumber":=by unfold bH.aR;show AR rfl (mE (f6 (d:=.bl (Zv (k<0))) (binI (x:=k) (y:=0) rfl rfl rfl) (by rw[Zx h];rfl)) rfl)
def DS(h:k<0):bL [w,.int k]=.ex "NoNumber":=by unfold bL;show AR rfl (DG (qF (rc1 (x:=.int k) rfl (by rw[pU h];rfl))))
def Z8(h:k<0):aP [w,.int k,n]=.ex "NoNumber":=by unfold aP;show AR rfl (DG (qF (bH.IM (ds:=[w,.int k]) rfl (by rw[DS h];rfl))))
def UR(h:k<0):bM [w,.int k,n]=.ex "NoNumber":=by unfold bM;show AR rfl (DG (qF (bH.IM (ds:=[w,.int k]) rfl (by rw[DS h];rfl))))
def Z9(h:k<0):bK [w,.int k,n]=.ex "NoNumber":=by unfold bK;show AR rfl (DG (qF (rc1 (x:=.int k) rfl (by rw[pU h];rfl))))
def US(h:k<0):aW [w,.int k,n]=.ex "NoNumber":=by unfold aW;show AR rfl (DG (qF (rc1 (x:=.int k) rfl (by rw[pU h];rfl))))
def UT(h:k<0):bJ [w,.int k]=.ex "NoNumber":=by unfold bJ;show AR rfl (DG (qF (rc1 (x:=.int k) rfl (by rw[pU h];rfl))))
def past(h:0<=k)(d:aA cV aG (bD ρ)=aa [.int k])(a:aS 1 (gF ρ)=aa (.int k)):fR (c6 bH.aR (aV 1)) (sX (aX (aF bH.aR (aV 1)))) ρ=.nx ρ:=by show AS (bH.IM d (by rw[bH.kJ h];rfl)) ?_;unfold sX;rw[bH.xrE (fF (x:=.int k) a (bH.kJ h))]
def aDA(v:Ord.Rows x)(a:x.length<=9)(m:0<=k)(F:k<=10^61)(hN:¬ (0<=N/\N<gC.JT x k)):bK [aK x,.int k,.int N]=.ex "NoNumber":=by
 have z:=DL v a;obtain⟨kd,I,l,A⟩:=oP a z;have T:gC.Tb x kd:=⟨l,by rw[A];rfl⟩;have n:=gC.oS (q:=adr i8) (k:=k) a l T.o (gC.sN (x:=x));rw[gr,ny] at n
 let j:Sv:=.ro (.dC (adr i8) kd.1 kd.2)
 let p:Sv:=.ro (aE (gC.uN x.length k))
 unfold bK;show AR rfl (b7 (gC.S9 x k N .no .no .no .no .no .no) (past m rfl rfl) (b7 (gC.S9 x k N j .no .no .no .no .no) (c8 _ (fF rfl I) rfl) (b7 (gC.S9 x k N j p .no .no .no .no) (c8 _ (bW (x:=.int x.length) (y:=.int k) (cC (x:=aK x) rfl d6) rfl (gC.gM a m F)) rfl) (DG (mE (AQ (b:=ag) (f6 (d:=.bl ag) ?_ rfl) rfl) rfl)))));by_cases h:0<=N
 .exact bH.DN (x:=.int 0) (y:=.int N) (w:=.int (gC.JT x k)) rfl rfl (cR rfl rfl rfl n) (show aa (D.bl (Zv (0<=N)))=_ by rw[Zx h]) (show aa (D.bl (Zv (N<gC.JT x k)))=_ by rw[Zy λq=>hN ⟨h,q⟩])
 .exact bH.UC (x:=.int 0) (y:=.int N) rfl rfl (show aa (D.bl (Zv (0<=N)))=_ by rw[Zy h])
def aAA(a:0<=k)(h:lM [w,f,.int k]=.ok (.bl ag)):aW [w,.int k,f]=.ex "NoFilling":=by unfold aW;show AR rfl (b7 [.ro w,.ri k,.ro f,.no,.no,.no,.no,.no,.no] (past a rfl rfl) (DG (mE (AQ (b:=ag) (f6 (d:=.bl ag) (cR rfl rfl rfl h) rfl) rfl) rfl)))
theorem Fq:∀m t:Nat,1<=C ((m+t:Nat):Int) m
 |m,0=>by rw[a1P,SV];decide
 |0,t+1=>by rw[lW];decide
 |m+1,t+1=>by have a:=nA ((m+1+t:Nat):Int) m;have b:=Fq (m+1) t;have c:=F8 (m+1+t) m;rw[show((m+1+(t+1):Nat):Int)=((m+1+t:Nat):Int)+1 by lia,a];lia
theorem UU(m:Nat):∀t:Nat,(t:Int)+1<=C ((m+1+t:Nat):Int) (m+1)
 |0=>by rw[a1P,SV];decide
 |t+1=>by have a:=nA ((m+1+t:Nat):Int) m;have b:=UU m t;have c:=Fq m (t+1);rw[show m+(t+1)=m+1+t by lia] at c;rw[show((m+1+(t+1):Nat):Int)=((m+1+t:Nat):Int)+1 by lia,a];lia
def aAB(h:x.length<=9)(n:1<=x.length)(hw:Gg x w)(l:10^9<=k):200<gC.JT x k:=by
 have d:=hw.1;have top:k<=bH.bA w k:=by
  have:(sH w).length<=((w.length:Int)-1).toNat:=by unfold sH;show f_ (lj _ _) ?_;rw[aN];show bj _
  unfold bH.bA;lia
 obtain⟨a,b⟩:=yP (R:=gC.Rw x.length k) gC.M0 w [] (gC.yW w [] hw.2);rw[la,gC.DQ hw ∅] at b;obtain⟨m,j⟩:∃m,w.length=m+1:=⟨w.length-1,by lia⟩;have c:=UU m ((bH.bA w k).toNat-(m+1));rw[show((m+1+((bH.bA w k).toNat-(m+1)):Nat):Int)=bH.bA w k by lia] at c;have b:gK x (gC.Rw x.length k) [] w+C (bH.bA w k) w.length<=Gn x (gC.Rw x.length k) w.length []:=b;rw[d] at b;rw[show x.length=m+1 by lia] at b;show 200<Gn x (gC.Rw x.length k) x.length [];rw[show x.length=m+1 by lia] at a ⊢;lia
abbrev S6(x:Q0a)(k:Int)(j h d a:Sv):bT:=[.ro (aK x),.ri k,j,h,d,a]
def UW(v:Ord.Rows x)(a:x.length<=9)(I:1<=x.length)(hw:Gg x w)(F:10^9<=k)(h:k<=10^61):bJ [aK x,.int k]=.ex "TooGreat":=by
 have m:0<=k:=by lia
 have z:=DL v a;obtain⟨kd,J,l,A⟩:=oP a z;have T:gC.Tb x kd:=⟨l,by rw[A];rfl⟩;have n:=gC.oS (q:=adr i8) (k:=k) a l T.o (gC.sN (x:=x));rw[gr,ny] at n;have big:=aAB a I hw F
 let j:Sv:=.ro (.dC (adr i8) kd.1 kd.2)
 let p:Sv:=.ro (aE (gC.uN x.length k))
 unfold bJ;show AR rfl (b7 (S6 x k .no .no .no .no) (past m rfl rfl) (b7 (S6 x k j .no .no .no) (c8 _ (fF rfl J) rfl) (b7 (S6 x k j p .no .no) (c8 _ (bW (x:=.int x.length) (y:=.int k) (cC (x:=aK x) rfl d6) rfl (gC.gM a m h)) rfl) (DG (mE (f6 (d:=.bl (Zv (gC.JT x k>200))) (binI (x:=(gC.JT x k)) (y:=200) (cR rfl rfl rfl n) rfl rfl) (by rw[Zx big];rfl)) rfl)))))
def UX(v:0<=k)(p:k<=10^61):bJ [aK [],.int k]=.ok (.tup [.tup []]):=by
 have I:([]:Q0a).length<=9:=by decide
 obtain⟨kd,X,K,U⟩:=oP (x:=[]) I (λr O=>nomatch O);have T:gC.Tb [] kd:=⟨K,by rw[U];rfl⟩;have eb:=gC.oS (q:=adr i8) (k:=k) I K T.o (gC.sN (x:=[]));have big:gC.JT [] k=1:=by show gC.Rw 0 k []=1;show max 0 (C (k+(0:Nat)-1-dl (-1) []) 0)=1;rw[lW];rfl
 let l:Sv:=.ro (.dC (adr i8) kd.1 kd.2)
 let m:Sv:=.ro (aE (gC.uN 0 k))
 have L:Bg 210 (bH.bA [] k):=bH.JR (by decide) v p;have Y:=DR (bH.DM (w:=[]) (k:=k) (by decide) v L);obtain⟨c,cl,cd,cr,F⟩:=bH.MY (w:=[]) (k:=k) (N:=0) (by decide) v L (by decide) (by rw[gr,lW];decide);obtain rfl:c=[]:=qd.1 cl;have F:=UQ F;have ef:dF [τ [],τ []]=.ok (τ []):=lX (g:=[]) (r:=[]) (by decide) (λa A=>nomatch A);unfold bJ;show BS rfl ?_;show aL (S6 [] k .no .no .no .no) (past v rfl rfl) ?_;show aL (S6 [] k l .no .no .no) (c8 _ (fF rfl X) rfl) ?_;show aL (S6 [] k l m .no .no) (c8 _ (bW (x:=.int (0:Nat)) (y:=.int k) rfl rfl (gC.gM (n:=0) (by decide) v p)) rfl) ?_;show aL (S6 [] k l m .no .no) (fA (f6 (d:=.bl (Zv (gC.JT [] k>200))) (binI (x:=(gC.JT [] k)) (y:=200) (cR rfl rfl rfl eb) rfl rfl) (by rw[big];rfl)) rfl) ?_;show aL (S6 [] k l m (.ow (.lst [])) .no) rfl ?_;have Z:hJ [aK [],.dC (adr i8) kd.1 kd.2,aE (gC.uN 0 k)]=.ok (.lst [.tup []]):=rfl;show gU (λρ=>ρ=S6 [] k l m (.ow (.lst [.tup []])) (.ro (.tup []))) ?_ λρ e=>by subst e;show gA _ rfl rfl
 show oF [.tup []] (λj ρ=>(j=0/\ρ=S6 [] k l m (.ow (.lst [])) .no)\/(j=1/\ρ=S6 [] k l m (.ow (.lst [.tup []])) (.ro (.tup [])))) ?_ (.inl ⟨rfl,rfl⟩) (λj d ρ J h=>?_) λρ h=>by
  rcases h with⟨z,_⟩|⟨_,e⟩
  .cases z
  .exact e
 .show (aF hJ _ _).bind A8=_;rw[cR (x:=aK []) (y:=.dC (adr i8) kd.1 kd.2) (z:=aE (gC.uN 0 k)) rfl rfl rfl Z];rfl
 .rcases h with⟨rfl,rfl⟩|⟨rfl,rfl⟩
  .cases J;show⟨S6 [] k l m (.ow (.lst [])) (.ro (.tup [])),rfl,S6 [] k l m (.ow (.lst [.tup []])) (.ro (.tup [])),Ux (ds:=[]) (es:=[.tup []]) (gI [.int 0] ?_ (by decide) ?_) rfl (by decide),.inr ⟨rfl,rfl⟩⟩
   .show (aA _ _ _).bind xR=_;rw[args1 (x:=.int 1) (bW (x:=τ []) (y:=.int k) rfl rfl Y)];rfl
   .exact eB (α:=Int) D.int (λ_=>.tup []) [0] λa A=>by obtain rfl:=cc.1 A;show⟨_,rfl,bW (x:=τ []) (y:=τ []) rfl (cR (x:=τ []) (y:=.int k) (z:=.int 0) rfl rfl rfl F) ef⟩
  .cases J
end
section
variable{x:Q0a}
theorem Fo:∀(l:Int) (w:Q0e),0<=dl l w/\dl l w<=w.length
 |_,[]=>⟨lr _,lr _⟩
 |l,t::w=>by have:=Fo t w;rw[cn];show 0<=(if t<l then 1 else 0)+dl t w/\(if t<l then 1 else 0)+dl t w<=_;split<;>lia
theorem UY{c:Int}{f:Int->Int}:∀l:Q0e,(∀t∈l,f t<=c)->(l.map f).sum<=l.length*c
 |[],_=>by simp
 |a::l,h=>by
  have j:=h a (cb ..);have h2:=UY l λt d=>h t (e_ _ d);rw[bo,ib,cn];have:((l.length+1:Nat):Int)*c=l.length*c+c:=by rw[a2r,wt];simp
  lia
theorem Fn{R:List Int->Int}{B:Int}(j:0<=B){N:Nat}(d:∀w,w.length=N->R w<=B)(a:x.length<=9):∀(m:Nat) (b:Q0e),m+b.length=N->Gn x R m b<=9^m*B
 |0,b,h=>by rw[Int.pow_zero,Jv];show d b ∅
 |m+1,b,h=>by
  have q:=UY (f:=λt=>Gn x R m (b++[t])) (aJ x b) λt _=>Fn j d a m (b++[t]) (by rw[cy];show m+(b.length+1)=N;lia);have l:(aJ x b).length<=9:=by unfold aJ;show f_ (lj _ _) (f_ (lj _ _) ?_);rw[aN];show a
  have p:(0:Int)<=9^m*B:=a2u (a2p (by decide)) j;show((aJ x b).map λt=>Gn x R m (b++[t])).sum<=_;rw[Ju];have e:(9:Int)^m*9*B=9*(9^m*B):=by rw[mn ((9:Int)^m) 9,wm]
  rw[e];have:((aJ x b).length:Int)*(9^m*B)<=9*(9^m*B):=Bj ∅ p;lia
def O2(j:x.length<=9)(z:0<=k)(y:k<=10^61):gC.JT x k<((10:Int)^60)^10-1:=by
 have key:∀w:Q0e,w.length=x.length->gC.Rw x.length k w<=2^1900:=λw hw=>by
  have v:=Fo (-1) w;have d:=Fw (gC.Du (a:=k+x.length-1-dl (-1) w) ∅ ∅) (m:=x.length) ∅;have d:(C (k+x.length-1-dl (-1) w) x.length).natAbs<2^(211*x.length+1):=d;have h:(2:Nat)^(211*x.length+1)<=2^1900:=r9 (by decide) ∅;have p:(2:Int)^1900=((2^1900:Nat):Int):=by rw[Jx];rfl
  show max 0 (C (k+x.length-1-dl (-1) w) x.length)<=(2:Int)^1900;rw[p];generalize (2:Nat)^1900=P at h ⊢;generalize (2:Nat)^(211*x.length+1)=P2 at h d;lia
 have l:(0:Int)<=2^1900:=a2p (by decide);have q:=Fn (x:=x) l key j x.length [] (by simp);have o:(9:Int)^x.length<=9^9:=by
  have:(9:Nat)^x.length<=9^9:=r9 (by decide) j;have:=Int.ofNat_le.2 this
  rwa [Jx,Jx] at this
 have q2:(9:Int)^x.length*2^1900<=9^9*2^1900:=Bj o l;have n:(9:Int)^9*2^1900<(10^60)^10-1:=by decide+kernel
 show Int.lt_of_le_of_lt (wo q q2) n
def O5(a:Ord.Rows x)(d:x.length<=9)(j:0<=k):lM [aK x,τ fl,.int k]=.ok (.bl (Zv (fl.length=x.length)&&(ZA k fl&&rs x fl))):=by
 by_cases h:fl.length=x.length
 .rw [oM a d j h,Zx h];rfl
 .rw [Zy h];unfold lM;show eQ rfl (uD (mE (qE (b:=ag) (f6 (binI (x:=k) (y:=0) rfl rfl pL) (by rw[Zy (show ¬ k<0 by lia)];rfl)) (λl=>?_) (λz=>by cases z)) (d9 rfl)));show f6 (bG (cC rfl dS) (cC rfl d6) rS) ?_;rw[Zy (show ¬ (fl.length:Int)=(x.length:Int) by lia)];rfl
def O6(a:fl.length≠x.length):gC.c7 [aK x,.int k,τ fl]=.ok (.bl ag):=by unfold gC.c7;show eQ rfl (uD (mE (qE (b:=ag) (AQ (b:=ae) (f6 (d:=.bl ae) (isi (d:=τ fl) rfl) rfl) rfl) (λ_=>f6 (d:=.bl (!Zv ((fl.length:Int)=x.length))) (binI (x:=fl.length) (y:=x.length) (cC (x:=τ fl) rfl sI) (cC (x:=aK x) rfl d6) rfl) ?_) λh=>by cases h) (d9 rfl)));rw[Zy ∅];rfl
theorem GP{p:Int->Bool}{S:Sv->bT}{g:GSF}{b:SF}(d:∀v a,g (.int a) (S v)=aa (S (.ro (.int a))))(j:∀a,p a=ae->b (S (.ro (.int a)))=.nx (S (.ro (.int a))))(m:∀a,p a=ag->b (S (.ro (.int a)))=.rt (.bl ag)):∀(l:Q0e) (v:Sv),l.all p=ag->fX g b (l.map D.int) (S v)=.rt (.bl ag)
 |[],v,h=>by cases h
 |a::l,v,h=>by
  rw[bo];unfold fX;rw[d];dsimp only
  cases e:p a with
  |false=>rw[m a e]
  |true =>
   rw[j a e];dsimp only;show GP d j m l _ ?_;rw[mj,e] at h;show h
def UZ{k:Int}{fl:Q0e}(j:fl.length=x.length)(h:ZA k fl=ag):gC.c7 [aK x,.int k,τ fl]=.ok (.bl ag):=by
 unfold gC.c7;show eQ rfl (b7 [.ro (aK x),.ri k,.ro (τ fl),.no] (fA (qE (b:=ag) (AQ (b:=ae) (f6 (d:=.bl ae) (isi (d:=τ fl) rfl) rfl) rfl) (λ_=>f6 (d:=.bl (!Zv ((fl.length:Int)=x.length))) (binI (x:=fl.length) (y:=x.length) (cC (x:=τ fl) rfl sI) (cC (x:=aK x) rfl d6) rfl) (by rw[j];simp[kL])) λh=>by cases h) rfl) (bH.yO ?_));have cond:∀a:Int,vE (jD (tV (kM "int" eF))) (vE (tV (kM "bool" eF)) (vE (tV (aB CV eF (eI 1))) (tV (aB n9 eF cV)))) (bD [.ro (aK x),.ri k,.ro (τ fl),.ri a])=aa (!(Zv (1<=a)&&Zv (a<=k))):=λa=>by
  show qE (b:=ag) (AQ (b:=ae) (f6 (d:=.bl ae) (isi (d:=.int a) rfl) rfl) rfl) (λ_=>qE (b:=ag) (f6 (d:=.bl ag) (isi (d:=.int a) rfl) rfl) (λ_=>?_) λh=>by cases h) λh=>by cases h
  by_cases q:a<1
  .refine qE (b:=ae) (f6 (d:=.bl (Zv (a<1))) (binI (x:=a) (y:=1) rfl rfl rfl) (by rw[Zx q];rfl)) (λh=>by cases h) λ_=>?_;rw[Zy (show ¬ 1<=a by lia)];rfl
  .refine qE (b:=ag) (f6 (d:=.bl (Zv (a<1))) (binI (x:=a) (y:=1) rfl rfl rfl) (by rw[Zy q];rfl)) (λ_=>f6 (d:=.bl (Zv (a>k))) (binI (x:=a) (y:=k) rfl rfl rfl) ?_) λh=>by cases h
   rw[Zx (show 1<=a by lia)];by_cases q2:a<=k
   .rw [Zx q2,Zy (show ¬ a>k by lia)];rfl
   .rw [Zy q2,Zx (show a>k by lia)];rfl
 show GP (p:=λv=>Zv (1<=v)&&Zv (v<=k)) (S:=λv=>[.ro (aK x),.ri k,.ro (τ fl),v]) (λ_ _=>rfl) (λa e=>fA ((cond a).trans (by rw[e];rfl)) rfl) (λa e=>mE ((cond a).trans (by rw[e];rfl)) (d9 rfl)) fl .no h
def Uw(j:a ρ=aa (.bl ae))(h:b ρ=aa d):qM a b ρ=aa d:=by unfold qM;rw[j];show h
theorem aDB(q:Ord.Rows x)(z:x.length<=9)(I:0<=k):gC.c7 [aK x,.int k,τ fl]=.ok (.bl (Zv (fl.length=x.length)&&(ZA k fl&&rs x fl))):=by
 by_cases l:fl.length=x.length
 case neg =>
  rw[O6 l,Zy l];rfl
 rw[Zx l]
 cases hi:ZA k fl with
 |false=>rw[UZ l hi];rfl
 |true =>
  have A:=gx.1 hi;have m:=F5 q z l;unfold gC.c7;show BS rfl ?_;show aL [.ro (aK x),.ri k,.ro (τ fl),.no] (fA (qE (b:=ag) (AQ (b:=ae) (f6 (d:=.bl ae) (isi (d:=τ fl) rfl) rfl) rfl) (λ_=>f6 (d:=.bl (!Zv ((fl.length:Int)=x.length))) (binI (x:=fl.length) (y:=x.length) (cC (x:=τ fl) rfl sI) (cC (x:=aK x) rfl d6) rfl) (by rw[l];simp[kL])) λh=>by cases h) rfl) ?_;show gU (λρ=>∃v,ρ=[.ro (aK x),.ri k,.ro (τ fl),v]) ?_ λρ n=>by obtain⟨v,e⟩:=n;subst e;show gA (.bl (rs x fl)) (Uw ?_ (bW rfl rfl m)) rfl;show aa (D.bl (Zv (k >= 0)))=_;rw[Zx ∅]
  show oF (fl.map D.int) (λ_ ρ=>∃v,ρ=[.ro (aK x),.ri k,.ro (τ fl),v]) rfl ⟨.no,rfl⟩ (λj d ρ p ⟨v,e⟩=>?_) λρ h=>h;subst e;rw[cf] at p;obtain⟨a,F,rfl⟩:=ip.1 p;have o:=A a (lh F);rw[gy,decide_eq_true_eq,decide_eq_true_eq] at o;show⟨[.ro (aK x),.ri k,.ro (τ fl),.ri a],rfl,_,fA (qE (b:=ag) (AQ (b:=ae) (f6 (d:=.bl ae) (isi (d:=.int a) rfl) rfl) rfl) (λ_=>qE (b:=ag) (f6 (d:=.bl ag) (isi (d:=.int a) rfl) rfl) (λ_=>qE (b:=ag) (f6 (d:=.bl (Zv (a<1))) (binI (x:=a) (y:=1) rfl rfl rfl) (by rw[Zy ∅];rfl)) (λ_=>f6 (d:=.bl (Zv (a>k))) (binI (x:=a) (y:=k) rfl rfl rfl) (by rw[Zy ∅];rfl)) λh=>by cases h) λh=>by cases h) λh=>by cases h) rfl,_,rfl⟩
def aDC:bH.gL [.lst [.bl ag,.bl ag,.bl ag,.bl ag,.bl ae,.bl ag,.bl ag,.bl ag,.bl ag,.bl ag,.bl ag,.bl ag,.bl ag,.bl ae]]=.ok (.str "TooGreat"):=bH.qY (i:=4) rfl rfl rfl rfl
def aDD:bH.gL [.lst [.bl ag,.bl ag,.bl ag,.bl ag,.bl ag,.bl ag,.bl ag,.bl ae,.bl ag,.bl ag,.bl ag,.bl ag,.bl ag,.bl ae]]=.ok (.str "NoFilling"):=bH.qY (i:=7) rfl rfl rfl rfl
def AV:SF:=(eO (tV (aB j9 b8 (eC (.str "rows"))))
    (fR (c6 bL (aA vD (aV 2))) (aO 5 (aF bL (aA vD (aV 2)))))
    (eO (tV (aB j9 b8 (eC (.str "row"))))
     (fR (c6 aP (aA vD (aA dQ (aV 3)))) (aO 5 (aF aP (aA vD (aA dQ (aV 3))))))
     (eO (tV (aB j9 b8 (eC (.str "place"))))
      (fR (c6 bM (aA vD (aA dQ (aV 4)))) (aO 5 (aF bM (aA vD (aA dQ (aV 4))))))
      (eO (tV (aB j9 b8 (eC (.str "filling"))))
       (fR (c6 bK (aA cV (aA dQ (aV 3)))) (aO 5 (aF bK (aA cV (aA dQ (aV 3))))))
       (eO (tV (aB j9 b8 (eC (.str "number"))))
        (fR (c6 aW (aA cV (aA dQ (aV 4)))) (aO 5 (aF aW (aA cV (aA dQ (aV 4))))))
        (fR (c6 bJ (aA cV (aV 2))) (aO 5 (aF bJ (aA cV (aV 2))))))))))
abbrev SA(a:aj)(x:Q0a)(k:Int)(n ns d:D):bT:=[.ro (.str a),.ro (aK x),.ri k,.ro n,.ro ns,.ro d,.ro (.lst []),.ro (τ (bE 0 x.length)),.no]
def BY(a:x.length<=9)(h:aS 1 ρ=aa (aK x)):LR (aA (cK bU (aV 1)) aG) ρ=aa (τ (bE 0 x.length)):=by unfold LR;rw[args1 (x:=.int x.length) (cC (x:=aK x) h d6)];show(if((x.length:Nat):Int).natAbs<=16777216 then aa (D.tup ((bE 0 ((x.length:Nat):Int).toNat).map D.int)) else af)=_;rw[Z_ ∅];rfl
def yZ(a:x.length<=9)(h:AV (SA wd x k n ns .non)=.nx (SA wd x k n ns d)):dO [.str wd,aK x,.int k,n,ns]=.ok (.tup [.str "told",d]):=by unfold dO;show eQ rfl (b7 _ rfl (b7 _ rfl (b7 (SA wd x k n ns .non) (c8 (τ (bE 0 x.length)) (BY a rfl) rfl) (bH.aF6 h ?_))));show b7 _ rfl (d9 rfl)
def DT{a:aj}{k:Int}{n ns ks:D}{c:aj}{ρ1:bT}(d:x.length<=9)(h:AV (SA a x k n ns .non)=.ex c)(j:c="NoNumber" \/c="NoFilling" \/c="TooGreat"):dO [.str a,aK x,.int k,n,ns]=.ok (.tup [.str "refused",.str c]):=by
 unfold dO;show eQ rfl (b7 _ rfl (b7 _ rfl (b7 (SA a x k n ns .non) (c8 (τ (bE 0 x.length)) (BY d rfl) rfl) ?_)));rcases j with rfl|rfl|rfl
 .refine bH.UJ h (Z_ rfl) (bH.yO (mE rfl (d9 ?_)));unfold eT;rw[args2 (x:=.str "refused") (y:=.str "NoNumber") rfl (fF (x:=bH.By) rfl bH.aCt)];rfl
 .refine bH.UJ h ((Zz (by decide)).trans (Z_ rfl)) (bH.yO (mE rfl (d9 ?_)));unfold eT;rw[args2 (x:=.str "refused") (y:=.str "NoFilling") rfl (fF rfl aDD)];rfl
 .refine bH.UJ h ((Zz (by decide)).trans ((Zz (by decide)).trans (Z_ rfl))) (bH.yO (mE rfl (d9 ?_)));unfold eT;rw[args2 (x:=.str "refused") (y:=.str "TooGreat") rfl (fF rfl aDC)];rfl
def BZ(U:d=τ r)(d0:cZ dr (.int 0)=aa (.int a))(d1:cZ dr (.int 1)=aa (.int b))(d2:cZ dr (.int 2)=aa (.int c))(d3:cZ dr (.int 3)=aa (.int e))(hr:r.length<=4000):∃A:Q0e,A.length<=292*r.length+300/\iA [d,.int k,dr]=.ok (τ A):=by
 have hm:∀{p n:Nat},(p:Int)<n->p<n:=λh=>by lia
 have main:∃z,iA [d,.int k,dr]=.ok z /\∃A:Q0e,A.length<=292*r.length+300/\z=τ A:=by
  unfold iA;show lV rfl ?_;show aL [.ro d,.ri k,.ro (dr),.ow (aE r),.no,.no,.no,.no] (ym (d:=aE r) (cC (x:=d) rfl (by rw[U];rfl))) ?_;show aL [.ro d,.ri k,.ro (dr),.ow (aE r),.ro (.int (a%9)),.no,.no,.no] (c8 (.int (a%9)) (binI (x:=a) (y:=9) (bG (x:=dr) (y:=.int 0) rfl rfl d0) rfl (bV (by decide))) rfl) ?_;have m:∀(j:Int) (ρ:bT),ρ[4]?=aa (.ro (.int (a%9)))->tV (aB j9 (aS 4) (eI j)) (bD ρ)=aa (Zv (a%9=j)):=λj ρ h=>by
   have:(bD ρ)[4]?=aa (aa (.int (a%9))):=by unfold bD;rw[cf,h];rfl
   show f6 (d:=.bl (Zv (a%9=j))) (binI (x:=(a%9)) (y:=j) (by unfold aS;rw[this];rfl) rfl rfl) rfl
  by_cases h8:a%9=8
  .refine pP (SK ae (by rw[m 8 _ rfl,Zx h8]) (λ_=>?_) λh=>by cases h);show aL [.ro d,.ri k,.ro (dr),.ow (aE r),.ro (.int (a%9)),.ro (.int (1+(64*b+c)%290)),.no,.no] (c8 (.int (1+(64*b+c)%290)) ?_ rfl) ?_
   .exact binI (x:=1) (y:=((64*b+c)%290)) rfl (binI (x:=(64*b+c)) (y:=290) (binI (x:=(64*b)) (y:=c) (binI (x:=64) (y:=b) rfl (bG (x:=dr) (y:=.int 1) rfl rfl d1) rfl) (bG (x:=dr) (y:=.int 2) rfl rfl d2) rfl) rfl (bV (by decide))) rfl
   .obtain ⟨J,el,O⟩:=bH.slL (f:=(aB bX (aB bX (aS 3) (aB repLM (aS 3) (eI 290))) (aB repLM (eU (aA (eI 1) aG)) (eI 290)))) (lo:=wM) (hi:=oE (aB bX (cK bU (aV 3)) (aS 5))) (ρ:=bD [.ro d,.ri k,.ro (dr),.ow (aE r),.ro (.int (a%9)),.ro (.int (1+(64*b+c)%290)),.no,.no]) (l:=r++(bp 290 r).flatten++(bp 290 [1]).flatten)
     (bG (x:=aE (r++(bp 290 r).flatten)) (y:=aE (bp 290 [1]).flatten) (bG (x:=aE r) (y:=aE (bp 290 r).flatten) rfl (bG (x:=aE r) (y:=.int 290) rfl rfl (bH.GN hr)) (bH.sM (by rw[bH.mJ];lia))) (bG (x:=aE [1]) (y:=.int 290) rfl rfl (bH.GN (by decide))) (bH.sM (by rw[cy,bH.mJ,bH.mJ];simp only[cn,gr];lia)))
     rfl (bH.Ko (i:=r.length+(1+(64*b+c)%290)) (binI (x:=r.length) (y:=(1+(64*b+c)%290)) (cC (x:=aE r) rfl (by unfold aE;rw[iR,az])) rfl rfl))
    rw[cy,cy,bH.mJ,bH.mJ] at O;simp only[cn,gr] at O;show gA (τ J) (cC (x:=aE J) el rfl) ⟨J,by lia,rfl⟩
  show aL _ (fA (by rw[m 8 _ rfl,Zy h8]) rfl) ?_;by_cases h0:a%9=0
  .refine pP (SK ae (by rw[m 0 _ rfl,Zx h0]) (λ_=>?_) λh=>by cases h);show aL [.ro d,.ri k,.ro (dr),.ow (aE r),.ro (.int (a%9)),.no,.ro (.int (b%(r.length+1))),.no] (bH.GB (bH.xpE (i:=b%(r.length+1)) (binI (x:=b) (y:=(r.length+1)) (bG (x:=dr) (y:=.int 1) rfl rfl d1) (binI (x:=r.length) (y:=1) (cC (x:=aE r) rfl (by unfold aE;rw[iR,az])) rfl rfl) (bV ∅))) rfl) ?_;generalize hv:1+c%3=v;obtain⟨o,Z,L⟩:=bH.slL (f:=aS 3) (lo:=wM) (hi:=oE (aS 6)) (ρ:=bD [.ro d,.ri k,.ro (dr),.ow (aE r),.ro (.int (a%9)),.no,.ro (.int (b%(r.length+1))),.no]) rfl rfl rfl;obtain⟨F,Y,K⟩:=bH.slL (f:=aS 3) (lo:=oE (aS 6)) (hi:=wM) (ρ:=bD [.ro d,.ri k,.ro (dr),.ow (aE r),.ro (.int (a%9)),.no,.ro (.int (b%(r.length+1))),.no]) rfl rfl rfl;show gA (τ (o++[v]++F)) (cC (x:=aE (o++[v]++F)) (bG (x:=aE (o++[v])) (y:=aE F) (bG (x:=aE o) (y:=aE [v]) Z ?_ (bH.sM (by simp only[cn,gr];lia))) Y (bH.sM (by rw[cy];simp only[cn,gr];lia))) rfl) ⟨_,by rw[cy,cy];simp only[cn,gr];lia,rfl⟩;unfold eU;rw[<- hv,args1 (x:=.int (1+c%3)) (binI (x:=1) (y:=(c%3)) rfl (binI (x:=c) (y:=3) (bG (x:=dr) (y:=.int 2) rfl rfl d2) rfl (bV (by decide))) rfl)];rfl
  show aL _ (fA (by rw[m 0 _ rfl,Zy h0]) rfl) ?_;have tl:tV (aB j9 (cK bU (aV 3)) (eI 0)) (bD [.ro d,.ri k,.ro (dr),.ow (aE r),.ro (.int (a%9)),.no,.no,.no])=aa (Zv ((r.length:Int)=0)):=f6 (d:=.bl (Zv ((r.length:Int)=0))) (binI (x:=r.length) (y:=0) (cC (x:=aE r) rfl (by unfold aE;rw[iR,az])) rfl rfl) rfl;by_cases hz:r.length=0
  .refine pP (SK ae (by rw[tl,Zx ∅]) (λ_=>?_) λh=>by cases h);show gA (τ []) rfl ⟨[],by simp,rfl⟩
  show aL _ (fA (by rw[tl,Zy ∅]) rfl) ?_;obtain⟨p,ep,I⟩:∃p:Nat,b%(r.length:Int)=p/\p<r.length:=by have q0:=jz b (show(r.length:Int)≠0 by lia);have q1:=lx b (show(0:Int)<r.length by lia);show⟨(b%(r.length:Int)).toNat,by lia,by lia⟩
  obtain⟨q,eq,hq⟩:∃q:Nat,c%(r.length:Int)=q/\q<r.length:=by have q0:=jz c (show(r.length:Int)≠0 by lia);have q1:=lx c (show(0:Int)<r.length by lia);show⟨(c%(r.length:Int)).toNat,by lia,by lia⟩
  show aL [.ro d,.ri k,.ro (dr),.ow (aE r),.ro (.int (a%9)),.no,.ri p,.no] (bH.GB (bH.xpE (i:=p) (binI (x:=b) (y:=r.length) (bG (x:=dr) (y:=.int 1) rfl rfl d1) (cC (x:=aE r) rfl (by unfold aE;rw[iR,az])) (by rw[bV ∅,ep]))) rfl) ?_;show aL [.ro d,.ri k,.ro (dr),.ow (aE r),.ro (.int (a%9)),.no,.ri p,.ri q] (bH.GB (bH.xpE (i:=q) (binI (x:=c) (y:=r.length) (bG (x:=dr) (y:=.int 2) rfl rfl d2) (cC (x:=aE r) rfl (by unfold aE;rw[iR,az])) (by rw[bV ∅,eq]))) rfl) ?_;obtain⟨u,X,_⟩:=bH.UL I;obtain⟨v,ev,_⟩:=bH.UL hq;have du:cZ d (.int p)=aa (.int u):=by rw[U];show X
  have dv:cZ d (.int q)=aa (.int v):=by rw[U];show ev
  show gU (λρ=>∃l:Q0e,l.length<=2*r.length/\ρ=[.ro d,.ri k,.ro (dr),.ow (aE l),.ro (.int (a%9)),.no,.ri p,.ri q]) ?_ ?_
  .refine rX (Zv (a%9=1)) (m 1 _ rfl) (λ_=>?_) λ_=>rX (Zv (a%9=2)) (m 2 _ rfl) (λ_=>?_) λ_=>rX (Zv (a%9=3)) (m 3 _ rfl) (λ_=>?_) λ_=>rX (Zv (a%9=4)) (m 4 _ rfl) (λ_=>?_) λ_=>rX (Zv (a%9=5)) (m 5 _ rfl) (λ_=>?_) λ_=>rX (Zv (a%9=6)) (m 6 _ rfl) (λ_=>?_) λ_=>DD ⟨r,by lia,rfl⟩
   .obtain ⟨o,Z,L⟩:=bH.slL (f:=aS 3) (lo:=wM) (hi:=oE (aS 6)) (ρ:=bD [.ro d,.ri k,.ro (dr),.ow (aE r),.ro (.int (a%9)),.no,.ri p,.ri q]) rfl rfl rfl;obtain⟨F,Y,K⟩:=bH.slL (f:=aS 3) (lo:=oE (aB bX (aS 6) (eI 1))) (hi:=wM) (ρ:=bD [.ro d,.ri k,.ro (dr),.ow (aE r),.ro (.int (a%9)),.no,.ri p,.ri q]) rfl rfl rfl;show⟨_,aFZ (l:=o++F) (bG (x:=aE o) (y:=aE F) Z Y (bH.UK ∅)),o++F,by rw[cy];lia,rfl⟩
   .obtain ⟨z,ez⟩:∃z,cZ (.lst [.int 0,.int (-1),.int (-k)]) (.int (e%3))=aa (.int z):=by
     rcases(show e%3=0\/e%3=1\/e%3=2 by lia) with h|h|h
     .exact ⟨0,by rw[h];rfl⟩
     .exact ⟨-1,by rw[h];rfl⟩
     .exact ⟨-k,by rw[h];rfl⟩
    show⟨_,bH.OY (l:=r) (v:=z) (kk:=p) (j:=p) (bH.xrE (bG (x:=.lst [.int 0,.int (-1),.int (-k)]) (y:=.int (e%3)) rfl (binI (x:=e) (y:=3) (bG (x:=dr) (y:=.int 3) rfl rfl d3) rfl (bV (by decide))) ez)) rfl rfl (bH.uM I),r.set p z,by rw[dm];lia,rfl⟩
   .exact ⟨_,bH.OY (l:=r) (v:=k+1) (kk:=p) (j:=p) (bH.xrE rfl) rfl rfl (bH.uM I),r.set p (k+1),by rw[dm];lia,rfl⟩
   .exact ⟨_,bH.OY (l:=r) (v:=u-1) (kk:=p) (j:=p) (bH.xpE (binI (x:=u) (y:=1) (bG (x:=aE r) (y:=.int p) rfl rfl X) rfl rfl)) rfl rfl (bH.uM I),r.set p (u-1),by rw[dm];lia,rfl⟩
   .exact ⟨_,bH.OY (l:=r) (v:=u+1) (kk:=p) (j:=p) (bH.xpE (binI (x:=u) (y:=1) (bG (x:=aE r) (y:=.int p) rfl rfl X) rfl rfl)) rfl rfl (bH.uM I),r.set p (u+1),by rw[dm];lia,rfl⟩
   .refine lI [.ro d,.ri k,.ro (dr),.ow (aE (r.set p v)),.ro (.int (a%9)),.no,.ri p,.ri q] (bH.OY (l:=r) (v:=v) (kk:=p) (j:=p) (bH.xrE (bG (x:=d) (y:=.int q) rfl rfl dv)) rfl rfl (bH.uM I)) ?_;show⟨_,bH.OY (l:=r.set p v) (v:=u) (kk:=q) (j:=q) (bH.xrE (bG (x:=d) (y:=.int p) rfl rfl du)) rfl rfl (bH.uM (by rw[dm];show hq)),(r.set p v).set q u,by rw[dm,dm];lia,rfl⟩
  .rintro _ ⟨l,O,rfl⟩;show gA (τ l) (cC (x:=aE l) rfl rfl) ⟨l,by lia,rfl⟩
 obtain⟨z,e,A,h1,rfl⟩:=main;show⟨A,h1,e⟩
abbrev words:List aj:=["list","number","rows","filling","place","row"]
def O7{a:aj}(hw:a∈words){k:Int}(h:k<0)(n ns:D):AV (SA a x k n ns .non)=.ex "NoNumber":=by
 unfold AV;simp only[words,bh,ie,or_false] at hw;rcases hw with rfl|rfl|rfl|rfl|rfl|rfl
 .exact fA rfl (fA rfl (fA rfl (fA rfl (fA rfl (qF (bH.IM (ds:=[aK x,.int k]) rfl (by rw[UT h];rfl)))))))
 .exact fA rfl (fA rfl (fA rfl (fA rfl (mE rfl (qF (bH.IM (ds:=[aK x,.int k,ns]) rfl (by rw[US h];rfl)))))))
 .exact mE rfl (qF (bH.IM (ds:=[τ (bE 0 x.length),.int k]) rfl (by rw[DS h];rfl)))
 .exact fA rfl (fA rfl (fA rfl (mE rfl (qF (bH.IM (ds:=[aK x,.int k,n]) rfl (by rw[Z9 h];rfl))))))
 .exact fA rfl (fA rfl (mE rfl (qF (bH.IM (ds:=[τ (bE 0 x.length),.int k,ns]) rfl (by rw[UR h];rfl)))))
 .exact fA rfl (mE rfl (qF (bH.IM (ds:=[τ (bE 0 x.length),.int k,n]) rfl (by rw[Z8 h];rfl))))
def y6(c:aj)(h:c="NoNumber" \/c="TooGreat"):LL.eA 6 [.tup [.str "refused",.str c],.tup [.str "refused",.str c]]=.ok (.bl ae):=same_refl 6 _ ⟨v_ rfl,λd a=>by
 rcases bh.1 a with rfl|a
 .exact trivial
 .rcases bh.1 a with rfl|a
  .exact trivial
  .cases a⟩
def aAC{a:aj}{k:Int}(d:x.length<=9)(h:k<0)(hw:a∈words)(n ns:D):dO [.str a,aK x,.int k,n,ns]=.ok (.tup [.str "refused",.str "NoNumber"]):=DT (ks:=.non) (ρ1:=[]) d (O7 hw h n ns) (.inl rfl)
abbrev SB(ns:Q0e)(x:Q0a)(dr:Q0e)(h d a v6:Sv):bT:=[.ro (.j5 ns),.ro (aK x),.ro (aE dr),h,d,a,v6]
def aAD{a b c d e:Int}:∃v,cZ (.lst [.int a,.int b,.int c,.int d]) (.int (e%4))=aa (.int v):=by
 rcases(show e%4=0\/e%4=1\/e%4=2\/e%4=3 by lia) with h|h|h|h
 .exact ⟨a,by rw[h];rfl⟩
 .exact ⟨b,by rw[h];rfl⟩
 .exact ⟨c,by rw[h];rfl⟩
 .exact ⟨d,by rw[h];rfl⟩
def yR(ns:Q0e)(U:x.length<=9){dr:Q0e}(hd:dr.length=14):pT [.j5 ns,aK x,aE dr]=.ok (.bl ae):=by
 have n:∀j:Int,0<=j->j<14->cZ (aE dr) (.int j)=aa (.int (η dr j)):=λj h0 h1=>yI h0 ∅;obtain⟨Z,K⟩:=lK ns 3;obtain⟨c4,J⟩:=lK ns 4;obtain⟨g3,g30,g31,I⟩:=oI Z 300007 (most:=10^60-1) (by decide);obtain⟨p,g40,g41,F⟩:=oI c4 400009 (most:=10^60) (by decide);have O:∀ρ,aB i7 (eC (.int 10)) (eC (.int 60)) ρ=aa (.int (10^60)):=λρ=>by rw[qV ρ (by decide+kernel)];rfl
 unfold pT;show BS rfl ?_;show aL (SB ns x dr (.ro (.int (-1-η dr 0%3))) .no .no .no) (c8 (.int (-1-η dr 0%3)) (bG (x:=.int (-1)) (y:=.int (η dr 0%3)) rfl (bG (x:=.int (η dr 0)) (y:=.int 3) (bG (x:=aE dr) (y:=.int 0) rfl rfl (n 0 (by decide) (by decide))) rfl (bV (by decide))) rfl) rfl) ?_;show gU (λρ=>∃k:Int,k<0/\ρ=SB ns x dr (.ro (.int k)) .no .no .no) ?_ ?_
 .have hh:aB e8 (aB l8 (aB cZ (aS 2) (eC (.int 0))) (eC (.int 3))) (eC (.int 2)) (bD (SB ns x dr (.ro (.int (-1-η dr 0%3))) .no .no .no))=aa (.int (η dr 0/3%2)):=bG (x:=.int (η dr 0/3)) (y:=.int 2) (bG (x:=.int (η dr 0)) (y:=.int 3) (bG (x:=aE dr) (y:=.int 0) rfl rfl (n 0 (by decide) (by decide))) rfl (iQ (by decide) (by decide))) rfl (bV (by decide));show rX (Zv (η dr 0/3%2=1)) (f6 (d:=.bl (Zv (η dr 0/3%2=1))) (bG (x:=.int (η dr 0/3%2)) (y:=.int 1) hh rfl rfl) rfl) (λ_=>?_) λ_=>DD ⟨_,by lia,rfl⟩;show uF (.int (-1-g3)) (bG (x:=.int (-1)) (y:=.int g3) rfl (cR (x:=.int Z) (y:=.int (10^60-1)) (z:=.int 300007) (bW rfl rfl K) (bG (x:=.int (10^60)) (y:=.int 1) (O _) rfl rfl) rfl I) rfl) ⟨-1-g3,by lia,rfl⟩
 rintro _ ⟨k,hk,rfl⟩;obtain⟨l,A⟩:=aAD (a:=0) (b:=-1) (c:=5) (d:=p) (e:=η dr 1);show aL (SB ns x dr (.ro (.int k)) (.ro (.int l)) .no .no) (c8 (.int l) (bG (x:=.lst [.int 0,.int (-1),.int 5,.int p]) (y:=.int (η dr 1%4)) ?_ (bG (x:=.int (η dr 1)) (y:=.int 4) (bG (x:=aE dr) (y:=.int 1) rfl rfl (n 1 (by decide) (by decide))) rfl (bV (by decide))) A) rfl) ?_
 .have e:aF LL.eD (aA (aF LL.dR (aA (aS 0) (aA (eC (.int 4)) aG))) (aA (aB i7 (eC (.int 10)) (eC (.int 60))) (aA (eC (.int 400009)) aG))) (gF (SB ns x dr (.ro (.int k)) .no .no .no))=aa (.int p):=cR (x:=.int c4) (y:=.int (10^60)) (z:=.int 400009) (bW rfl rfl J) (O _) rfl F;generalize aF LL.eD (aA (aF LL.dR (aA (aS 0) (aA (eC (.int 4)) aG))) (aA (aB i7 (eC (.int 10)) (eC (.int 60))) (aA (eC (.int 400009)) aG)))=g at e ⊢;unfold eU aA aG;rw[e];rfl
 obtain⟨m,hm,em⟩:∃m:Nat,m<=9/\cZ (.lst [.int x.length,.int 0,.int 3]) (.int (η dr 2%3))=aa (.int m):=by
  rcases(show η dr 2%3=0\/η dr 2%3=1\/η dr 2%3=2 by lia) with h|h|h
  .exact ⟨x.length,U,by rw[h];rfl⟩
  .exact ⟨0,by decide,by rw[h];rfl⟩
  .exact ⟨3,by decide,by rw[h];rfl⟩
 show aL (SB ns x dr (.ro (.int k)) (.ro (.int l)) (.ro (τ ((bE 0 m).map λj=>η dr (3+j)%5-1))) .no) (c8 _ (cC (x:=aE ((bE 0 m).map λj=>η dr (3+j)%5-1)) (gI ((bE 0 m).map D.int) ?_ (by rw[az,aN];lia) ?_) rfl) rfl) ?_
 .have e:eU (aA (cK bU (aA (aS 1) aG)) (aA (eC (.int 0)) (aA (eC (.int 3)) aG))) (gF (SB ns x dr (.ro (.int k)) (.ro (.int l)) .no .no))=aa (.lst [.int x.length,.int 0,.int 3]):=by have Y:cK bU (aA (aS 1) aG) (gF (SB ns x dr (.ro (.int k)) (.ro (.int l)) .no .no))=aa (.int x.length):=cC (x:=aK x) rfl d6;generalize cK bU (aA (aS 1) aG)=g at Y ⊢;unfold eU aA aG;rw[Y];rfl
  show(aA _ aG _).bind xR=_;rw[args1 (x:=.int m) (bG (x:=.lst [.int x.length,.int 0,.int 3]) (y:=.int (η dr 2%3)) e (bG (x:=.int (η dr 2)) (y:=.int 3) (bG (x:=aE dr) (y:=.int 2) rfl rfl (n 2 (by decide) (by decide))) rfl (bV (by decide))) em)];show oD ∅
 .rw [show(((bE 0 m).map λj=>η dr (3+j)%5-1).map D.int)=(bE 0 m).map λj=>D.int (η dr (3+j)%5-1) from by rw[dh];rfl];show eB D.int _ _ λj X=>⟨_,rfl,?_⟩;have X:=bF.1 X;show bG (x:=.int (η dr (3+j)%5)) (y:=.int 1) (bG (x:=.int (η dr (3+j))) (y:=.int 5) (bG (x:=aE dr) (y:=.int (3+j)) rfl rfl (n (3+j) ∅ ∅)) rfl (bV (by decide))) rfl rfl
 generalize ((bE 0 m).map λj=>η dr (3+j)%5-1)=q;show gU (λρ=>∃v,ρ=SB ns x dr (.ro (.int k)) (.ro (.int l)) (.ro (τ q)) v) ?_ λρ ⟨v,e⟩=>by subst e;show gA _ rfl rfl
 show oF (words.map D.str) (λ_ ρ=>∃v,ρ=SB ns x dr (.ro (.int k)) (.ro (.int l)) (.ro (τ q)) v) rfl ⟨.no,rfl⟩ (λj d ρ hd2 ⟨v,e⟩=>?_) λρ h=>h;subst e;rw[cf] at hd2;obtain⟨L,o,rfl⟩:=ip.1 hd2;have ea:=aAC U hk (lh o) (.int l) (τ q);show⟨SB ns x dr (.ro (.int k)) (.ro (.int l)) (.ro (τ q)) (.ro (.str L)),rfl,_,fA (AQ (b:=ae) (f6 (d:=.bl ae) (bW (x:=.tup [.str "refused",.str "NoNumber"]) (y:=.tup [.str "refused",.str "NoNumber"]) ?_ rfl (y6 _ (.inl rfl))) rfl) rfl) rfl,_,rfl⟩;unfold aF;(try unfold aV);unfold aA aG;show m4 (dO [.str L,aK x,.int k,.int l,τ q])=_;rw[ea];rfl
def aDE{f g t:SF}{ρ:bT}{Q:D->Prop}(P:bT->Prop)(h:∃ρ1,f ρ=.nx ρ1 /\∃a,g ρ1=.nx a/\P a)(k:∀a,P a->Rt (t a) Q):Rt (aH f (aH g t) ρ) Q:=by obtain⟨ρ1,j,a,d,p⟩:=h;show aL ρ1 j (aL a d (k a p))
def U1{k N:Int}(a:x.length<=9){d ns:D}(h:bK [aK x,.int k,.int N]=.ok d):dO [.str "filling",aK x,.int k,.int N,ns]=.ok (.tup [.str "told",d]):=by show yZ a ?_;unfold AV;show fA rfl (fA rfl (fA rfl (mE rfl (AS (bH.IM (ds:=[aK x,.int k,.int N]) rfl (by rw[h];rfl)) (c8 d (cR rfl rfl rfl h) rfl)))))
def O8{k N:Int}(a:x.length<=9){ns:D}(h:bK [aK x,.int k,.int N]=.ex "NoNumber"):dO [.str "filling",aK x,.int k,.int N,ns]=.ok (.tup [.str "refused",.str "NoNumber"]):=by show DT (ks:=.non) (ρ1:=[]) a ?_ (.inl rfl);unfold AV;show fA rfl (fA rfl (fA rfl (mE rfl (qF (bH.IM (ds:=[aK x,.int k,.int N]) rfl (by rw[h];rfl))))))
def U2{k:Int}(a:x.length<=9){d n ns:D}(h:aW [aK x,.int k,ns]=.ok d):dO [.str "number",aK x,.int k,n,ns]=.ok (.tup [.str "told",d]):=by show yZ a ?_;unfold AV;show fA rfl (fA rfl (fA rfl (fA rfl (mE rfl (AS (bH.IM (ds:=[aK x,.int k,ns]) rfl (by rw[h];rfl)) (c8 d (cR rfl rfl rfl h) rfl))))))
def O9{k:Int}(a:x.length<=9){n ns:D}(h:aW [aK x,.int k,ns]=.ex "NoFilling"):dO [.str "number",aK x,.int k,n,ns]=.ok (.tup [.str "refused",.str "NoFilling"]):=by show DT (ks:=.non) (ρ1:=[]) a ?_ (.inr (.inl rfl));unfold AV;show fA rfl (fA rfl (fA rfl (fA rfl (mE rfl (qF (bH.IM (ds:=[aK x,.int k,ns]) rfl (by rw[h];rfl)))))))
def U3{k:Int}(a:x.length<=9){d n ns:D}(h:bJ [aK x,.int k]=.ok d):dO [.str "list",aK x,.int k,n,ns]=.ok (.tup [.str "told",d]):=by show yZ a ?_;unfold AV;show fA rfl (fA rfl (fA rfl (fA rfl (fA rfl (AS (bH.IM (ds:=[aK x,.int k]) rfl (by rw[h];rfl)) (c8 d (bW rfl rfl h) rfl))))))
def PB{k:Int}(a:x.length<=9){n ns:D}(h:bJ [aK x,.int k]=.ex "TooGreat"):dO [.str "list",aK x,.int k,n,ns]=.ok (.tup [.str "refused",.str "TooGreat"]):=by show DT (ks:=.non) (ρ1:=[]) a ?_ (.inr (.inr rfl));unfold AV;show fA rfl (fA rfl (fA rfl (fA rfl (fA rfl (qF (bH.IM (ds:=[aK x,.int k]) rfl (by rw[h];rfl)))))))
def qZ{R:g8}{a b c d e:EF}{ρ:dZ}{u v w y z r:D}(o:a ρ=aa u)(n:b ρ=aa v)(m:c ρ=aa w)(l:d ρ=aa y)(j:e ρ=aa z)(h:R [u,v,w,y,z]=.ok r):aF R (aA a (aA b (aA c (aA d (aA e aG))))) ρ=aa r:=by unfold aF;(try unfold aV);unfold aA aG;rw[o,n,m,l,j];show m4 (R [u,v,w,y,z])=_;rw[h];rfl
theorem GQ(j:Ord.Rows x)(a:x.length<=9){k:Int}(h:0<=k)(y:k<=10^61)(r:Q0e):(gC.c7 [aK x,.int k,τ r]=.ok (.bl ag)/\dO [.str "number",aK x,.int k,.int 0,τ r]=.ok (.tup [.str "refused",.str "NoFilling"]))\/(gC.c7 [aK x,.int k,τ r]=.ok (.bl ae)/\r.length<=9 /\∃N,dO [.str "number",aK x,.int k,.int 0,τ r]=.ok (.tup [.str "told",.int N])/\dO [.str "filling",aK x,.int k,.int N,.tup []]=.ok (.tup [.str "told",τ r])):=by
 have l:=aDB j a (fl:=r) h;have F:=O5 j a (fl:=r) h
 cases hb:Zv (r.length=x.length)&&(ZA k r&&rs x r) with
 |false =>
  rw[hb] at l F;show .inl ⟨l,O9 a (aAA h F)⟩
 |true =>
  rw[hb] at l;rw[gy,gy,decide_eq_true_eq] at hb;obtain⟨L,hi,o⟩:=hb;have O:∀v∈r,1<=v/\v<=k:=λv K=>by
   have:=gx.1 hi v K
   rwa [gy,decide_eq_true_eq,decide_eq_true_eq] at this
  obtain⟨w,c,hw,q,I,Y,Z,U,X⟩:=gC.O1 j a h y L O o;obtain⟨n,m⟩:=gC.aCv h hw q I;obtain⟨z,d,J,p,dd,e,A⟩:=gC.MY j a h y n m;obtain⟨rfl,rfl⟩:=gC.Z3 h hw J q p I dd e;rw[<- U] at A;show .inr ⟨l,by lia,_,U2 a (Z7 X),U1 a (aCz A)⟩
def U4(ρ:dZ):aB BA (aB i7 (eI 10) (eI 60)) (eI 10) ρ=aa (.int (((10:Int)^60)^10)):=by show binI (x:=((10:Int)^60)) (y:=10) (qV (i:=10) (j:=60) ρ (by decide+kernel)) rfl ?_;show(if(Zv ((0:Int)<=10)&&Zv ((10:Int)<=100)&&Zv (((10:Int)^60).natAbs<2^1000))=ae then aa (D.int (((10:Int)^60)^(10:Int).toNat)) else af)=_;show Z_ (by decide+kernel)
abbrev SL(ns:Q0e)(x:Q0a)(l j h v6 v7 d a v10 v11:Sv):bT:=[.ro (.j5 ns),.ro (aK x),.ri x.length,l,j,h,v6,v7,d,a,v10,v11]
def U5(ns:Q0e)(hns:ns.length<=63):BX [.j5 ns]=.ok (.bl ae):=by
 obtain⟨_,ed,x,hxl,Z,rfl⟩:=SS ns 0 9 100003 (by decide) (by decide);have I:x.length<=9:=by lia
 obtain⟨c2,ec2⟩:=lK ns 2;obtain⟨hd,K,_,ehd⟩:=rY c2 14 200017 (by decide) (by decide);have K:hd.length=14:=K;obtain⟨w0,hw0,ew0⟩:=ZR Z I (dr:=hd) ∅;obtain⟨fl,hfl,hfr,hrs,efl⟩:=OQ Z I hw0 ns 4 300007;obtain⟨v,v0,v1,ev⟩:=LL.GF ns 3 400009;obtain⟨m0,m1⟩:=bH.DP fl 0 ∅ (show(0:Int)<=10^60 by decide) λe he=>by have:=hfr e he;lia
 have m0:0<=kB (0::fl):=m0;have m1:kB (0::fl)<=10^60:=m1;generalize hm:kB (0::fl)=m at m0 m1;have k1:m+v<=10^61:=by
  have:(10:Int)^60+10^58<=10^61:=by decide
  lia
 have k0:0<=m+v:=by lia
 have ek:aB bX (cK FU (aA (aB bX (eT (aA (eI 0) aG)) gG) aG)) (aF LL.jH (aA b8 (aA (eI 3) (aA (eI 400009) aG)))) (gF (SL ns x (.ro (aE hd)) (.ro (τ fl)) .no .no .no .no .no .no .no))=aa (.int (m+v)):=by show binI (x:=m) (y:=v) (cC (x:=τ (0::fl)) (bG (x:=τ [0]) (y:=τ fl) rfl rfl (yL (by simp;lia))) ?_) (cR rfl rfl rfl ev) rfl;show((intsOf ((0::fl).map D.int)).bind λns=>if ns=[] then af else aa (D.int (kB ns)))=_;rw[dI,c_,Zz (by simp),hm]
 generalize m+v=k at *;have bel:=yR (x:=x) ns I K;obtain⟨a0,a1,a2,a3,a4,a5,a6,a7,a8,L,A,p,o,j,rfl⟩:∃a0 a1 a2 a3 a4 a5 a6 a7 a8 L A p o j,hd=[a0,a1,a2,a3,a4,a5,a6,a7,a8,L,A,p,o,j]:=by
  match hd,K with
  |[a0,a1,a2,a3,a4,a5,a6,a7,a8,L,A,p,o,j],_=>show⟨_,_,_,_,_,_,_,_,_,_,_,_,_,_,rfl⟩
 generalize J:aE [a0,a1,a2,a3,a4,a5,a6,a7,a8,L,A,p,o,j]=dr at *;have i12:cZ dr (.int 12)=aa (.int o):=by rw[<- J];rfl
 have Bz:cZ dr (.int 13)=aa (.int j):=by rw[<- J];rfl
 have s9:slM dr (aa 9) af=aa (aE [L,A,p,o,j]):=by rw[<- J];rfl
 have wz:slM dr (aa 10) af=aa (aE [A,p,o,j]):=by rw[<- J];rfl
 unfold BX;show BS rfl ?_;show aL [.ro (.j5 ns),.ro (aK x),.no,.no,.no,.no,.no,.no,.no,.no,.no,.no] (c8 (aK x) (aCe rfl rfl rfl rfl ed) rfl) ?_;show aL (SL ns x .no .no .no .no .no .no .no .no .no) (c8 (.int x.length) (cC (x:=aK x) rfl d6) rfl) ?_;show aL (SL ns x (.ro dr) .no .no .no .no .no .no .no .no) (c8 dr (cR (x:=.int c2) (y:=.int 14) (z:=.int 200017) (bW rfl rfl ec2) rfl rfl ehd) rfl) ?_;have Lp:aB e8 (aB cZ eF (eI 12)) (eI 2) (bD (SL ns x (.ro dr) .no .no .no .no .no .no .no .no))=aa (.int (o%2)):=binI (x:=o) (y:=2) (bG (x:=dr) (y:=.int 12) rfl rfl i12) rfl (bV (by decide));have cond:=f6 (d:=.bl (Zv (o%2=1))) (b:=Zv (o%2=1)) (bG (g:=j9) (x:=.int (o%2)) (y:=.int 1) Lp (show eC (.int 1) _=_ from rfl) rfl) rfl;by_cases par:o%2=1
 .rw [Zx par] at cond;show pP ⟨_,mE cond (d9 (cR rfl rfl rfl bel)),rfl⟩
 rw[Zy par] at cond;show aL _ (fA cond rfl) ?_;show aL (SL ns x (.ro dr) (.ro (τ fl)) .no .no .no .no .no .no .no) (c8 (τ fl) ?_ rfl) ?_
 .have e:aF LL.kU (aA cV (aV 3)) (gF (SL ns x (.ro dr) .no .no .no .no .no .no .no .no))=aa (τ w0):=bW rfl rfl ew0;generalize aF LL.kU (aA cV (aV 3))=g at e ⊢;show qZ rfl rfl rfl e rfl efl
 show aL (SL ns x (.ro dr) (.ro (τ fl)) (.ro (.int k)) .no .no .no .no .no .no) (c8 (.int k) ek rfl) ?_;obtain⟨O,hr1,er1⟩:=BZ (k:=k) (d:=τ fl) (dr:=aE [L,A,p,o,j]) (r:=fl) rfl (a:=L) (b:=A) (c:=p) (e:=o) rfl rfl rfl rfl ∅;show aL (SL ns x (.ro dr) (.ro (τ fl)) (.ro (.int k)) (.ro (τ O)) .no .no .no .no .no) (c8 (τ O) (cR (x:=τ fl) (y:=.int k) (z:=aE [L,A,p,o,j]) rfl rfl s9 er1) rfl) ?_;show gU (λρ=>∃r:Q0e,ρ=SL ns x (.ro dr) (.ro (τ fl)) (.ro (.int k)) (.ro (τ r)) .no .no .no .no .no) ?_ ?_
 .have Lo:aB e8 (aB l8 (aB cZ eF (eI 13)) (eI 3)) (eI 2) (bD (SL ns x (.ro dr) (.ro (τ fl)) (.ro (.int k)) (.ro (τ O)) .no .no .no .no .no))=aa (.int (j/3%2)):=binI (x:=(j/3)) (y:=2) (binI (x:=j) (y:=3) (bG (x:=dr) (y:=.int 13) rfl rfl Bz) rfl (iQ (by decide) (by decide))) rfl (bV (by decide));show rX (Zv (j/3%2=1)) (f6 (d:=.bl (Zv (j/3%2=1))) (binI (x:=(j/3%2)) (y:=1) Lo rfl rfl) rfl) (λ_=>?_) λ_=>DD ⟨_,rfl⟩;obtain⟨r2,hr2,er2⟩:=BZ (k:=k) (d:=τ O) (dr:=aE [A,p,o,j]) (r:=O) rfl (a:=A) (b:=p) (c:=o) (e:=j) rfl rfl rfl rfl ∅;have es:aF iA (aA m3 (aA jA (aA (xS eF (oE (eI 10)) wM) aG))) (gF (SL ns x (.ro dr) (.ro (τ fl)) (.ro (.int k)) (.ro (τ O)) .no .no .no .no .no))=aa (τ r2):=cR (x:=τ O) (y:=.int k) (z:=aE [A,p,o,j]) rfl rfl wz er2;obtain⟨r3,er3,_⟩:=bH.slT (lo:=wM) (hi:=oE (eI 300)) es rfl rfl;show uF (τ r3) er3 ⟨r3,rfl⟩
 rintro _ ⟨r,rfl⟩;show aDE (λρ=>∃v7 F,ρ=SL ns x (.ro dr) (.ro (τ fl)) (.ro (.int k)) (.ro (τ r)) v7 F .no .no .no) ?_ ?_
 .rcases GQ Z I k0 k1 r with⟨e1,U⟩|⟨e1,hr9,N,U,e3⟩
  .refine ⟨SL ns x (.ro dr) (.ro (τ fl)) (.ro (.int k)) (.ro (τ r)) (.ro (.str "refused")) (.ro (.str "NoFilling")) .no .no .no,bH.Dw (qZ rfl rfl rfl rfl rfl U),_,mE (AQ (b:=ag) (f6 (d:=.bl ag) (cR rfl rfl rfl e1) rfl) rfl) (fA rfl rfl),_,_,rfl⟩
  .have aOz:(D.tup [.str "told",τ r]).AN=ae:=bH.UM r;show⟨SL ns x (.ro dr) (.ro (τ fl)) (.ro (.int k)) (.ro (τ r)) (.ro (.str "told")) (.ro (.int N)) .no .no .no,bH.Dw (qZ rfl rfl rfl rfl rfl U),_,fA (AQ (b:=ae) (f6 (d:=.bl ae) (cR rfl rfl rfl e1) rfl) rfl) (fA rfl (fA (AQ (b:=ae) (f6 (d:=.bl ae) (bW (x:=.tup [.str "told",τ r]) (y:=.tup [.str "told",τ r]) (qZ rfl rfl rfl rfl rfl e3) rfl (bH.OZ ∅)) rfl) rfl) rfl)),_,_,rfl⟩
 rintro _ ⟨v7,F,rfl⟩;obtain⟨Ck,Uv⟩:=lK ns 13;obtain⟨X,aPA,aPB,Uu⟩:=oI Ck 500009 (most:=10^60) (by decide);have uc:∀ρ,aB i7 (eI 10) (eI 60) ρ=aa (.int (10^60)):=λρ=>by rw[qV ρ (by decide+kernel)];rfl
 have Kn:∀ρ,aB BA (aB i7 (eI 10) (eI 60)) (eI 10) ρ=aa (.int (((10:Int)^60)^10)):=U4;have ts:=O2 (x:=x) I k0 k1;obtain⟨l,Ut,Ue⟩:∃l:Int,cZ (.lst [.int (-1),.int (-1-X),.int (((10:Int)^60)^10-1)]) (.int (j%3))=aa (.int l)/\¬ (0<=l/\l<gC.JT x k):=by
  rcases(show j%3=0\/j%3=1\/j%3=2 by lia) with h|h|h
  .exact ⟨-1,by rw[h];rfl,by lia⟩
  .exact ⟨-1-X,by rw[h];rfl,by lia⟩
  .exact ⟨((10:Int)^60)^10-1,by rw[h];rfl,λq=>Zw (Int.lt_trans q.2 ts) (Int.lt_irrefl _)⟩
 show aL (SL ns x (.ro dr) (.ro (τ fl)) (.ro (.int k)) (.ro (τ r)) v7 F (.ro (.int l)) .no .no) (c8 (.int l) (bG (x:=.lst [.int (-1),.int (-1-X),.int (((10:Int)^60)^10-1)]) (y:=.int (j%3)) ?_ (binI (x:=j) (y:=3) (bG (x:=dr) (y:=.int 13) rfl rfl Bz) rfl (bV (by decide))) Ut) rfl) ?_
 .have e:aB dH (qN (eI 1)) (aF LL.eD (aA (aF LL.dR (aA b8 (aA (eI 13) aG))) (aA (aB i7 (eI 10) (eI 60)) (aA (eI 500009) aG)))) (gF (SL ns x (.ro dr) (.ro (τ fl)) (.ro (.int k)) (.ro (τ r)) v7 F .no .no .no))=aa (.int (-1-X)):=binI (x:=(-1)) (y:=X) rfl (cR (x:=.int Ck) (y:=.int (10^60)) (z:=.int 500009) (bW rfl rfl Uv) (uc _) rfl Uu) rfl;have U:aB dH (aB BA (aB i7 (eI 10) (eI 60)) (eI 10)) (eI 1) (gF (SL ns x (.ro dr) (.ro (τ fl)) (.ro (.int k)) (.ro (τ r)) v7 F .no .no .no))=aa (.int (((10:Int)^60)^10-1)):=binI (x:=(((10:Int)^60)^10)) (y:=1) (Kn _) rfl rfl;generalize aB dH (qN (eI 1)) (aF LL.eD (aA (aF LL.dR (aA b8 (aA (eI 13) aG))) (aA (aB i7 (eI 10) (eI 60)) (aA (eI 500009) aG))))=g at e ⊢;generalize aB dH (aB BA (aB i7 (eI 10) (eI 60)) (eI 10)) (eI 1)=g2 at U ⊢;unfold eU aA aG;rw[e,U];rfl
 have Ud:=O8 (ns:=.tup []) I (aDA Z I k0 k1 Ue);show aL _ (fA (AQ (b:=ae) (f6 (d:=.bl ae) (bW (x:=.tup [.str "refused",.str "NoNumber"]) (y:=.tup [.str "refused",.str "NoNumber"]) (qZ rfl rfl rfl rfl rfl Ud) rfl (y6 _ (.inl rfl))) rfl) rfl) rfl) ?_;show aL (SL ns x (.ro dr) (.ro (τ fl)) (.ro (.int k)) (.ro (τ r)) v7 F (.ro (.int l)) (.ro (.tup [.str "refused",.str "TooGreat"])) .no) rfl ?_;obtain⟨Cj,Uc⟩:=lK ns 14;obtain⟨Y,aPD,aPE,Ub⟩:=oI Cj 600011 (most:=10^59) (by decide);have p9:∀ρ,aB i7 (eI 10) (eI 9) ρ=aa (.int (10^9)):=λρ=>by rw[qV ρ (by decide+kernel)];rfl
 have Kl:∀ρ,aB i7 (eI 10) (eI 59) ρ=aa (.int (10^59)):=λρ=>by rw[qV ρ (by decide+kernel)];rfl
 have b1:(10:Int)^9<=10^9+Y:=by lia
 have b2:(10:Int)^9+Y<=10^61:=by
  have:(10:Int)^9+10^59<=10^61:=by decide
  lia
 have b0:(0:Int)<=10^9+Y:=by lia
 generalize hG:(10:Int)^9+Y=G at b0 b1 b2;have c0:=f6 (d:=.bl (Zv ((x.length:Int)=0))) (b:=Zv ((x.length:Int)=0)) (bG (g:=j9) (a:=aS 2) (b:=eC (.int 0)) (ρ:=bD (SL ns x (.ro dr) (.ro (τ fl)) (.ro (.int k)) (.ro (τ r)) v7 F (.ro (.int l)) (.ro (.tup [.str "refused",.str "TooGreat"])) .no)) (x:=.int x.length) (y:=.int 0) rfl rfl rfl) rfl;have eG:∀ρ,aS 0 ρ=aa (.j5 ns)->aB bX (aB i7 (eI 10) (eI 9)) (aF LL.eD (aA (aF LL.dR (aA b8 (aA (eI 14) aG))) (aA (aB i7 (eI 10) (eI 59)) (aA (eI 600011) aG)))) ρ=aa (.int G):=λρ h=>by rw[<- hG];show binI (x:=(10^9)) (y:=Y) (p9 _) (cR (x:=.int Cj) (y:=.int (10^59)) (z:=.int 600011) (bW h rfl Uc) (Kl _) rfl Ub) rfl
 by_cases z0:x.length=0
 .obtain rfl:x=[]:=qd.1 z0;have el:=U3 (x:=[]) (n:=.int 0) (ns:=.tup []) (by decide) (UX b0 b2);show aL (SL ns [] (.ro dr) (.ro (τ fl)) (.ro (.int k)) (.ro (τ r)) v7 F (.ro (.int l)) (.ro (.tup [.str "told",.tup [.tup []]])) .no) (mE c0 rfl) ?_;show aL (SL ns [] (.ro dr) (.ro (τ fl)) (.ro (.int k)) (.ro (τ r)) v7 F (.ro (.int l)) (.ro (.tup [.str "told",.tup [.tup []]])) (.ro (.int G))) (c8 (.int G) (eG _ rfl) rfl) ?_;show gA (.bl ae) (bW (x:=.tup [.str "told",.tup [.tup []]]) (y:=.tup [.str "told",.tup [.tup []]]) (qZ rfl rfl rfl rfl rfl el) rfl rfl) rfl
 .have el:=PB (n:=.int 0) (ns:=.tup []) I (UW Z I ∅ hw0 b1 b2);rw[Zy ∅] at c0;show aL _ (fA c0 rfl) ?_;show aL (SL ns x (.ro dr) (.ro (τ fl)) (.ro (.int k)) (.ro (τ r)) v7 F (.ro (.int l)) (.ro (.tup [.str "refused",.str "TooGreat"])) (.ro (.int G))) (c8 (.int G) (eG _ rfl) rfl) ?_;show gA (.bl ae) (bW (x:=.tup [.str "refused",.str "TooGreat"]) (y:=.tup [.str "refused",.str "TooGreat"]) (qZ rfl rfl rfl rfl rfl el) rfl (y6 _ (.inr rfl))) rfl
end
end K18
section
-- CHANGE: your row's module here,as the last of these rows
namespace L2
open PySem.Spec PyProof.Rows
abbrev Key:=Sum Int aj
noncomputable def B0:Key->ai->Bool
 |.inl k,v=>a0T k v
 |.inr x,v=>a0S x v
noncomputable def Ua(w:ba):Key->Int
 |.inl k=>hashInt k
 |.inr x=>hashStr w x
theorem dW:∀{k:Key} {v:ai},B0 k v=ae->(∃i t,k=cp i/\v=js i t)\/(∃x t,k=jl x/\v=z_ x t)
 |.inl i,v,h=>by obtain⟨t,e⟩:=Value.isInt_shape (k:=i) (v:=v) h;show .inl ⟨i,t,rfl,e⟩
 |.inr x,v,h=>by obtain⟨t,e⟩:=Value.isStrOf_shape (x:=x) (v:=v) h;show .inr ⟨x,t,rfl,e⟩
def PD(i:Int)(t:h_):B0 (.inl i) (.int i t)=ae:=by simp[B0,a0T]
def PF(x:aj)(t:h_):B0 (.inr x) (.str x t)=ae:=by simp[B0,a0S]
def aDF(a b:Int):Zv ((cp a:Key)=cp b)=(a == b):=by
 by_cases e:a=b
 .subst e;simp
 .have h:¬ (cp a:Key)=cp b:=λq=>e (yw q);rw[Zy h];show(beq_eq_false_iff_ne.mpr e).symm
def aDG(a b:aj):Zv ((jl a:Key)=jl b)=Zv (a=b):=by
 by_cases e:a=b
 .subst e;simp
 .have h:¬ (jl a:Key)=jl b:=λq=>e (Gj q);rw[Zy h,Zy e]
def aDH(a:Int)(b:aj):Zv ((cp a:Key)=jl b)=ag:=Zy (λq=>nomatch q)
def aDI(a:aj)(b:Int):Zv ((jl a:Key)=cp b)=ag:=Zy (λq=>nomatch q)
def bO(Ω:bf)(w:ba):PySem.KeyKind Ω w Key where
 is:=B0
 hash:=Ua w
 inj:=λv a b o m=>by
  rcases dW o with⟨i,t,rfl,rfl⟩|⟨x,t,rfl,rfl⟩
  .rcases dW m with⟨j,u,rfl,e⟩|⟨y,u,rfl,e⟩
   .injection e with d _;rw[d]
   .exact nomatch e
  .rcases dW m with⟨j,u,rfl,e⟩|⟨y,u,rfl,e⟩
   .exact nomatch e
   .injection e with d _;rw[d]
 byValue:=λk v h=>by rcases dW h with⟨i,t,rfl,rfl⟩|⟨x,t,rfl,rfl⟩<;>rfl
 pyHash:=λl h=>by
  rcases dW l with⟨i,t,rfl,rfl⟩|⟨x,t,rfl,rfl⟩
  .exact wpAny_pyHash_int h
  .exact wpAny_pyHash_str h
 eqBool:=λn l h=>by
  rcases dW n with⟨i,t,rfl,rfl⟩|⟨x,t,rfl,rfl⟩
  .rcases dW l with⟨j,u,rfl,rfl⟩|⟨y,u,rfl,rfl⟩
   .rw [aDF] at h;show a0n h
   .rw [aDH] at h;show a0Y i t y u _ _ _ _ h
  .rcases dW l with⟨j,u,rfl,rfl⟩|⟨y,u,rfl,rfl⟩
   .rw [aDI] at h;show a0W x t j u _ _ _ _ h
   .rw [aDG] at h;show wpAny_eqBool_str h
 «strs»:=λk x t v h=>by
  rcases dW h with⟨i,u,rfl,e⟩|⟨y,u,rfl,e⟩
  .exact nomatch e
  .injection e with d _;subst d;cases v<;>rfl
def GR(Ω:bf)(w:ba)(i:Int)(t:h_):(bO Ω w).is (.inl i) (.int i t)=ae:=PD i t
def GS(Ω:bf)(w:ba)(x:aj)(t:h_):(bO Ω w).is (.inr x) (.str x t)=ae:=PF x t
abbrev N1:=List (Sum Key (List Key))
abbrev KX:=Sum Key N1
section
variable{Ω:bf}{w:ba}{K:Type}[dK:DecidableEq K](knd:KeyKind Ω w K)
noncomputable def rA(h:ay):Sum K (List K)->ai->Prop
 |.inl k,v=>knd.is k v=ae
 |.inr ks,v=>∃b,v=.ref b/\IsTupleKey knd h ks b
inductive iX (h:ay):List (Sum K (List K))->List ai->Prop
 |nil:iX h [] []
 |cons {k:Sum K (List K)} {v:ai} {ks:List (Sum K (List K))} {vs:Q0f}:rA knd h k v->iX h ks vs->iX h (k::ks) (v::vs)
def jK(h:ay)(ks:List (Sum K (List K)))(a:ah):Prop:=∃o items n,h.get? a=aa o/\o.cls=.type "tuple" /\o.data=.seq items n/\iX knd h ks items.toList
variable{knd}
theorem rA.inj{h:ay}{v:ai}:∀{x y:Sum K (List K)},rA knd h x v->rA knd h y v->x=y
 |.inl a,.inl b,hx,hy=>by rw[knd.inj _ _ _ hx hy]
 |.inl a,.inr b,hx,⟨q,e,_⟩=>by subst e;show Zw (knd.byValue _ _ hx) (by simp[carriedByValue])
 |.inr a,.inl b,⟨q,e,_⟩,hy=>by subst e;show Zw (knd.byValue _ _ hy) (by simp[carriedByValue])
 |.inr a,.inr b,⟨q,e,hx⟩,⟨r,f,hy⟩=>by subst e;injection f with f;subst f;rw[hx.inj hy]
theorem iX.inj{h:ay}{x:List (Sum K (List K))}{vs:Q0f}(d:iX knd h x vs):∀{y},iX knd h y vs->x=y:=by
 induction d with
 |nil=>intro y a;cases a;rfl
 |cons h1 _ ih =>
  intro y a
  cases a with
  |cons h2 t2=>rw[h1.inj h2,ih t2]
def jK.typeIs{s:ak}{ks:List (Sum K (List K))}{a:ah}(x:jK knd s.heap ks a):s.TypeIs (.ref a) "tuple":=let ⟨o,_,_,ho,hc,_⟩:=x;⟨o,ho,hc⟩
def jK.inj{h:ay}{a:ah}{x y:List (Sum K (List K))}(p:jK knd h x a)(m:jK knd h y a):x=y:=by obtain⟨o,v,n,ho,_,q,hi⟩:=p;obtain⟨z,its',A,d,_,j,l⟩:=m;rw[ho] at d;cases d;rw[q] at j;cases j;show hi.inj l
theorem jK.keeps{es ep}(x:jK knd h ks a)(ho:h.get? d=aa o)(l:o.data=.dict es ep)(m:nq d h h'):jK knd h' ks a:=by
 obtain⟨q,items,n,p,y,hi,j⟩:=x;have ne:a≠d:=λz=>by subst z;rw[p] at ho;cases ho;rw[hi] at l;cases l
 show⟨q,items,n,(m.2 a ne).trans p,y,hi,?_⟩;have go:∀{ks:List (Sum K (List K))} {vs:Q0f},iX knd h ks vs->iX knd h' ks vs:=by
  intro ks vs t
  induction t with
  |nil=>show .nil
  | @cons k v ks vs h1 _ ih =>
   show .cons ?_ ih
   cases k with
   |inl k=>show h1
   |inr k=>obtain⟨b,e,A⟩:=h1;show⟨b,e,A.keeps ho l m⟩
 show go j
noncomputable def sO(knd:KeyKind Ω w K):Sum K (List K)->Int
 |.inl k=>knd.hash k
 |.inr ks=>tupleKeyHash knd ks
noncomputable def mK:Sum K (List K)->Nat
 |.inl _=>1
 |.inr ks=>ks.length+1
def y7(knd:KeyKind Ω w K)(ks:List (Sum K (List K))):Int:=reduceHash (a1q (ks.map (sO knd)))
def pV(ks:List (Sum K (List K))):Nat:=(ks.map mK).sum+1
variable{s:ak}{A:bq}{E:Q0c}
theorem PH(d:A.units<dj)(a:rA knd s.heap k v)(h:Q (sO knd k) {s with toks:=s.toks+mK k}):av (aw Ω w) A (pyHash v) Q E s:=by
 cases k with
 |inl k=>show knd.pyHash a h
 |inr k =>
  obtain⟨b,e,j⟩:=a;subst e;show wpAny_pyHash_tuple d j h
def y9(x:IsTupleKey knd h ks b):∃items,h.IsTuple b items:=by obtain⟨o,items,n,ho,d,a,_⟩:=x;show⟨items,o,ho,d,n,a⟩
end
section
variable{P:bf}{w:ba}{A:bq}{E:Q0c}{s:ak}
theorem aAE(j:A.units<dj)(n:rA (bO P w) s.heap x u)(m:rA (bO P w) s.heap y v)(h:Q (Zv (x=y)) s):av (aw P w) A (eqBool u v) Q E s:=by
 cases x with
 |inl x =>
  cases y with
  |inl y =>
   show(bO P w).eqBool n m ?_;rw[show Zv (x=y)=Zv ((cp x:Sum Key (List Key))=cp y) by simp];show h
  |inr y =>
   obtain⟨b,e,d⟩:=m;subst e;obtain⟨o,d⟩:=y9 d;rw[show Zv ((cp x:Sum Key (List Key))=jl y)=ag by simp] at h;rcases dW n with⟨i,t,rfl,rfl⟩|⟨i,t,rfl,rfl⟩
   .exact a2O i t d j P w E Q h
   .exact a2H i t d j P w E Q h
 |inr x =>
  obtain⟨a,e,l⟩:=n;subst e
  cases y with
  |inl y =>
   obtain⟨o,l⟩:=y9 l;rw[show Zv ((jl x:Sum Key (List Key))=cp y)=ag by simp] at h;rcases dW m with⟨i,t,rfl,rfl⟩|⟨i,t,rfl,rfl⟩
   .exact a2G i t l j P w E Q h
   .exact a2F i t l j P w E Q h
  |inr y =>
   obtain⟨b,e,d⟩:=m;subst e;show wpAny_eqBool_tuple j l d ?_;rw[show Zv (x=y)=Zv ((jl x:Sum Key (List Key))=jl y) by simp];show h
theorem B1:∀(a:Q0f) (left:List (Sum Key (List Key))) (b:Array Int) (s:ak) (R:Array Int->ak->Prop),A.units<dj->iX (bO P w) s.heap left a ->
  (∀d:Array Int,d.toList=b.toList++left.map (sO (bO P w))->R d {s with toks:=s.toks+(left.map mK).sum}) ->
  av (aw P w) A (forIn a b λx r=>do
   let r' <- pyHash x
   pure (mq (r.push r'))) R E s
 |[],left,b,s,R,hu,t,k=>by cases t;show a_ (k b (by simp))
 |v::a,left,b,s,R,hu,t,k=>by
  cases t with
  | @cons kk _ ks _ h1 h2 =>
   rw[ll];show aq (aq (PH hu h1 (a_ ?_)));show B1 a ks _ _ _ hu h2 λd e=>?_;have:=k d (by rw[e];simp);simpa[a1R] using this
def PJ{ks:List (Sum Key (List Key))}{a:ah}{Q:Int->ak->Prop}(q:A.units+1<dj)(m:jK (bO P w) s.heap ks a)(h:Q (y7 (bO P w) ks) {s with toks:=s.toks+pV ks}):av (aw P w) A (pyHash (.ref a)) Q E s:=by
 have j:=m.typeIs;obtain⟨o,p,n,ho,_,v,hi⟩:=m;have d:=F.slot_tuple_hash;unfold pyHash pyHashByItsType
 wp_walk using wpAny_cRoomFor_or (.inr ∅),Gp j d.lookup,(wpAny_callSpecialIfBoundUnlessNone?_slot j d (j_ d j F.entry_tuple_hash ?_ (F.args_tuple_hash_1 _)))
 rw[v];show a_ (a_ (aq ?_));rw[<- a2D];show B1 p.toList ks #[] s _ q hi λb x=>?_;dsimp only;rw[x,la];unfold y7 reduceHash at h;show wpAny_ret_mkInt ?_;have y:s.toks+(ks.map mK).sum+1=s.toks+pV ks:=by unfold pV;lia
 show av (aw P w) A (pyHashByItsType.reduced _) Q E {s with toks:=s.toks+(ks.map mK).sum+1};rw[y];unfold pyHashByItsType.reduced;generalize a1q (ks.map (sO (bO P w)))=z at h ⊢;by_cases l:(Zv (-(2^63:Int)<=z)&&Zv (z<2^63))=ae
 .rw [Z_ l] at h ⊢;show a_ h
 .rw [Zz l] at h ⊢;show aq (nc ?_);show a_ h
theorem eq_loop:∀(x y:List (Sum Key (List Key))) (xs ys:Q0f) (R:Option Fin×Unit->ak->Prop),A.units<dj->iX (bO P w) s.heap x xs->iX (bO P w) s.heap y ys ->
  (x≠y->R (aa (.done (.ret (.bool ag))),()) s)->((x=y↔xs.length=ys.length)->R (af,()) s) ->
  av (aw P w) A (forIn (xs.zip ys) ((af,()):Option Fin×Unit) λp _=>do
   let c <- eqBool p.1 p.2
   if(!c)=ae then do
    let q <- ret (kc ag)
    pure (a2w (aa q,()))
   else pure (mq (af,()))) R E s
 |[],y,xs,ys,R,hu,hx,hy,k1,k2=>by cases hx;show a_ (k2 ?_);cases hy<;>simp
 |kx::x,[],xs,ys,R,hu,hx,hy,k1,k2=>by cases hx;cases hy;show a_ (k2 (by simp))
 |kx::x,ky::y,xs,ys,R,hu,hx,hy,k1,k2=>by
  cases hx with
  | @cons _ u _ xs hx1 hx2 =>
   cases hy with
   | @cons _ v _ ys hy1 hy2 =>
    rw[a1T,ll];show aq (aq (aAE hu hx1 hy1 ?_));by_cases a:kx=ky
    .subst a;rw[Zx rfl,Zz (by decide)];show a_ (eq_loop x y xs ys R hu hx2 hy2 (λn=>k1 (by simpa using n)) λe=>k2 ?_);simpa using e
    .rw [Zy a,Z_ (by decide)];show aq (a_ (a_ (a_ (k1 (by simp[a])))))
def aAF{x y:List (Sum Key (List Key))}{a b:ah}{Q:Bool->ak->Prop}(U:A.units+1<dj)(l:jK (bO P w) s.heap x a)(j:jK (bO P w) s.heap y b)(h:Q (Zv (x=y)) s):av (aw P w) A (eqBool (.ref a) (.ref b)) Q E s:=by
 have L:=l.typeIs;have ty:=j.typeIs;have O:=a05;by_cases d:a=b
 .subst d;rw[l.inj j,Zx rfl] at h;show a0X _ P w E Q h
 .obtain ⟨Z,xs,na,p,_,K,I⟩:=l;obtain⟨Y,ys,nb,o,_,J,v⟩:=j;unfold eqBool;rw[Zz (by simpa using d)];have m:A.units<dj:=by lia
  apply iy;apply aq;show(wpAny_richCompare_same_room (op:=.Eq) L ty O (j_ O L F.entry_tuple_eq ?_ (F.args_tuple_eq_2 _ _)) m);unfold Builtin.«tuple.__eq__»
  wp_walk using Gu ty a0v,a0b p K,a0b o J
  show eq_loop x y xs.toList ys.toList _ U I v (λn=>?_) λe=>?_
  .rw [Zy n] at h;show a_ ⟨_,rfl,(λz=>nomatch z),j7 h⟩
  .refine a_ ⟨_,rfl,(λz=>nomatch z),?_⟩;have X:(xs.size == ys.size)=Zv (x=y):=by
    by_cases q:x=y
    .rw [Zx q];simpa using e.1 q
    .rw [Zy q];simpa using λz=>q (e.2 z)
   show av (aw P w) A (truthOfDropped (.bool (xs.size == ys.size))) Q E s;rw[X];show j7 h
theorem zA:∀(vs:Q0f) (R:Option Bool×Unit->ak->Prop),(∀v∈vs,∀Q:Bool->ak->Prop,Q ae s->av (aw P w) A (eqIsQuiet d v) Q E s)->R (af,()) s ->
  av (aw P w) A (forIn vs ((af,()):Option Bool×Unit) λy _=>do
   let c <- eqIsQuiet d y
   if(!c)=ae then pure (a2w (aa ag,()))
   else pure (mq (af,()))) R E s
 |[],R,hq,k=>a_ k
 |v::vs,R,hq,k=>by rw[ll];show aq (aq (hq v cb _ ?_));rw[Zz (by decide)];show a_ (zA vs R (λu a=>hq u (e_ _ a)) k)
theorem B3(j:s.TypeIs (cz a) "tuple")(ho:s.heap.get? a=aa o)(p:o.data=.seq xs n)(m:∀v∈xs.toList,∀Q:Bool->ak->Prop,Q ae s->av (aw P w) A (eqIsQuiet d v) Q E s)(h:Q ae s):
  av (aw P w) A (eqIsQuiet (d+1) (.ref a)) Q E s:=by
 have l:=a05;unfold eqIsQuiet;show aq (Gp j l.lookup ?_);show av (aw P w) A (isInstance (.ref a) (.type "tuple") >>= _) _ _ s;show aq (Gu j a0v ?_);rw[Zz (by decide)];dsimp only;show aq (ma ho p (aq ?_));show av _ _ (forIn xs _ _) _ _ s;rw[<- a2D];show zA xs.toList _ m (a_ h)
def JV{x:List (Sum Key (List Key))}{a:ah}{Q:Bool->ak->Prop}(y:jK (bO P w) s.heap x a)(h:Q ae s):av (aw P w) A (eqIsQuiet 8 (.ref a)) Q E s:=by
 have J:=y.typeIs;obtain⟨o,xs,n,ho,_,U,hi⟩:=y;show B3 (d:=7) J ho U ?_ h;have go:∀{ks:List (Sum Key (List Key))} {vs:Q0f},iX (bO P w) s.heap ks vs ->∀v∈vs,∀Q:Bool->ak->Prop,Q ae s->av (aw P w) A (eqIsQuiet 7 v) Q E s:=by
  intro ks vs t
  induction t with
  |nil=>intro v O;cases O
  | @cons k v ks vs h1 _ ih =>
   intro u l Q k0;rcases bh.1 l with e|l
   .subst e
    cases k with
    |inl k =>
     rw[a0z _ ((bO P w).byValue _ _ h1)];show a_ k0
    |inr k =>
     obtain⟨b,e,z⟩:=h1;subst e;have K:=z.typeIs;obtain⟨X,F,Y,m,_,q,p⟩:=z;show B3 (d:=6) K m q (λI j Q' L=>?_) k0;rw[a0z _ (p.byValue I j)];show a_ L
   .exact ih u l Q k0
 show go hi
def mL(P:bf)(w:ba):HeapKind P w (List (Sum Key (List Key))) where
 is:=jK (bO P w)
 hash:=y7 (bO P w)
 draws:=pV
 room:=λA=>A.units+1<dj
 inj:=λd a=>d.inj a
 keeps:=λx ho n m=>x.keeps ho n m
 pyHash:=λj l h=>PJ j l h
 eqBool:=λj d a h=>aAF j d a h
 quiet:=λl h=>JV l h
def nest_room(a:A.units+2<dj):(mL P w).room A.in1:=a
end
inductive V where
 |non|bl (b:Bool)|int (i:Int)|str (x:aj)|PK (b:Array UInt8)|flt (b:UInt64)|ref (a:ah)|ty (n:String)
 deriving DecidableEq
noncomputable def Ψ:V->ai->Prop
 |.non,u=>u=jg
 |.bl b,u=>u=kc b
 |.int i,u=>∃t,u=js i t
 |.str x,u=>∃t,u=z_ x t
 |.PK b,u=>∃t,u=Value.bytes b t
 |.flt b,u=>∃t,u=a0U b t
 |.ref a,u=>u=cz a
 |.ty n,u=>u=pq n
abbrev θ:List V->List ai->Prop:=i_ Ψ
def θ.length{xs:List V}{a:Q0f}(r:θ xs a):xs.length=a.length:=qz r
theorem θ.get:∀{xs:List V} {a:Q0f} {i:Nat} {x:V},θ xs a->xs[i]?=aa x ->∃u,a[i]?=aa u/\Ψ x u
 |_,_,_,_,.nil,e=>by simp at e
 |_,_,0,_,.cons r _,e=>by simp at e;subst e;show⟨_,rfl,r⟩
 |_,_,i+1,x,.cons _ t,e=>by obtain⟨u,d,h2⟩:=θ.get (i:=i) (x:=x) t (by simpa using e);show⟨u,by simpa using d,h2⟩
theorem θ.set{x:V}{u:ai}(r:Ψ x u):∀{xs:List V} {a:Q0f} (i:Nat),θ xs a->θ (xs.set i x) (a.set i u)
 |_,_,_,.nil=>.nil
 |_,_,0,.cons _ t=>.cons r t
 |_,_,i+1,.cons q t=>.cons q (θ.set r i t)
theorem θ.append:∀{xs ys:List V} {d a:Q0f},θ xs d->θ ys a->θ (xs++ys) (d++a)
 |_,_,_,_,.nil,s=>s
 |_,_,_,_,.cons r t,s=>.cons r (θ.append t s)
theorem θ.take:∀{xs:List V} {a:Q0f} (n:Nat),θ xs a->θ (xs.take n) (a.take n)
 |_,_,0,_=>.nil
 |_,_,_+1,.nil=>.nil
 |_,_,n+1,.cons r t=>.cons r (θ.take n t)
theorem θ.drop:∀{xs:List V} {a:Q0f} (n:Nat),θ xs a->θ (xs.drop n) (a.drop n)
 |_,_,0,r=>r
 |_,_,_+1,.nil=>.nil
 |_,_,n+1,.cons _ t=>θ.drop n t
def rB:Option V->Option ai->Prop
 |some v,aa u=>Ψ v u
 |none,af=>True
 |_,_=>False
def KV{κ:Type}:List (κ×V)->List (κ×ai)->Prop:=i_ λ(p:κ×V) (q:κ×ai)=>p.1=q.1/\Ψ p.2 q.2
noncomputable def kV:Key->V
 |.inl i=>.int i
 |.inr x=>.str x
inductive HO where
 |lst (xs:List V)
 |tup (xs:List V)
 |dK (χ:List (Key×V))|dT (χ:List (List Key×V))
 |dX (o:ax) (χ:List (KX×V×V))
 |set (S:Int->Bool) (n:Nat)
 |ins (C dx:ah) (fs:List (aj×V))
 |own (x:ah)
 |xd (fs:List (aj×V))
 |met (f x:ah)
 |rng (lo hi:Int)
 |w4 (o:ax) (u:HO)
 |M6 (q:aj)
 |ext (φ:ay->Prop)
abbrev Hp:=ah->Option HO
def upd(H:Hp)(a:ah)(o:HO):Hp:=λb=>if b=a then aa o else H b
def aY{H:Hp}{a:ah}{o:HO}:upd H a o a=aa o:=by unfold upd;rw[Z_ rfl]
def bB{H:Hp}{a b:ah}{o:HO}(h:b≠a):upd H a o b=H b:=by unfold upd;rw[Zz h]
def Fm{H:Hp}{a b:ah}{o u:HO}(h:H a=aa o)(h':H b=aa u)(d:o≠u):a≠b:=by intro e;subst e;rw[h] at h';show d (cx h')
theorem bY{H:Hp}{a b:ah}{o:HO}(h:H a=aa o)(h':H b=af):a≠b:=by intro e;subst e;rw[h] at h';cases h'
def DU(H:Hp):Sum Key (List Key)->V->Prop
 |.inl k,v=>v=kV k
 |.inr ks,v=>∃b,v=.ref b/\H b=aa (.tup (ks.map kV))
def oU(H:Hp)(ks:N1)(a:ah):Prop:=∃vs,H a=aa (.tup vs)/\i_ (DU H) ks vs
def DW(P:bf)(w:ba)(H:Hp)(o:ax)(χ:List (KX×V×V)):Prop:=o.ExactDict /\∃es a,o.data=.dict es a /\
 ((∃vs:List (Key×ai),i_ (λ(p:KX×V×V) (q:Key×ai)=>p.1=.inl q.1/\p.2.1=kV q.1/\Ψ p.2.2 q.2) χ vs/\KeysOf (bO P w) es/\Pairs (bO P w) es.toList vs/\(vs.map (·.1)).Nodup) \/
  ∃xs:List (N1×ah×ai),i_ (λ(p:KX×V×V) (q:N1×ah×ai)=>p.1=.inr q.1/\p.2.1=.ref q.2.1/\oU H q.1 q.2.1/\Ψ p.2.2 q.2.2) χ xs/\es.toList=xs.map (entryOfKey (mL P w))/\(xs.map (·.1)).Nodup)
theorem Paired.yi{α j:Type}{F G:α->j->Prop}:∀{h:List α} {d:List j},i_ F h d->(∀a b,F a b->G a b)->i_ G h d
 |_,_,.nil,_=>.nil
 |_,_,.cons r t,f=>.cons (f _ _ r) (Paired.yi t f)
theorem oU.stay{H H':Hp}{ks:N1}{a:ah}(h:oU H ks a)(d:∀b xs,H b=aa (.tup xs)->H' b=aa (.tup xs)):oU H' ks a:=by
 obtain⟨vs,e,r⟩:=h;show⟨vs,d _ _ e,Paired.yi r λk v q=>?_⟩
 cases k with
 |inl k=>show q
 |inr k=>obtain⟨b,e,q⟩:=q;show⟨b,e,d _ _ q⟩
def DW.stay{P:bf}{w:ba}{H H':Hp}{o:ax}{χ:List (KX×V×V)}(h:DW P w H o χ)(a:∀b xs,H b=aa (.tup xs)->H' b=aa (.tup xs)):DW P w H' o χ:=by
 obtain⟨x,es,j,e,h⟩:=h;show⟨x,es,j,e,?_⟩;rcases h with h|⟨xs,r,d,h2⟩
 .exact .inl h
 .exact .inr ⟨xs,Paired.yi r λp q z=>⟨z.1,z.2.1,z.2.2.1.stay a,z.2.2.2⟩,d,h2⟩
def DX(h:ay)(a:ah):Prop:=∀o,h.get? a=aa o->o.dict=af
def DX.at{h h':ay}{a:ah}{o:ax}(n:DX h a)(e:h.get? a=aa o)(d:h'.get? a=aa o):DX h' a:=λu q=>by rw[d] at q;cases q;show n _ e
def DX.new(h:ay)(a:Array ai){n:Nat}:DX (h.push {cls:=.type "tuple",data:=.seq a n}) h.objs.size:=λu q=>by rw[dg h rfl] at q;cases q;rfl
def DX.is(e:h.get? a=aa o)(d:o.dict=af):DX h a:=λu q=>by rw[e] at q;cases q;show d
abbrev DY(a:ax):HO:=.w4 a (.ext λ_=>True)
def M7(H:Hp)(q:aj)(a:Array ai):Prop:=TriplesOk a.toList /\
 ∀j h,codeAmong j a.toList=aa h ->∃c d vs t,h=.ref c/\H c=aa (DY d)/\d.data=.fields vs/\vs[1]?=aa (.str q t)
theorem M7.stay{H H':Hp}{q:aj}{a:Array ai}(h:M7 H q a)(j:∀b o u,H b=aa (.w4 o u)->H' b=aa (.w4 o u)):M7 H' q a :=
 ⟨h.1,λd l e=>let ⟨c,oc,vs,t,e1,e2,e3⟩:=h.2 d l e;⟨c,oc,vs,t,e1,j _ _ _ e2,e3⟩⟩
section
variable(P:bf)(w:ba)
def dN(H:Hp)(h:ay)(a:ah):HO->Prop
 |.lst xs=>xs.length<=bc /\∃(j:Q0f) (n:Nat),θ xs j/\h.get? a=aa {cls:=.type "list",data:=.seq j.toArray n}
 |.tup xs=>xs.length<=bc /\∃j:Q0f,θ xs j/\ia h a j.toArray/\DX h a
 |.dK χ=>χ.length<=bc/\(a == sysModules)=ag /\∃vs,KV χ vs/\h.DictOf (bO P w) a vs
 |.dT χ=>χ.length<=bc/\(a == sysModules)=ag /\∃xs:List (List Key×ah×ai),
   i_ (λ(p:List Key×V) (q:List Key×ah×ai)=>p.1=q.1/\H q.2.1=aa (.tup (p.1.map kV))/\Ψ p.2 q.2.2) χ xs /\
   ∃o es y,h.get? a=aa o/\o.ExactDict/\o.data=.dict es y/\es.toList=xs.map (entryOfKey (tupleKind (bO P w)))/\(xs.map (·.1)).Nodup
 |.dX o χ=>χ.length<=bc/\(a == sysModules)=ag/\h.get? a=aa o/\DW P w H o χ
 |.set S n=>h.SetOf (intKind P w) a S n
 |.ins C dx fs=>H dx=aa (.own a)/\fs.length<=1000/\dx≠a/\h.get? a=aa (instObj C dx) /\
   ∃d,h.Ns1 dx d/\(∀f,rB (fs.lookup f) (d f))/\a0E d (fs.map (·.1))
 |.own _=>∃o,h.get? a=aa o
 |.xd fs=>∃d,h.Ns1 a d /\∀f,rB (fs.lookup f) (d f)
 |.rng lo hi=>∃t u v,h.get? a=aa {cls:=.type "range",data:=.fields #[.int lo t,.int hi u,.int 1 v]}
 |.w4 o u=>h.get? a=aa o/\dN H h a u
 |.M6 q=>∃l:Array ai,h.get? a=aa {cls:=.none,data:=.fields l}/\M7 H q l
 |.met f x=>h.get? a=aa (methodObj (.ref f) (.ref x))
 |.ext φ=>φ h/\(∃o,h.get? a=aa o) /\∀m h2:ay,φ m->(∀o,m.get? a=aa o->h2.get? a=aa o)->φ h2
def pW(H:Hp)(h:ay):Prop:=∀a o,H a=aa o->dN P w H h a o
end
section
variable{P:bf}{w:ba}{H H':Hp}{h h':ay}{a:ah}{o:HO}
theorem dN.lt(x:dN P w H h a o):a<h.objs.size:=by
 cases o with
 |lst xs=>obtain⟨_,_,_,_,e⟩:=x;show br e
 |tup xs=>obtain⟨_,_,_,p,_⟩:=x;show p.lt
 |dK χ=>obtain⟨_,_,_,_,o,_,_,e,_⟩:=x;show br e
 |dT χ=>obtain⟨_,_,_,_,o,_,_,e,_⟩:=x;show br e
 |dX ob χ=>obtain⟨_,_,e,_⟩:=x;show br e
 |set S n=>obtain⟨o,_,_,_,e,_⟩:=x;show br e
 |ins C dx fs=>obtain⟨_,_,_,e,_⟩:=x;show br e
 |own y=>obtain⟨_,e⟩:=x;show br e
 |xd fs=>obtain⟨_,⟨_,_,_,e,_⟩,_⟩:=x;show br e
 |rng lo hi=>obtain⟨_,_,_,e⟩:=x;show br e
 |w4 ob u=>obtain⟨e,_⟩:=x;show br e
 |M6 q=>obtain⟨d,e,_⟩:=x;show br e
 |met f y=>show br (show h.get? a=aa _ from x)
 |ext φ=>obtain⟨_,⟨_,e⟩,_⟩:=x;show br e
theorem Paired.yh{α l:Type}{F G:α->l->Prop}:∀{j:List α} {d:List l},i_ F j d->(∀a b,F a b->G a b)->i_ G j d
 |_,_,.nil,_=>.nil
 |_,_,.cons r t,f=>.cons (f _ _ r) (Paired.yh t f)
theorem dN.stay(x:dN P w H h a o)(k:∀b u,(b=a\/H b=aa (.own a))->h.get? b=aa u->h'.get? b=aa u)
  (ho:∀b,H b=aa (.own a)->H' b=aa (.own a)) (I:∀b xs,H b=aa (.tup xs)->H' b=aa (.tup xs)) (K:∀b o u,H b=aa (.w4 o u)->H' b=aa (.w4 o u):=by show λ_ _ _ q=>q):dN P w H' h' a o:=by
 induction o with
 |lst xs=>obtain⟨z,m,n,r,e⟩:=x;show⟨z,m,n,r,k _ _ (.inl rfl) e⟩
 |tup xs=>obtain⟨z,m,r,⟨j,e,c⟩,nd⟩:=x;show⟨z,m,r,⟨j,k _ _ (.inl rfl) e,c⟩,nd.at e (k _ _ (.inl rfl) e)⟩
 |dK χ=>obtain⟨z,y,vs,r,j,es,l,e,c⟩:=x;show⟨z,y,vs,r,j,es,l,k _ _ (.inl rfl) e,c⟩
 |dT χ =>
  obtain⟨z,y,xs,r,j,es,l,e,c⟩:=x;show⟨z,y,xs,Paired.yh r λp q z=>⟨z.1,I _ _ z.2.1,z.2.2⟩,j,es,l,k _ _ (.inl rfl) e,c⟩
 |dX j χ=>obtain⟨z,y,e,c⟩:=x;show⟨z,y,k _ _ (.inl rfl) e,c.stay I⟩
 |set S n=>obtain⟨j,es,l,t,e,c⟩:=x;show⟨j,es,l,t,k _ _ (.inl rfl) e,c⟩
 |ins C dx fs =>
  obtain⟨d,z,ne,e,F,⟨A,es,l,L,c⟩,r⟩:=x;show⟨ho _ d,z,ne,k _ _ (.inl rfl) e,F,⟨A,es,l,k _ _ (.inr d) L,c⟩,r⟩
 |own y=>obtain⟨j,e⟩:=x;show⟨j,k _ _ (.inl rfl) e⟩
 |xd fs=>obtain⟨F,⟨A,es,l,e,c⟩,r⟩:=x;show⟨F,⟨A,es,l,k _ _ (.inl rfl) e,c⟩,r⟩
 |rng lo hi=>obtain⟨t,u,v,e⟩:=x;show⟨t,u,v,k _ _ (.inl rfl) e⟩
 |w4 j u ih=>obtain⟨e,q⟩:=x;show⟨k _ _ (.inl rfl) e,ih q⟩
 |M6 q=>obtain⟨J,e,r⟩:=x;show⟨J,k a _ (.inl rfl) e,r.stay K⟩
 |met f y =>
  have e:h.get? a=aa (methodObj (.ref f) (.ref y)):=x;show h'.get? a=aa (methodObj (.ref f) (.ref y));show k a _ (.inl rfl) e
 |ext φ=>obtain⟨p,⟨o,e⟩,st⟩:=x;show⟨st _ _ p λo q=>k _ _ (.inl rfl) q,⟨o,k _ _ (.inl rfl) e⟩,st⟩
def pW.lt(x:pW P w H h)(e:H a=aa o):a<h.objs.size:=(x a o e).lt
theorem pW.fresh(x:pW P w H h)(e:h.objs.size<=a):H a=af:=by
 cases q:H a with
 |none=>rfl
 |some u=>show Zw (fw (x.lt q) e) (jb _)
def pW.kept(x:pW P w H h)(k:∀b u,h.get? b=aa u->h'.get? b=aa u):pW P w H h':=λa o e =>
 (x a o e).stay (λb u _ q=>k b u q) (λ_ q=>q) λ_ _ q=>q
def pW.laid(x:pW P w H h)(k:∀b u,h.get? b=aa u->h'.get? b=aa u)(l:h.objs.size<=a)(new:dN P w (upd H a o) h' a o):pW P w (upd H a o) h':=λb u e=>by
 have d:=x.fresh l;by_cases j:b=a
 .subst j;rw[aY] at e;cases e;show new
 .rw [bB j] at e;show(x b u e).stay (λc v _ q=>k c v q) (λc q=>by rw[bB (bY q d)];show q) (λc xs q=>by rw[bB (bY q d)];show q) λc o u q=>by rw[bB (bY q d)];show q
end
def Rd(H:Hp)(a:ah)(u:HO):Prop:=H a=aa u \/∃o,H a=aa (.w4 o u)
theorem Rd.ok{P:bf}{w:ba}{H:Hp}{h:ay}{a:ah}{u:HO}(r:Rd H a u)(x:pW P w H h):dN P w H h a u:=by
 rcases r with r|⟨o,r⟩
 .exact x a u r
 .obtain ⟨_,q⟩:=x a _ r;show q
noncomputable def Mut:Option HO->Prop
 |some (.lst _)=>True
 |some (.dK _)=>True
 |some (.dT _)=>True
 |some (.dX _ _)=>True
 |some (.set _ _)=>True
 |some (.ins _ _ _)=>True
 |some (.ext _)=>True
 |_=>False
section
variable{P:bf}{w:ba}{H:Hp}{h h':ay}{x e:ah}{o':HO}
theorem pW.write(ok:pW P w H h)(d:Mut (H x))(p:e=x\/H e=aa (.own x))(k:∀b u,b≠e->h.get? b=aa u->h'.get? b=aa u)(m:∃u,h'.get? e=aa u)
  (new:dN P w (upd H x o') h' x o'):pW P w (upd H x o') h':=λb u q=>by
 have A:∀c y,H c=aa (.own y)->c≠x:=λc y r z=>by subst z;rw[r] at d;show d
 have I:∀c xs,H c=aa (.tup xs)->c≠x:=λc xs r z=>by subst z;rw[r] at d;show d
 by_cases l:b=x
 .subst l;rw[aY] at q;cases q;show new
 .rw [bB l] at q;by_cases a:b=e
  .have n:H b=aa (.own x):=by
    rcases p with z|z
    .exact Zw (a.trans z) l
    .rw [a];show z
   rw[q] at n;cases n;obtain⟨v,F⟩:=m;show⟨v,by rw[a];show F⟩
  .refine (ok b u q).stay (λc v j r=>k c v ?_ r) (λc r=>by rw[bB (A c b r)];show r) (λc xs r=>by rw[bB (I c xs r)];show r) λc o u r=>by rw[bB λz=>by subst z;rw[r] at d;show d];show r
   rcases j with rfl|j
   .exact a
   .rintro rfl;rcases p with z|z
    .exact A c b j z
    .rw [j] at z;cases z;show l rfl
end
structure Un (fs ex:List ah) (H H':Hp) (h h':ay):Prop where
 keep:∀b o,h.get? b=aa o->H b=af->b∉fs->b∉ex->h'.get? b=aa o
 slot:∀b o,h.get? b=aa o->H b=af->b∈fs->b∉ex ->∃sl,h'.get? b=aa {o with slots:=sl}
 free:∀b o,h.get? b=aa o->H b=af->b∉ex->H' b=af
 there:∀b o,h.get? b=aa o->b∉ex ->∃o',h'.get? b=aa o'
 tups:∀b xs,H b=aa (.tup xs)->H' b=aa (.tup xs)
 vY:∀b o u,H b=aa (.w4 o u)->H' b=aa (.w4 o u)
 uP:∀b q,H b=aa (.M6 q)->H' b=aa (.M6 q)
section
variable{fs fs' ex ex':List ah}{H H1 H2:Hp}{h h1 h2 h':ay}{a x e:ah}{o:HO}
def Un.any(u:Un fs ex H H1 h h1){b:ah}{d:ax}(q:h.get? b=aa d)(n:H b=af)(j:b∉ex):∃m,h1.get? b=aa {d with slots:=m}:=by
 by_cases l:b∈fs
 .exact u.slot b d q n l j
 .exact ⟨d.slots,u.keep b d q n l j⟩
def Un.kept(k:∀b u,h.get? b=aa u->h'.get? b=aa u):Un fs ex H H h h' :=
 ⟨λb d q _ _ _=>k b d q,λb d q _ _ _=>⟨d.slots,k b d q⟩,λ_ _ _ n _=>n,λb d q _=>⟨d,k b d q⟩,λ_ _ q=>q,λ_ _ _ q=>q,λ_ j q=>q⟩
def Un.refl:Un fs ex H H h h:=Un.kept λ_ _ q=>q
theorem Un.laid(k:∀b u,h.get? b=aa u->h'.get? b=aa u)(j:h.objs.size<=a)(d:H a=af):Un fs ex H (upd H a o) h h' where
 keep:=λb u q _ _ _=>k b u q
 slot:=λb u q _ _ _=>⟨u.slots,k b u q⟩
 free:=λb u q n _=>by rw[bB (ee (fw (br q) j))];show n
 there:=λb u q _=>⟨u,k b u q⟩
 tups:=λb xs q=>by rw[bB (bY q d)];show q
 vY:=λb u xs q=>by rw[bB (bY q d)];show q
 uP:=λb l q=>by rw[bB (bY q d),q]
def Un.write(j:Mut (H x))(y:e=x\/H e=aa (.own x))(k:∀b u,b≠e->h.get? b=aa u->h'.get? b=aa u)(m:∃u,h'.get? e=aa u):Un fs ex H (upd H x o) h h':=by
 have p:∀b,H b=af->b≠x:=λb n z=>by subst z;rw[n] at j;show j
 have v:∀b,H b=af->b≠e:=λb n z=>by
  subst z;rcases y with r|r
  .exact p b n r
  .rw [n] at r;cases r
 have l:∀b u,H b=aa u->¬ Mut (aa u)->b≠x:=λb u q nm z=>by subst z;rw[q] at j;show nm j
 show⟨λb u q n _ _=>k b u (v b n) q,λb u q n _ _=>⟨u.slots,k b u (v b n) q⟩,λb u q n _=>by rw[bB (p b n)];show n,λb u q _=>?_,
  λb xs q=>by rw[bB (l b _ q λz=>z)];show q,λb u xs q=>by rw[bB (l b _ q λz=>z)];show q,λb A q=>by rw[bB (l b _ q λz=>z),q]⟩
 by_cases d:b=e
 .subst d;show m
 .exact ⟨u,k b u d q⟩
end
def trk(h:ay)(H:Hp):List ah:=(b_ h.objs.size).filter λa=>(H a).isSome
def AW(h:ay)(H:Hp):ay:=hideAll h (trk h H)
def PM(h:ay)(H:Hp):(AW h H).objs.size=h.objs.size:=PySem.W.hideAll_size _ _
def U6(e:h.get? b=aa o)(n:H b=af):(AW h H).get? b=aa o :=
 vn _ e λa=>by have q:(H b).isSome=ae:=(jj.mp a).2;rw[n] at q;simp at q
theorem aAG(e:(AW h H).get? b=aa o):h.get? b=aa o/\H b=af:=by
 have a:h.get? b=aa o:=Hg (trk h H) e;show⟨a,?_⟩
 cases q:H b with
 |none=>rfl
 |some x =>
  have d:b∈trk h H:=jj.mpr ⟨og.mpr (br a),by simp[q]⟩;have z:(AW h H).get? b=af:=vm (trk h H) d;rw[z] at e;cases e
structure Mod (K:ao) (mg:Q0d) (ω:ay):Prop where
 kin:K.In ω
 glob:ω.Ns g_ mg
 blt:∃mb,ω.Ns builtinsNs mb /\∀x:aj,x ≠ "__name__"->mb x=bootBuiltins x
 nolimit:ω.NoLimit
 bm:∃bm ob,mg "__builtins__"=aa (.ref bm)/\bm≠builtinsNs/\ω.get? bm=aa ob/\ob.cls=.type "module" /\ob.dict=aa builtinsNs/\ob.data=.plain
def GU:List aj:=["going_of","count_of_chain","cut_paper","downsets","strictest_chains"]
def oV(x:aj):aj:=x++".<locals>.<lambda>"
def eJ(K:ao):List (aj×ah×ah):=GU.filterMap λx=>(zq K x).map λp=>(x,p.1,p.2)
def vc(K:ao)(ω:ay)(H:Hp):Prop:=∀t∈eJ K,CodeHd ω t.2.1 t.2.2/\H t.2.2=aa (.M6 (oV t.1))
structure Cx where
 Ω:bf
 w:ba
 K:ao
 mg:aj->Option ai
 ω:ay
 A:bq
 N:List aj
 s₀:ak
 H₀:Hp
 env:de
 Γ:List de
 stack:List de
 ex:List ah
 fn:aj->Bool
 calm:Bool
 pn:List (ah×ax)
 xe:ai->ak->Prop
abbrev Zu(x:aj):Prop:=(x == ("__debug__":aj))=ag
abbrev Zt(x:aj):Prop:=(x == ("__classdict__":aj))=ag
abbrev Zr(X:Cx)(e:au)(l:List au):Prop:=ar (e::l) X.env=(ag,eval e X.env)::ar l X.env
abbrev Zq(X:Cx)(x:aj):Prop:=X.fn x=ae\/X.env.scope.names.lookup x=aa .local
abbrev Zp(X:Cx)(a:bb)(e:au):Prop:=((cu a (ar [e] X.env)).all (λx=>!x.1)&&(backToKw a (kb [] X.env)).all (λx=>x.1.isSome) && Zv ([e].length+([]:List fz).length+(if([]:List fz).isEmpty then 0 else 1)<30))=ae
abbrev Zo(X:Cx)(i:au):Prop:=∀x,foldedSetIterable i X.env x=pure x
abbrev Si(X:Cx)(e:au)(x:aj)(p q:bb):Prop:=di e (aa (.Name x p)) q.line X.env=pure ag
abbrev Rv(X:Cx)(elt h iter:au)(ifs:List au)(sc:fj)(d:bb)(x:aj)(pos' a:bb):Prop:=di (.ListComp elt [⟨h,iter,ifs,0⟩] sc d) (aa (.Name x pos')) a.line X.env=pure ae
abbrev gV(X:Cx)(x y:aj)(d a:bb):Prop:=(df [.Name x d,.Name y a] X.env).map (·.2)=assign (.Name x d) X.env::(df [.Name y a] X.env).map (·.2)
abbrev Q0h(X:Cx)(y:aj)(a:bb):Prop:=(df [.Name y a] X.env).map (·.2)=assign (.Name y a) X.env::(df [] X.env).map (·.2)
abbrev Q0i(X:Cx)(x y:aj)(d a:bb):Prop:=(df [.Name x d,.Name y a] X.env).findIdx? (·.1)=af
abbrev Q0j(X:Cx)(x y:aj)(d a:bb):Prop:=(df [.Name x d,.Name y a] X.env).length=2
abbrev Q0k(p q:bb):Prop:=(p.endLine == q.line)=ae
abbrev Q0l(X:Cx)(p:bb)(l:List au):Prop:=(cu p (ar l X.env)).any (·.1)=ag
def frs(l:List de):List ah:=l.filterMap (·.frame)
abbrev Cx.fs(X:Cx):List ah:=frs X.Γ
def vZ(sc:fj)(x:aj):Prop:=sc.names.lookup x=aa .local\/sc.names.lookup x=aa .cell\/sc.names.lookup x=aa .free
def Loc(sc:fj)(x:aj):Prop:=sc.names.lookup x=aa .local\/sc.names.lookup x=aa .cell
def Look(env:de)(h:ay)(m:Q0d)(x:aj)(u:ai):Prop :=
 (env.kindOf x=aa .local/\m x=aa u)\/((env.kindOf x=aa .cell\/env.kindOf x=aa .free) /\∃c,env.cells.lookup x=aa c/\h.IsCell c (aa u))
structure Cx.Ok (X:Cx):Prop where
 mod:Mod X.K X.mg X.ω
 kind:X.env.scope.kind=.function
 glob:X.env.globals=g_
 blt:X.env.builtins=builtinsNs
 above:X.s₀.heap.objs.size<=X.env.locals
 inj:∀x y c,X.env.cells.lookup x=aa c->X.env.cells.lookup y=aa c->x=y
 has:∀x,(X.env.kindOf x=aa .cell\/X.env.kindOf x=aa .free) ->∃c,X.env.cells.lookup x=aa c
 cab:∀x c,X.fn x=ae->X.env.cells.lookup x=aa c->X.s₀.heap.objs.size<=c
 hd:X.calm=ae->X.A.handled=af
 frames:X.A.frames=aa X.stack
 stk:X.stack=X.Γ\/(X.stack=X.env::X.Γ/\X.env.frame=aa X.env.locals)
 exf:∀b∈X.ex,b≠X.env.locals /\∀x c,X.env.cells.lookup x=aa c->c≠b
 bs:∀b o,X.ω.get? b=aa o->X.s₀.heap.get? b=aa o/\X.H₀ b=af
 RX:X.ω.objs.size<=X.s₀.heap.objs.size
 JW:∀b o,X.ω.get? b=aa o->b∉X.ex
 PN:∀b∈X.ex,b∉X.fs
 rC:X.s₀.heap.FunFrames X.ω X.Γ
 frf:∀b∈X.fs,X.H₀ b=af
 tab:vc X.K X.ω X.H₀
structure Φ (X:Cx) (π:Q0b) (σ:List (Option V)) (H:Hp) (s:ak):Prop where
 ok:X.Ok
 os:s.os=X.s₀.os
 bare:kq s.gens
 ω:Un X.fs X.ex X.H₀ H X.s₀.heap s.heap
 loc:∃m,s.heap.Ns X.env.locals m /\∀(i:Nat) (x:aj) (v:V),X.N[i]?=aa x->σ[i]?=aa (aa v)->vZ X.env.scope x ->∃u,Ψ v u/\Look X.env s.heap m x u
 cell:∀x c,X.env.cells.lookup x=aa c ->∃v,s.heap.IsCell c v
 free:H X.env.locals=af
 iH:∀x c,X.env.cells.lookup x=aa c->H c=af
 pin:∀p∈X.pn++π,s.heap.get? p.1=aa p.2/\H p.1=af/\p.1≠X.env.locals/\p.1∉X.fs /\∀v,p.2.data≠.cell v
 hok:pW X.Ω X.w H s.heap
 len:σ.length=X.N.length
variable{X:Cx}
section
variable{π:Q0b}{σ:List (Option V)}{H H':Hp}{s:ak}{h':ay}
def Cx.Ok.TM(ok:X.Ok)(e:X.ω.get? b=aa o):b∉X.fs:=λa=>by have:=(ok.rC.mem a).1;rw[e] at this;cases this
def Φ.bs(I:Φ X π σ H s):∀b o,X.ω.get? b=aa o->s.heap.get? b=aa o/\H b=af:=λb o e =>
 ⟨I.ω.keep b o (I.ok.bs b o e).1 (I.ok.bs b o e).2 (I.ok.TM e) (I.ok.JW b o e),I.ω.free b o (I.ok.bs b o e).1 (I.ok.bs b o e).2 (I.ok.JW b o e)⟩
def Φ.bk(I:Φ X π σ H s):∀b o,X.ω.get? b=aa o->s.heap.get? b=aa o:=λb o e=>(I.bs b o e).1
def Φ.mod(I:Φ X π σ H s):Mod X.K X.mg X.ω:=I.ok.mod
def Φ.tab(I:Φ X π σ H s):vc X.K X.ω H:=λt a=>⟨(I.ok.tab t a).1,I.ω.uP _ _ (I.ok.tab t a).2⟩
def Φ.w8(I:Φ X π σ H s):X.K.In s.heap:=I.ok.mod.kin.keeps I.bk
def Φ.nolimit(I:Φ X π σ H s):s.heap.NoLimit:=I.ok.mod.nolimit.keeps I.bk
def Φ.fr(I:Φ X π σ H s):∃m,Fr X.ω X.env.locals s.heap m :=
 let ⟨m,hn,_⟩:=I.loc
 ⟨m,hn,I.bk,f_ I.ok.RX I.ok.above⟩
def Φ.lt(I:Φ X π σ H s):X.env.locals<s.heap.objs.size:=let ⟨_,hn,_⟩:=I.loc;hn.lt
def Φ.sz(I:Φ X π σ H s):X.s₀.heap.objs.size<=s.heap.objs.size:=f_ I.ok.above (ku I.lt)
def Φ.Tz(I:Φ X π σ H s)(h:s.heap.objs.size<=a):a∉X.fs:=λd=>by obtain⟨_,o,ho,_⟩:=I.ok.rC.mem d;show Zw (fw (br ho) (f_ I.sz h)) (jb _)
def Φ.cne(I:Φ X π σ H s):∀x c,X.env.cells.lookup x=aa c->c≠X.env.locals:=λx c e z=>by obtain⟨v,o,ho,h⟩:=I.cell x c e;obtain⟨m,⟨j,es,l,a,d,_⟩,_⟩:=I.loc;rw[z,a] at ho;cases ho;rw[d] at h;cases h
def Φ.rC(I:Φ X π σ H s):s.heap.FunFrames X.ω X.Γ:=by
 have all:∀(l:List de),(∀b∈frs l,b∈X.fs)->X.s₀.heap.FunFrames X.ω l->s.heap.FunFrames X.ω l:=by
  intro l
  induction l with
  |nil=>intro _ _;trivial
  |cons env r ih =>
   intro j p;obtain⟨q,⟨L,o,a,n,ho,v⟩,m⟩:=p;have h:L∈X.fs:=j L (by unfold frs;rw[Jl,a];show cb);obtain⟨x,e⟩:=I.ω.slot L o ho (I.ok.frf L h) h λz=>I.ok.PN L z h;show⟨q,⟨L,_,a,n,e,v⟩,ih (λb d=>j b (by unfold frs;rw[Jl,a];show e_ _ d)) m⟩
 show all X.Γ (λ_ d=>d) I.ok.rC
def Φ.stack(I:Φ X π σ H s):s.heap.FunFrames X.ω X.stack:=by
 rcases I.ok.stk with e|⟨e,d⟩
 .rw [e];show I.rC
 .rw [e];obtain⟨m,a,_⟩:=I.loc;show .cons (by rw[I.ok.kind];decide) d a ?_ I.rC;show a03 (f_ I.ok.RX I.ok.above)
def Φ.rD(I:Φ X π σ H s):∀b∈frs X.stack,b∈X.env.locals::X.fs:=λb a=>by
 rcases I.ok.stk with e|⟨e,d⟩
 .rw [e] at a;show e_ _ a
 .rw [e] at a;unfold frs at a;rw[Jl,d] at a;show a
def Φ.w9(I:Φ X π σ H s):∀b∈frs X.stack,H b=af:=λb a=>by
 rcases bh.mp (I.rD b a) with e|a
 .rw [e];show I.free
 .obtain ⟨_,o,ho,_⟩:=I.ok.rC.mem a;show I.ω.free b o ho (I.ok.frf b a) λz=>I.ok.PN b z a
theorem Φ.step{g':Array GenState}{t':Nat}{d':Drawn}{ch:List ah}(I:Φ X π σ H s)
  (j:∀b∈ch,(b∈X.ex\/X.s₀.heap.objs.size<=b)/\b≠X.env.locals/\(∀x c,X.env.cells.lookup x=aa c->c≠b) /\∀p∈X.pn++π,p.1≠b)
  (keep:∀b o,b≠X.env.locals->b∉X.fs->b∉ch->s.heap.get? b=aa o->H b=af->h'.get? b=aa o)
  (slot:∀b o,b≠X.env.locals->b∈X.fs->b∉ch->s.heap.get? b=aa o->H b=af ->∃O,h'.get? b=aa {o with slots:=O}) (free:∀b o,b∉ch->s.heap.get? b=aa o->H b=af->H' b=af)
  (there:∀b o,b∉ch->s.heap.get? b=aa o ->∃J,h'.get? b=aa J)
  (tups:∀b xs,H b=aa (.tup xs)->H' b=aa (.tup xs)) (vY:∀b o u,H b=aa (.w4 o u)->H' b=aa (.w4 o u)) (uP:∀b q,H b=aa (.M6 q)->H' b=aa (.M6 q))
  (ns:∀m,s.heap.Ns X.env.locals m->h'.Ns X.env.locals m) (Y:pW X.Ω X.w H' h') (hg:kq g'):
  Φ X π σ H' {s with heap:=h',gens:=g',drawn:=d',toks:=t' }:=by
 have K:∀b o,X.s₀.heap.get? b=aa o->b≠X.env.locals:=λb o e=>ee (fw (br e) I.ok.above);have y:∀b o,X.s₀.heap.get? b=aa o->b∉X.ex->b∉ch:=λb o e a A=>by
  rcases(j b A).1 with z|z
  .exact a z
  .exact Zw (fw (br e) z) (jb _)
 have cellK:∀x c,X.env.cells.lookup x=aa c ->∀v,s.heap.IsCell c v->h'.IsCell c v:=λx c e v U=>by
  obtain⟨o,ho,Z⟩:=U;have h:c∉ch:=λz=>(j c z).2.2.1 x c e rfl;by_cases hc:c∈X.fs
  .obtain ⟨O,q⟩:=slot c o (I.cne x c e) hc h ho (I.iH x c e);show⟨_,q,Z⟩
  .exact ⟨o,keep c o (I.cne x c e) hc h ho (I.iH x c e),Z⟩
 show⟨I.ok,I.os,hg,⟨λb o e n A a=>?_,λb o e n A a=>?_,λb o e n a=>?_,λb o e a=>?_,λb xs e=>tups b xs (I.ω.tups b xs e),λb o xs e=>vY b o xs (I.ω.vY b o xs e),λb ps e=>uP b ps (I.ω.uP b ps e)⟩,?_,λx c e=>?_,?_,λx c e=>?_,λp hp=>?_,Y,I.len⟩
 .exact keep b o (K b o e) A (y b o e a) (I.ω.keep b o e n A a) (I.ω.free b o e n a)
 .obtain ⟨O,F⟩:=I.ω.slot b o e n A a;obtain⟨L,e2⟩:=slot b _ (K b o e) A (y b o e a) F (I.ω.free b o e n a);show⟨L,e2⟩
 .obtain ⟨J,F⟩:=I.ω.there b o e a;show free b J (y b o e a) F (I.ω.free b o e n a)
 .obtain ⟨J,F⟩:=I.ω.there b o e a;show there b J (y b o e a) F
 .obtain ⟨m,hn,hl⟩:=I.loc;show⟨m,ns m hn,λi x v F e2 e3=>?_⟩;obtain⟨u,r,l⟩:=hl i x v F e2 e3;show⟨u,r,?_⟩;rcases l with l|⟨k,c,e,z⟩
  .exact .inl l
  .exact .inr ⟨k,c,e,cellK x c e _ z⟩
 .obtain ⟨v,z⟩:=I.cell x c e;show⟨v,cellK x c e v z⟩
 .obtain ⟨m,⟨o,_,_,ho,_⟩,_⟩:=I.loc;show free _ o (λz=>(j _ z).2.1 rfl) ho I.free
 .obtain ⟨v,o,ho,Z⟩:=I.cell x c e;show free c o (λz=>(j c z).2.2.1 x c e rfl) ho (I.iH x c e)
 .obtain ⟨e,n,ne,nf,d⟩:=I.pin p hp;have h:p.1∉ch:=λz=>(j p.1 z).2.2.2 p hp rfl;show⟨keep p.1 p.2 ne nf h e n,free p.1 p.2 h e n,ne,nf,d⟩
def Φ.un{t':Nat}(I:Φ X π σ H s)(u:Un X.fs [] H H' s.heap h')(d:pW X.Ω X.w H' h'):Φ X π σ H' {s with heap:=h',toks:=t' }:=by
 obtain⟨m,⟨o,es,F,ho,r⟩,_⟩:=id I.loc;obtain⟨x,v⟩:=u.any ho I.free (by simp);show I.step (g':=s.gens) (d':=s.drawn) (ch:=[]) (λ_ z=>nomatch z) (λb o _ h _ e n=>u.keep b o e n h (by simp)) (λb o _ h _ e n=>u.slot b o e n h (by simp)) (λb o _ e n=>u.free b o e n (by simp)) (λb o _ e=>u.there b o e (by simp)) u.tups u.vY u.uP (λA q=>by obtain⟨y,j,l,a,p⟩:=q;rw[ho] at a;cases a;show⟨_,j,l,v,p⟩) d I.bare
theorem Φ.call{g':Array GenState}{t':Nat}{d':Drawn}{ch:List ah}(I:Φ X π σ H s)(u:Un (frs X.stack) ch H H' s.heap h')(j:pW X.Ω X.w H' h')(F:kq g')
  (h:∀b∈ch,(b∈X.ex\/X.s₀.heap.objs.size<=b)/\b≠X.env.locals/\(∀x c,X.env.cells.lookup x=aa c->c≠b) /\∀p∈X.pn++π,p.1≠b):
  Φ X π σ H' {s with heap:=h',gens:=g',drawn:=d',toks:=t' }:=by
 obtain⟨m,⟨o,es,U,ho,r⟩,_⟩:=id I.loc;obtain⟨K,l⟩:=u.any ho I.free λz=>(h _ z).2.1 rfl;show I.step (ch:=ch) h (λb o l J a e n=>u.keep b o e n (λz=>(bh.mp (I.rD b z)).elim l J) a) (λb o _ _ a e n=>u.any e n a) (λb o a e n=>u.free b o e n a) (λb o a e=>u.there b o e a) u.tups u.vY u.uP (λO A=>by obtain⟨L,q,v,d,y⟩:=A;rw[ho] at d;cases d;show⟨_,q,v,l,y⟩) j F
theorem Φ.turned{t':Nat}{it:ah}(I:Φ X π σ H s)(k:∀b o,b≠it->s.heap.get? b=aa o->h'.get? b=aa o)(j:H it=af)(h:it≠X.env.locals)
  (F:it∈X.ex\/X.s₀.heap.objs.size<=it) (h2:∀x c,X.env.cells.lookup x=aa c->c≠it) (A:∀p∈X.pn++π,p.1≠it):Φ X π σ H {s with heap:=h',toks:=t' }:=by
 have d:∀b u,H b=aa u->b≠it:=λb u e z=>by rw[z,j] at e;cases e
 show I.step (g':=s.gens) (d':=s.drawn) (ch:=[it]) (λb y=>?_) (λb o _ _ a e _=>k b o (λz=>a (by simp[z])) e) (λb o _ _ a e _=>⟨o.slots,k b o (λz=>a (by simp[z])) e⟩) (λ_ _ _ _ n=>n)
  (λb o a e=>⟨o,k b o (λz=>a (by simp[z])) e⟩) (λ_ _ e=>e) (λ_ _ _ e=>e) (λb K e=>e) (λm l=>?_) (λb u e=>?_) I.bare
 .have e:b=it:=by simpa using y
  subst e;show⟨F,h,h2,A⟩
 .obtain ⟨o,es,J,ho,r⟩:=l;show⟨o,es,J,k _ o (d_ h) ho,r⟩
 .refine (I.hok b u e).stay (λc v a q=>k c v ?_ q) (λ_ q=>q) λ_ _ q=>q;rcases a with z|z
  .rw [z];show d b u e
  .exact d c _ z
def Φ.tok(I:Φ X π σ H s)(t:Nat):Φ X π σ H {s with toks:=t}:=I.un (h':=s.heap) (t':=t) Un.refl I.hok
def Φ.kept(I:Φ X π σ H s)(k:∀b u,s.heap.get? b=aa u->h'.get? b=aa u):Φ X π σ H {s with heap:=h',toks:=t' }:=I.un (Un.kept k) (I.hok.kept k)
theorem Φ.laid{a:ah}{o:HO}{t':Nat}(I:Φ X π σ H s)(k:∀b u,s.heap.get? b=aa u->h'.get? b=aa u)(d:s.heap.objs.size<=a)(new:dN X.Ω X.w (upd H a o) h' a o):
  Φ X π σ (upd H a o) {s with heap:=h',toks:=t' }:=I.un (Un.laid k d (I.hok.fresh d)) (I.hok.laid k d new)
theorem Φ.write(I:Φ X π σ H s)(d:Mut (H x))(h:e=x\/H e=aa (.own x))(k:∀b u,b≠e->s.heap.get? b=aa u->h'.get? b=aa u)(a:∃u,h'.get? e=aa u)
  (new:dN X.Ω X.w (upd H x o) h' x o):Φ X π σ (upd H x o) {s with heap:=h',toks:=t' }:=I.un (Un.write d h k a) (I.hok.write d h k a new)
def Φ.weak(I:Φ X π σ H s)(a:σ'.length=σ.length)(w:∀(i:Nat) v,σ'[i]?=aa (aa v)->σ[i]?=aa (aa v)):Φ X π σ' H s :=
 ⟨I.ok,I.os,I.bare,I.ω,let ⟨m,hn,hl'⟩:=I.loc;⟨m,hn,λi x v j h d=>hl' i x v j (w i v h) d⟩,I.cell,I.free,I.iH,I.pin,I.hok,a.trans I.len⟩
def Φ.DZ(I:Φ X π σ H s)(h:∀p∈U7,s.heap.get? p.1=aa p.2/\H p.1=af/\p.1≠X.env.locals/\p.1∉X.fs /\∀v,p.2.data≠.cell v):Φ X U7 σ H s :=
 ⟨I.ok,I.os,I.bare,I.ω,I.loc,I.cell,I.free,I.iH,λp a=>(gn.mp a).elim (λz=>I.pin p (gj _ z)) (h p),I.hok,I.len⟩
def GV{N:Q0g}(hN:N.Nodup){i j:Nat}{x:aj}(a:N[i]?=aa x)(b:N[j]?=aa x):i=j:=by obtain⟨l,h⟩:=cg.mp a;obtain⟨h2,d⟩:=cg.mp b;show(a2c hN).mp (h.trans d.symm)
theorem B4{M:vq}{A:bq}{E:Q0c}{i:Nat}{x:aj}{v:V}{u:ai}{Q:Unit->ak->Prop}(I:Φ X π σ H s)(hN:X.N.Nodup)(hi:X.N[i]?=aa x)(K:Loc X.env.scope x)(r:Ψ v u)
  (h:∀s',Φ X π (σ.set i (aa v)) H s'->(∃a,nq a s.heap s'.heap/\(a=X.env.locals\/X.env.cells.lookup x=aa a))->Q () s') (hf:Zq X x:=by first|show .inl rfl|show .inr rfl|assumption):av M A (storeName X.env x u) Q E s:=by
 obtain⟨m,hn,hl⟩:=id I.loc;have hcls:(X.env.scope.kind == .class||(X.env.scope.kind == .module&&X.env.locals !=X.env.globals))=ag:=by rw[I.ok.kind];rfl
 have Y:i<σ.length:=by rw[I.len];show(cg.mp hi).1
 have cne:=I.cne;have tracked:∀{a:ah} {h':ay},(∃o,s.heap.get? a=aa o/\H a=af)->nq a s.heap h'->pW X.Ω X.w H h':=λ{a h'} ha l b ob e=>by
  obtain⟨_,_,L⟩:=ha;show(I.hok b ob e).stay (λc w' J q=>(l.2 c ?_).trans q) (λ_ q=>q) λ_ _ q=>q;rintro rfl;rcases J with rfl|J
  .rw [L] at e;cases e
  .rw [L] at J;cases J
 rcases K with U|U
 .refine wpAny_storeName_local U hn (λh' hn' l=>?_) hcls;obtain⟨oL,_,_,hoL,_⟩:=id hn;show h _ ⟨I.ok,I.os,I.bare,⟨λb o e n hb K=>?_,λb o e n hb K=>?_,I.ω.free,λb o e K=>?_,I.ω.tups,I.ω.vY,I.ω.uP⟩,⟨_,hn',λj y v' F O e3=>?_⟩,λy c e=>?_,I.free,I.iH,λp hp=>?_,tracked ⟨oL,hoL,I.free⟩ l,by simpa using I.len⟩ ⟨_,l,.inl rfl⟩
  .exact (l.2 b (ee (fw (br e) I.ok.above))).trans (I.ω.keep b o e n hb K)
  .obtain ⟨sl,F⟩:=I.ω.slot b o e n hb K;show⟨sl,(l.2 b (ee (fw (br e) I.ok.above))).trans F⟩
  .obtain ⟨o',F⟩:=I.ω.there b o e K;show⟨o',(l.2 b (ee (fw (br e) I.ok.above))).trans F⟩
  .by_cases Z:j=i
   .subst Z;rw[hi] at F;cases F;rw[kl Y] at O;cases O;show⟨u,r,.inl ⟨U,by simp⟩⟩
   .rw [jk (d_ Z)] at O;obtain⟨u',r',q⟩:=hl j y v' F O e3;show⟨u',r',?_⟩;rcases q with⟨k,e⟩|⟨k,c,e,z⟩
    .refine .inl ⟨k,?_⟩;have:y≠x:=λe=>Z (GV hN F (e▸hi));simp[this,e]
    .exact .inr ⟨k,c,e,z.sameBut l (cne y c e)⟩
  .obtain ⟨w',z⟩:=I.cell y c e;show⟨w',z.sameBut l (cne y c e)⟩
  .obtain ⟨e,n,ne,nf,d⟩:=I.pin p hp;show⟨(l.2 p.1 ne).trans e,n,ne,nf,d⟩
 .have hfn:X.fn x=ae:=by
   rcases hf with z|z
   .exact z
   .rw [z] at U;cases U
  obtain⟨c,J⟩:=I.ok.has x (.inl U);obtain⟨w',z⟩:=I.cell x c J;show wpAny_storeName_cell I.ok.kind U J z (λh' hc' l=>?_);obtain⟨oc,hoc,Tx⟩:=id z;show h {s with heap:=h' } ⟨I.ok,I.os,I.bare,⟨λb o e n hb K=>?_,λb o e n hb K=>?_,I.ω.free,λb o e K=>?_,I.ω.tups,I.ω.vY,I.ω.uP⟩,⟨m,hn.sameBut l (d_ (cne x c J)),λj y v' F O e3=>?_⟩,λy c' e=>?_,I.free,I.iH,λp hp=>?_,tracked ⟨oc,hoc,I.iH x c J⟩ l,by simpa using I.len⟩ ⟨c,l,.inr J⟩
  .exact (l.2 b (ee (fw (br e) (I.ok.cab x c hfn J)))).trans (I.ω.keep b o e n hb K)
  .obtain ⟨sl,F⟩:=I.ω.slot b o e n hb K;show⟨sl,(l.2 b (ee (fw (br e) (I.ok.cab x c hfn J)))).trans F⟩
  .obtain ⟨o',F⟩:=I.ω.there b o e K;show⟨o',(l.2 b (ee (fw (br e) (I.ok.cab x c hfn J)))).trans F⟩
  .by_cases Z:j=i
   .subst Z;rw[hi] at F;cases F;rw[kl Y] at O;cases O;show⟨u,r,.inr ⟨.inl U,c,J,hc'⟩⟩
   .rw [jk (d_ Z)] at O;obtain⟨u',r',q⟩:=hl j y v' F O e3;show⟨u',r',?_⟩;rcases q with q|⟨k,c',e,z'⟩
    .exact .inl q
    .refine .inr ⟨k,c',e,z'.sameBut l ?_⟩;rintro rfl;show Z (GV hN F (I.ok.inj _ _ _ e J▸hi))
  .by_cases hcc:c'=c
   .subst hcc;show⟨_,hc'⟩
   .obtain ⟨w2,z2⟩:=I.cell y c' e;show⟨w2,z2.sameBut l hcc⟩
  .obtain ⟨e,n,ne,nf,d⟩:=I.pin p hp;show⟨(l.2 p.1 ?_).trans e,n,ne,nf,d⟩;intro q;rw[q,hoc] at e;have q':oc=p.2:=cx e;show d w' (by rw[<- q'];show Tx)
theorem zB(I:Φ X π σ H s)(hN:X.N.Nodup)(hi:X.N[i]?=aa x)(a:Loc X.env.scope x)(r:Ψ v u)
  (h:∀s',Φ X π (σ.set i (aa v)) H s'->Q () s') (d:Zq X x:=by first|show .inl rfl|show .inr rfl|assumption):av M A (storeName X.env x u) Q E s :=
 B4 I hN hi a r (λs' j _=>h s' j) d
theorem Φ.call'(I:Φ X π σ H s)(ho:s'.os=s.os)(u:Un (frs X.stack) ch H H' s.heap s'.heap)(a:pW X.Ω X.w H' s'.heap)(j:kq s'.gens)
  (d:∀b∈ch,(b∈X.ex\/X.s₀.heap.objs.size<=b)/\b≠X.env.locals/\(∀x c,X.env.cells.lookup x=aa c->c≠b) /\∀p∈X.pn++π,p.1≠b):Φ X π σ H' s':=by
 obtain⟨h',g',d',t',h⟩:=s';have e:h=s.os:=ho;subst e;show I.call (g':=g') (t':=t') (d':=d') u a j d
end
abbrev XK:=ai->Option ah->Hp->Prop
abbrev St:=List (Option V)
abbrev VK:=V->Hp->Prop
abbrev TE:=St->Hp->VK->Prop
abbrev TT:=St->Hp->(Bool->Hp->Prop)->Prop
abbrev TA:=St->Hp->(List V->Hp->Prop)->Prop
structure Ends where
 nx:St->Hp->Prop
 rt:VK
 bk:St->Hp->Prop:=λ_ _=>False
 ct:St->Hp->Prop:=λ_ _=>False
abbrev TS:=Ends->St->Hp->Prop
def EP(X:Cx)(π:Q0b)(σ:St)(Q:VK)(u:ai)(s':ak):Prop:=∃v H',Φ X π σ H' s'/\Ψ v u/\Q v H'
def TP(X:Cx)(π:Q0b)(σ:St)(Q:Bool->Hp->Prop)(b:Bool)(s':ak):Prop:=∃H',Φ X π σ H' s'/\Q b H'
def AP(X:Cx)(π:Q0b)(σ:St)(Q:List V->Hp->Prop)(a:Q0f)(s':ak):Prop:=∃vs H',Φ X π σ H' s'/\θ vs a/\Q vs H'
def SP(X:Cx)(π:Q0b)(D:Ends)(f:Flow)(s':ak):Prop :=
 match f with
 |.next=>∃a H',Φ X π a H' s'/\D.nx a H'
 |.brk=>∃a H',Φ X π a H' s'/\D.bk a H'
 |.cont=>∃a H',Φ X π a H' s'/\D.ct a H'
 |.ret u=>∃v a H',Φ X π a H' s'/\Ψ v u/\D.rt v H'
def PE(X:Cx)(e:au)(t:TE):Prop :=
 ∀(π:Q0b) (s:ak) (σ:St) (H:Hp) (Q:VK),Φ X π σ H s->t σ H Q->av (aw X.Ω X.w) X.A (eval e X.env) (EP X π σ Q) X.xe s
def PT(X:Cx)(e:au)(t:TT):Prop :=
 ∀(π:Q0b) (s:ak) (σ:St) (H:Hp) (Q:Bool->Hp->Prop),Φ X π σ H s->t σ H Q->av (aw X.Ω X.w) X.A (isTrue e X.env (eval e X.env)) (TP X π σ Q) X.xe s
def PW(X:Cx)(e:au)(t:TT):Prop :=
 ∀(whole:Sem ai) (π:Q0b) (s:ak) (σ:St) (H:Hp) (Q:Bool->Hp->Prop),Φ X π σ H s->t σ H Q->av (aw X.Ω X.w) X.A (isTrue e X.env whole) (TP X π σ Q) X.xe s
def PW.pt(h:PW X e t):PT X e t:=h _
def PA(X:Cx)(es:List au)(t:TA):Prop :=
 ∀(a:bb) (π:Q0b) (s:ak) (σ:St) (H:Hp) (Q:List V->Hp->Prop),Φ X π σ H s->t σ H Q->av (aw X.Ω X.w) X.A (spliced (cu a (ar es X.env))) (AP X π σ Q) X.xe s
def PS(X:Cx)(st:bz)(t:TS):Prop :=
 ∀(π:Q0b) (s:ak) (σ:St) (H:Hp) (D:Ends),Φ X π σ H s->t D σ H->av (aw X.Ω X.w) X.A (exec st X.env) (SP X π D) X.xe s
def zC(X:Cx)(st:List bz)(t:TS):Prop :=
 ∀(π:Q0b) (s:ak) (σ:St) (H:Hp) (D:Ends),Φ X π σ H s->t D σ H->av (aw X.Ω X.w) X.A (execs st X.env) (SP X π D) X.xe s
def eR{α:Type}{t:Sem α}{Q Q':α->ak->Prop}{M:vq}{A:bq}{E:Q0c}{s:ak}(h:av M A t Q E s)(d:∀a s,Q a s->Q' a s):av M A t Q' E s:=ik h d λ_ _ x=>x
section
def vb(i:Nat):TE:=λσ H Q=>∃v,σ[i]?=aa (aa v)/\Q v H
def tC(v:V):TE:=λ_ H Q=>Q v H
def rE(hN:X.N[i]?=aa x)(p:vZ X.env.scope x)(j:Zu x:=by decide)(n:Zt x:=by decide):PE X (.Name x ν) (vb i):=by
 intro π s σ H Q I h;obtain⟨v,e,h⟩:=h;obtain⟨m,q,z⟩:=I.loc;obtain⟨u,r,l⟩:=z i x v hN e p;have fin:EP X π σ Q u s:=⟨v,H,I,r,h⟩;rcases l with⟨d,y⟩|⟨d,c,o,a⟩
 .exact Gw (wpAny_loadName_local I.ok.kind d q y fin) j
 .rcases d with d|d
  .exact Gw (wpAny_loadName_cell I.ok.kind d o a fin) j
  .exact Gw (wpAny_loadName_free I.ok.kind d o a fin n) j
def aDL{i j ν}:PE X (.Constant (.int i) j ν) (tC (.int i)):=λ_ _ _ H _ I h=>wpAny_Constant_int ⟨.int i,H,I.tok _,⟨_,rfl⟩,h⟩
def aFm{b j ν}:PE X (.Constant (.bool b) j ν) (tC (.bl b)):=λ_ _ _ H _ I h=>Constant_bool ⟨.bl b,H,I,rfl,h⟩
def aDM{j ν}:PE X (.Constant .none j ν) (tC .non):=λ_ _ _ H _ I h=>Constant_none ⟨.non,H,I,rfl,h⟩
def aDN{x j ν}:PE X (.Constant (.str x) j ν) (tC (.str x)):=λ_ _ _ H _ I h=>Calls.Constant_str ⟨.str x,H,I.tok _,⟨_,rfl⟩,h⟩
def Gl(X:Cx)(x:aj):Prop:=X.env.kindOf x=aa .globalImplicit
theorem xA(I:Φ X π σ H s)(d:Gl X x)(a:X.mg x=aa u)(h:Q u s)
  (j:Zu x:=by decide):av (aw X.Ω X.w) X.A (eval (.Name x ν) X.env) Q E s :=
 a1o I.ok.kind d (Calls.loadGlobal_global (by rw[I.ok.glob];show I.mod.glob.keeps I.bk) a h) j
theorem nG(I:Φ X π σ H s)(l:Gl X x)(j:X.mg x=af)(a:bootBuiltins x=aa u)(h:Q u s)
  (d:x ≠ "__name__":=by decide) (m:Zu x:=by decide):av (aw X.Ω X.w) X.A (eval (.Name x ν) X.env) Q E s:=by
 obtain⟨mb,n,h2⟩:=I.mod.blt;show a1o I.ok.kind l (Calls.loadGlobal_builtin (by rw[I.ok.glob];show I.mod.glob.keeps I.bk) j (by rw[I.ok.blt];show n.keeps I.bk) ((h2 x d).trans a) h) m
def M8(d:Gl X x)(a:X.mg x=aa u)(r:Ψ v u)(j:Zu x:=by decide):PE X (.Name x ν) (tC v) :=
 λ_ _ _ H _ I h=>xA I d a ⟨v,H,I,r,h⟩ j
def M9(l:Gl X x)(j:X.mg x=af)(a:bootBuiltins x=aa u)(r:Ψ v u)(d:x ≠ "__name__":=by decide)(m:Zu x:=by decide):PE X (.Name x ν) (tC v) :=
 λ_ _ _ H _ I h=>nG I l j a ⟨v,H,I,r,h⟩ d m
variable{a b:au}{ta tb:TE}{ν:bb}
def PC(X:Cx)(op:CmpOp)(a b:au)(t:TE):Prop :=
 ∀(π:Q0b) (s:ak) (σ:St) (H:Hp) (Q:VK),Φ X π σ H s->t σ H Q ->
  av (aw X.Ω X.w) X.A (eval a X.env) (λv h=>av (aw X.Ω X.w) X.A (eval b X.env) (λu d=>av (aw X.Ω X.w) X.A (compareOp op v u) (EP X π σ Q) X.xe d) X.xe h) X.xe s
def tB(t:TE):TT:=λσ H Q=>t σ H λx d=>∃c,x=.bl c/\Q c d
def aDO{op:CmpOp}{t:TE}(h:PC X op a b t)(j:behindInMarks op b=ag:=by first|show aFo _ (by decide) (by decide)|rfl):PT X (.Compare a [op] [b] ν) (tB t):=by intro π s σ H Q I hw;show a0k (eR (h π s σ H _ I hw) λv p j=>eR j λu o h2=>eR h2 λc s3 ⟨x,n,m,l,q1⟩=>?_) j;obtain⟨d,rfl,q⟩:=q1;cases l;show j7 ⟨n,m,q⟩
variable{tA tB':TT}{Θ:List au}
def qD(t u:TT):TT:=λσ H Q=>t σ H λc d=>if c=ae then u σ d Q else Q ag d
def vE(t u:TT):TT:=λσ H Q=>t σ H λc d=>if c=ae then Q ae d else u σ d Q
def jD(t:TT):TT:=λσ H Q=>t σ H λc d=>Q (!c) d
theorem aAK(d:PT X a tA):PW X (.BoolOp .And [a] ν) tA:=by
 intro j π s σ H Q I h;show isTrue_and (eR (d π s σ H Q I h) λc l e=>?_)
 cases c with
 |true=>show isTrue_and_nil e
 |false=>show e
theorem aDP(d:PT X a tA):PW X (.BoolOp .Or [a] ν) tA:=by
 intro j π s σ H Q I h;show isTrue_or (eR (d π s σ H Q I h) λc l e=>?_)
 cases c with
 |false=>show isTrue_or_nil e
 |true=>show e
theorem aDQ(o:PT X a tA)(n:PW X (.BoolOp .And (b::Θ) ν) tB'):PW X (.BoolOp .And (a::b::Θ) ν) (qD tA tB'):=by
 intro l π s σ H Q I h;show isTrue_and (eR (o π s σ H _ I h) λc m ⟨j,d,q1⟩=>?_)
 cases c with
 |true=>show n l π m σ j Q d q1
 |false=>show⟨j,d,q1⟩
theorem aFp(o:PT X a tA)(n:PW X (.BoolOp .Or (b::Θ) ν) tB'):PW X (.BoolOp .Or (a::b::Θ) ν) (vE tA tB'):=by
 intro l π s σ H Q I h;show isTrue_or (eR (o π s σ H _ I h) λc m ⟨j,d,q1⟩=>?_)
 cases c with
 |true=>show⟨j,d,q1⟩
 |false=>show n l π m σ j Q d q1
def aDR(d:PT X a tA):PT X (.UnaryOp .Not a ν) (jD tA):=by intro π s σ H Q I h;show isTrue_not (d π s σ H (λc j=>Q (!c) j) I h)
def aFq(ta tb:TE):TE:=λσ H Q=>ta σ H λx d=>∃c,x=.bl c/\if c=ae then tb σ d Q else Q (.bl ag) d
def aFr(ta:TE):TE:=λσ H Q=>ta σ H λx d=>∃c,x=.bl c/\Q (.bl (!c)) d
def aDS{op}(h:PE X a t):PE X (.BoolOp op [a] ν) t:=λπ s σ H Q I hw=>BoolOp_one (h π s σ H Q I hw)
theorem aDT(o:PE X a ta)(n:PE X (.BoolOp .And (b::Θ) ν) tb):PE X (.BoolOp .And (a::b::Θ) ν) (aFq ta tb):=by
 intro π s σ H Q I h;show BoolOp_and (eR (o π s σ H _ I h) λv l ⟨x,j,d,m,q1⟩=>?_);obtain⟨c,rfl,q1⟩:=q1;cases m;show j7 ?_
 cases c with
 |true=>show n π l σ j Q d q1
 |false=>show⟨.bl ag,j,d,rfl,q1⟩
def aDU(j:PE X a ta):PE X (.UnaryOp .Not a ν) (aFr ta):=by intro π s σ H Q I h;show UnaryOp_ (eR (j π s σ H _ I h) λv n ⟨x,m,l,d,q1⟩=>?_);obtain⟨c,rfl,q1⟩:=q1;cases d;show not_of (j7 ⟨.bl (!c),m,l,rfl,q1⟩)
def Kh(t:TT)(ta tb:TE):TE:=λσ H Q=>t σ H λc d=>if c=ae then ta σ d Q else tb σ d Q
theorem U8{c:au}(n:PT X c tA)(p:PE X a ta)(o:PE X b tb):PE X (.IfExp c a b ν) (Kh tA ta tb):=by
 intro π s σ H Q I h;show wpAny_IfExp (eR (n π s σ H _ I h) λd j ⟨m,l,q1⟩=>?_)
 cases d with
 |true=>show p π j σ m Q l q1
 |false=>show o π j σ m Q l q1
end
def eZ(K:ao)(H:Hp)(a:ah)(xs:List V):Prop :=
 Rd H a (.lst xs) \/
  ∃(o:ax) (d:Array ai) (n:Nat),K.lookup a=aa o/\o.cls=.type "list" /\o.dict=af/\o.data=.seq d n/\d.size<=bc/\θ xs d.toList
def fJ(K:ao)(H:Hp)(a:ah)(xs:List V):Prop :=
 Rd H a (.tup xs) \/
  ∃(o:ax) (d:Array ai) (n:Nat),K.lookup a=aa o/\o.cls=.type "tuple" /\o.data=.seq d n/\d.size<=bc/\θ xs d.toList
noncomputable def Tw:ai->Option V
 |.none=>aa .non
 |.bool b=>aa (.bl b)
 |.int i _=>aa (.int i)
 |.str x _=>aa (.str x)
 |.bytes b _=>aa (.PK b)
 |.float b _=>aa (.flt b)
 |.ref a=>aa (.ref a)
 |.type n=>aa (.ty n)
 |_=>af
theorem Ψ.abs(r:Ψ x u):Tw u=aa x:=by
 cases x with
 |non=>cases r;rfl
 |bl _=>cases r;rfl
 |int _=>obtain⟨t,rfl⟩:=r;rfl
 |str _=>obtain⟨t,rfl⟩:=r;rfl
 |PK _=>obtain⟨t,rfl⟩:=r;rfl
 |flt _=>obtain⟨t,rfl⟩:=r;rfl
 |ref _=>cases r;rfl
 |ty _=>cases r;rfl
def Ψ.inj{x y:V}{u:ai}(r:Ψ x u)(q:Ψ y u):x=y:=cx (r.abs.symm.trans q.abs)
theorem θ.inj:∀{xs ys:List V} {a:Q0f},θ xs a->θ ys a->xs=ys
 |_,_,_,.nil,.nil=>rfl
 |_,_,_,.cons r t,.cons r' t'=>by rw[r.inj r',θ.inj t t']
section
variable{π:Q0b}{σ:St}{H:Hp}{s:ak}{a:ah}{xs ys:List V}
def eZ.of{K:ao}(h:H a=aa (.lst xs)):eZ K H a xs:=.inl (.inl h)
def fJ.of{K:ao}(h:H a=aa (.tup xs)):fJ K H a xs:=.inl (.inl h)
def Φ.list(I:Φ X π σ H s)(h:eZ X.K H a xs):∃d:Q0f,θ xs d/\PlainL s.heap a d.toArray/\xs.length<=bc:=by
 rcases h with h|⟨o,d,n,l,p,m,j,q,r⟩
 .obtain ⟨z,d,n,r,e⟩:=h.ok I.hok;show⟨d,r,⟨_,n,e,rfl,rfl,rfl⟩,z⟩
 .refine ⟨d.toList,r,⟨o,n,I.w8 a o l,p,m,by simpa using j⟩,?_⟩;have e:=r.length;simp only[t_] at e;lia
def Φ.tuple(I:Φ X π σ H s)(h:fJ X.K H a xs):∃d:Q0f,θ xs d/\ia s.heap a d.toArray/\xs.length<=bc:=by
 rcases h with h|⟨o,d,n,l,m,j,q,r⟩
 .obtain ⟨z,d,r,p,_⟩:=h.ok I.hok;show⟨d,r,p,z⟩
 .refine ⟨d.toList,r,⟨o,I.w8 a o l,m,n,by simpa using j⟩,?_⟩;have e:=r.length;simp only[t_] at e;lia
def Φ.gY(I:Φ X π σ H s)(h:eZ X.K H a xs)(h':eZ X.K H a ys):xs=ys:=by
 obtain⟨l,r,⟨o,n,e,_,_,d⟩,_⟩:=I.list h;obtain⟨its',m,⟨q,v,j,_,_,d'⟩,_⟩:=I.list h';rw[e] at j;cases j;rw[d] at d';injection d' with p _;have:l=its':=by simpa using congrArg a2C p
 subst this;show r.inj m
def Φ.f7(I:Φ X π σ H s)(h:fJ X.K H a xs)(h':fJ X.K H a ys):xs=ys:=by
 obtain⟨l,r,⟨o,e,_,n,d⟩,_⟩:=I.tuple h;obtain⟨its',m,⟨q,j,_,v,d'⟩,_⟩:=I.tuple h';rw[e] at j;cases j;rw[d] at d';injection d' with p _;have:l=its':=by simpa using congrArg a2C p
 subst this;show r.inj m
end
abbrev Cx.wish(X:Cx)(E:Q0c):Cx:={X with xe:=E}
abbrev Cx.IP(X:Cx):Cx:=X.wish λ_ _=>False
def Cx.Ok.wish{X:Cx}(ok:X.Ok)(E:Q0c):(X.wish E).Ok :=
 ⟨ok.mod,ok.kind,ok.glob,ok.blt,ok.above,ok.inj,ok.has,ok.cab,ok.hd,ok.frames,ok.stk,ok.exf,ok.bs,ok.RX,ok.JW,ok.PN,ok.rC,ok.frf,ok.tab⟩
def Cx.Ok.nH{X:Cx}{E:Q0c}(ok:(X.wish E).Ok):X.Ok :=
 ⟨ok.mod,ok.kind,ok.glob,ok.blt,ok.above,ok.inj,ok.has,ok.cab,ok.hd,ok.frames,ok.stk,ok.exf,ok.bs,ok.RX,ok.JW,ok.PN,ok.rC,ok.frf,ok.tab⟩
section
variable{π:Q0b}{σ:St}{H:Hp}{s:ak}{E:Q0c}
def Φ.wish(I:Φ X π σ H s)(E:Q0c):Φ (X.wish E) π σ H s:=⟨I.ok.wish E,I.os,I.bare,I.ω,I.loc,I.cell,I.free,I.iH,I.pin,I.hok,I.len⟩
def Φ.nH(I:Φ (X.wish E) π σ H s):Φ X π σ H s:=⟨I.ok.nH,I.os,I.bare,I.ω,I.loc,I.cell,I.free,I.iH,I.pin,I.hok,I.len⟩
theorem SP.nH{D:Ends}{f:Flow}{s':ak}(h:SP (X.wish E) π D f s'):SP X π D f s':=by
 cases f with
 |next=>obtain⟨a,H',I,q⟩:=h;show⟨a,H',I.nH,q⟩
 |brk=>obtain⟨a,H',I,q⟩:=h;show⟨a,H',I.nH,q⟩
 |cont=>obtain⟨a,H',I,q⟩:=h;show⟨a,H',I.nH,q⟩
 |ret u=>obtain⟨v,a,H',I,r,q⟩:=h;show⟨v,a,H',I.nH,r,q⟩
def zC.IP{st:List bz}{t:TS}(h:zC X.IP st t):zC X st t:=λπ s σ H D I hw =>
 ik (h π s σ H D (I.wish _) hw) (λ_ _ q=>q.nH) λ_ _ z=>jo z
variable{st:bz}{Θ:List bz}{t u:TS}{e:au}{te:TE}{ν:bb}
def aFs:TS:=λD σ H=>D.nx σ H
def JX(t u:TS):TS:=λD σ H=>t {D with nx:=u D} σ H
def NA:zC X [] aFs:=λ_ _ σ H _ I h=>y_ ⟨σ,H,I,h⟩
theorem zD(j:PS X st t)(h2:zC X Θ u):zC X (st::Θ) (JX t u):=by
 intro π s σ H D I h;show Gv (eR (j π s σ H {D with nx:=u D} I h) λf d q=>?_)
 cases f with
 |next =>
  obtain⟨a,H',l,q⟩:=q;show h2 π d a H' D l q
 |ret v=>show q
 |brk=>show q
 |cont=>show q
theorem NB(a:PS X st t):zC X [st] t:=by
 intro π s σ H D I h;show Gv (eR (a π s σ H D I h) λf d q=>?_)
 cases f with
 |next=>show y_ q
 |ret v=>show q
 |brk=>show q
 |cont=>show q
def Φ.quiet(I:Φ X π σ H s):interactive X.env=ag:=by simp[interactive,I.ok.kind]
def aFt(te:TE):TS:=λD σ H=>te σ H λ_ a=>D.nx σ a
def D0(d:PE X e te)(a:di e af ν.line X.env=pure ag:=by rfl):PS X (.Expr e ν) (aFt te):=by intro π s σ H D I h;show wpAny_Expr_any (eR (d π s σ H _ I h) λv m ⟨x,l,j,n,q1⟩=>⟨σ,l,j,q1⟩) I.quiet a
def Ds(te:TE):TS:=λD σ H=>te σ H D.rt
def JY(d:PE X e te):PS X (.Return (aa e) ν) (Ds te):=by intro π s σ H D I h;show wpAny_Return_some (eR (d π s σ H _ I h) λv m ⟨x,l,j,a,q1⟩=>⟨x,σ,l,j,a,q1⟩)
def Tv(c:TT)(t u:TS):TS:=λD σ H=>c σ H λb a=>if b=ae then t D σ a else u D σ a
theorem aFv(n:PT X c tc)(p:zC X a t)(o:zC X b u):PS X (.If c a b ν) (Tv tc t u):=by
 intro π s σ H D I h;show wpAny_If (eR (n π s σ H _ I h) λd j ⟨m,l,q1⟩=>?_)
 cases d with
 |true=>show p π j σ m D l q1
 |false=>show o π j σ m D l q1
end
abbrev TG:=V->St->Hp->(St->Hp->Prop)->Prop
abbrev TGs:=List V->St->Hp->(St->Hp->Prop)->Prop
def PG(X:Cx)(target:au)(t:TG):Prop :=
 ∀(π:Q0b) (s:ak) (σ:St) (H:Hp) (v:V) (u:ai) (Q:St->Hp->Prop),Φ X π σ H s->Ψ v u->t v σ H Q ->
  av (aw X.Ω X.w) X.A (assign target X.env u) (λ_ s'=>∃a H',Φ X π a H' s'/\Q a H') X.xe s
def PGs(X:Cx)(h:List au)(t:TGs):Prop :=
 ∀(π:Q0b) (s:ak) (σ:St) (H:Hp) (vs:List V) (d:Q0f) (Q:St->Hp->Prop),Φ X π σ H s->θ vs d->t vs σ H Q ->
  av (aw X.Ω X.w) X.A (assignInOrder ((df h X.env).map (·.2)) d) (λ_ s'=>∃a H',Φ X π a H' s'/\Q a H') X.xe s
abbrev Dr:=V->V->V->Hp->(Hp->Prop)->Prop
def Dq(X:Cx)(t:Dr):Prop :=
 ∀(π:Q0b) (s:ak) (σ:St) (H:Hp) (o i v:V) (a d u:ai) (Q:Hp->Prop),Φ X π σ H s->Ψ o a->Ψ i d->Ψ v u->t o i v H Q ->
  av (aw X.Ω X.w) X.A (setItem a d u) (λ_ s'=>∃H',Φ X π σ H' s'/\Q H') X.xe s
section
variable{ν:bb}
def U9(i:Nat):TG:=λv σ H Q=>Q (σ.set i (aa v)) H
def pX(hN:X.N.Nodup)(hi:X.N[i]?=aa x)(a:Loc X.env.scope x)(d:Zq X x:=by first|show .inl rfl|show .inr rfl|assumption):PG X (.Name x ν) (U9 i):=by intro π s σ H v u Q I r h;show a0o (zB I hN hi a r (λs' j=>⟨_,H,j,h⟩) d)
def Tu:TGs:=λvs σ H Q=>vs=[]/\Q σ H
def aFz(t:TG)(u:TGs):TGs:=λvs σ H Q=>∃v r,vs=v::r/\t v σ H λa H'=>u r a H' Q
def NC:PGs X [] Tu:=by intro π s σ H vs a Q I r h;obtain⟨e,h⟩:=h;subst e;cases r;show assignInOrder_nil ⟨σ,H,I,h⟩
theorem sP(l:PG X e t)(h2:PGs X es u)
  (j:(df (e::es) X.env).map (·.2)=assign e X.env::(df es X.env).map (·.2):=by rfl):PGs X (e::es) (aFz t u):=by
 intro π s σ H vs q Q I r h;obtain⟨v,p,m,h⟩:=h;subst m
 cases r with
 |cons r rr =>
  rw[j];show assignInOrder_cons (eR (l π s σ H _ _ _ I r h) λ_ d ⟨a,o,n,q1⟩=>?_);show h2 π d a o _ _ Q n rr q1
def Tt(K:ao)(n:Nat)(t:TGs):TG:=λv σ H Q=>∃a xs,v=.ref a/\fJ K H a xs/\xs.length=n/\t xs σ H Q
theorem VA(y:X.calm=ae)(h:PGs X es t)
  (q:(df es X.env).length=n:=by rfl) (d:(df es X.env).findIdx? (·.1)=af:=by rfl):PG X (.Tuple es k ν) (Tt X.K n t):=by
 intro π s σ H v u Q I r hw;obtain⟨a,xs,z,p,x,hw⟩:=hw;subst z;cases r;obtain⟨F,j,m,J⟩:=I.tuple p;show assign_Tuple_tuple (I.ok.hd y) m (by simp[q,<- x,j.length]) d λh' l=>?_;have A:Φ X π σ H {s with heap:=h' }:=I.kept (t':=s.toks) λb o e=>l b o (ee (br e)) e;show h π _ σ H xs _ Q A (by simpa using j) hw
def Ts(a d:TE)(t:Dr):TG:=λv σ H Q=>a σ H λo l=>d σ l λi j=>t o i v j λh=>Q σ h
theorem aDV(ho:PE X o to)(hi:PE X i ti)(q:Dq X t)
  (z:∀v,assign (.Subscript o i ν) X.env v=(do
   let a <- holding [v] (eval o X.env)
   let d <- holding [v,a] (eval i X.env)
   standAt ν
   holding [v,a,d] (setItem a d v)
   release [v,a,d] []):=by intro _;rfl):PG X (.Subscript o i ν) (Ts to ti t):=by
 intro π s σ H v u Q I r h;rw[z];show aq (iy (eR (ho π s σ H _ I h) λa l ⟨x,O,J,n,q1⟩=>?_));show aq (iy (eR (hi π l σ O _ J q1) λd j ⟨y,L,F,m,q2⟩=>?_));show aq (Gm (aq (iy (eR (q π j σ L x y v a d u _ F n m r q2) λ_ s3 ⟨K,A,p⟩=>?_))));show wpAny_release ⟨σ,K,A,p⟩
def yg(te:TE)(g:TG):TS:=λD σ H=>te σ H λx a=>g x σ a D.nx
def VB(m:PE X e te)(l:PG X tg g)(j:swapsWithSole [tg] e ν.line X.env=pure ag:=by rfl)(hw:swappedStores [tg] e X.env=pure af:=by rfl)
  (n:(df [tg] X.env).map (·.2)=[assign tg X.env]:=by rfl):PS X (.Assign [tg] e ν) (yg te g):=by
 intro π s σ H D I h;show wpAny_Assign_stores (eR (m π s σ H _ I h) λv a ⟨x,p,o,d,q1⟩=>?_) j hw;rw[n];show eR (l π a σ p x v _ o d q1) λ_ y q=>q
def nI(hN:X.N.Nodup)(hi:X.N[i]?=aa x)(d:Loc X.env.scope x)(m:PE X e te)(j:Si X e x pos' ν:=by rfl)(l:Zq X x:=by first|show .inl rfl|show .inr rfl|assumption):
  PS X (.Assign [.Name x pos'] e ν) (yg te (U9 i)):=by
 intro π s σ H D I h;show wpAny_Assign_Name (eR (m π s σ H _ I h) λv z ⟨y,p,o,a,q1⟩=>?_) j;show zB o hN hi d a (λq n=>⟨_,p,n,q1⟩) l
def aDX(c:TT)(j:TS):TS:=λD σ H=>∃W:Nat->St->Hp->Prop,(∃m,W m σ H) /\∀m σ H,W m σ H ->
 c σ H λb h=>if b=ae then ∃N:St->Hp->Prop,(∀a H',N a H' ->∃d,d<m/\W d a H')/\j {D with nx:=N,ct:=N,bk:=D.nx} σ h else D.nx σ h
theorem VC(y:qx (aw X.Ω X.w) X.A X.env X.xe)(Z:PT X c tc)(hb:zC X body tb):PS X (.While c body [] ν) (aDX tc tb):=by
 intro π s σ H D I h;obtain⟨W,⟨Y,L⟩,turn⟩:=h;show wpAny_While (codeAny_whileLoop (λn s'=>∃j H',Φ X π j H' s'/\W n j H') ?_ Y ⟨σ,H,I,L⟩);rintro n U ⟨d,J,I1,K⟩;show ox y (eR (Z π U d J _ I1 (turn n d J K)) λb O ⟨F,z,q2⟩=>?_)
 cases b with
 |true =>
  obtain⟨N,hN,q2⟩:=q2;rw[Z_ rfl];show ox y (eR (hb π O d F _ z q2) λf s3 m=>?_)
  cases f with
  |next =>
   obtain⟨a,l,x,n3⟩:=m;obtain⟨p,q,o⟩:=hN a l n3;show⟨p,q,a,l,x,o⟩
  |cont =>
   obtain⟨a,l,x,n3⟩:=m;obtain⟨p,q,o⟩:=hN a l n3;show⟨p,q,a,l,x,o⟩
  |brk=>show m
  |ret v=>show m
 |false =>
  rw[Zz bt];show y_ ⟨d,F,z,q2⟩
end
structure It where
 go:Nat->Hp->Prop
 yld:Nat->Hp->V->Hp->Prop
 stop:Nat->Hp->Prop
def rF(X:Cx)(π:Q0b)(H:Hp)(b:ah):Prop :=
 H b=af/\b≠X.env.locals/\b∉X.fs/\(b∈X.ex\/X.s₀.heap.objs.size<=b)/\(∀x c,X.env.cells.lookup x=aa c->c≠b) /\∀p∈X.pn++π,p.1≠b
def Φ.EA(I:Φ X π σ H s)(a:s.heap.objs.size<=b)(h:H' b=af):rF X π H' b:=by
 show⟨h,kr (fw I.lt a),I.Tz a,.inr (f_ I.sz a),λx c e z=>?_,λp d z=>?_⟩
 .obtain ⟨v,q⟩:=I.cell x c e;show Zw (fw q.lt (by rw[z];show a)) (jb _)
 .exact Zw (fw (br (I.pin p d).1) (by rw[z];show a)) (jb _)
structure Turn (P:bf) (w:ba) (K:ao) (tg:au) (J:It) (fp:List ah) (it:ah) (tn:Nat->ay->Prop):Prop where
 mem:it∈fp
 obj:∀i h,tn i h ->∀b∈fp,∃o,h.get? b=aa o /\∀v,o.data≠.cell v
 keep:∀i h h',tn i h->(∀b∈fp,∀o,h.get? b=aa o->h'.get? b=aa o)->tn i h'
 item:∀(X:Cx),X.Ω=P->X.w=w->X.K=K->X.calm=ae ->∀(i:Nat) (π:Q0b) (s:ak) (σ:St) (H:Hp) (E:Q0c),Φ X π σ H s->(∀b∈fp,rF X π H b)->tn i s.heap->J.go i H ->
  av (aw P w) X.A (pyNext (.ref it)) (λr s1=>∃u,r=aa u /\
   av (aw P w) X.A (letOwnedTupleGo tg (.ref it) u) (λ_ s2=>∃x H',Φ X π σ H' s2/\Ψ x u/\J.yld i H x H'/\tn (i+1) s2.heap /\∀b∈fp,H' b=af) E s1) E s
 done:∀(X:Cx),X.Ω=P->X.w=w->X.K=K->X.calm=ae ->∀(i:Nat) (π:Q0b) (s:ak) (σ:St) (H:Hp) (E:Q0c),Φ X π σ H s->(∀b∈fp,rF X π H b)->tn i s.heap->J.stop i H ->
  av (aw P w) X.A (pyNext (.ref it)) (λr s1=>r=af/\Φ X π σ H s1) E s
 self:∀(A:bq) (i:Nat) (s:ak) (Q:Q0c) (E:Q0c),tn i s.heap->Q (.ref it) s->av (aw P w) A (pyIter (.ref it)) Q E s
abbrev TI:=St->Hp->(It->Hp->Prop)->Prop
def PIE(X:Cx)(π:Q0b)(σ:St)(j:au)(R:It->Hp->Prop)(a:ai)(d:ak):Prop :=
 ∃(it:ah) (h:List ah) (tn:Nat->ay->Prop) (J:It) (H':Hp),a=.ref it/\Φ X π σ H' d/\Turn X.Ω X.w X.K j J h it tn/\tn 0 d.heap/\(∀b∈h,rF X π H' b)/\R J H'
def PI(X:Cx)(a iter:au)(wi:TI):Prop :=
 ∀(π:Q0b) (s:ak) (σ:St) (H:Hp) (R:It->Hp->Prop),Φ X π σ H s->wi σ H R ->
  av (aw X.Ω X.w) X.A (eval iter X.env) (λv d=>av (aw X.Ω X.w) X.A (pyIter v) (PIE X π σ a R) X.xe d) X.xe s
theorem VD(ho:s.heap.get? it=aa o)(l:o.cls=.type n)(j:o.data=.fields vs)
  (d:["enumerate","zip","dict_itemiterator","dict_reverseitemiterator","odict_iterator","itertools.zip_longest","itertools.pairwise"].contains n=ag) (a:Q () s):av M A (letOwnedTupleGo tg (.ref it) u) Q E s:=by
 unfold letOwnedTupleGo;cases tg<;>first
  |show a_ a
  | (cases u<;>first
    |show a_ a
    | (show aq (Gs ho ?_)
       rw[l,j];show av M A (if(["enumerate","zip","dict_itemiterator","dict_reverseitemiterator","odict_iterator","itertools.zip_longest","itertools.pairwise"].contains n&&vs[0]? == aa (rawInt _))=ae then _ else _) Q E s;rw[Zz (by intro h;rw[d,tw] at h;cases h)];show a_ a))
def Itl(K:ao)(a:ah):It :=
 ⟨λi H=>∃xs x,eZ K H a xs/\xs[i]?=aa x,λi H x H'=>H'=H /\∀xs,eZ K H a xs->xs[i]?=aa x,λi H=>∃xs,eZ K H a xs/\xs.length<=i⟩
def Itt(K:ao)(a:ah):It :=
 ⟨λi H=>∃xs x,fJ K H a xs/\xs[i]?=aa x,λi H x H'=>H'=H /\∀xs,fJ K H a xs->xs[i]?=aa x,λi H=>∃xs,fJ K H a xs/\xs.length<=i⟩
def Itr(lo:Int)(n:Nat):It:=⟨λi _=>i<n,λi H x H'=>H'=H/\x=.int (lo+i),λi _=>n<=i⟩
theorem PQ{P:bf}{w:ba}{K:ao}{tg:au}(a it:ah):Turn P w K tg (Itl K a) [it] it (λi h=>h.IsListIter it a i) where
 mem:=by simp
 obj:=λi h st b j=>by
  have e:b=it:=by simpa using j
  subst e;obtain⟨o,e,c,d⟩:=st;show⟨o,e,λv z=>by rw[d] at z;cases z⟩
 keep:=λi h h' st k=>st.at λo e=>k it (by simp) o e
 item:=by intro X F hw J hc i π s σ H E I n st A;subst F hw J;obtain⟨xs,x,m,y⟩:=A;obtain⟨ι,q,p,hz⟩:=I.list m;obtain⟨u,hu,ru⟩:=q.get y;obtain⟨Z,Y,f2,U,O,L⟩:=n it (by simp);show wpAny_pyNext_list_item st p.isList (x:=u) (by simpa using hu) λh' l sb=>?_;have I1:Φ X π σ H {s with heap:=h' }:=I.turned (t':=s.toks) (λb o j e=>(sb.2 b j).trans e) Z Y U O L;obtain⟨o,e,c,d⟩:=id l;show⟨u,rfl,VD (s:={s with heap:=h' }) e c d (by decide) ⟨x,H,I1,ru,⟨rfl,λys hy=>by rw[I.gY hy m];show y⟩,l,λb j=>(n b j).1⟩⟩
 done:=by intro X F hw J hc i π s σ H E I n st A;subst F hw J;obtain⟨xs,m,y⟩:=A;obtain⟨ι,q,p,hz⟩:=I.list m;obtain⟨Z,Y,f2,U,O,L⟩:=n it (by simp);have hl:=q.length;show wpAny_pyNext_list_end (I.ok.hd hc) st p.isList (by simp;lia) λh' eb=>⟨rfl,I.turned (t':=s.toks) (λb o j e=>eb b o j e) Z Y U O L⟩
 self:=λ_ _ _ _ _ st h=>wpAny_pyIter_listiter st h
theorem JZ{P:bf}{w:ba}{K:ao}{tg:au}(a it:ah):Turn P w K tg (Itt K a) [it] it (λi h=>h.IsTupleIter it a i) where
 mem:=by simp
 obj:=λi h st b j=>by
  have e:b=it:=by simpa using j
  subst e;obtain⟨o,e,c,d⟩:=st;show⟨o,e,λv z=>by rw[d] at z;cases z⟩
 keep:=λi h h' st k=>st.at λo e=>k it (by simp) o e
 item:=by intro X J hw L hc i π s σ H E I n st F;subst J hw L;obtain⟨xs,x,m,A⟩:=F;obtain⟨q,y,p,hz⟩:=I.tuple m;obtain⟨u,hu,ru⟩:=y.get A;obtain⟨f0,Z,f2,Y,U,O⟩:=n it (by simp);show wpAny_pyNext_tuple_item st (show s.heap.IsTuple a q.toArray from p) (x:=u) (by simpa using hu) λh' l sb=>?_;have I1:Φ X π σ H {s with heap:=h' }:=I.turned (t':=s.toks) (λb o j e=>(sb.2 b j).trans e) f0 Z Y U O;obtain⟨o,e,c,d⟩:=id l;show⟨u,rfl,VD (s:={s with heap:=h' }) e c d (by decide) ⟨x,H,I1,ru,⟨rfl,λys hy=>by rw[I.f7 hy m];show A⟩,l,λb j=>(n b j).1⟩⟩
 done:=by intro X J hw L hc i π s σ H E I n st F;subst J hw L;obtain⟨xs,m,A⟩:=F;obtain⟨q,y,p,hz⟩:=I.tuple m;obtain⟨f0,Z,f2,Y,U,O⟩:=n it (by simp);have hl:=y.length;show wpAny_pyNext_tuple_end (I.ok.hd hc) st (show s.heap.IsTuple a q.toArray from p) (by simp;lia) λh' eb=>⟨rfl,I.turned (t':=s.toks) (λb o j e=>eb b o j e) f0 Z Y U O⟩
 self:=λ_ _ _ _ _ st h=>wpAny_pyIter_tupleiter st h
theorem J0{P:bf}{w:ba}{K:ao}{U:au}(it:ah)(lo:Int)(n:Nat):Turn P w K U (Itr lo n) [it] it (λi h=>a02 h it (lo+(i:Nat)*1) ((n:Int)-(i:Nat)) 1) where
 mem:=by simp
 obj:=λi h st b a=>by
  have e:b=it:=by simpa using a
  subst e;show⟨_,st,λv z=>by have O:Data.fields _=Data.cell v:=z;cases O⟩
 keep:=λi h h' st k=>k it (by simp) _ st
 item:=by intro X p hw q m i π s σ H E I j st l;subst p hw q;obtain⟨J,F,Z,A,y,x⟩:=j it (by simp);have W:=Walks.range (prog:=X.Ω) (w:=X.w) (I.ok.hd m) it lo 1 n;show W.item i s _ _ l st λv h' L Y d kk=>?_;obtain⟨t,rfl⟩:=Y;have I1:Φ X π σ H {s with heap:=h',toks:=L}:=I.turned (λb o a e=>kk b o (by simpa using a) e) J F A y x;show⟨_,rfl,VD (s:={s with heap:=h',toks:=L}) (n:="range_iterator") d rfl rfl (by decide) ⟨.int (lo+i),H,I1,⟨t,?_⟩,⟨rfl,rfl⟩,d,λb a=>(j b a).1⟩⟩;rw[a2t]
 done:=by intro X p hw q m i π s σ H E I j st l;subst p hw q;obtain⟨J,F,Z,A,y,x⟩:=j it (by simp);show wpAny_pyNext_range_end (I.ok.hd m) st (by have:n<=i:=l;lia) λh' eb=>⟨rfl,I.turned (t':=s.toks) (λb o a e=>eb b o a e) J F A y x⟩
 self:=λ_ _ _ _ _ st h=>wpAny_pyIter_rangeiter st h
section
variable{tg:au}
theorem VE{π:Q0b}{σ:St}{H:Hp}{s:ak}{R:It->Hp->Prop}{E:Q0c}{lo hi:Int}{t u v:h_}{a:Nat}(I:Φ X π σ H s)(m:-(2^62)<=lo)(h2:lo<2^62)(l:-(2^62)<=hi)(j:hi<2^62)
  (q:R (Itr lo (hi-lo).toNat) H):av (aw X.Ω X.w) X.A (pyIter (.ref s.heap.objs.size)) (PIE X π σ tg R) E {s with heap:=s.heap.push {cls:=.type "range",data:=.fields #[.int lo t,.int hi u,.int 1 v]},toks:=a}:=by
 show wpAny_pyIter_range (IsRange.new ..) (zk m h2 l j) ?_;have d:Φ X π σ H {s with heap:=s.heap.push {cls:=.type "range",data:=.fields #[.int lo t,.int hi u,.int 1 v]},toks:=a}:=I.kept λb o e=>cm _ e;show⟨(s.heap.push {cls:=.type "range",data:=.fields #[.int lo t,.int hi u,.int 1 v]}).objs.size,[(s.heap.push {cls:=.type "range",data:=.fields #[.int lo t,.int hi u,.int 1 v]}).objs.size],_,_,H,rfl,
  d.kept (t':=a) λb o e=>cm _ e,J0 _ lo (hi-lo).toNat,?_,λb h=>?_,q⟩
 .have p:lo+((0:Nat):Int)*1=lo:=by simp
  have n:(((hi-lo).toNat:Nat):Int)-((0:Nat):Int)=p0 lo hi 1:=by rw[zm];split<;>lia
  show a02 _ _ (lo+((0:Nat):Int)*1) ((((hi-lo).toNat:Nat):Int)-((0:Nat):Int)) 1;rw[p,n];show dg _ rfl
 .have e:b=(s.heap.push {cls:=.type "range",data:=.fields #[.int lo t,.int hi u,.int 1 v]}).objs.size:=by simpa using h
  subst e;show d.EA (bj _) (d.hok.fresh (bj _))
def Zf(a:TA):TI:=λσ H R=>a σ H λvs d=>∃j:Int,vs=[.int j] /\ -(2^62)<=j/\j<2^62/\R (Itr 0 j.toNat) d
theorem PU{a:au}{l:TA}{p d:bb}(v:Gl X "range")(o:X.mg "range"=af)(x:PA X [a] l)(n:ar [a] X.env=[(ag,eval a X.env)]:=by rfl):PI X tg (.Call (.Name "range" p) [a] [] d) (Zf l):=by
 intro π s σ H R I h;show vy (nG I v o a1B (r6 (eR (x d π s σ H _ I h) λz A ⟨vs,F,y,m,q1⟩=>?_) n rfl));obtain⟨j,e,q1,q2,q⟩:=q1;subst e
 cases m with
 |cons r rr =>
  cases rr;obtain⟨t,rfl⟩:=r;show a0B (VE y ∅ ∅ q1 q2 (by simpa using q))
def Tr(wi:TI)(g:TG)(j:TS):TS:=λD σ H=>wi σ H λJ n=>∃W:Nat->Nat->St->Hp->Prop,(∃m,W 0 m σ n) /\∀i m σ H,W i m σ H ->
 (J.stop i H/\D.nx σ H)\/(J.go i H /\∃N:St->Hp->Prop,(∀a H',N a H' ->∃h,h<m/\W (i+1) h a H') /\∀x H',J.yld i H x H'->g x σ H' λd l=>j {D with nx:=N,ct:=N,bk:=D.nx} d l)
def zE(a:List ah)(h:ay):List (ah×ax):=a.filterMap λb=>(h.get? b).map λo=>(b,o)
def nJ(a:b∈fp)(e:h.get? b=aa o):(b,o)∈zE fp h:=qc.mpr ⟨b,a,by rw[e];rfl⟩
theorem PV(a:p∈zE fp h):p.1∈fp/\h.get? p.1=aa p.2:=by
 obtain⟨b,d,e⟩:=qc.mp a
 cases q:h.get? b with
 |none=>rw[q] at e;cases e
 |some o =>
  rw[q] at e;have j:(b,o)=p:=cx e;subst j;show⟨d,q⟩
def Φ.pinned(I:Φ X π σ H s)(l:∀b∈fp,rF X π H b)(ho:∀b∈fp,∃o,s.heap.get? b=aa o /\∀v,o.data≠.cell v):Φ X (π++zE fp s.heap) σ H s :=
 I.DZ λp j=>(gn.mp j).elim (λz=>I.pin p (gp _ z)) λz=>by obtain⟨a,e⟩:=PV z;obtain⟨q,n,m,_⟩:=l p.1 a;obtain⟨o,h,d⟩:=ho p.1 a;rw[e] at h;cases h;show⟨e,q,n,m,d⟩
def Φ.jQ(I:Φ X (π++pl) σ H s):Φ X π σ H s:=I.DZ λp a=>I.pin p (gp _ (gj _ a))
theorem aDY(U:qx (aw X.Ω X.w) X.A X.env X.xe)(hc:X.calm=ae)(hi:PI X tg iter wi)(hg:PG X tg g)(q:zC X body tb)
  (hs:Zo X iter:=by intro _;rfl):PS X (.For tg iter body [] ν) (Tr wi g tb):=by
 intro π s σ H D I h;show wpAny_For (eR (hi π s σ H _ I h) λv s1 h1=>eR h1 λitv s2 h2=>?_) hs;obtain⟨it,Z,tn,J,H2,e,I2,T,st2,f2,W,⟨m0,w0⟩,turn⟩:=h2;subst e
 -- what stays ae of the iterator's objects through the loop
 have p:∀{H':Hp},(∀b∈Z,H' b=af) ->∀b∈Z,rF X π H' b:=λhn b q=>⟨hn b q,(f2 b q).2⟩;show codeAny_forLoop_any (λn s'=>∃i l H',Φ X π l H' s'/\tn i s'.heap/\(∀b∈Z,H' b=af)/\W i n l H') ?_ m0 ⟨0,σ,H2,I2,st2,λb q=>(f2 b q).1,w0⟩;rintro n s3 ⟨i,j,H3,I3,L,Y,w3⟩;rcases turn i n j H3 w3 with⟨stop,qn⟩|⟨go,N,hN,step⟩
 .refine ox U (eR (T.done X rfl rfl rfl hc i π s3 j H3 X.xe I3 (p Y) L stop) λr s4 ⟨hr,I4⟩=>?_);subst hr;show y_ ⟨j,H3,I4,qn⟩
 .refine ox U (eR (T.item X rfl rfl rfl hc i π s3 j H3 X.xe I3 (p Y) L go) λr s4 ⟨u,hr,h4⟩=>?_);subst hr;show ox U (eR h4 λ_ s5 ⟨x,H5,I5,r5,y5,K,fr5⟩=>?_);have I5':=I5.pinned (p fr5) (T.obj _ _ K);show ox U (eR (hg _ s5 j H5 x u _ I5' r5 (step x H5 y5)) λ_ s6 ⟨σ6,H6,I6,q6⟩=>?_);show ox U (eR (q _ s6 σ6 H6 _ I6 q6) λf s7 F=>?_);have again:∀{a:St} {z:Hp},Φ X (π++zE Z s5.heap) a z s7->N a z ->∃m,m<n /\∃i l H',Φ X π l H' s7/\tn i s7.heap/\(∀b∈Z,H' b=af)/\W i m l H':=λ{a z} y O=>by obtain⟨m',hm,w7⟩:=hN a z O;show⟨m',hm,i+1,a,z,y.jQ,T.keep _ _ _ K λb q o e=>(y.pin (b,o) (gp _ (gp _ (nJ q e)))).1,λb q=>?_,w7⟩;obtain⟨o,e,d⟩:=T.obj _ _ K b q;show(y.pin (b,o) (gp _ (gp _ (nJ q e)))).2.1
  cases f with
  |next=>obtain⟨a,z,y,O⟩:=F;show again y O
  |cont=>obtain⟨a,z,y,O⟩:=F;show again y O
  |brk=>obtain⟨a,z,y,F⟩:=F;show⟨a,z,y.jQ,F⟩
  |ret v=>obtain⟨x7,a,z,y,r7,F⟩:=F;show⟨x7,a,z,y.jQ,r7,F⟩
end
abbrev R2:=V->V->Hp->VK->Prop
def j6(X:Cx)(f:ai->ai->Sem ai)(r:R2):Prop :=
 ∀(π:Q0b) (s:ak) (σ:St) (H:Hp) (x y:V) (v u:ai) (Q:VK),Φ X π σ H s->Ψ x v->Ψ y u->r x y H Q ->
  av (aw X.Ω X.w) X.A (f v u) (EP X π σ Q) X.xe s
def UnR(X:Cx)(f:ai->Sem ai)(r:V->Hp->VK->Prop):Prop :=
 ∀(π:Q0b) (s:ak) (σ:St) (H:Hp) (x:V) (v:ai) (Q:VK),Φ X π σ H s->Ψ x v->r x H Q ->
  av (aw X.Ω X.w) X.A (f v) (EP X π σ Q) X.xe s
def gD(X:Cx)(f:ai)(r:List V->Hp->VK->Prop):Prop :=
 ∀(π:Q0b) (s:ak) (σ:St) (H:Hp) (xs:List V) (a:Q0f) (Q:VK),Φ X π σ H s->θ xs a->r xs H Q ->
  av (aw X.Ω X.w) X.A (call f a) (EP X π σ Q) X.xe s
def Tq(X:Cx)(r:V->Hp->(Bool->Hp->Prop)->Prop):Prop :=
 ∀(π:Q0b) (s:ak) (σ:St) (H:Hp) (x:V) (v:ai) (Q:Bool->Hp->Prop),Φ X π σ H s->Ψ x v->r x H Q ->
  av (aw X.Ω X.w) X.A (truthy v) (TP X π σ Q) X.xe s
def qk(r:R2)(d a:TE):TE:=λσ H Q=>d σ H λx j=>a σ j λy h=>r x y h Q
def Kf(r:V->Hp->VK->Prop)(a:TE):TE:=λσ H Q=>a σ H λx d=>r x d Q
def rI(C:Int->Int->Prop)(g:Int->Int->V):R2:=λx y H Q=>∃i j,x=.int i/\y=.int j/\C i j/\Q (g i j) H
def PX(g:Int->Int->V):R2:=λx y H Q=>∃i j,x=.int i/\y=.int j/\Q (g i j) H
def rU(g:Int->V):V->Hp->VK->Prop:=λx H Q=>∃i,x=.int i/\Q (g i) H
section
variable{a b c:au}{ta tb tc:TE}{ν:bb}
theorem yf(L:PE X a ta)(K:PE X b tb){π:Q0b}{s:ak}{σ:St}{H:Hp}{R:V->V->Hp->Prop}(I:Φ X π σ H s)
  (h:ta σ H λx p=>tb σ p λy d=>R x y d) {Q:Q0c} {f:ai->ai->Sem ai}
  (J:∀v u m x y d,Φ X π σ d m->Ψ x v->Ψ y u->R x y d->av (aw X.Ω X.w) X.A (f v u) Q X.xe m):
  av (aw X.Ω X.w) X.A (eval a X.env) (λv l=>av (aw X.Ω X.w) X.A (eval b X.env) (λu j=>av (aw X.Ω X.w) X.A (f v u) Q X.xe j) X.xe l) X.xe s:=by
 show eR (L π s σ H _ I h) λv q o=>?_;obtain⟨x,p,U,F,q1⟩:=o;show eR (K π q σ p _ U q1) λu m n=>?_;obtain⟨y,d,O,z,q2⟩:=n;show J v u m x y d O F z q2
def VF{op:Operator}{r:R2}(ho:j6 X (binaryOp op) r)(n:PE X a ta)(m:PE X b tb):PE X (.BinOp a op b ν) (qk r ta tb):=by intro π s σ H Q I h;show wpAny_BinOp (yf n m I h λv u d x y p o l j q=>ho π d σ p x y v u Q o l j q)
def Ze(ho:UnR X (unaryOp op) r)(l:PE X a ta):PE X (.UnaryOp op a ν) (Kf r ta):=by intro π s σ H Q I h;show UnaryOp_ (eR (l π s σ H _ I h) λv d ⟨x,n,m,j,q1⟩=>ho π d σ n x v Q m j q1)
theorem opI{f:ai->ai->Sem ai}{C:Int->Int->Prop}{g:Int->Int->Int}
  (rule:∀(i j:Int) (t u:h_) (s:ak) (Q:Q0c) (E:Q0c),C i j->Q (.int (g i j) s.toks) {s with toks:=s.toks+1}->av (aw X.Ω X.w) X.A (f (.int i t) (.int j u)) Q E s):
  j6 X f (rI C λi j=>.int (g i j)):=by
 intro π s σ H x y v u Q I l d h;obtain⟨i,j,rfl,rfl,m,q⟩:=h;obtain⟨t,rfl⟩:=l;obtain⟨t',rfl⟩:=d;show rule i j t t' s _ _ m ⟨.int (g i j),H,I.tok _,⟨_,rfl⟩,q⟩
theorem Dm{f:ai->ai->Sem ai}{g:Int->Int->Int}
  (rule:∀(i j:Int) (t u:h_) (s:ak) (Q:Q0c) (E:Q0c),Q (.int (g i j) s.toks) {s with toks:=s.toks+1}->av (aw X.Ω X.w) X.A (f (.int i t) (.int j u)) Q E s):
  j6 X f (PX λi j=>.int (g i j)):=by
 intro π s σ H x y v u Q I l d h;obtain⟨i,j,rfl,rfl,q⟩:=h;obtain⟨t,rfl⟩:=l;obtain⟨t',rfl⟩:=d;show rule i j t t' s _ _ ⟨.int (g i j),H,I.tok _,⟨_,rfl⟩,q⟩
theorem u_{f:ai->ai->Sem ai}{g:Int->Int->Bool}
  (rule:∀(i j:Int) (t u:h_) (s:ak) (Q:Q0c) (E:Q0c),Q (.bool (g i j)) s->av (aw X.Ω X.w) X.A (f (.int i t) (.int j u)) Q E s):
  j6 X f (PX λi j=>.bl (g i j)):=by
 intro π s σ H x y v u Q I l d h;obtain⟨i,j,rfl,rfl,q⟩:=h;obtain⟨t,rfl⟩:=l;obtain⟨t',rfl⟩:=d;show rule i j t t' s _ _ ⟨.bl (g i j),H,I,rfl,q⟩
def Dl(i j:Int):Prop:=0<j/\j<1073741824
def Dk(i j:Int):Prop:=0<=j/\j<=1000000/\i.natAbs<2^64
def uz(i j:Int):Prop:=(-(2^64)<i/\i<2^64)\/(-(2^64)<j/\j<2^64)
def uz.ok{i j:Int}(h:uz i j):vv i j:=by
 rcases h with⟨d,h2⟩|⟨d,h2⟩
 .exact .of_left (a0w d h2)
 .exact .of_right (a0w d h2)
def aD0:j6 X (binaryOp .Add) (PX λi j=>.int (i+j)):=Dm λ_ _ _ _ _ _ _ q=>add_int q
def aD1:j6 X (binaryOp .Sub) (PX λi j=>.int (i-j)):=Dm λ_ _ _ _ _ _ _ q=>sub_int q
def aAN:j6 X (binaryOp .FloorDiv) (rI Dl λi j=>.int (i/j)):=opI λi j _ _ _ _ _ d q=>by have h:(0:Int)<j:=d.1;have h2:j<1073741824:=d.2;show floordiv_int ∅ (by rw[Int.fdiv_eq_ediv_of_nonneg i ∅];show q) (.inl (PyProof.noPylong_small ∅))
def aD2:j6 X (binaryOp .Mod) (rI (λ_ j=>0<j) λi j=>.int (i%j)):=opI λi j _ _ _ _ _ d q=>by have h:(0:Int)<j:=d;show mod_int' ∅ (by rw[Int.fmod_eq_emod_of_nonneg i ∅];show q)
def aD3:j6 X (binaryOp .Pow) (rI Dk λi j=>.int (i^j.toNat)):=opI λ_ _ _ _ _ _ _ d q=>pow_int_small d.1 d.2.1 d.2.2 q
theorem unI{f:ai->Sem ai}{g:Int->Int}
  (rule:∀(i:Int) (t:h_) (s:ak) (Q:Q0c) (E:Q0c),Q (.int (g i) s.toks) {s with toks:=s.toks+1}->av (aw X.Ω X.w) X.A (f (.int i t)) Q E s):
  UnR X f (rU λi=>.int (g i)):=by
 intro π s σ H x v Q I d h;obtain⟨i,rfl,q⟩:=h;obtain⟨t,rfl⟩:=d;show rule i t s _ _ ⟨.int (g i),H,I.tok _,⟨_,rfl⟩,q⟩
def aD4:UnR X (unaryOp .USub) (rU λi=>.int (-i)):=unI λ_ _ _ _ _ q=>neg_int q
end
noncomputable def yl:V->V->Bool
 |.non,.non=>ae | .non,.int _=>ae | .int _,.non=>ae | .non,.bl _=>ae | .bl _,.non=>ae | .non,.str _=>ae | .str _,.non=>ae
 |.int _,.int _=>ae | .bl _,.bl _=>ae | .str _,.str _=>ae | .PK _,.PK _=>ae
 |.int _,.str _=>ae | .str _,.int _=>ae | .bl _,.str _=>ae | .str _,.bl _=>ae
 |_,_=>ag
def Bm:R2:=λx y H Q=>yl x y=ae/\Q (.bl (Zv (x=y))) H
def Bl:R2:=λx y H Q=>yl x y=ae/\Q (.bl (!Zv (x=y))) H
def EB:Zv (V.int i=V.int j)=(i == j):=by rw[oo];simp
def J1:Zv (V.bl i=V.bl j)=(i == j):=by rw[oo];simp
def EC:Zv (V.str i=V.str j)=(i == j):=by rw[oo];simp
def ND:Zv (V.PK i=V.PK j)=(i.toList == j.toList):=by rw[oo];cases i;cases j;simp
section
variable{a b c:au}{ta tb tc:TE}{ν:bb}
def dA(I:Φ X π σ H s)(q:Q (.bl k) H)(e:k=k'):EP X π σ Q (.bool k') s:=by subst e;show⟨.bl k,H,I,rfl,q⟩
theorem Fl:j6 X (compareOp .Eq) Bm:=by
 intro π s σ H x y v u Q I m d h;obtain⟨l,q⟩:=h
 cases x with
 |non =>
  cases m
  cases y with
  |non=>cases d;show a29 (dA I q (by simp))
  |bl j=>cases d;show a3b (dA I q (by simp))
  |int j=>obtain⟨t',rfl⟩:=d;show a3a (dA I q (by simp))
  |str j=>obtain⟨t',rfl⟩:=d;show a28 (dA I q (by simp))
  |_=>show Zw (show ag=ae from l) bt
 |bl i =>
  cases m
  cases y with
  |non=>cases d;show a3d (dA I q (by simp))
  |bl j=>cases d;show eq_bool (dA I q J1)
  |str j=>obtain⟨t',rfl⟩:=d;show a3l (dA I q (by simp))
  |_=>show Zw (show ag=ae from l) bt
 |int i =>
  obtain⟨t,rfl⟩:=m
  cases y with
  |non=>cases d;show a3c (dA I q (by simp))
  |int j=>obtain⟨t',rfl⟩:=d;show eq_int (dA I q EB)
  |str j=>obtain⟨t',rfl⟩:=d;show a3k (dA I q (by simp))
  |_=>show Zw (show ag=ae from l) bt
 |str i =>
  obtain⟨t,rfl⟩:=m
  cases y with
  |non=>cases d;show a27 (dA I q (by simp))
  |bl j=>cases d;show a3j (dA I q (by simp))
  |int j=>obtain⟨t',rfl⟩:=d;show a3i (dA I q (by simp))
  |str j=>obtain⟨t',rfl⟩:=d;show eq_str (dA I q EC)
  |_=>show Zw (show ag=ae from l) bt
 |PK i =>
  obtain⟨t,rfl⟩:=m
  cases y with
  |PK j=>obtain⟨t',rfl⟩:=d;show PySem.W.eq_bytes (dA I q ND)
  |_=>show Zw (show ag=ae from l) bt
 |_=>cases y<;>show Zw (show ag=ae from l) bt
theorem Zd:j6 X (compareOp .NotEq) Bl:=by
 intro π s σ H x y v u Q I m d h;obtain⟨l,q⟩:=h
 cases x with
 |non =>
  cases m
  cases y with
  |non=>cases d;show a22 (dA I q (by simp))
  |bl j=>cases d;show a24 (dA I q (by simp))
  |int j=>obtain⟨t',rfl⟩:=d;show a23 (dA I q (by simp))
  |str j=>obtain⟨t',rfl⟩:=d;show a21 (dA I q (by simp))
  |_=>show Zw (show ag=ae from l) bt
 |bl i =>
  cases m
  cases y with
  |non=>cases d;show a26 (dA I q (by simp))
  |bl j=>cases d;show ne_bool (dA I q (congrArg not J1))
  |str j=>obtain⟨t',rfl⟩:=d;show a3h (dA I q (by simp))
  |_=>show Zw (show ag=ae from l) bt
 |int i =>
  obtain⟨t,rfl⟩:=m
  cases y with
  |non=>cases d;show a25 (dA I q (by simp))
  |int j=>obtain⟨t',rfl⟩:=d;show ne_int (dA I q (congrArg not EB))
  |str j=>obtain⟨t',rfl⟩:=d;show a3g (dA I q (by simp))
  |_=>show Zw (show ag=ae from l) bt
 |str i =>
  obtain⟨t,rfl⟩:=m
  cases y with
  |non=>cases d;show a20 (dA I q (by simp))
  |bl j=>cases d;show a3f (dA I q (by simp))
  |int j=>obtain⟨t',rfl⟩:=d;show a3e (dA I q (by simp))
  |str j=>obtain⟨t',rfl⟩:=d;show ne_str (dA I q (congrArg not EC))
  |_=>show Zw (show ag=ae from l) bt
 |PK i =>
  obtain⟨t,rfl⟩:=m
  cases y with
  |PK j=>obtain⟨t',rfl⟩:=d;show PySem.W.ne_bytes (dA I q (congrArg not ND))
  |_=>show Zw (show ag=ae from l) bt
 |_=>cases y<;>show Zw (show ag=ae from l) bt
def NF:j6 X (compareOp .Lt) (PX λi j=>.bl (Zv (i<j))):=u_ λ_ _ _ _ _ _ _ q=>lt_int q
def vJ:j6 X (compareOp .LtE) (PX λi j=>.bl (Zv (i<=j))):=u_ λ_ _ _ _ _ _ _ q=>le_int q
def Fj:j6 X (compareOp .Gt) (PX λi j=>.bl (Zv (j<i))):=u_ λ_ _ _ _ _ _ _ q=>gt_int q
def Fi:j6 X (compareOp .GtE) (PX λi j=>.bl (Zv (j<=i))):=u_ λ_ _ _ _ _ _ _ q=>ge_int q
def VG:j6 X (compareOp .Is) (λx y H Q=>y=.non/\Q (.bl (Zv (x=.non))) H):=by
 intro π s σ H x y v u Q I d j h;obtain⟨rfl,q⟩:=h;cases j;show is_none_gen (dA I q ?_);cases x<;>first
  | (cases d;rfl)
  | (obtain⟨t,rfl⟩:=d;rfl)
def j6.or(h:j6 X f r)(h':j6 X f r'):j6 X f (λx y H Q=>r x y H Q\/r' x y H Q):=by
 intro π s σ H x y v u Q I j d q;rcases q with q|q
 .exact h π s σ H x y v u Q I j d q
 .exact h' π s σ H x y v u Q I j d q
def jL(b:au)(h:op≠.In:=by decide)(h2:op≠.NotIn:=by decide):behindInMarks op b=ag:=by
 have j:(op == CmpOp.In)=ag:=by cases op<;>first|rfl|show Zw rfl h
 have d:(op == CmpOp.NotIn)=ag:=by cases op<;>first|rfl|show Zw rfl h2
 cases b<;>simp[behindInMarks,j,d]
def aAO{op:CmpOp}{r:R2}(ho:j6 X (compareOp op) r)(o:PE X a ta)(n:PE X b tb)(m:behindInMarks op b=ag):PE X (.Compare a [op] [b] ν) (qk r ta tb):=by intro π s σ H Q I h;show wpAny_Compare1 (yf o n I h λv u d x y z p l j q=>ho π d σ z x y v u Q p l j q) m
def GW(t:TE):TT:=λσ H Q=>t σ H λx H'=>∃k,x=.bl k/\Q k H'
def aAP(ho:j6 X (compareOp op) r)(A:PE X a ta)(q:PE X b tb)(p:behindInMarks op b=ag):PT X (.Compare a [op] [b] ν) (GW (qk r ta tb)):=by
 intro π s σ H Q I h;show a0k (eR (A π s σ H _ I h) λv j ⟨x,U,K,n,q1⟩=>eR (q π j σ U _ K q1) λu d ⟨y,O,J,m,q2⟩ =>
  eR (ho π d σ O x y v u _ J n m q2) λc s3 ⟨z,L,F,l,k,e,o⟩=>?_) p
 subst e;cases l;show j7 ⟨L,F,o⟩
def J3(r j:R2)(ta tb tc:TE):TE:=λσ H Q=>ta σ H λx n=>tb σ n λy m=>r x y m λz d=>∃k,z=.bl k /\
 (if k=ae then tc σ d λh l=>j y h l Q else Q (.bl ag) d)
theorem VH(ho:j6 X (compareOp op) r)(j:j6 X (compareOp op') r')(ha:PE X a ta)(Z:PE X b tb)(Y:PE X c tc)
  (U:lastMarks [op,op'] [b,c]=ag:=by with_unfolding_all rfl):PE X (.Compare a [op,op'] [b,c] ν) (J3 r r' ta tb tc):=by
 intro π s σ H Q I h;show Compare_chain (eR (ha π s σ H _ I h) λv F ⟨x,H1,I1,L,q1⟩=>chain_link (eR (Z π F σ H1 _ I1 q1) λu A ⟨y,H2,I2,l,q2⟩ =>
  eR (ho π A σ H2 x y v u _ I2 L l q2) λd s3 ⟨z,o,n,K,k,e,m⟩=>?_)) U
 subst e;cases K;show j7 ?_
 cases k with
 |false=>show ite_ff ⟨.bl ag,o,n,rfl,m⟩
 |true=>show ite_tt (chain_last (eR (Y π s3 σ o _ n m) λq s4 ⟨p,H4,I4,J,O⟩=>j π s4 σ H4 y p u q Q I4 l J O))
theorem VI(ho:j6 X (compareOp op) r)(j:j6 X (compareOp op') r')(ha:PE X a ta)(hb:PE X b tb)(hc:PE X c tc)
  (hm:lastMarks [op,op'] [b,c]=ag:=by with_unfolding_all rfl):PT X (.Compare a [op,op'] [b,c] ν) (GW (J3 r r' ta tb tc)):=by
 intro π s σ H Q I h;show isTrue_chain (eR (ha π s σ H _ I h) λv F ⟨x,H1,I1,O,q1⟩=>test_link (eR (hb π F σ H1 _ I1 q1) λu A ⟨y,H2,I2,l,q2⟩ =>
  eR (ho π A σ H2 x y v u _ I2 O l q2) λd s3 ⟨z,o,n,L,k,e,m⟩=>?_)) hm
 subst e;cases L;show j7 ?_
 cases k with
 |false =>
  obtain⟨k',e',Z⟩:=m;cases e';show ite_ff ⟨o,n,Z⟩
 |true =>
  show ite_tt (test_last (eR (hc π s3 σ o _ n m) λq s4 ⟨p,H4,I4,K,Y⟩=>eR (j π s4 σ H4 y p u q _ I4 l K Y) λd' s5 ⟨z2,H5,I5,J,k2,e2,U⟩=>?_));subst e2;cases J;show j7 ⟨H5,I5,U⟩
noncomputable def Dj(K:ao)(x:V)(H:Hp)(k:Bool):Prop :=
 match x with
 |.non=>k=ag
 |.bl b=>k=b
 |.int i=>k=(i !=0)
 |.str y=>y.length<=bc/\k=((y.length:Int) !=0)
 |.PK y=>y.size<=bc/\k=((y.size:Int) !=0)
 |.ref p=>(∃xs,eZ K H p xs/\k=!xs.isEmpty)\/(∃xs,fJ K H p xs/\k=!xs.isEmpty) \/∃χ,H p=aa (.dK χ)/\k=!χ.isEmpty
 |_=>False
def J4{κ:Type}{χ:List (κ×V)}{vs:List (κ×ai)}(r:KV χ vs):(!vs.isEmpty)=!χ.isEmpty:=by cases r<;>rfl
def nK{xs:List V}{d:Q0f}(r:θ xs d):(!d.toArray.isEmpty)=!xs.isEmpty:=by cases r<;>simp
def zF:(bc:Nat)<2^63:=by rw[fg];decide
theorem aD6:Tq X (λx H Q=>∃k,Dj X.K x H k/\Q k H):=by
 intro π s σ H x v Q I j h;obtain⟨k,e,q⟩:=h;have L:=zF;have J:bc=16777216:=fg
 cases x with
 |non =>
  cases j;have d:k=ag:=e;subst d;show truthy_none ⟨H,I,q⟩
 |bl b =>
  cases j;have d:k=b:=e;subst d;show j7 ⟨H,I,q⟩
 |int i =>
  obtain⟨t,rfl⟩:=j;have d:k=(i !=0):=e;subst d;show PySem.P.truthy_int ⟨H,I,q⟩
 |str y =>
  obtain⟨t,rfl⟩:=j;obtain⟨A,d⟩:y.length<=bc/\k=((y.length:Int) !=0):=e;subst d;show PySem.P.truthy_str ∅ ⟨H,I.tok _,q⟩
 |PK y =>
  obtain⟨t,rfl⟩:=j;obtain⟨A,d⟩:y.size<=bc/\k=((y.size:Int) !=0):=e;subst d;show PySem.W.truthy_bytes ∅ ⟨H,I.tok _,q⟩
 |ref p =>
  cases j;have d:(∃xs,eZ X.K H p xs/\k=!xs.isEmpty)\/(∃xs,fJ X.K H p xs/\k=!xs.isEmpty) \/∃χ,H p=aa (.dK χ)/\k=!χ.isEmpty:=e;rcases d with⟨xs,l,d⟩|⟨xs,l,d⟩|⟨χ,l,d⟩
  .subst d;obtain⟨z,r,n,o⟩:=I.list l;have hlen:=r.length;show a0c n.isList (by simp only[bw];lia) ⟨H,I.tok _,by rw[nK r];show q⟩
  .subst d;obtain⟨z,r,n,o⟩:=I.tuple l;have hlen:=r.length;show a1u n (by simp only[bw];lia) ⟨H,I.tok _,by rw[nK r];show q⟩
  .subst d;obtain⟨o,F,vs,r,m⟩:χ.length<=bc/\(p == sysModules)=ag /\∃vs,KV χ vs/\s.heap.DictOf (bO X.Ω X.w) p vs:=I.hok p _ l;have hlen:χ.length=vs.length:=qz r;show wpAny_truthy_dict F m ∅ ⟨H,I.tok _,by rw[J4 r];show q⟩
 |_=>show(show False from e).elim
theorem VJ(m:PE X a ta)(l:∀whole,isTrue a X.env whole=(do let v <- whole;standAt a.pos;holding [v] (truthy v))):
  PT X a (λσ H Q=>ta σ H λx H'=>∃k,Dj X.K x H' k/\Q k H'):=by
 intro π s σ H Q I h;show isTrue_plain (eR (m π s σ H _ I h) λv d ⟨x,o,n,j,q1⟩=>aD6 π d σ o x v Q n j q1) (l _)
def J6:j6 X (binaryOp .Add) (λx y H Q=>∃i j,x=.str i/\y=.str j/\i.length+j.length<=bc/\Q (.str (i++j)) H):=by intro π s σ H x y v u Q I l d h;obtain⟨i,j,rfl,rfl,m,q⟩:=h;obtain⟨t,rfl⟩:=l;obtain⟨t',rfl⟩:=d;show add_str (λt' n=>⟨.str (i++j),H,I.tok _,⟨_,rfl⟩,q⟩) m
theorem vals1(r:θ [x] us):∃u,us=[u]/\Ψ x u:=by
 cases r with
 |cons r1 r2=>cases r2;show⟨_,rfl,r1⟩
theorem vals2(r:θ [x,y] us):∃u d,us=[u,d]/\Ψ x u/\Ψ y d:=by
 cases r with
 |cons r1 r2 =>
  cases r2 with
  |cons r3 r4=>cases r4;show⟨_,_,rfl,r1,r3⟩
def PY:gD X (.type "int") (λxs H Q=>(∃i,xs=[.int i]/\Q (.int i) H) \/∃k,xs=[.bl k]/\Q (.int (if k then 1 else 0)) H):=by
 intro π s σ H xs j Q I r h;rcases h with⟨i,rfl,q⟩|⟨k,rfl,q⟩
 .obtain ⟨u,rfl,t,rfl⟩:=vals1 r;show call_int_int ⟨.int i,H,I,⟨_,rfl⟩,q⟩
 .obtain ⟨u,rfl,d⟩:=vals1 r;cases d;show call_int_bool ⟨.int (if k then 1 else 0),H,I.tok _,⟨_,rfl⟩,q⟩
end
structure yj (h:ay) (x dx C:ah) (mA:Q0d):Prop where
 obj:h.get? x=aa (instObj C dx)
 ns:h.Ns1 dx mA
 ne:dx≠x
def PZ{h:ay}{m:ah}{l:Q0d}(n:h.Ns1 m l):∃j,h.get? m=aa j /\∀name,lookIn name j=aa (l name):=by
 obtain⟨o,es,I,ho,A,x,_,v⟩:=n;show⟨o,ho,λname=>?_⟩;have e:=v name;unfold nsFind findBy at e;rw[<- Array.find?_toList] at e;unfold lookIn;rw[A];dsimp only;split
 .rename_i y q;rw[q] at e;show congrArg aa e
 .rename_i q;rw[q] at e;have a:es.toList.any (·.refKey)=ag:=by rw[List.any_eq_false];intro y p;obtain⟨z,t,d⟩:=x y (Array.mem_toList_iff.mp p);simp[a3m,d]
  have F:¬ es.toList.any (·.refKey)=ae:=by rw[a];show bt
  rw[Zz F];show congrArg aa e
def yj.look(I:yj h x dx C mA):∃a,PySem.W.InstAt h x (instObj C dx) C (aa a) /\∀name,lookIn name a=aa (mA name) :=
 let ⟨a,ho,hl⟩:=PZ I.ns
 ⟨a,⟨I.obj,rfl,rfl,ho⟩,hl⟩
theorem rB.some_of(r:rB (aa v) o):∃u,o=aa u/\Ψ v u:=by
 cases o with
 |none=>show(show False from r).elim
 |some u=>show⟨u,rfl,r⟩
section
variable{P:bf}{w:ba}{H H':Hp}{h h':ay}{a C dx:ah}{fs fs':List (aj×V)}
def aAQ(l:pW P w H h)(e:H a=aa (.ins C dx fs)):∃j,yj h a dx C j/\(∀f,rB (fs.lookup f) (j f))/\a0E j (fs.map (·.1))/\fs.length<=1000/\H dx=aa (.own a):=by obtain⟨d,z,ne,m,j,n,r,q⟩:=(show dN P w H h a (.ins C dx fs) from l a _ e);show⟨j,⟨m,n,ne⟩,r,q,z,d⟩
end
structure Cls (K:ao) (C:ah):Prop where
 pg:a0H K C Str.empty=ae
 hd:PySem.W.hasDictIn K C=ae
 po:PySem.W.plainOver K C=ae
 sa:a0L K (.ref C) "__setattr__"=aa (aa (.builtin "object.__setattr__"))
def Cls.get{K:ao}{C:ah}(c:Cls K C)(f:aj):a0H K C f=ae:=c.pg
section
variable{π:Q0b}{σ:St}{H:Hp}{s:ak}{A:bq}{E:Q0c}{Q:Q0c}{c:ai}{b:Bool}
inductive sQ (K:ao) (H:Hp):V->ai->Prop where
 |non:sQ K H .non (.type "NoneType")
 |bl (x:Bool):sQ K H (.bl x) (.type "bool")
 |int (i:Int):sQ K H (.int i) (.type "int")
 |str (x:aj):sQ K H (.str x) (.type "str")
 |flt (x:UInt64):sQ K H (.flt x) (.type "float")
 |lst {a:ah} {xs:List V} (e:H a=aa (.lst xs)):sQ K H (.ref a) (.type "list")
 |w4 {a:ah} {o:ax} {xs:List V} (e:H a=aa (.w4 o (.lst xs))):sQ K H (.ref a) (.type "list")
 |tup {a:ah} {xs:List V} (e:H a=aa (.tup xs)):sQ K H (.ref a) (.type "tuple")
 |dK {a:ah} {χ:List (Key×V)} (e:H a=aa (.dK χ)):sQ K H (.ref a) (.type "dict")
 |dT {a:ah} {χ:List (List Key×V)} (e:H a=aa (.dT χ)):sQ K H (.ref a) (.type "dict")
 |ins {a C dx:ah} {fs:List (aj×V)} (e:H a=aa (.ins C dx fs)) (cl:Cls K C) (ha:a0L K (.ref C) "__class__"=aa (aa (.builtin "object.__class__")))
   (hn:PySem.W.specialIn K (.builtin "object.__class__") "__get__"=aa (aa (.builtin "getset_descriptor.__get__"))) (htk:PySem.W.takesIn K (.builtin "object.__class__")=aa ae)
   (hm:PySem.W.mroIn K C (.type "object")=aa ae):sQ K H (.ref a) (.ref C)
theorem P0(I:Φ X π σ H s)(d:Ψ x u)(ty:sQ X.K H x t)(e:qv X.K t c=aa b)(h:∀l,Q (.bool b) {s with toks:=l}):
  av (aw X.Ω X.w) A (call (.builtin "isinstance") [u,c]) Q E s:=by
 cases ty with
 |non=>cases (show u=jg from d);show je PySem.W.kitx_none I.w8 jq e (λz=>nomatch z) h
 |bl y=>cases (show u=kc y from d);show je PySem.W.kitx_bool I.w8 jq e (λz=>nomatch z) h
 |int i=>obtain⟨t,q⟩:=(show ∃t,u=js i t from d);cases q;show je PySem.W.kitx_int I.w8 jq e (λz=>nomatch z) h
 |str y=>obtain⟨t,q⟩:=(show ∃t,u=z_ y t from d);cases q;show je PySem.W.kitx_str I.w8 jq e (λz=>nomatch z) h
 |flt y=>obtain⟨t,q⟩:=(show ∃t,u=a0U y t from d);cases q;show je PySem.W.kitx_float I.w8 jq e (λz=>nomatch z) h
 | @lst a xs ea =>
  cases (show u=cz a from d);obtain⟨_,_,n,_,j⟩:=(show dN X.Ω X.w H s.heap a (.lst xs) from I.hok a _ ea);show je Hj I.w8 ⟨_,j,rfl⟩ e (λz=>nomatch z) h
 | @w4 a ob xs ea =>
  cases (show u=cz a from d);obtain⟨_,_,_,n,_,j⟩:=(show dN X.Ω X.w H s.heap a (.w4 ob (.lst xs)) from I.hok a _ ea);show je Hj I.w8 ⟨_,j,rfl⟩ e (λz=>nomatch z) h
 | @tup a xs ea =>
  cases (show u=cz a from d);obtain⟨_,_,_,p,_⟩:=(show dN X.Ω X.w H s.heap a (.tup xs) from I.hok a _ ea);obtain⟨o,j,h2,_⟩:=p;show je a0I I.w8 ⟨o,j,h2⟩ e (λz=>nomatch z) h
 | @dK a χ ea =>
  cases (show u=cz a from d);obtain⟨_,_,vs,_,p⟩:=(show dN X.Ω X.w H s.heap a (.dK χ) from I.hok a _ ea);obtain⟨o,es,m,j,h2,_⟩:=p;show je a0J I.w8 ⟨o,j,h2.1⟩ e (λz=>nomatch z) h
 | @dT a χ ea =>
  cases (show u=cz a from d);obtain⟨_,_,xs,_,o,es,m,j,h2,_⟩:=(show dN X.Ω X.w H s.heap a (.dT χ) from I.hok a _ ea);show je a0J I.w8 ⟨o,j,h2.1⟩ e (λz=>nomatch z) h
 | @ins a C dx fs ea cl ha hn htk hm =>
  cases (show u=cz a from d);obtain⟨F,O,_⟩:=aAQ I.hok ea;obtain⟨v,J,_⟩:=O.look;show je (PySem.W.kitx_own (cl.get _) cl.hd ha hn htk hm) I.w8 J e (λz=>nomatch z) h
end
structure fL (k:Nat) (A:bq):Prop where
 hd:A.handled=af
 dp:A.depth+3*k+5<recursionLimit
 un:A.units+16*k+200<dj
def fL.mono(r:fL k A)(h:j<=k):fL j A:=⟨r.hd,by have:=r.dp;lia,by have:=r.un;lia⟩
def fL.deeper(r:fL (k+1) A)(env:de):fL k (A.deeper env) :=
 ⟨r.hd,by have:=r.dp;show A.depth+1+3*k+5<_;lia,by have:=r.un;show A.units+3+16*k+200<_;lia⟩
def fL.depth(r:fL k A):A.depth<recursionLimit:=by have:=r.dp;lia
def fL.units(r:fL k A):A.units+64<dj:=by have:=r.un;lia
def Di:TA:=λ_ H Q=>Q [] H
def Fh(a:TE)(tr:TA):TA:=λσ H Q=>a σ H λx h=>tr σ h λxs d=>Q (x::xs) d
section
variable{e:au}{es:List au}{te:TE}{t:TA}{ν:bb}
def jY:PA X [] Di:=λ_ _ _ _ H Q I h=>Calls.spliced_nil ⟨[],H,I,.nil,h⟩
def eK(o:PE X e te)(n:PA X es t)(m:Zr X e es:=by rfl):PA X (e::es) (Fh te t):=by intro ν π s σ H Q I h;rw[m];show av _ _ (spliced ((ag,eval e X.env)::cu ν (ar es X.env))) _ _ s;show Calls.spliced_cons (eR (o π s σ H _ I h) λu d ⟨x,y,q,l,q1⟩=>?_);show eR (n ν π d σ y _ q q1) λz A a=>by obtain⟨xs,v,p,j,q2⟩:=a;show⟨x::xs,v,p,.cons l j,q2⟩
def Tp(t:TA):TE:=λσ H Q=>t σ H λxs a=>xs.length<=bc /\∀p,a p=af->Q (.ref p) (upd a p (.tup xs))
def To(t:TA):TE:=λσ H Q=>t σ H λxs a=>xs.length<=bc /\∀p,a p=af->Q (.ref p) (upd a p (.lst xs))
def aD8{x1}(h:PA X es t):PE X (.Tuple es x1 ν) (Tp t):=by intro π s σ H Q I m;show wpAny_Tuple_spliced (eR (h ν π s σ H _ I m) λl a ⟨xs,j,d,r,z,q⟩=>⟨by rw[<- r.length];show z,?_⟩);have n:j a.heap.objs.size=af:=d.hok.fresh (bj _);show⟨.ref a.heap.objs.size,upd j a.heap.objs.size (.tup xs),d.laid (t':=a.toks) (λb u e=>cm _ e) (bj _) ?_,rfl,q _ n⟩;show⟨z,l,r,⟨_,dg _ rfl,rfl,_,rfl⟩,DX.new _ _⟩
def aD9(h:PA X es t):PE X (.List es ν) (To t):=by intro π s σ H Q I m;show wpAny_List_spliced (eR (h ν π s σ H _ I m) λl a ⟨xs,j,d,r,z,q⟩=>⟨by rw[<- r.length];show z,?_⟩);have n:j a.heap.objs.size=af:=d.hok.fresh (bj _);show⟨.ref a.heap.objs.size,upd j a.heap.objs.size (.lst xs),d.laid (t':=a.toks) (λb u e=>cm _ e) (bj _) ?_,rfl,q _ n⟩;show⟨z,l,0,r,dg _ rfl⟩
end
abbrev Sp:=List V->Hp->VK->XK->Prop
abbrev J8:=List de->Hp->ak->XK->ai->ak->Prop
structure uy (P:bf) (w:ba) (K:ao) (mg:Q0d) (ω:ay) (A:bq) (Γ:List de) (s:ak) (H:Hp):Prop where
 frames:A.frames=aa Γ
 mod:Mod K mg ω
 bs:∀b o,ω.get? b=aa o->s.heap.get? b=aa o/\H b=af
 RX:ω.objs.size<=s.heap.objs.size
 rC:s.heap.FunFrames ω Γ
 frf:∀b∈frs Γ,H b=af
 hok:pW P w H s.heap
 bare:kq s.gens
 tab:vc K ω H
def CE(Γ:List de)(P:bf)(w:ba)(H:Hp)(s:ak)(Q:VK)(u:ai)(s':ak):Prop :=
 ∃v H',s'.os=s.os/\kq s'.gens/\Un (frs Γ) [] H H' s.heap s'.heap/\pW P w H' s'.heap/\Ψ v u/\Q v H'
def CR(CX:J8)(Γ:List de)(P:bf)(w:ba)(H:Hp)(s:ak)(Q:VK)(E:XK)(r:Aa)(s':ak):Prop :=
 match r with
 |.ok (.ret u)=>CE Γ P w H s Q u s'
 |.ok _=>False
 |.error e=>CX Γ H s E e s'
structure lY (P:bf) (w:ba) (K:ao) (mg:Q0d) (ω:ay) (CX:J8) (k:Nat) (f:ah) (fd:fv) (ps:Q0g) (sp:Sp):Prop where
 len:∀vs H Q E,sp vs H Q E->vs.length=ps.length
 run:∀(A:bq) (Γ:List de) (s:ak) (H:Hp) (args:Args) (us:Q0f) (vs:List V) (Q:VK) (E:XK),fL k A->uy P w K mg ω A Γ s H->rj s fd args (ps.zip us)->θ vs us->sp vs H Q E ->
  ng (aw P w) A (.call (.ref f) args) (CR CX Γ P w H s Q E) s
theorem lY.mono{P:bf}{w:ba}{K:ao}{mg:Q0d}{ω:ay}{CX:J8}{j k:Nat}{f:ah}{fd:fv}{a:Q0g}{sp:Sp}(F:lY P w K mg ω CX j f fd a sp)(h:j<=k):
  lY P w K mg ω CX k f fd a sp:=⟨F.len,λA Γ s H args d vs Q E l=>F.run A Γ s H args d vs Q E (l.mono h)⟩
section
variable{π:Q0b}{σ:St}{H:Hp}{s s':ak}
def Φ.env0(I:Φ X π σ H s):uy X.Ω X.w X.K X.mg X.ω X.A X.stack s H :=
 ⟨I.ok.frames,I.ok.mod,I.bs,f_ I.ok.RX I.sz,I.stack,I.w9,I.hok,I.bare,I.tab⟩
def Φ.after(I:Φ X π σ H s)(h:CE X.stack X.Ω X.w H s Q u s'):EP X π σ Q u s':=by obtain⟨v,H',l,bare,un,j,r,q⟩:=h;obtain⟨m,g,d,t,a⟩:=s';obtain rfl:a=s.os:=l;show⟨v,H',I.call (h':=m) (g':=g) (d':=d) (t':=t) (ch:=[]) un j bare (λb z=>Zw z (by simp)),r,q⟩
end
def Fg(sp:Sp)(a:List V)(E:XK)(t:TA):TE:=λσ H Q=>t σ H λvs d=>sp (vs++a) d Q E
def Binds(K:ao)(fd:fv)(d:Q0g)(ds:Q0f):Prop :=
 ∀(s:ak) (a:Q0f),K.In s.heap->(a++ds).length=d.length->rj s fd ⟨a,[]⟩ (d.zip (a++ds))
def Binds.all{K:ao}{fd:fv}{d:Q0g}(h:∀a:Q0f,a.length=d.length->bindArgs fd ⟨a,[]⟩=pure (d.zip a)):Binds K fd d []:=λs a _ j=>by rw[iu] at j ⊢;show .of_eq (h a j)
def Passes(CX:J8)(X:Cx)(E:XK):Prop:=∀(π:Q0b) (σ:St) (H:Hp) (s:ak) (e:ai) (s':ak),Φ X π σ H s->CX X.stack H s E e s'->X.xe e s'
section
variable{CX:J8}{k:Nat}{f C:ah}{fd:fv}{ps:Q0g}{sp:Sp}{dvs:List V}{ds:Q0f}{E:XK}{x m:aj}{p ν apos:bb}{e o:au}{es:List au}{ta:TE}{t:TA}
theorem aDa(F:lY X.Ω X.w X.K X.mg X.ω CX k f fd ps sp)(l:fL k X.A)(v:Binds X.K fd ps ds)(q:θ dvs ds)(j:Passes CX X E)
  (I:Φ X π σ H s) (r:θ vs us) (h:sp (vs++dvs) H Q E):av (aw X.Ω X.w) X.A (call (.ref f) us) (EP X π σ Q) X.xe s:=by
 have d:θ (vs++dvs) (us++ds):=r.append q;have n:(us++ds).length=ps.length:=by rw[<- d.length];show F.len _ _ _ _ h
 show zi (Hd (F.run X.A X.stack s H ⟨us,[]⟩ (us++ds) (vs++dvs) Q E l I.env0 (v s us I.w8 n) d h) λr s' a=>?_)
 cases r with
 |error e=>show j π σ H s e s' I a
 |ok fl =>
  cases fl with
  |ret u=>show I.after a
  |next=>show jo a
  |brk=>show jo a
  |cont=>show jo a
theorem pZ(F:lY X.Ω X.w X.K X.mg X.ω CX k f fd ps sp)(n:fL k X.A)(z:Gl X x)(v:X.mg x=aa (.ref f))(y:keepIn X.K (.ref f)=ae)(O:Binds X.K fd ps ds)(L:θ dvs ds)(l:Passes CX X E)
  (U:PA X (e::es) t) (d:Zu x:=by decide) (J:Zr X e es:=by rfl) (a:Q0l X ν es:=by rfl):
  PE X (.Call (.Name x p) (e::es) [] ν) (Fg sp dvs E t):=by
 intro π s σ H Q I h;show zj (xA I z v ?_ d);show PySem.W.callWith_K (h₀:=X.ω) I.ok.mod.kin y (eR (U ν π s σ H _ I h) λY Z ⟨vs,H1,j,r,q⟩=>⟨j.w8,?_⟩) J a;show aDa F n O L l j r q
end
structure fE (N P:Q0g) (sc:fj):Prop where
 kind:sc.kind=.function
 co:sc.isCoroutine=ag
 gen:sc.isGenerator=ag
 nd:N.Nodup
 pre:N.take P.length=P
 par:∀x∈P,sc.names.lookup x=aa .local\/sc.names.lookup x=aa .cell
 aDb:∀y∈sc.names,y.2≠.free
theorem B5{kindOf:aj->Option ja}{x:aj}:∀{binds:List (aj×ai)} {m:Q0d},(∀v,(x,v)∉binds)->bindL kindOf binds m x=m x
 |[],_,_=>rfl
 | (n,v)::r,m,h=>by
  unfold bindL;rw[B5 λw hw=>h w (e_ _ hw)];split
  .have:x≠n:=by rintro rfl;show h v cb
   simp[this]
  .rfl
theorem B6{kindOf:aj->Option ja}{x:aj}:∀{binds:List (aj×ai)} {m:Q0d},(∀v,(x,v)∉binds)->bindC kindOf binds m x=m x
 |[],_,_=>rfl
 | (n,v)::r,m,h=>by
  unfold bindC;rw[B6 λw hw=>h w (e_ _ hw)];split
  .rfl
  .have:x≠n:=by rintro rfl;show h v cb
   simp[this]
theorem B7{kindOf:aj->Option ja}{x:aj}{v:ai}:∀{P:Q0g} {vs:Q0f} {i:Nat} {m:Q0d},P.Nodup->P[i]?=aa x->vs[i]?=aa v->kindOf x=aa .local ->
  bindL kindOf (P.zip vs) m x=aa v
 |[],_,_,_,_,h,_,_=>by simp at h
 |_::_,[],_,_,_,_,h,_=>by simp at h
 |p::P,w::vs,0,m,nd,h1,h2,hk=>by simp at h1 h2;subst h1;subst h2;show bindL kindOf ((p,w)::P.zip vs) m p=_;unfold bindL;rw[B5 λv a=>(k_.mp nd).1 (sr a).1,Z_ hk];simp
 |p::P,w::vs,i+1,m,nd,h1,h2,hk=>by show bindL kindOf ((p,w)::P.zip vs) m x=_;unfold bindL;show B7 (i:=i) (k_.mp nd).2 (by simpa using h1) (by simpa using h2) hk
theorem B8{kindOf:aj->Option ja}{x:aj}{v:ai}:∀{P:Q0g} {vs:Q0f} {i:Nat} {m:Q0d},P.Nodup->P[i]?=aa x->vs[i]?=aa v->kindOf x≠aa .local ->
  bindC kindOf (P.zip vs) m x=aa v
 |[],_,_,_,_,h,_,_=>by simp at h
 |_::_,[],_,_,_,_,h,_=>by simp at h
 |p::P,w::vs,0,m,nd,h1,h2,hk=>by simp at h1 h2;subst h1;subst h2;show bindC kindOf ((p,w)::P.zip vs) m p=_;unfold bindC;rw[B6 λv a=>(k_.mp nd).1 (sr a).1,Zz hk];simp
 |p::P,w::vs,i+1,m,nd,h1,h2,hk=>by show bindC kindOf ((p,w)::P.zip vs) m x=_;unfold bindC;show B8 (i:=i) (k_.mp nd).2 (by simpa using h1) (by simpa using h2) hk
def start(N:Q0g)(vs:List V):St:=vs.map aa++bp (N.length-vs.length) af
def lB(CX:J8)(P:bf)(w:ba)(K:ao)(mg:Q0d)(ω:ay)(N:Q0g)(qual:aj)(scope:fj)(f:ah)(cd:ai)(A:bq)(Γ:List de)(s:ak)(H:Hp)(E:XK):Cx where
 Ω:=P
 w:=w
 K:=K
 mg:=mg
 ω:=ω
 A:=A.deeper (envOfC qual scope s.heap.objs.size f cd)
 N:=N
 s₀:=s
 H₀:=H
 env:=envOfC qual scope s.heap.objs.size f cd
 Γ:=Γ
 stack:=envOfC qual scope s.heap.objs.size f cd::Γ
 ex:=[]
 calm:=ae
 fn:=λ_=>ae
 pn:=[]
 xe:=λe s'=>av (aw P w) (A.deeper (envOfC qual scope s.heap.objs.size f cd)) (leaving (envOfC qual scope s.heap.objs.size f cd) e) (λ_ a=>CX Γ H s E e a) (λd a=>CX Γ H s E d a) s'
def GX{sc:fj}{n:Nat}{x:aj}(h:sc.names.lookup x=aa .cell):∃c,(cellsFrom n sc.names []).lookup x=aa c:=by have q:=a0M sc.names n [] (.inl h);show Option.isSome_iff_exists.mp q
theorem P4{CX:J8}{P:bf}{w:ba}{K:ao}{mg:Q0d}{ω:ay}{N j:Q0g}{qual:aj}{scope:fj}{f:ah}{cd:ai}{A:bq}{Γ:List de}{s L:ak}{H:Hp}{E:XK}{J:Q0f}{vs:List V}
  (S:fE N j scope) (Z:A.handled=af) (d:uy P w K mg ω A Γ s H) (hl:vs.length=j.length) (r:θ vs J)
  (x:InCallC s s.heap.objs.size (bindL (envOfC qual scope s.heap.objs.size f cd).kindOf (j.zip J) λ_=>af) (cellsFrom (s.heap.objs.size+1) scope.names []) (bindC (envOfC qual scope s.heap.objs.size f cd).kindOf (j.zip J) λ_=>af) L):
  Φ (lB CX P w K mg ω N qual scope f cd A Γ s H E) [] (start N vs) H L:=by
 have Y:j.length<=N.length:=by have:=congrArg tj S.pre;rw[kj] at this;lia
 obtain⟨I,tk,rfl,U⟩:=x.done;have l:∀b:ah,b∉(lB CX P w K mg ω N qual scope f cd A Γ s H E).ex:=λb z=>Zw (show b∈([]:List ah) from z) (by simp);show⟨⟨d.mod,S.kind,rfl,rfl,bj _,λy z c I h2=>?_,λy m=>?_,λy c _ h=>?_,λ_=>Z,a1s d.frames,.inr ⟨rfl,rfl⟩,λb z=>Zw z (l b),d.bs,d.RX,λb _ _=>l b,λb z=>Zw z (l b),d.rC,d.frf,d.tab⟩,
  rfl,d.bare,Un.kept U,⟨_,x.toInCall.ns,λi y v I h2 h3=>?_⟩,λy c h=>⟨_,x.cell y c h⟩,d.hok.fresh (bj _),λy c h=>?_,λp F=>Zw (show p∈([]:Q0b) from F) (by simp),d.hok.kept U,?_⟩
 .exact a0u x.apart (jr I) (jr h2)
 .have m:scope.names.lookup y=aa .cell\/scope.names.lookup y=aa .free:=m;rcases m with m|m
  .exact GX m
  .exact Zw rfl (S.aDb _ (jr m))
 .exact ku (x.above y c (jr h))
 .have hi:i<vs.length:=by
   unfold start at h2;by_cases hi:i<vs.length
   .exact hi
   .rw [ju (by simpa using hi)] at h2;rw[jc] at h2;split at h2<;>cases h2
  have ha:vs[i]?=aa v:=by
   unfold start at h2;rw[jv (by simpa using hi),cf] at h2
   cases e:vs[i]? with
   |none=>rw[e] at h2;cases h2
   |some a=>rw[e] at h2;cases h2;rfl
  obtain⟨u,O,X⟩:=r.get ha;have F:j[i]?=aa y:=by rw[<- S.pre,Bd ∅];show I
  have o:j.Nodup:=by rw[<- S.pre];show S.nd.sublist (a1X _ _)
  show⟨u,X,?_⟩;rcases S.par y (lh F) with k|k
  .exact .inl ⟨k,B7 o F O k⟩
  .obtain ⟨c,e⟩:=GX (n:=s.heap.objs.size+1) k;show .inr ⟨.inl k,c,e,?_⟩;have q:=x.cell y c e;rw[B8 o F O (by show scope.names.lookup y≠_;rw[k];decide)] at q;show q
 .exact d.hok.fresh (ku (x.above y c (jr h)))
 .unfold start;show _=N.length;rw[cy,az,ig];lia
theorem VL{CX:J8}{P:bf}{w:ba}{K:ao}{mg:Q0d}{ω:ay}{k:Nat}{f:ah}{name qual:aj}{params:Hy}{body:List bz}{scope:fj}{Y kV doc pm a ct oc:ai}{Z od:Option ah}
  {L:Array (Option ai)} {N z:Q0g} {sp:Sp} (lk:K.lookup f=aa ⟨oc,od,.func (fnOf name qual params body scope Y kV doc pm Z a ct),L⟩) (U:codeIn K a qual=ae) (S:fE N z scope)
  (len:∀vs H Q E,sp vs H Q E->vs.length=z.length)
  (j:∀(A:bq) (Γ:List de) (s:ak) (H:Hp) (vs:List V) (Q:VK) (E:XK),fL k (A.deeper (envOfC qual scope s.heap.objs.size f a))->sp vs H Q E ->
   ∃t,zC (lB CX P w K mg ω N qual scope f a A Γ s H E) body t/\t {nx:=λ_ H'=>Q .non H',rt:=Q} (start N vs) H):
  lY P w K mg ω CX (k+1) f (fnOf name qual params body scope Y kV doc pm Z a ct) z sp:=by
 show⟨len,λA Γ s H args us vs Q E O p hb r m=>?_⟩;have hl:=len _ _ _ _ m;have KX:K.In s.heap:=p.mod.kin.keeps λb o e=>(p.bs b o e).1;have lim:s.heap.NoLimit:=p.mod.nolimit.keeps λb o e=>(p.bs b o e).1;have h:∀y∈z.zip us,scope.names.lookup y.1=aa .local\/(scope.names.lookup y.1=aa .cell/\((cellsFrom (s.heap.objs.size+1) scope.names []).lookup y.1).isSome=ae):=λ⟨n,v⟩ hy=>by
  rcases S.par n (sr hy).1 with q|q
  .exact .inl q
  .exact .inr ⟨q,a0M _ _ _ (.inl q)⟩
 show codeAny_call_function O.depth (KX _ _ lk) rfl S.co S.gen rfl (PySem.W.codeRec_of KX U) (hb _ _ _ _ ?_);show wpAny_newFunctionEnv_cells S.kind h λenv he X x=>?_;subst he;show⟨lim.keeps x.toInCall.keep,codeAny_func ?_⟩;obtain⟨t,ht,hq⟩:=j A Γ s H vs Q E (O.deeper _) m;have I:Φ (lB CX P w K mg ω N qual scope f a A Γ s H E) [] (start N vs) H X:=P4 S O.hd p hl r x;show ik (ht [] X (start N vs) H _ I hq) (λfl s' l=>?_) λe s' l=>l;have fin:∀{d:St} {H':Hp} {v:V} {u:ai},Φ (lB CX P w K mg ω N qual scope f a A Γ s H E) [] d H' s'->Ψ v u->Q v H'->CE Γ P w H s Q u s' :=
  λ{d H' v u} J F q=>⟨v,H',J.os,J.bare,J.ω,J.hok,F,q⟩
 cases fl with
 |ret u =>
  obtain⟨v,d,H',J,F,q⟩:=l;show fin J F q
 |next =>
  obtain⟨d,H',J,q⟩:=l;show fin (v:=V.non) (u:=jg) J rfl q
 |brk =>
  obtain⟨_,_,_,q⟩:=l;show jo q
 |cont =>
  obtain⟨_,_,_,q⟩:=l;show jo q
section
variable{x:aj}{p ν:bb}{e:au}{es:List au}{t:TA}{id T:String}{r:List V->Hp->VK->Prop}
def ub(r:List V->Hp->VK->Prop)(t:TA):TE:=λσ H Q=>t σ H λvs a=>r vs a Q
def mM(z:gD X (.builtin id) r)(v:Gl X x)(q:X.mg x=af)(n:bootBuiltins x=aa (.builtin id))(A:PA X (e::es) t)(o:x ≠ "__name__":=by decide)(d:Zu x:=by decide)
  (y:Zr X e es:=by rfl) (a:Q0l X ν es:=by rfl):PE X (.Call (.Name x p) (e::es) [] ν) (ub r t):=by
 intro π s σ H Q I h;show zj (nG I v q n ?_ o d);show a3x (eR (A ν π s σ H _ I h) λj l ⟨vs,J,F,m,q1⟩=>z π l σ J vs j Q F m q1) y a
def p6(z:gD X (.type T) r)(v:Gl X x)(q:X.mg x=af)(n:bootBuiltins x=aa (.type T))(A:PA X (e::es) t)(o:x ≠ "__name__":=by decide)(d:Zu x:=by decide)
  (y:Zr X e es:=by rfl) (a:Q0l X ν es:=by rfl):PE X (.Call (.Name x p) (e::es) [] ν) (ub r t):=by
 intro π s σ H Q I h;show zj (nG I v q n ?_ o d);show r6 (eR (A ν π s σ H _ I h) λj l ⟨vs,J,F,m,q1⟩=>z π l σ J vs j Q F m q1) y a
end
end L2
namespace HT
open PyProof.Rows
section
open PySem.SeqAt

open PySem.MeetsSeq PySem.MeetsSeq2 PySem.MeetsSeq3
end
section
variable{Ω:bf}{w:ba}{A:bq}{E:Q0c}{s:ak}
theorem aAS(x:ia s.heap t vs.toArray)(y:ia s.heap b ws.toArray)(o:vs≠[])
  (z:ws=[]->Q (.ref t) s) (h2:ws≠[]->Q (.ref s.heap.objs.size) {s with heap:=s.heap.push {cls:=.type "tuple",data:=.seq (vs++ws).toArray} })
  (hsz:vs.length+ws.length<=bc):av (aw Ω w) A (binaryOp .Add (.ref t) (.ref b)) Q E s:=by
 obtain⟨⟨cls,dd,data,l⟩,ho,q,n,p⟩:=id x;obtain⟨⟨v,j,data2,d⟩,a,h,m,hd2⟩:=id y;simp only at q p h hd2;subst q p h hd2;have e:vs.toArray++ws.toArray=(vs++ws).toArray:=by simp
 by_cases hw:ws=[]
 .exact Hc ⟨_,ho,rfl⟩ ⟨_,a,rfl⟩ Hb Gy Hq Ht (Hv _ _)
   (tuple_addW1 t b vs.toArray ws.toArray n m dd j l d (by simpa using o) (by simp[hw])) ⟨ho,a,z hw⟩
 .refine Hc ⟨_,ho,rfl⟩ ⟨_,a,rfl⟩ Hb Gy Hq Ht (Hv _ _)
   (tuple_addW2 t b vs.toArray ws.toArray n m dd j l d (by simpa using o) (by simpa using hw) (by rw[bw,bw];show hsz)) ⟨ho,a,?_⟩
  rw[e];show h2 hw
noncomputable def iP(n d:Nat):Option Int->Nat
 |none=>d
 |some v=>if v<0 then(v+(n:Int)).toNat else min v.toNat n
theorem aDc(n d:Nat)(h:d<=n)(o:Option Int):iP n d o<=n:=by
 cases o with
 |none=>show h
 |some v =>
  show(if v<0 then(v+(n:Int)).toNat else min v.toNat n)<=n;by_cases a:v<0
  .rw [Z_ a];lia
  .rw [Zz a];show Nat.min_le_right _ _
def NG(v:Int)(n d:Nat):(if v<0 then max (v+(n:Int)) 0 else min v (n:Int))=((iP n d (aa v):Nat):Int):=by
 show(if v<0 then max (v+(n:Int)) 0 else min v (n:Int))=(((if v<0 then(v+(n:Int)).toNat else min v.toNat n):Nat):Int);by_cases a:v<0
 .simp only[Z_ a];lia
 .simp only[Zz a];lia
def J9(lo hi:Option Int)(n:Nat):Hw lo hi 1 (n:Int)=(((iP n 0 lo:Nat):Int),((iP n n hi:Nat):Int)):=by
 have a:¬ ((1:Int)<0):=by lia
 unfold Hw;simp only[a,if_false];show Prod.ext ?_ ?_
 .cases lo with
  |none=>rfl
  |some v=>show NG v n 0
 .cases hi with
  |none=>rfl
  |some v=>show NG v n n
def KA(i j:Nat):Al (i:Int) (j:Int) 1=j-i:=by
 unfold Al;have a:(1:Int)>0:=by lia
 simp only[a,if_true,Int.ediv_one];split<;>lia
theorem zG(p:kn v o)(h:Q o s):av (aw Ω w) A (a3p v) Q E s:=by
 cases p with
 |none=>show a1y h
 |int i t=>show slicePart_int h
theorem mO{m:ah}{l j:ai}{lo hi:Option Int}{n:Nat}{Q:Int×Int×Nat->ak->Prop}(q:s.heap.IsSliceOf m l j .none)(p:kn l lo)(o:kn j hi)
  (h:Q (((iP n 0 lo:Nat):Int),1,iP n n hi-iP n 0 lo) s):av (aw Ω w) A (a1r (.ref m) (pure (n:Int))) Q E s:=by
 obtain⟨y,a,v,d⟩:=id q;unfold a1r a3q;show aq (aq (il a d (x:=l) rfl (aq (il a d (x:=j) rfl (aq (il a d (x:=.none) rfl (a_ ?_)))))));show aq (a1y ?_);show av _ _ (if((1:Int) == 0)=ae then _ else _) _ _ s;rw[Zz (by decide)];show aq (zG p (aq (zG o (aq (a_ ?_)))));show av _ _ (match Hw lo hi 1 (n:Int) with|(lo,hi)=>pure (lo,(1:Int),Al lo hi 1)) _ _ s;rw[J9 lo hi n];show av _ _ (pure (((iP n 0 lo:Nat):Int),(1:Int),Al ((iP n 0 lo:Nat):Int) ((iP n n hi:Nat):Int) 1)) _ _ s;rw[KA];show a_ h
def VM(xs:Array ai)(i k:Nat):((b_ k).filterMap λ(m:Nat)=>xs[((i:Int)+(m:Int)*1).toNat]?).toArray=((xs.toList.drop i).take k).toArray:=by
 have e:(λ(m:Nat)=>xs[((i:Int)+(m:Int)*1).toNat]?)=λm=>xs[i+m]?:=by
  funext m
  have:((i:Int)+(m:Int)*1).toNat=i+m:=by lia
  rw[this]
 rw[e];have:=pick_run xs i k;rw[List.filterMap_map] at this;have a:((λx=>xs[x]?)∘λx=>i+x)=λm=>xs[i+m]?:=rfl;rw[a] at this;rw[this]
theorem sR{t j:ah}{items:Array ai}{v p:ai}{lo hi:Option Int}{Q:Q0c}(a:ia s.heap t items)(x:s.heap.IsSliceOf j v p .none)(z:kn v lo)(y:kn p hi)
  (hw:¬ (iP items.size 0 lo=0/\iP items.size items.size hi=items.size))
  (h:Q (.ref s.heap.objs.size) {s with heap:=s.heap.push {cls:=.type "tuple",data:=.seq ((items.toList.drop (iP items.size 0 lo)).take (iP items.size items.size hi-iP items.size 0 lo)).toArray} })
  (hsz:items.size<=bc):av (aw Ω w) A (getItem (.ref t) (.ref j)) Q E s:=by
 have d:sizeOk (.seq ((items.toList.drop (iP items.size 0 lo)).take (iP items.size items.size hi-iP items.size 0 lo)).toArray):=by show((items.toList.drop (iP items.size 0 lo)).take (iP items.size items.size hi-iP items.size 0 lo)).toArray.size<=bc;rw[bw,kj,wb,t_];lia
 have K:iP items.size items.size hi<=items.size:=aDc _ _ (bj _) hi;obtain⟨F,l,o,I⟩:=id x;have J:s.TypeIs (.ref j) "slice":=⟨F,l,o⟩;unfold getItem
 try with_reducible show iy ?_
 first|show aq (a_ ?_)|skip
 show aq (a0h a.typeIs (by decide) ?_);show aq (oy (name:=pz "__getitem__") a.typeIs p_
  (j_ p_ a.typeIs a1z ?_ (a1D _ _)))
 show av _ _ (a1p (.ref t) >>= _) _ _ s;show aq (a1t a ?_);show aq (yx J ?_);rw[Z_ (by decide)];show aq (mO x z y ?_);have n:¬ ((((iP items.size 0 lo:Nat):Int) == 0&&(1:Int) == 1&&(iP items.size items.size hi-iP items.size 0 lo) == items.size)=ae):=by intro q;rw[gy,gy] at q;have q1:((iP items.size 0 lo:Nat):Int)=0:=eq_of_beq q.1.1;have q2:iP items.size items.size hi-iP items.size 0 lo=items.size:=eq_of_beq q.2;show hw ⟨by lia,by lia⟩
 show av _ _ (if(((iP items.size 0 lo:Nat):Int) == 0&&(1:Int) == 1&&(iP items.size items.size hi-iP items.size 0 lo) == items.size)=ae then _ else _) _ _ s;rw[Zz n,VM]
 first
  |show aq (m:=Aj _) (vh (a_ ⟨_,rfl,a_ h⟩) d)
  |show aq (m:=Aj _) (vh (aq (a_ (a_ ⟨_,rfl,a_ h⟩))) d)
  |show aq (aq (m:=Aj _) (vh (a_ (a_ ⟨_,rfl,a_ h⟩)) d))
  |show aq (aq (m:=Aj _) (vh (a_ ⟨_,rfl,a_ h⟩) d))
end
end HT
namespace L2
open PySem.Spec PyProof.Rows
abbrev TO:=St->Hp->(Option Int->Hp->Prop)->Prop
def PO(X:Cx)(e:Option au)(t:TO):Prop :=
 ∀(π:Q0b) (s:ak) (σ:St) (H:Hp) (Q:Option Int->Hp->Prop),Φ X π σ H s->t σ H Q ->
  av (aw X.Ω X.w) X.A (evalPart e X.env) (λu s'=>∃o H',Φ X π σ H' s'/\kn u o/\Q o H') X.xe s
def aAT:TO:=λ_ H Q=>Q af H
def Zc(t:TE):TO:=λσ H Q=>t σ H λx a=>∃i,x=.int i/\Q (aa i) a
theorem intsAre_of:∀{a:Q0f},θ (ns.map V.int) a->jt a ns:=by
 induction ns with
 |nil=>intro a r;rw[oh] at r;cases r;show .nil
 |cons n ns ih =>
  intro a r;rw[bo] at r
  cases r with
  |cons r1 r2 =>
   obtain⟨t,e⟩:=r1;subst e;show .cons n t (ih r2)
variable{X:Cx}
section
variable{e:au}{te:TE}{lo hi:Option au}{tl th:TO}{ν p2:bb}
def aAU:PO X af aAT:=by intro π s σ H Q I h;rw[a0y];show a_ ⟨af,H,I,.none,h⟩
def aAV(h:PE X e te):PO X (aa e) (Zc te):=by intro π s σ H Q I hw;rw[evalPart_some];show eR (h π s σ H _ I hw) λu m a=>?_;obtain⟨x,l,j,d,q1⟩:=a;obtain⟨i,rfl,q⟩:=q1;obtain⟨t,rfl⟩:=d;show⟨aa i,l,j,.int i t,q⟩
def SlR(X:Cx)(r:V->Option Int->Option Int->Hp->VK->Prop):Prop :=
 ∀(π:Q0b) (s:ak) (σ:St) (H:Hp) (x:V) (v d a:ai) (lo hi:Option Int) (h:ah) (Q:VK),Φ X π σ H s->Ψ x v->s.heap.IsSliceOf h d a .none->kn d lo->kn a hi->r x lo hi H Q ->
  ∃T id,typeLookup (.type T) "__getitem__"=pure (aa (.builtin id))/\s.TypeIs v T/\av (aw X.Ω X.w) X.A (getItem v (.ref h)) (EP X π σ Q) X.xe s
def SlR.or(h:SlR X r)(h':SlR X r'):SlR X (λx lo hi H Q=>r x lo hi H Q\/r' x lo hi H Q):=by
 intro π s σ H x v d a lo hi j Q I l o n m q;rcases q with q|q
 .exact h π s σ H x v d a lo hi j Q I l o n m q
 .exact h' π s σ H x v d a lo hi j Q I l o n m q
def Kg(r:V->Option Int->Option Int->Hp->VK->Prop)(te:TE)(tl th:TO):TE:=λσ H Q=>te σ H λx h=>tl σ h λl d=>th σ d λu a=>r x l u a Q
def VN(K:SlR X r)(U:PE X e te)(L:PO X lo tl)(F:PO X hi th):PE X (.Subscript e (.Slice lo hi af p2) ν) (Kg r te tl th):=by intro π s σ H Q I h;show Ij (eR (U π s σ H _ I h) λv n ⟨x,H1,I1,o,q1⟩=>?_);show wpAny_Slice (eR (L π n σ H1 _ I1 q1) λd m ⟨l,H2,I2,z,q2⟩=>eR (F π m σ H2 _ I2 q2) λa s3 ⟨u,j,I3,y,p⟩=>?_);rw[a0y];show a_ ?_;have Z:Φ X π σ j {s3 with heap:=s3.heap.push {cls:=.type "slice",data:=.fields #[d,a,.none]} }:=I3.kept (t':=s3.toks) λb ob q=>cm _ q;obtain⟨T,id,Y,J,O⟩:=K π {s3 with heap:=s3.heap.push {cls:=.type "slice",data:=.fields #[d,a,.none]} } σ j x v d a l u s3.heap.objs.size Q Z o (a2Y ..) z y p;show av (aw X.Ω X.w) X.A (subscriptTail e (.Slice lo hi af p2) v (.ref s3.heap.objs.size)) (EP X π σ Q) X.xe {s3 with heap:=s3.heap.push {cls:=.type "slice",data:=.fields #[d,a,.none]} };show tail_any (ops:=[.ref s3.heap.objs.size,v]) J Y O (by with_unfolding_all rfl)
def GY(xs:List V)(lo hi:Option Int):List V:=(xs.drop (HT.iP xs.length 0 lo)).take (HT.iP xs.length xs.length hi-HT.iP xs.length 0 lo)
def vK(xs:List V)(lo hi:Option Int):(GY xs lo hi).length<=xs.length:=by unfold GY;rw[kj,wb];lia
def Tn(K:ao):V->Option Int->Option Int->Hp->VK->Prop:=λx lo hi H Q=>∃a xs,x=.ref a/\fJ K H a xs /\
 ¬ (HT.iP xs.length 0 lo=0/\HT.iP xs.length xs.length hi=xs.length) /\∀p,H p=af->Q (.ref p) (upd H p (.tup (GY xs lo hi)))
def aDd:SlR X (Tn X.K):=by
 intro π s σ H x v F A lo hi J Q I m z p n h;obtain⟨a,xs,rfl,y,hw,q⟩:=h;cases m;obtain⟨l,r,j,d⟩:=I.tuple y;have hlen:l.toArray.size=xs.length:=by rw[bw];show r.length.symm
 show⟨"tuple",_,p_.lookup,j.typeIs,?_⟩;show HT.sR j z p n (by rw[hlen];show hw) ?_ (by rw[hlen];show d);rw[hlen];show⟨.ref s.heap.objs.size,_,I.laid (t':=s.toks) (o:=.tup (GY xs lo hi)) (λb L q=>cm _ q) (bj _) ?_,rfl,q _ (I.hok.fresh (bj _))⟩;show⟨f_ (vK xs lo hi) d,_,(r.drop (HT.iP xs.length 0 lo)).take (HT.iP xs.length xs.length hi-HT.iP xs.length 0 lo),Ik _ _,DX.new _ _⟩
def Zb(K:ao):R2:=λx y H Q=>∃a b xs ys,x=.ref a/\y=.ref b/\fJ K H a xs/\fJ K H b ys/\xs≠[]/\xs.length+ys.length<=bc /\
 (ys=[]->Q (.ref a) H)/\(ys≠[] ->∀p,H p=af->Q (.ref p) (upd H p (.tup (xs++ys))))
theorem θ.ED(r:θ xs us):us=[]↔xs=[]:=by
 cases r with
 |nil=>simp
 |cons _ _=>simp
def aAW:j6 X (binaryOp .Add) (Zb X.K):=by intro π s σ H x y v u Q I p n h;obtain⟨a,b,xs,ys,rfl,rfl,J,F,A,m,q1,q2⟩:=h;cases p;cases n;obtain⟨L,j,p1,_⟩:=I.tuple J;obtain⟨l,d,p2,_⟩:=I.tuple F;show HT.aAS p1 p2 (λz=>A (j.ED.mp z)) (λz=>⟨.ref a,H,I,rfl,q1 (d.ED.mp z)⟩) (λz=>?_) (by rw[<- j.length,<- d.length];show m);show⟨.ref s.heap.objs.size,_,I.laid (t':=s.toks) (o:=.tup (xs++ys)) (λb O q=>cm _ q) (bj _) ?_,rfl,q2 (λw=>z (d.ED.mpr w)) _ (I.hok.fresh (bj _))⟩;show⟨by rw[cy];show m,_,j.append d,Ik _ _,DX.new _ _⟩
end
def P5(n:Nat)(i:Int):Option Nat:=if 0<=i then(if i<n then aa i.toNat else af) else if -(n:Int)<=i then aa (i+n).toNat else af
def wB{α:Type}(xs:List α)(i:Int):Option α:=(P5 xs.length i).bind λj=>xs[j]?
def EE(h:P5 n i=aa j):seqIndex? i n=aa j/\j<n /\ -(n:Int)<=i/\i<n:=by
 unfold P5 at h;by_cases d:0<=i
 .rw [Z_ d] at h;by_cases a:i<n
  .rw [Z_ a] at h;have e:i.toNat=j:=cx h;show⟨by rw[Gz d a,e],by lia,by lia,a⟩
  .rw [Zz a] at h;cases h
 .rw [Zz d] at h;by_cases a:-(n:Int)<=i
  .rw [Z_ a] at h;have e:(i+n).toNat=j:=cx h;show⟨by rw[G_ ∅ a,e],by lia,a,by lia⟩
  .rw [Zz a] at h;cases h
theorem NI{α:Type}{xs:List α}{i:Int}{v:α}(h:wB xs i=aa v):∃j,seqIndex? i xs.length=aa j/\xs[j]?=aa v/\j<xs.length /\ -(xs.length:Int)<=i/\i<xs.length:=by
 unfold wB at h
 cases e:P5 xs.length i with
 |none=>rw[e] at h;cases h
 |some j =>
  rw[e] at h;obtain⟨l,h2,d,a⟩:=EE e;show⟨j,l,h,h2,d,a⟩
def EG(b:au):Prop:=∀o i,subscripted b ag o i=operate [o,i] (getItem o i)
def IxR(X:Cx)(r:R2):Prop :=
 ∀(value slice:au) (π:Q0b) (s:ak) (σ:St) (H:Hp) (x y:V) (v u:ai) (Q:VK),Φ X π σ H s->Ψ x v->Ψ y u->r x y H Q ->
  subscripted slice ag v u=operate [v,u] (getItem v u)->av (aw X.Ω X.w) X.A (subscriptTail value slice v u) (EP X π σ Q) X.xe s
def MtR(X:Cx)(id:String)(r:V->List V->Hp->VK->Prop):Prop :=
 ∀(π:Q0b) (s:ak) (σ:St) (H:Hp) (x:V) (xs:List V) (v:ai) (a:Q0f) (Q:VK),Φ X π σ H s->Ψ x v->θ xs a->r x xs H Q ->
  av (aw X.Ω X.w) X.A (call (.builtin id) (v::a)) (EP X π σ Q) X.xe s
section
variable{a b:au}{ta tb:TE}{ν:bb}
def IxR.or(h:IxR X r)(h':IxR X r'):IxR X (λx y H Q=>r x y H Q\/r' x y H Q):=by
 intro value slice π s σ H x y v u Q I j d q l;rcases q with q|q
 .exact h value slice π s σ H x y v u Q I j d q l
 .exact h' value slice π s σ H x y v u Q I j d q l
def Za(n:IxR X r)(p:PE X a ta)(o:PE X b tb)(m:EG b):PE X (.Subscript a b ν) (qk r ta tb):=by intro π s σ H Q I h;show Ij (yf p o I h λv u d x y A z l j q=>n a b π d σ A x y v u Q z l j q (m _ _))
def Dh(K:ao):R2:=λx y H Q=>∃p xs i v,x=.ref p/\y=.int i/\eZ K H p xs/\wB xs i=aa v/\Q v H
def Dg(K:ao):R2:=λx y H Q=>∃p xs i v,x=.ref p/\y=.int i/\fJ K H p xs/\wB xs i=aa v/\Q v H
def aAX:IxR X (Dh X.K):=by
 intro value slice π s σ H x y v u Q I L J h n;obtain⟨p,xs,i,z,rfl,rfl,O,Y,q⟩:=h;cases L;obtain⟨t,rfl⟩:=J;obtain⟨F,r,l,hz⟩:=I.list O;obtain⟨j,d,h2,h3,h4,Z⟩:=NI Y;obtain⟨w,A,GZ⟩:=r.get h2;have U:=r.length;have hn:=zF;have fin:EP X π σ Q w s:=⟨z,H,I,GZ,q⟩;by_cases o:0<=i
 .have m:i.toNat=j:=by rw[Gz o Z] at d;show cx d
  show item_listR l.isList o ∅ (by rw[m];simpa using A) fin n
 .have m:(i+(F.toArray.size:Int)).toNat=j:=by rw[G_ ∅ h4] at d;rw[bw,<- U];show cx d
  show a1v (x:=w) l.isList.typeIs a0s.lookup
   (wpAny_getItem_list_neg (Q:=λr s'=>r=w/\EP X π σ Q r s') l.isList ∅ (by rw[bw]<;>lia) ∅ (by rw[m];simpa using A) ⟨rfl,fin⟩) n
def aDf:IxR X (Dg X.K):=by
 intro value slice π s σ H x y v u Q I m l h n;obtain⟨p,xs,i,z,rfl,rfl,o,F,q⟩:=h;cases m;obtain⟨t,rfl⟩:=l;obtain⟨U,r,d,Y⟩:=I.tuple o;obtain⟨j,J,h2,h3,h4,h5⟩:=NI F;obtain⟨w,L,O⟩:=r.get h2;have A:=r.length;have Z:=zF;have fin:EP X π σ Q w s:=⟨z,H,I,O,q⟩;show a1v (x:=w) d.typeIs p_.lookup
  (getItem_tuple (j:=j) (Q:=λr s'=>r=w/\EP X π σ Q r s') d ∅ ∅ (by rw[bw,<- A];show J) (by simpa using L) ⟨rfl,fin⟩) n
def KC(d:Q0f)(n j:Nat)(u:ai):fm (·.setIfInBounds j u) {cls:=.type "list",data:=.seq d.toArray n}={cls:=.type "list",data:=.seq (d.set j u).toArray n}:=by simp[fm]
theorem Φ.lst{π:Q0b}{σ:St}{H:Hp}{s:ak}{p:ah}{xs:List V}(I:Φ X π σ H s)(h:H p=aa (.lst xs)):
  ∃(d:Q0f) (n:Nat),θ xs d/\s.heap.get? p=aa {cls:=.type "list",data:=.seq d.toArray n}/\xs.length<=bc:=by
 obtain⟨z,d,n,r,e⟩:=I.hok p _ h;show⟨d,n,r,e,z⟩
theorem Φ.aDg{π:Q0b}{σ:St}{H:Hp}{s:ak}{p:ah}{xs ys:List V}{j its':Q0f}{n d:Nat}{f:ax->ax}(I:Φ X π σ H s)(h:H p=aa (.lst xs))
  (ho:s.heap.get? p=aa {cls:=.type "list",data:=.seq j.toArray n}) (l:f {cls:=.type "list",data:=.seq j.toArray n}={cls:=.type "list",data:=.seq its'.toArray d }) (r:θ ys its') (m:ys.length<=bc) (t:Nat):
  Φ X π σ (upd H p (.lst ys)) {s with heap:=s.heap.update p f,toks:=t}:=by
 have e:(s.heap.update p f).get? p=aa {cls:=.type "list",data:=.seq its'.toArray d }:=by rw[Ad f ho (by rw[l]<;>rfl),l]
 show I.write (x:=p) (e:=p) (by rw[h];trivial) (.inl rfl) (λb u o q=>(Ho _ _ (d_ o)).trans q) ⟨_,e⟩ ?_;show⟨m,its',d,r,e⟩
def Y_:V->V->V->Hp->(Hp->Prop)->Prop:=λo i v H Q=>∃p xs k j,o=.ref p/\i=.int k/\H p=aa (.lst xs)/\P5 xs.length k=aa j/\Q (upd H p (.lst (xs.set j v)))
def set_list:Dq X Y_:=by
 intro π s σ H o i v U Y u Q I ro ri K h;obtain⟨p,xs,k,j,rfl,rfl,y,O,q⟩:=h;cases ro;obtain⟨t,rfl⟩:=ri;obtain⟨x,n,r,ho,L⟩:=I.lst y;obtain⟨d,h2,A,z⟩:=EE O;have l:=r.length;have Z:=zF;have J:Φ X π σ (upd H p (.lst (xs.set j v))) {s with heap:=s.heap.update p (fm (·.setIfInBounds j u))} :=
  I.aDg y ho (KC x n j u) (r.set K j) (by rw[dm];show L) s.toks
 by_cases F:0<=k
 .have m:k.toNat=j:=by rw[Gz F z] at d;show cx d
  show PySem.W.ki_setAt ho F ∅ (by rw[bw,<- l];show z) (by rw[m];show⟨_,J,q⟩)
 .have m:(k+(x.toArray.size:Int)).toNat=j:=by rw[G_ ∅ A] at d;rw[bw,<- l];show cx d
  show PySem.W.ki_setBack ho ∅ (by rw[bw,<- l];show A) ∅ (by rw[m];show⟨_,J,q⟩)
def EH(lo hi:Option Int)(n:Nat):(sliceBounds lo hi af n).1=((HT.iP n 0 lo:Nat):Int)/\(sliceBounds lo hi af n).2.1=((HT.iP n n hi:Nat):Int)/\(sliceBounds lo hi af n).2.2=1:=by
 show⟨?_,?_,rfl⟩
 .cases lo with
  |none=>simp[sliceBounds,HT.iP]
  |some i =>
   simp only[sliceBounds,HT.iP,a1I,show(1:Int)>0 by decide,if_true];by_cases h:i<0
   .simp only[h,if_true]<;>lia
   .simp only[h,if_false]<;>lia
 .cases hi with
  |none=>simp[sliceBounds,HT.iP]
  |some i =>
   simp only[sliceBounds,HT.iP,a1I,show(1:Int)>0 by decide,if_true];by_cases h:i<0
   .simp only[h,if_true]<;>lia
   .simp only[h,if_false]<;>lia
def AX(d:Q0f)(lo hi:Option Int):slicePick d.toArray lo hi af=((d.drop (HT.iP d.length 0 lo)).take (HT.iP d.length d.length hi-HT.iP d.length 0 lo)).toArray:=by obtain⟨j,h2,h⟩:=EH lo hi d.toArray.size;unfold slicePick;rw[j,h2,h];simp only[sliceRange_one,pick_run,bw]<;>rfl
def Tj(K:ao):V->Option Int->Option Int->Hp->VK->Prop:=λx lo hi H Q=>∃a xs,x=.ref a/\eZ K H a xs /\∀p,H p=af->Q (.ref p) (upd H p (.lst (GY xs lo hi)))
theorem aAY:SlR X (Tj X.K):=by intro π s σ H x v F A lo hi J Q I j y m l h;obtain⟨a,xs,rfl,p,q⟩:=h;cases j;obtain⟨z,r,d,n⟩:=I.list p;have hlen:=r.length;show⟨"list",_,a0s.lookup,d.isList.typeIs,?_⟩;show wpAny_getItem_list_slice d.isList y m l .none (by simp) ?_ (by rw[bw]<;>lia);rw[AX,<- hlen];show⟨.ref s.heap.objs.size,_,I.laid (t':=s.toks) (o:=.lst (GY xs lo hi)) (λb L q=>cm _ q) (bj _) ?_,rfl,q _ (I.hok.fresh (bj _))⟩;show⟨f_ (vK xs lo hi) n,_,0,(r.drop (HT.iP xs.length 0 lo)).take (HT.iP xs.length xs.length hi-HT.iP xs.length 0 lo),dg _ rfl⟩
noncomputable def sS:V->Bool
 |.non=>ae
 |.bl _=>ae
 |.int _=>ae
 |.str _=>ae
 |_=>ag
noncomputable def eqV:V->V->Bool
 |.non,.non=>ae
 |.bl a,.bl b=>a == b
 |.bl a,.int b=>(if a then 1 else 0) == b
 |.int a,.bl b=>a == (if b then 1 else 0)
 |.int a,.int b=>a == b
 |.str a,.str b=>a == b
 |_,_=>ag
theorem aDh(h:Ψ y u)(d:Ψ x v)(l:sS y=ae)(j:sS x=ae):Hm A s u v (eqV y x):=by
 cases y with
 |non =>
  cases h
  cases x with
  |non=>cases d;show a0X _
  |bl b=>cases d;show a2N b
  |int b=>obtain⟨t,rfl⟩:=d;show a2M b t
  |str b=>obtain⟨t,rfl⟩:=d;show a2L b t
  |_=>show Zw (show ag=ae from j) bt
 |bl a =>
  cases h
  cases x with
  |non=>cases d;show a2T a
  |bl b=>cases d;show a0Z a b
  |int b=>obtain⟨t,rfl⟩:=d;show a2U a b t
  |str b=>obtain⟨t,rfl⟩:=d;show a2S a b t
  |_=>show Zw (show ag=ae from j) bt
 |int a =>
  obtain⟨t',rfl⟩:=h
  cases x with
  |non=>cases d;show a2P a t'
  |bl b=>cases d;show a2R a t' b
  |int b=>obtain⟨t,rfl⟩:=d;show a2Q a t' b t
  |str b=>obtain⟨t,rfl⟩:=d;show a0Y a t' b t
  |_=>show Zw (show ag=ae from j) bt
 |str a =>
  obtain⟨t',rfl⟩:=h
  cases x with
  |non=>cases d;show a2J a t'
  |bl b=>cases d;show a2K a t' b
  |int b=>obtain⟨t,rfl⟩:=d;show a0W a t' b t
  |str b=>obtain⟨t,rfl⟩:=d;show a2I a t' b t
  |_=>show Zw (show ag=ae from j) bt
 |_=>show Zw (show ag=ae from l) bt
def KG(x:V)(u:ai):Bool:=match u with
 |.none=>eqV .non x
 |.bool b=>eqV (.bl b) x
 |.int i _=>eqV (.int i) x
 |.str z _=>eqV (.str z) x
 |_=>ag
theorem VO(r:Ψ y u)(f:sS y=ae):KG x u=eqV y x:=by
 cases y with
 |non=>cases r;rfl
 |bl b=>cases r;rfl
 |int i=>obtain⟨t,rfl⟩:=r;rfl
 |str z=>obtain⟨t,rfl⟩:=r;rfl
 |_=>show Zw (show ag=ae from f) bt
theorem sU:∀{xs:List V} {d:Q0f},θ xs d->xs.all sS=ae->d.any (KG x)=xs.any λy=>eqV y x
 |_,_,.nil,_=>rfl
 |y::xs,u::d,.cons r t,f=>by rw[mj,gy] at f;rw[mh,mh,VO r f.1,sU t f.2]
theorem oW(j:Ψ x v)(l:sS x=ae):∀{xs:List V} {h:Q0f},θ xs h->xs.all sS=ae ->∀u∈h,Hm A s u v (KG x u)
 |_,_,.nil,_=>λu d=>by cases d
 |y::xs,u::h,.cons r t,f=>λm d=>by
  rw[mj,gy] at f;rcases bh.mp d with rfl|d
  .rw [VO r f.1];show aDh r j f.1 l
  .exact oW j l t f.2 m d
def inV(x:V)(xs:List V):Bool:=xs.any λy=>eqV y x
def w_(K:ao)(neg:Bool):R2:=λx y H Q=>∃p xs,y=.ref p/\(eZ K H p xs\/fJ K H p xs)/\sS x=ae/\xs.all sS=ae/\Q (.bl (if neg then !inV x xs else inV x xs)) H
def P6:j6 X (compareOp .In) (w_ X.K ag):=by
 intro π s σ H x y v u Q I m o h;obtain⟨p,xs,rfl,j,n,fs,q⟩:=h;cases o;rcases j with j|j
 .obtain ⟨d,r,l,z⟩:=I.list j;show SeqAt.in_listAt (KG x) l.isList (λw hw=>oW m n r fs w (by simpa using hw)) ⟨.bl _,H,I,rfl,?_⟩;rw[show d.toArray.any (KG x)=d.any (KG x) by simp,sU r fs];show q
 .obtain ⟨d,r,l,z⟩:=I.tuple j;show SeqAt.in_tupleAt (KG x) l (λw hw=>oW m n r fs w (by simpa using hw)) ⟨.bl _,H,I,rfl,?_⟩;rw[show d.toArray.any (KG x)=d.any (KG x) by simp,sU r fs];show q
def EI:j6 X (compareOp .NotIn) (w_ X.K ae):=by
 intro π s σ H x y v u Q I m o h;obtain⟨p,xs,rfl,j,n,fs,q⟩:=h;cases o;rcases j with j|j
 .obtain ⟨d,r,l,z⟩:=I.list j;show SeqAt.notIn_listAt (KG x) l.isList (λw hw=>oW m n r fs w (by simpa using hw)) ⟨.bl _,H,I,rfl,?_⟩;rw[show d.toArray.any (KG x)=d.any (KG x) by simp,sU r fs];show q
 .obtain ⟨d,r,l,z⟩:=I.tuple j;show SeqAt.notIn_tupleAt (KG x) l (λw hw=>oW m n r fs w (by simpa using hw)) ⟨.bl _,H,I,rfl,?_⟩;rw[show d.toArray.any (KG x)=d.any (KG x) by simp,sU r fs];show q
def EJ:gD X (.builtin "len") (λxs H Q=>∃p ys,xs=[.ref p]/\(eZ X.K H p ys\/fJ X.K H p ys)/\Q (.int ys.length) H):=by
 intro π s σ H xs v Q I r h;obtain⟨p,ys,rfl,d,q⟩:=h;obtain⟨u,rfl,n⟩:=vals1 r;cases n;have x:=zF;rcases d with d|d
 .obtain ⟨m,j,l,o⟩:=I.list d;have hlen:=j.length;show Calls.call_len_list l.isList (by simp only[bw]<;>lia) ⟨.int ys.length,H,I.tok _,⟨s.toks+1,by rw[bw,hlen]⟩,q⟩
 .obtain ⟨m,j,l,o⟩:=I.tuple d;have hlen:=j.length;show len_tuple l (by simp only[bw]<;>lia) ⟨.int ys.length,H,I.tok _,⟨s.toks+1,by rw[bw,hlen]⟩,q⟩
def EK:gD X (.type "list") (λxs H Q=>∃p ys,xs=[.ref p]/\(eZ X.K H p ys\/fJ X.K H p ys) /\∀l,H l=af->Q (.ref l) (upd H l (.lst ys))):=by
 intro π s σ H xs O Q I r h;obtain⟨p,ys,rfl,y,q⟩:=h;obtain⟨u,rfl,L⟩:=vals1 r;cases L;have fin:∀(d:Q0f),θ ys d->ys.length<=bc ->∀(h':ay) (m:Nat),(∀b J,s.heap.get? b=aa J->h'.get? b=aa J) ->
   h'.get? s.heap.objs.size=aa {cls:=.type "list",dict:=af,data:=.seq d.toArray m,slots:=#[]}->EP X π σ Q (.ref s.heap.objs.size) {s with heap:=h' }:=λd j x h' m v e =>
  ⟨.ref s.heap.objs.size,_,I.laid (t':=s.toks) v (bj _) (show dN X.Ω X.w _ h' _ (.lst ys) from⟨x,d,m,j,e⟩),rfl,q _ (I.hok.fresh (bj _))⟩
 rcases y with y|y
 .obtain ⟨d,j,z,x⟩:=I.list y;have hlen:=j.length;obtain⟨o,ho,F,n,A⟩:=z.isList;show a0D p (.inl rfl) ho F A (λh' m v e=>fin d j x h' m v e) (by simp only[bw]<;>lia)
 .obtain ⟨d,j,z,x⟩:=I.tuple y;have hlen:=j.length;obtain⟨o,ho,F,n,A⟩:=z;show a0D p (.inr rfl) ho F A (λh' m v e=>fin d j x h' m v e) (by simp only[bw]<;>lia)
theorem AZ:gD X (.type "tuple") (λxs H Q=>∃p ys,xs=[.ref p]/\((eZ X.K H p ys /\∀l,H l=af->Q (.ref l) (upd H l (.tup ys)))\/(fJ X.K H p ys/\Q (.ref p) H))):=by
 intro π s σ H xs F Q I r h;obtain⟨p,ys,rfl,h⟩:=h;obtain⟨u,rfl,y⟩:=vals1 r;cases y;rcases h with⟨n,q⟩|⟨n,q⟩
 .obtain ⟨d,j,m,v⟩:=I.list n;have hlen:=j.length;show call_tuple_list m.isList (λh' z=>?_) (by simp only[bw]<;>lia);have x:Φ X π σ H {s with heap:=h' }:=I.kept (t':=s.toks) z;have A:Φ X π σ (upd H h'.objs.size (.tup ys)) {s with heap:=h'.push {cls:=.type "tuple",data:=.seq d.toArray} } :=
   x.laid (t':=s.toks) (λb o e=>cm _ e) (bj _) (show dN X.Ω X.w _ _ _ (.tup ys) from⟨v,d,j,Ik _ _,DX.new _ _⟩)
  show⟨.ref h'.objs.size,_,A,rfl,q _ (x.hok.fresh (bj _))⟩
 .obtain ⟨d,j,m,v⟩:=I.tuple n;show call_tuple_same m ⟨.ref p,H,I,rfl,q⟩
def tyV(K:ao)(T:String)(x:V)(H:Hp):Prop:=match x with
 |.str _=>T="str"
 |.int _=>T="int"
 |.ref p=>(T="list" /\∃xs,eZ K H p xs)\/(T="tuple" /\∃o,K.lookup p=aa o/\o.cls=.type "tuple" /\o.dict=af) \/
   (T="dict" /\((∃χ,H p=aa (.dK χ)) \/∃χ,H p=aa (.dT χ)))\/(T="set" /\∃S n,H p=aa (.set S n))\/(T="tuple" /\∃xs,H p=aa (.tup xs))
 |_=>False
theorem aDi(I:Φ X π σ H s)(r:Ψ x v)(ty:tyV X.K T x H):
  s.TypeIs v T /\∀a,v=.ref a ->∃m,s.heap.get? a=aa m/\m.dict=af:=by
 cases x with
 |str z =>
  obtain⟨t,rfl⟩:=r;cases (show T="str" from ty);show⟨typeIs_str s z t,λ_ e=>nomatch e⟩
 |int i =>
  obtain⟨t,rfl⟩:=r;cases (show T="int" from ty);show⟨Gx s i t,λ_ e=>nomatch e⟩
 |ref p =>
  cases r;rcases ty with⟨rfl,xs,q⟩|⟨rfl,o,d,y,j⟩|⟨rfl,d⟩|⟨rfl,S,n,d⟩|⟨rfl,xs,d⟩
  .obtain ⟨A,_,l,_⟩:=I.list q;show⟨l.isList.typeIs,λa e=>?_⟩;cases e;obtain⟨o,n,e,c,j,_⟩:=l;show⟨o,e,j⟩
  .refine ⟨⟨o,I.w8 p o d,y⟩,λa e=>?_⟩;cases e;show⟨o,I.w8 _ o d,j⟩
  .have z:∃o,s.heap.get? p=aa o/\o.ExactDict:=by
    rcases d with⟨χ,d⟩|⟨χ,d⟩
    .obtain ⟨_,_,_,_,o,_,_,e,ex,_⟩:=I.hok p _ d;show⟨o,e,ex⟩
    .obtain ⟨_,_,_,_,o,_,_,e,ex,_⟩:=I.hok p _ d;show⟨o,e,ex⟩
   obtain⟨o,e,ex⟩:=z;show⟨⟨o,e,ex.1⟩,λa h=>?_⟩;cases h;show⟨o,e,ex.2.1⟩
  .obtain ⟨o,_,_,_,e,ex,_⟩:=I.hok p _ d;show⟨⟨o,e,ex.1⟩,λa h=>?_⟩;cases h;show⟨o,e,ex.2.1⟩
  .obtain ⟨_,_,_,⟨o,e,c,_⟩,nd⟩:=I.hok p _ d;show⟨⟨o,e,c⟩,λa h=>?_⟩;cases h;show⟨o,e,nd _ e⟩
 |_=>show jo ty
def Bk(K:ao)(T:String)(r:V->List V->Hp->VK->Prop)(h:TE)(t:TA):TE:=λσ H Q=>h σ H λx d=>tyV K T x d/\t σ d λxs j=>r x xs j Q
variable{o e:au}{es:List au}{to:TE}{t:TA}{name:aj}{apos cpos:bb}{T id:String}{r:V->List V->Hp->VK->Prop}
theorem NJ(O:PlainAttrs T)(slot:Slot T name id)(n:typeOf (.builtin id)=pure (.type "method_descriptor"))(Y:MtR X id r)(ho:PE X o to)(Z:PA X (e::es) t)
  (l:attributeBase o name X.env (eval o X.env)=eval o X.env:=by rfl)
  (m:((cu cpos (ar (e::es) X.env)).all (λx=>!x.1)&&(backToKw cpos (kb [] X.env)).all (λx=>x.1.isSome)
   && Zv ((e::es).length+([]:List fz).length+(if([]:List fz).isEmpty then 0 else 1)<30))=ae:=by rfl)
  (j:Q0k apos cpos:=by rfl) (U:Zr X e es:=by rfl) (d:Q0l X cpos es:=by rfl):
  PE X (.Call (.Attribute o name apos) (e::es) [] cpos) (Bk X.K T r to t):=by
 intro π s σ H Q I h;show wpAny_Call_method_late l m j rfl (eR (ho π s σ H _ I h) λv J ⟨x,H1,z,q,ty,q1⟩=>?_);obtain⟨h1,h2⟩:=aDi z q ty;show⟨T,id,O,slot,n,h1,h2,?_⟩;have y:=Z cpos π J σ H1 _ z q1;rw[U] at y ⊢;show Calls.callWith_builtin (by show(ag||(cu cpos (ar es X.env)).any (·.1))=ag;rw[d]<;>rfl) (a1m ?_);show eR y λA F p=>by obtain⟨vs,H2,I2,L,q2⟩:=p;show Y π F σ H2 x vs v A Q I2 q L q2
end
def MtM(X:Cx)(id:String)(r:V->List V->Hp->VK->Prop):Prop :=
 ∀(π:Q0b) (s:ak) (σ:St) (H:Hp) (x:V) (xs:List V) (v:ai) (a:Q0f) (Q:VK),Φ X π σ H s->Ψ x v->θ xs a->r x xs H Q ->
  av (aw X.Ω X.w) X.A (call (.builtin id) (v::a)) (EP X π σ Q) X.xe s
theorem θ.one:∀{x:V} {a:Q0f},θ [x] a ->∃u,a=[u]/\Ψ x u
 |_,_,.cons r .nil=>⟨_,rfl,r⟩
theorem θ.eraseIdx:∀{xs:List V} {a:Q0f} (i:Nat),θ xs a->θ (xs.eraseIdx i) (a.eraseIdx i)
 |_,_,_,.nil=>.nil
 |_,_,0,.cons _ t=>t
 |_,_,i+1,.cons r t=>.cons r (θ.eraseIdx i t)
theorem θ.rep(h:θ xs us):∀k:Nat,θ (bp k xs).flatten (bp k us).flatten
 |0=>.nil
 |k+1=>by rw[iq,iq,lp,lp];show θ.append h (θ.rep h k)
theorem CA{α:Type}:∀(l:List α) (i:Nat),(l.eraseIdx i).length<=l.length
 |[],_=>bj _
 |_::_,0=>qb _
 |_::r,i+1=>Nat.succ_le_succ (CA r i)
theorem foldl_rep(d:Q0f):∀(k:Nat) (a:Q0f),
  Ji (λj h=>j++h) a.toArray (bp k d.toArray)=(a++(bp k d).flatten).toArray
 |0,a=>by simp
 |k+1,a=>by
  have e:a.toArray++d.toArray=(a++d).toArray:=by simp
  have l:(a++d)++(bp k d).flatten=a++(bp (k+1) d).flatten:=by rw[iq,lp,om]
  rw[<- l,<- foldl_rep d k (a++d),<- e,iq,mf]
section
variable{π:Q0b}{σ:St}{H:Hp}{s:ak}{l b:ah}{xs ys zs:List V}
theorem Φ.ye{a its':Q0f}{n:Nat}{f:Array ai->Array ai}{t':Nat}(I:Φ X π σ H s)(p:H l=aa (.lst xs))
  (e:s.heap.get? l=aa {cls:=.type "list",data:=.seq a.toArray n}) (m:f a.toArray=its'.toArray) (h:θ ys its') (d:ys.length<=bc):
  Φ X π σ (upd H l (.lst ys)) {s with heap:=s.heap.update l (fm f),toks:=t' }:=by
 have q:=a2X e f;rw[m] at q;show I.write (x:=l) (e:=l) (by rw[p];show trivial) (.inl rfl) (λv u o j=>(Ho s.heap (fm f) (d_ o)).trans j) ⟨_,q⟩ ?_;show⟨d,its',_,h,q⟩
theorem Φ.De(I:Φ X π σ H s)(d:θ ys ι)(a:ys.length<=bc):
  Φ X π σ (upd H s.heap.objs.size (.lst ys)) {s with heap:=s.heap.push {cls:=.type "list",data:=.seq ι.toArray},toks:=t' } :=
 I.laid (λ_ _ q=>cm _ q) (bj _) ⟨a,ι,0,d,dg _ rfl⟩
def Φ.fresh(I:Φ X π σ H s):H s.heap.objs.size=af:=I.hok.fresh (bj _)
def Φ.KH(I:Φ X π σ H s)(d:H l=aa (.lst xs)):xs.length<=bc /\∃(a:Q0f) (n:Nat),θ xs a/\xs.length=a.length/\s.heap.get? l=aa {cls:=.type "list",data:=.seq a.toArray n}:=by obtain⟨z,a,n,r,e⟩:=I.hok l _ d;show⟨z,a,n,r,r.length,e⟩
def G0{n:Nat}(h:n<=bc):Am n=ag:=by unfold Am;show Zy ∅
def NK:V->List V->Hp->VK->Prop:=λx vs H Q=>∃l xs y,x=.ref l/\vs=[y]/\H l=aa (.lst xs)/\xs.length<bc/\Q .non (upd H l (.lst (xs++[y])))
def CB:MtM X "list.append" NK:=by intro π s σ H x vs v p Q I j m h;obtain⟨l,xs,y,rfl,rfl,d,A,q⟩:=h;cases j;obtain⟨u,rfl,o⟩:=m.one;obtain⟨z,a,n,r,J,e⟩:=I.KH d;show o_ a1a ⟨_,e,rfl⟩ F.entry_list_append (F.args_list_append_2 _ _) (PySem.list_append l a.toArray n u (by rw[bw];lia)) ⟨e,?_⟩;show⟨.non,_,I.ye (its':=a++[u]) d e (by simp) (r.append (.cons o .nil)) ?_,rfl,q⟩;rw[cy,A_];lia
def NL:V->List V->Hp->VK->Prop:=λx vs H Q=>∃l b xs zs,x=.ref l/\vs=[.ref b]/\H l=aa (.lst xs)/\H b=aa (.lst zs)/\xs.length+zs.length<=bc/\Q .non (upd H l (.lst (xs++zs)))
def P7:MtM X "list.extend" NL:=by
 intro π s σ H x vs v Y Q I m o h;obtain⟨l,b,xs,zs,rfl,rfl,j,K,Z,q⟩:=h;cases m;obtain⟨u,rfl,p⟩:=o.one;cases p;obtain⟨z,d,n,r,hl,e⟩:=I.KH j;obtain⟨U,a,A,y,J,L⟩:=I.KH K;have hsz:d.toArray.size+a.toArray.size<=bc:=by rw[bw,bw];lia
 have O:¬ (!d.toArray.isEmpty&&Am (d.toArray.size+a.toArray.size))=ae:=by rw[G0 hsz,a2A];show bt
 show o_ a08 ⟨_,e,rfl⟩ F.entry_list_extend (F.args_list_extend_2 _ _)
  (a3t l d.toArray n b a.toArray A O (by rw[bw];lia) ∅) ⟨e,L,?_⟩
 show⟨.non,_,I.ye (its':=d++a) j e (by simp) (r.append y) ?_,rfl,q⟩;rw[cy];lia
def VQ:V->List V->Hp->VK->Prop:=λx vs H Q=>∃l xs i k y,x=.ref l/\vs=[.int i]/\H l=aa (.lst xs) /\ -(2^63)<=i/\i<2^63/\seqIndex? i xs.length=aa k/\xs[k]?=aa y/\Q y (upd H l (.lst (xs.eraseIdx k)))
def VR:MtM X "list.pop" VQ:=by
 intro π s σ H x vs v O Q I j m h;obtain⟨l,xs,i,k,y,rfl,rfl,d,K,h2,J,p,q⟩:=h;cases j;obtain⟨u,rfl,o⟩:=m.one;obtain⟨t,rfl⟩:=o;obtain⟨z,a,n,r,A,e⟩:=I.KH d;obtain⟨w,hw,L⟩:=r.get p;show o_ a06 ⟨_,e,rfl⟩ F.entry_list_pop (F.args_list_pop_2 _ _)
  (a2W l a.toArray n i t k w (a0x K h2) (by rw[bw,<- A];show J) (by rw[<- Array.getElem?_toList];show hw) (by rw[bw];lia)) ⟨e,?_⟩
 show⟨y,_,I.ye (its':=a.eraseIdx k) d e ?_ (r.eraseIdx k) ?_,L,q⟩
 .show a.toArray.eraseIdxIfInBounds k=(a.eraseIdx k).toArray;rw[List.eraseIdxIfInBounds_toArray]
 .have:=CA xs k;lia
def Dc:R2:=λx y H Q=>∃l b xs zs,x=.ref l/\y=.ref b/\H l=aa (.lst xs)/\H b=aa (.lst zs)/\xs.length+zs.length<=bc /\∀p,H p=af->Q (.ref p) (upd H p (.lst (xs++zs)))
def VS:j6 X (binaryOp .Add) Dc:=by
 intro π s σ H x y v u Q I m j h;obtain⟨l,b,xs,zs,rfl,rfl,A,F,U,q⟩:=h;cases m;cases j;obtain⟨z,d,n,r,Y,e⟩:=I.KH A;obtain⟨L,a,O,o,p,K⟩:=I.KH F;show PySem.P.add_list e K ?_ (by rw[bw,bw];lia);have J:d.toArray++a.toArray=(d++a).toArray:=by simp
 rw[J];show⟨.ref _,_,I.De (t':=s.toks) (r.append o) (by rw[cy];lia),rfl,q _ I.fresh⟩
def S0:R2:=λx y H Q=>∃l k xs,x=.ref l/\y=.int k/\H l=aa (.lst xs) /\ -(2^63)<=k/\k<2^63/\xs.length*k.toNat<=bc /\
 ∀p,H p=af->Q (.ref p) (upd H p (.lst (bp k.toNat xs).flatten))
theorem len_rep{α:Type}(xs:List α)(k:Nat):(bp k xs).flatten.length=k*xs.length:=by
 induction k with
 |zero=>simp
 |succ k ih=>rw[iq,lp,cy,ih,As,Nat.add_comm]
def aDk:j6 X (binaryOp .Mult) S0:=by
 intro π s σ H x y v u Q I O L h;obtain⟨l,k,xs,rfl,rfl,Z,h1,h2,K,q⟩:=h;cases O;obtain⟨t,rfl⟩:=L;obtain⟨z,d,n,r,Y,e⟩:=I.KH Z;have hlen:d.toArray.size*k.toNat<=bc:=by rw[bw,<- Y];show K
 have p:¬ d.toArray.size*k.toNat>(2^63-1)/8:=by
  have:(bc:Nat)<=(2^63-1)/8:=by decide
  lia
 have o:¬ (!Builtin.List.listFitsIndex k)=ae:=by rw[a0x h1 h2];show bt
 have VP:¬ Am (d.toArray.size*k.toNat)=ae:=by rw[G0 hlen];show bt
 have j:Ji (λJ A=>J++A) #[] (bp (if d.toArray.isEmpty=ae then 0 else k.toNat) d.toArray)=(bp k.toNat d).flatten.toArray:=by
  have f0:∀m:Nat,Ji (λJ A=>J++A) #[] (bp m d.toArray)=(bp m d).flatten.toArray:=λm=>by have:=foldl_rep d m [];rw[la] at this;show this
  rw[f0]
  cases d with
  |nil=>simp
  |cons a r'=>rw[Zz (by simp)]
 show wpAny_binaryOp_repeat_ref (T:="list") (U:="int") (by decide) ⟨_,e,rfl⟩ (λs'=>Gx s' k t) noFill_list_mul F.fills_int_mul a1b repeat_list F.slot_int_index.lookup
  (o_ a1b (Gx s k t) F.entry_int_rmul (F.args_int_rmul_2 _ _) (int___rmul___int_list k t l d.toArray n)
   ⟨e,rfl,⟨_,e,rfl⟩,o_ F.slot_list_mul ⟨_,e,rfl⟩ F.entry_list_mul (F.args_list_mul_2 _ _) (a3u l d.toArray n k t o p VP) ⟨e,?_⟩⟩)
 rw[j];show⟨.ref _,_,I.De (t':=s.toks) (r.rep k.toNat) (by rw[len_rep,Nat.mul_comm];show K),rfl,q _ I.fresh⟩
end
section
variable{Ω:bf}{w:ba}{A:bq}{E:Q0c}{s:ak}
set_option maxRecDepth 100000 in
end
end L2
namespace Att
open PySem.W PySem.Calls PyProof.Rows
theorem wD:∀(ns:Q0e) (vs:Q0f),WellAll P h vs (ns.map a0O)->jt vs ns:=by
 intro ns
 induction ns with
 |nil =>
  intro vs w;rw[oh] at w;cases w;show .nil
 |cons n ns ih =>
  intro vs w;rw[bo] at w
  cases w with
  |cons a b =>
   cases a;show .cons _ _ (ih _ b)
theorem P8{l:qw}{n:Nat}(z:l.most=aa n){P:Params}{h:ay}{args:List WData}{vals:Q0f}
  (j:l.row.toRowW.claim.pre args=ae) (p:WellAll P h vals args):
  ∃a vs ns,vals=[cz a]/\args=[WData.list (ns.map a0O)]/\h.get? a=aa {cls:=.type "list",data:=.seq vs.toArray}/\jt vs ns/\ns.length<=n:=by
 have v:WShape.hasAll [] args [.list .int]=ae:=(pre_splitW j).1;have x:l.pre.holds [] {args:=args}=ae:=(pre_splitW j).2;obtain⟨d,r,rfl,F,h2⟩:=hasAllW_cons v;obtain rfl:=hasAllW_nil h2;obtain⟨xs,rfl,A⟩:=hasW_list F;obtain⟨ns,rfl⟩:=items_int A;have hlen:ns.length<=n:=by
  unfold OpenLaw.pre at x;have o:(WTm.not (.lt (.lit (.int (n:Int))) (.len (.arg 0)))).holds [] {args:=[.list (ns.map .int)]}=ae:=by have o:=(holds_andW x).1;rw[z] at o;show o
  have m:=condW_of o (w_not (w_lt w_lit (w_len_list (w_arg rfl))));rw[az] at m;show Nat.le_of_not_lt λq=>?_;have y:(n:Int)<((ns.length:Nat):Int):=by lia
  first
   | (rw[Zx y] at m;show Zw m (by decide))
   | (simp at m;lia)
 cases p with
 |cons w1 w2 =>
  cases w2
  cases w1 with
  |list ho hall=>show⟨_,_,ns,rfl,rfl,ho,wD ns _ hall,hlen⟩
def P9(l:qw)(args:List WData):l.row.toRowW.claim.post args (.bool ae) args=ae :=
 postW_of (r:=l.row.toRowW) (X:=(ae == ae))
  (show a0N [] (.bool ae) .bool=ae by first|rfl|decide|simp[a0N,WShape.arms,WShape.armsAll])
  (show(WTm.eq .res (.lit (.bool ae))).value [] {args:=args,res:=aa (.bool ae),after:=args}=aa (.bool (ae == ae)) from w_eq_bool (w_res rfl) w_lit) rfl
theorem G2{l:qw}{n:Nat}{q:bf}{loose:Q0g}{I:(aj->Option ai)->ay->Prop}{YP:ba->ay->Prop}{d:DefRec}
  (L:l.most=aa n) (y:d.params.defaults=[])
  (call:∀(w:ba) (s₀ h:ak) (mg mb:Q0d) (p:ah) (o:ax) (pm cd doc:ai) (a:ah) (vs:Q0f) (ns:Q0e),
   Ground q loose [] I w s₀ mg mb h.heap->YP w h.heap ->
   h.heap.get? p=aa o->o.data=.func (docDef d.name d.params d.body d.scope pm cd doc)->h.heap.CodeRec cd d.name->mg d.name=aa (.ref p) ->
   h.heap.get? a=aa {cls:=.type "list",data:=.seq vs.toArray}->jt vs ns->ns.length<=n->h.gens=#[] ->
   ng (aw l.prog w) callerA (.call (.ref p) ⟨[.ref a],[]⟩) (λr s'=>r=.ok (.ret (.bool ae))/\OldK h.heap s'.heap/\s'.os=h.os/\kq s'.gens) h):
  Hl q loose I YP l.row.toRowW d [] (λf vs=>Hf f vs):=by
 intro w s₀ h mg mb G Y p o pm cd doc dV kV ho Z z F x X args vals as j A J v U;obtain rfl:dV=.none:=Dflts.none F y;obtain rfl:kV=.none:=Dflts.noKw F;obtain⟨a,vs,ns,rfl,rfl,m,hints,hlen⟩:=P8 L j v;show enter_call (Hd (call w s₀ h mg mb p o pm cd doc a vs ns G Y ho (fd_plain Z) z x m hints hlen X) λr s' K=>?_);obtain⟨rfl,h2,h3,h4⟩:=K;show⟨.inl ⟨.bool ae,.bool ae,[],rfl,λ_=>rfl,.bool ae,P9 l _,λ_=>⟨Jq,λ_ O=>(nomatch O)⟩⟩,h2,h3,h4⟩
section
variable{Ω:bf}{w:ba}{A:bq}{E:Q0c}{s:ak}{K:ao}
def zH(h:ay):ay:={h with objs:=#[]}
theorem rG(h:ay)(b:ah):(zH h).get? b=af:=by
 cases e:(zH h).get? b with
 |none=>rfl
 |some o=>show Zw (br e) (Nat.not_lt_zero _)
def ledger(h:ay)(L d:ah):List (ah×ax):=(b_ h.objs.size).filterMap λa=>if a=L\/a=d then af else(h.get? a).map λo=>(a,o)
def jM:(a,o)∈ledger h L d↔a≠L/\a≠d/\h.get? a=aa o:=by
 unfold ledger;rw[qc]
 constructor
 .rintro ⟨b,_,e⟩;split at e
  .cases e
  .rename_i hb;obtain⟨n,ho,m⟩:=ip.mp e;cases m;show⟨λq=>hb (.inl q),λq=>hb (.inr q),ho⟩
 .rintro ⟨l,j,ho⟩;show⟨a,og.mpr (br ho),?_⟩;rw[Zz (show ¬ (a=L\/a=d) from λq=>q.elim l j),ho]<;>rfl
def VT(n:h.Ns L m):Fr (zH h) L h m :=
 ⟨n,λb o e=>(by rw[rG] at e;cases e),kh _⟩
end
end Att
namespace L2
open PySem.Spec PyProof.Rows
theorem p7:∀{vs:Q0f} {ns:Q0e},jt vs ns->θ (ns.map V.int) vs
 |_,_,.nil=>.nil
 |_,_,.cons n t h=>.cons ⟨t,rfl⟩ (p7 h)
def Only(H:Hp):Prop:=∀b,H b=af\/(∃o xs,H b=aa (.w4 o (.lst xs))) \/∃q,H b=aa (.M6 q)
structure TabsOk (K:ao) (q:bf):Prop where
 nd:((eJ K).map (·.2.2)).Nodup
 rc:∀t∈eJ K,∃e,(recsOf q).find? (λe=>e.name == t.1)=aa e
theorem KI{K:ao}{t:aj×ah×ah}(h:t∈eJ K):zq K t.1=aa (t.2.1,t.2.2):=by
 obtain⟨x,_,e⟩:=qc.mp h
 cases q:zq K x with
 |none=>rw[q] at e;cases e
 |some p=>rw[q] at e;cases e;show q
def KJ(K:ao)(a:ah)(u:Option HO):Hp:=λb=>if b=a then u else((eJ K).find? λt=>t.2.2 == b).map λt=>.M6 (oV t.1)
theorem QA{l:List (aj×ah×ah)}(nd:(l.map (·.2.2)).Nodup){t:aj×ah×ah}(h:t∈l):l.find? (λu=>u.2.2 == t.2.2)=aa t:=by
 induction l with
 |nil=>cases h
 |cons u l ih =>
  rw[bo,k_] at nd;rw[ij];by_cases e:(u.2.2 == t.2.2)=ae
  .rw [e];rcases bh.1 h with z|z
   .rw [z]
   .exact Zw (gi.2 ⟨t,z,(eq_of_beq e).symm⟩) nd.1
  .rw [a2z] at e;rw[e];rcases bh.1 h with z|z
   .rw [z,beq_self_eq_true] at e;cases e
   .exact ih nd.2 z
theorem VU{P:bf}{w:ba}{K:ao}{mg mb:Q0d}{CX:J8}{k:Nat}{fa a:ah}{fd:fv}{x:aj}{sp:Sp}{j:ak}{vs:Q0f}{ns:Q0e}
  (KX:K.In j.heap) (hns:j.heap.Ns g_ mg) (X:j.heap.Ns builtinsNs mb) (hbb:∀x:aj,x ≠ "__name__"->mb x=bootBuiltins x) (hlim:j.heap.NoLimit)
  (hbm:∃bm O,mg "__builtins__"=aa (.ref bm)/\bm≠builtinsNs/\j.heap.get? bm=aa O/\O.cls=.type "module" /\O.dict=aa builtinsNs/\O.data=.plain)
  (L:∀t∈eJ K,CodeHd j.heap t.2.1 t.2.2/\j.heap.get? t.2.2=aa (tabObj #[])) (hnd:((eJ K).map (·.2.2)).Nodup) (hnt:noTabs K=ae) (hg:j.gens=#[])
  (ha:j.heap.get? a=aa {cls:=.type "list",data:=.seq vs.toArray}) (hi:jt vs ns) (hl:ns.length<=bc) (hr:fL k callerA)
  (F:∀ω:ay,K.In ω->ω.Ns g_ mg->lY P w K mg ω CX k fa fd [x] sp) (Y:∀(s:ak) (u:ai),rj s fd ⟨[u],[]⟩ [(x,u)])
  (hsp:∀H:Hp,Only H->eZ K H a (ns.map V.int)->sp [.ref a] H (λv _=>v=.bl ae) λ_ _ _=>False)
  (xi:∀H e s',CX [] H j (λ_ _ _=>False) e s'->False):
  ng (aw P w) callerA (.call (.ref fa) ⟨[.ref a],[]⟩) (λr s'=>r=.ok (.ret (.bool ae))/\OldK j.heap s'.heap/\s'.os=j.os/\kq s'.gens) j:=by
 have rv:=p7 hi;have lenV:=hi.length;have neA:∀t∈eJ K,t.2.2≠a:=λt l z=>by have e:=(L t l).2;rw[z,ha] at e;cases e
 -- a tracked address: the script or a table
 have core:∀u:Option HO,(u=af \/∃o xs,u=aa (.w4 o (.lst xs)))->eZ K (KJ K a u) a (ns.map V.int)->(∀v,u=aa v->dN P w (KJ K a u) j.heap a v)->(u≠af->K.lookup a=af) ->
   ng (aw P w) callerA (.call (.ref fa) ⟨[.ref a],[]⟩) (λr s'=>r=.ok (.ret (.bool ae))/\OldK j.heap s'.heap/\s'.os=j.os/\kq s'.gens) j:=by
  intro u hu hS C_ hK;obtain⟨H,eH⟩:∃H,KJ K a u=H:=⟨_,rfl⟩;have wL:∀t∈eJ K,H t.2.2=aa (.M6 (oV t.1)):=λt l=>by rw[<- eH];unfold KJ;rw[Zz (neA t l),QA hnd l];rfl
  have Z:∀b,H b=af\/(b=a/\H b=u/\u≠af) \/∃t∈eJ K,t.2.2=b/\H b=aa (.M6 (oV t.1)):=λb=>by
   by_cases X:b=a
   .cases hu2:u with
    |none=>left;rw[<- eH];unfold KJ;rw[Z_ X,hu2]
    |some v=>right;left;show⟨X,?_,by simp⟩;rw[<- eH];unfold KJ;rw[Z_ X,hu2]
   .cases q:(eJ K).find? λt=>t.2.2 == b with
    |none=>left;rw[<- eH];unfold KJ;rw[Zz X,q];rfl
    |some t =>
     have I:t.2.2=b:=eq_of_beq (List.find?_some (p:=λt:aj×ah×ah=>t.2.2 == b) q);have A:=List.mem_of_find?_eq_some q;show .inr (.inr ⟨t,A,I,by rw[<- I];show wL t A⟩)
  rw[eH] at hS C_;have hO:Only H:=λb=>by
   rcases Z b with z|⟨_,z,_⟩|⟨t,_,_,z⟩
   .exact .inl z
   .rcases hu with y|⟨o,xs,y⟩
    .exact .inl (z.trans y)
    .exact .inr (.inl ⟨o,xs,z.trans y⟩)
   .exact .inr (.inr ⟨_,z⟩)
  have hok:pW P w H j.heap:=λb v e=>by
   rcases Z b with z|⟨rfl,z,_⟩|⟨t,l,rfl,z⟩
   .rw [z] at e;cases e
   .exact C_ v (by rw[<- z];show e)
   .rw [z] at e;cases e;show⟨#[],(L t l).2,trivial,λν cv e=>by cases e⟩
  -- an object that is neither the script nor a table is not tracked
  have VV:∀{b:ah} {o:ax},j.heap.get? b=aa o->o.cls≠.none->(∀ys n,o.data≠.seq ys n)->H b=af:=λ{b o} e hc hs=>by
   rcases Z b with z|⟨rfl,_,_⟩|⟨t,l,rfl,z⟩
   .exact z
   .rw [ha] at e;cases e;show Zw rfl (hs _ _)
   .rw [(L t l).2] at e;cases e;show Zw rfl hc
  have nsN:∀{b:ah} {o:ax} {es:Array Ai} {ep:Nat},j.heap.get? b=aa o->o.data=.dict es ep->H b=af:=λ{b o es ep} e d=>by
   rcases Z b with z|⟨rfl,_,_⟩|⟨t,l,rfl,z⟩
   .exact z
   .rw [ha] at e;cases e;cases d
   .rw [(L t l).2] at e;cases e;cases d
  have xB:∀{b:ah} {o:ax},j.heap.get? b=aa o->H b=af->(AW j.heap H).get? b=aa o:=λe n=>U6 e n;have J:∀{b:ah} {m:Q0d},j.heap.Ns b m->(AW j.heap H).Ns b m:=λ{b m} ⟨o,es,ep,e,d,r⟩=>⟨o,es,ep,xB e (nsN e d),d,r⟩;have Ca:K.In (AW j.heap H):=λb o e=>xB (KX b o e) (by
   rcases Z b with z|⟨rfl,_,z⟩|⟨t,l,rfl,z⟩
   .exact z
   .rw [hK z] at e;cases e
   .have A:=KX _ o e;rw[(L t l).2] at A;cases A;have h2:=gx.mp hnt (t.2.2,tabObj #[]) (PySem.W.mem_of_lookupK e);show Zw (show ag=ae from h2) bt)
  have hM:Mod K mg (AW j.heap H):=⟨Ca,J hns,⟨mb,J X,hbb⟩,let ⟨mc,h1,h2⟩:=hlim;⟨mc,J h1,h2⟩,
   let ⟨bm,O,b1,b2,b3,b4,b5,b6⟩:=hbm;⟨bm,O,b1,b2,xB b3 (VV b3 (by rw[b4];nofun) λys n z=>by rw[b6] at z;cases z),b4,b5,b6⟩⟩
  have Sz:vc K (AW j.heap H) H:=λt l=>by obtain⟨o,vs',file,tf,flags,tg,inF,text,tt,I,r1,r2,r3⟩:=(L t l).1;show⟨⟨o,vs',file,tf,flags,tg,inF,text,tt,xB I (VV I (by rw[r1];nofun) λys n z=>by rw[r2] at z;cases z),r1,r2,r3⟩,wL t l⟩
  have e0:uy P w K mg (AW j.heap H) callerA [] j H:=⟨rfl,hM,λb o e=>aAG e,nz (PM _ _),trivial,λb X=>Zw (show b∈([]:List ah) from X) (by simp),hok,.of_eq hg,Sz⟩;show Hd ((F _ Ca (J hns)).run callerA [] j H ⟨[.ref a],[]⟩ [.ref a] [.ref a] _ _ hr e0 (Y j (.ref a)) (.cons rfl .nil) (hsp H hO hS)) λr s' h=>?_
  cases r with
  |error e=>show(xi H e s' h).elim
  |ok fl =>
   cases fl with
   |next=>show jo h
   |brk=>show jo h
   |cont=>show jo h
   |ret v =>
    obtain⟨y,H',os,bare,un,U,r',q⟩:=h;have q':y=.bl ae:=q;subst q';obtain rfl:v=kc ae:=r';have old:∀b o,j.heap.get? b=aa o->asItWas j.heap s'.heap b o /\∃o',s'.heap.get? b=aa o':=λb o e=>by
     rcases Z b with z|⟨rfl,z,hne⟩|⟨t,l,rfl,z⟩
     .have k:=un.keep b o e z (by intro z;show Zw (show b∈([]:List ah) from z) (by simp)) (by simp);show⟨.inl k,o,k⟩
     .rcases hu with y|⟨O,xs,y⟩
      .exact Zw y hne
      .have z1:=z.trans y;have z2:=un.vY b O _ z1;obtain⟨I,_⟩:=hok b _ z1;obtain⟨A,_⟩:=U b _ z2;rw[e] at I;cases I;show⟨.inl A,o,A⟩
     .obtain ⟨ps,A,_⟩:=U _ _ (un.uP _ _ z);have I:=(L t l).2;rw[e] at I;cases I;show⟨.inr (.inl ⟨((L t l).1.tab (L t l).2).isCodeTable,rfl,#[],ps,rfl,by rw[A,Array.empty_append]⟩),_,A⟩
    show⟨rfl,⟨λb o e=>(old b o e).1,λb o e=>(old b o e).2⟩,os,bare⟩
 cases hk:K.lookup a with
 |some o =>
  -- the script is one of the module's own objects
  have e:=KX a o hk;rw[ha] at e;cases e;show core af (.inl rfl) (.inr ⟨_,vs.toArray,_,hk,rfl,rfl,rfl,by rw[bw,lenV];show hl,by simpa using rv⟩) (λv z=>by cases z) λz=>Zw rfl z
 |none =>
  show core (aa (.w4 {cls:=.type "list",data:=.seq vs.toArray} (.lst (ns.map V.int)))) (.inr ⟨_,_,rfl⟩) (.inl (.inr ⟨{cls:=.type "list",data:=.seq vs.toArray},Z_ rfl⟩)) (λv z=>?_) λ_=>hk;cases z;show⟨ha,by rw[az];show hl,vs,_,rv,ha⟩
abbrev KOf{K:ao}{h:ay}(_:K.In h):ao:=K
theorem aA0{l:qw}{n k:Nat}{q:bf}{loose:Q0g}{XP:(aj->Option ai)->ay->Prop}{YP:ba->ay->Prop}{d:DefRec}{K:Params->ao}{CX:ba->J8}{sp:ba->Sp}{x:aj}
  (Z:l.most=aa n) (A:n<=bc) (J:d.params.defaults=[]) (X:fL k callerA)
  (hY:∀(w:ba) (h:ay),YP w h->(K w.params).In h)
  (L:∀w:ba,TabsOk (K w.params) q) (z:∀w:ba,noTabs (K w.params)=ae)
  (F:∀(w:ba) (mg:Q0d) (p:ah) (h:ay),(K w.params).In h->h.Ns g_ mg->mg d.name=aa (.ref p) ->
   ∃fd:fv,(∀(s:ak) (u:ai),rj s fd ⟨[u],[]⟩ [(x,u)]) /\
    ∀ω:ay,(K w.params).In ω->ω.Ns g_ mg->lY l.prog w (K w.params) mg ω (CX w) k p fd [x] (sp w))
  (y:∀(w:ba) (H:Hp) (a:ah) (ns:Q0e),ns.length<=n->Only H->eZ (K w.params) H a (ns.map V.int)->sp w [.ref a] H (λv _=>v=.bl ae) λ_ _ _=>False)
  (U:∀(w:ba) (H:Hp) (s:ak) (e:ai) (s':ak),CX w [] H s (λ_ _ _=>False) e s'->False):
  Hl q loose XP YP l.row.toRowW d [] (λf vs=>Hf f vs):=by
 show Att.G2 Z J λw s₀ j mg mb p o pm cd doc a vs ns G Y ho hd hcd I m hints hlen hg=>?_;have KX:=hY w _ Y;obtain⟨fd,hb,hF⟩:=F w mg p _ KX G.T.g I;have hT:∀t∈eJ (K w.params),CodeHd j.heap t.2.1 t.2.2/\j.heap.get? t.2.2=aa (tabObj #[]):=λt O=>by obtain⟨e,he⟩:=(L w).rc t O;show PySem.W.tab_of G.T KX he (KI O)
 show VU KX G.T.g G.T.b G.T.builtins G.T.nolimit G.T.bmain hT (L w).nd (z w) hg m hints (f_ hlen A) X hF hb (λH hO hS=>y w H a ns hlen hO hS) λH e s'=>U w H j e s'
noncomputable def sV(s:bz):Hy:=match s with
 |.FunctionDef _ a _ _ _ _ _ _ _ _=>a
 |_=>{posonlyargs:=[],args:=[],vararg:=af,kwonlyargs:=[],kw_defaults:=[],kwarg:=af,defaults:=[]}
noncomputable def eL(s:bz):List bz:=match s with
 |.FunctionDef _ _ b _ _ _ _ _ _ _=>b
 |_=>[]
noncomputable def aT(s:bz):fj:=match s with
 |.FunctionDef _ _ _ _ _ _ sc _ _ _=>sc
 |_=>{kind:=.function,names:=[],isGenerator:=ag,isCoroutine:=ag}
abbrev mP:J8:=λ_ _ _ _ _ _=>False
abbrev E0:XK:=λ_ _ _=>False
def NM:Passes mP X E0:=λ_ _ _ _ _ _ _ h=>h.elim
structure YM (K:ao) (x qual:aj) (st:bz) (f:ah) (fd:fv):Prop where
 ex:∃(oc:ai) (od:Option ah) (kV doc pm:ai) (an:Option ah) (cdv ct:ai) (osl:Array (Option ai)),
  fd=fnOf x qual (sV st) (eL st) (aT st) .none kV doc pm an cdv ct/\K.lookup f=aa ⟨oc,od,.func fd,osl⟩/\codeIn K cdv qual=ae
 kp:keepIn K (.ref f)=ae
section
variable{P:bf}{w:ba}{K:ao}{mg:Q0d}{ω:ay}
theorem YM.ok{x qual:aj}{st:bz}{f:ah}{fd:fv}{N j:Q0g}{k:Nat}{sp:Sp}(F:YM K x qual st f fd)(S:fE N j (aT st))(len:∀vs H Q E,sp vs H Q E->vs.length=j.length)
  (d:∀(a:ai) (A:bq) (Γ:List de) (s:ak) (H:Hp) (vs:List V) (Q:VK) (E:XK),fL k (A.deeper (envOfC qual (aT st) s.heap.objs.size f a))->sp vs H Q E ->
   ∃t,zC (lB mP P w K mg ω N qual (aT st) f a A Γ s H E).IP (eL st) t/\t {nx:=λ_ H'=>Q .non H',rt:=Q} (start N vs) H):lY P w K mg ω mP (k+1) f fd j sp:=by
 obtain⟨y,v,kV,doc,pm,z,a,ct,n,rfl,o,m⟩:=F.ex;show VL o m S len λA Γ s H vs Q E p l=>?_;obtain⟨t,h,q⟩:=d a A Γ s H vs Q E p l;show⟨t,h.IP,q⟩
theorem aDl{x qual:aj}{st:bz}{f:ah}{m:ai}{j h:Option ah}{d:Array (Option ai)}{kV doc pm a ct:ai}(l:K.lookup f=aa ⟨m,j,.func (fnOf x qual (sV st) (eL st) (aT st) .none kV doc pm h a ct),d⟩)
  (c:codeIn K a qual=ae) (k:keepIn K (.ref f)=ae):YM K x qual st f (fnOf x qual (sV st) (eL st) (aT st) .none kV doc pm h a ct):=⟨⟨m,j,kV,doc,pm,h,a,ct,d,rfl,l,c⟩,k⟩
end
def ξ(H H':Hp):Prop:=∀b o,H b=aa o->H' b=aa o
def ξ.refl(H:Hp):ξ H H:=λ_ _ h=>h
def ξ.trans{H j d:Hp}(a:ξ H j)(b:ξ j d):ξ H d:=λc o h=>b c o (a c o h)
theorem ξ.free{H H':Hp}(e:ξ H H'){l:ah}(h:H' l=af):H l=af:=by
 cases q:H l with
 |none=>rfl
 |some o =>
  rw[e l o q] at h;cases h
section
variable{κ:Type}[DecidableEq κ]
def n8(χ:List (κ×V))(k:κ):Option V:=(χ.find? λa=>Zv (a.1=k)).map (·.2)
def putK(χ:List (κ×V))(k:κ)(v:V):List (κ×V) :=
 if(χ.any λa=>Zv (a.1=k))=ae then χ.map (λa=>if a.1=k then(a.1,v) else a) else χ++[(k,v)]
def zJ{p:κ×V}{r:List (κ×V)}{k:κ}(e:p.1=k):n8 (p::r) k=aa p.2:=by simp[n8,ij,e]
def zK{p:κ×V}{r:List (κ×V)}{k:κ}(e:¬ p.1=k):n8 (p::r) k=n8 r k:=by simp[n8,ij,e]
theorem zL(k:κ):∀χ:List (κ×V),(χ.any λa=>Zv (a.1=k))=(n8 χ k).isSome
 |[]=>rfl
 |p::r=>by
  rw[mh];by_cases e:p.1=k
  .simp only[zJ e,Zx e,Bool.true_or,Option.isSome_some]
  .rw [zK e,Zy e,Bool.false_or];show zL k r
def vL(χ:List (κ×V))(k:κ)(v:V):(putK χ k v).length<=χ.length+1:=by
 unfold putK;split
 .rw [az];lia
 .rw [cy,cn,gr];lia
def VW{χ:List (κ×V)}{k:κ}(v:V)(h:n8 χ k=af):putK χ k v=χ++[(k,v)]:=by unfold putK;rw[zL,h];show Zz (by decide)
theorem rB.p8(r:rB o u):o.isSome=u.isSome:=by
 cases o with
 |none=>cases u with
  |none=>rfl
  |some _=>show(show False from r).elim
 |some _=>cases u with
  |none=>show(show False from r).elim
  |some _=>rfl
theorem KV.val{χ:List (κ×V)}{vs:List (κ×ai)}(r:KV χ vs)(k:κ):rB (n8 χ k) (valueAt vs k):=by
 unfold KV at r
 induction r with
 |nil=>show jq
 | @cons p q ps qs h t ih =>
  obtain⟨d,h2⟩:=h;by_cases e:p.1=k
  .have a:q.1=k:=d.symm.trans e;have b:valueAt (q::qs) k=aa q.2:=by simp[valueAt,ij,a]
   rw[zJ e,b];show h2
  .have a:¬ q.1=k:=λz=>e (d.trans z);have b:valueAt (q::qs) k=valueAt qs k:=by simp[valueAt,ij,a]
   rw[zK e,b];show ih
theorem KV.any{χ:List (κ×V)}{vs:List (κ×ai)}(r:KV χ vs)(k:κ):(χ.any λa=>Zv (a.1=k))=vs.any λa=>Zv (a.1=k):=by
 unfold KV at r
 induction r with
 |nil=>rfl
 |cons h t ih=>rw[mh,mh,ih,h.1]
theorem KV.repl(r:KV χ vs)(k:κ)(j:Ψ y u):
  KV (χ.map λa=>if a.1=k then(a.1,y) else a) (vs.map λa=>if a.1=k then(a.1,u) else a):=by
 unfold KV at r ⊢
 induction r with
 |nil=>show .nil
 | @cons p q ps qs h t ih =>
  rw[bo,bo];show .cons ?_ ih;obtain⟨d,h2⟩:=h;by_cases e:p.1=k
  .rw [Z_ e,Z_ (d.symm.trans e)];show⟨d,j⟩
  .rw [Zz e,Zz (λz=>e (d.trans z))];show⟨d,h2⟩
def KV.put(r:KV χ vs)(k:κ)(a:Ψ y u):KV (putK χ k y) (stored vs k u):=by
 unfold putK stored;rw[r.any k];by_cases e:(vs.any λd=>Zv (d.1=k))=ae
 .rw [Z_ e,Z_ e];show r.repl k a
 .rw [Zz e,Zz e];show Ab r ⟨rfl,a⟩
def KV.length{χ:List (κ×V)}{vs:List (κ×ai)}(r:KV χ vs):χ.length=vs.length:=qz r
end
theorem vM(r:Ψ (kV k) u):(bO P w).is k u=ae:=by
 cases k with
 |inl i=>obtain⟨t,e⟩:=(show ∃t,u=js i t from r);subst e;show GR P w i t
 |inr x=>obtain⟨t,e⟩:=(show ∃t,u=z_ x t from r);subst e;show GS P w x t
theorem CC:∀{ks:List Key} {a:Q0f},θ (ks.map kV) a->ItemsAre (bO P w) ks a
 |[],_,r=>by rw[oh] at r;cases r;show .nil
 |k::ks,_,r=>by
  rw[bo] at r
  cases r with
  |cons h t=>show .cons (vM h) (CC t)
abbrev KT(H:Hp):List (List Key×V)->List (List Key×ah×ai)->Prop:=i_ λp q=>p.1=q.1/\H q.2.1=aa (.tup (p.1.map kV))/\Ψ p.2 q.2.2
theorem KT.val{H:Hp}{χ:List (List Key×V)}{xs:List (List Key×ah×ai)}(r:KT H χ xs)(k:List Key):rB (n8 χ k) ((atKey xs k).map (·.2)):=by
 induction r with
 |nil=>show jq
 | @cons p q ps qs h t ih =>
  obtain⟨d,_,h2⟩:=h;by_cases e:p.1=k
  .have a:q.1=k:=d.symm.trans e;have b:atKey (q::qs) k=aa q.2:=by simp[atKey,ij,a]
   rw[zJ e,b];show h2
  .have a:¬ q.1=k:=λz=>e (d.trans z);have b:atKey (q::qs) k=atKey qs k:=by simp[atKey,ij,a]
   rw[zK e,b];show ih
theorem KT.repl(r:KT H χ xs)(k:List Key)(j:Ψ y u):
  KT H (χ.map λd=>if d.1=k then(d.1,y) else d) (xs.map (putAt k u)):=by
 induction r with
 |nil=>show .nil
 | @cons p q ps qs h t ih =>
  rw[bo,bo];show .cons ?_ ih;obtain⟨a,h2,l⟩:=h;unfold putAt;by_cases e:p.1=k
  .rw [Z_ e,Z_ (a.symm.trans e)];show⟨a,h2,j⟩
  .rw [Zz e,Zz (λz=>e (a.trans z))];show⟨a,h2,l⟩
theorem KT.put(r:KT H χ xs)(k:List Key)(h:H b=aa (.tup (k.map kV)))(a:Ψ y u):
  KT H (putK χ k y) (storedH xs k b u):=by
 have e:(χ.any λd=>Zv (d.1=k))=(atKey xs k).isSome:=by rw[zL,(r.val k).p8,Ar]
 unfold putK storedH;rw[e];by_cases q:(atKey xs k).isSome=ae
 .rw [Z_ q,Z_ q];show r.repl k a
 .rw [Zz q,Zz q];show Ab r ⟨rfl,h,a⟩
def KT.keeps(r:KT H χ xs)(a:∀b ys,H b=aa (.tup ys)->H' b=aa (.tup ys)):KT H' χ xs :=
 Paired.yh r λ_ _ z=>⟨z.1,a _ _ z.2.1,z.2.2⟩
section
variable{P:bf}{w:ba}{H:Hp}{h:ay}{a:ah}
def E_(ok:pW P w H h)(e:Rd H a u):dN P w H h a u:=e.ok ok
def VX(ok:pW P w H h)(e:Rd H a (.dK χ)):χ.length<=bc/\(a == sysModules)=ag /\∃vs,KV χ vs/\h.DictOf (bO P w) a vs :=
 show dN P w H h a (.dK χ) from E_ ok e
def Yz(ok:pW P w H h)(e:H a=aa (.dK χ)):χ.length<=bc/\(a == sysModules)=ag /\∃vs,KV χ vs/\h.DictOf (bO P w) a vs:=VX ok (.inl e)
def EL(ok:pW P w H h)(e:H a=aa (.tup (ks.map kV))):(tupleKind (bO P w)).is h ks a:=by obtain⟨_,d,r,⟨o,l,h2,n,j⟩,_⟩:=(show dN P w H h a (.tup (ks.map kV)) from ok a _ e);show⟨o,d.toArray,n,l,h2,j,by simpa using CC r⟩
theorem VY(ok:pW P w H h)(e:Rd H a (.dT χ)):χ.length<=bc/\(a == sysModules)=ag /\
  ∃xs,KT H χ xs/\h.DictOfH (tupleKind (bO P w)) a xs:=by
 obtain⟨z,y,xs,r,o,es,F,A,h2,v,n,j⟩:=(show dN P w H h a (.dT χ) from E_ ok e);show⟨z,y,xs,r,o,es,F,A,h2,v,n,λx d=>?_,j⟩;have all:∀{l:List (List Key×V)} {m:List (List Key×ah×ai)},KT H l m ->∀x∈m,(tupleKind (bO P w)).is h x.1 x.2.1:=by
  intro l m q
  induction q with
  |nil=>intro x d;show nomatch d
  | @cons p q ps qs hq t ih =>
   intro x d;rcases bh.mp d with e|d
   .subst e;show EL ok (by rw[<- hq.1];show hq.2.1)
   .exact ih x d
 show all r x d
theorem Yy(ok:pW P w H h)(e:H a=aa (.dT χ)):χ.length<=bc/\(a == sysModules)=ag /\
  ∃xs,KT H χ xs/\h.DictOfH (tupleKind (bO P w)) a xs:=VY ok (.inl e)
end
def QB(H:Hp)(a:ah)(y:V)(r:Option V):Prop :=
 (∃χ k,Rd H a (.dK χ)/\y=kV k/\r=n8 χ k) \/∃χ k b,Rd H a (.dT χ)/\y=.ref b/\H b=aa (.tup (k.map kV))/\r=n8 χ k
def VZ(H:Hp)(a:ah)(y v:V)(H':Hp):Prop :=
 (∃χ k,H a=aa (.dK χ)/\y=kV k/\χ.length<bc/\H'=upd H a (.dK (putK χ k v))) \/
 ∃χ k b,H a=aa (.dT χ)/\y=.ref b/\H b=aa (.tup (k.map kV))/\χ.length<bc/\H'=upd H a (.dT (putK χ k v))
def QB.k{H:Hp}{a:ah}{χ:List (Key×V)}{k:Key}(e:H a=aa (.dK χ)):QB H a (kV k) (n8 χ k):=.inl ⟨χ,k,.inl e,rfl,rfl⟩
def VZ.k{H:Hp}{a:ah}{χ:List (Key×V)}{k:Key}{v:V}(e:H a=aa (.dK χ))(d:χ.length<bc):VZ H a (kV k) v (upd H a (.dK (putK χ k v))):=.inl ⟨χ,k,e,rfl,d,rfl⟩
variable{X:Cx}
section
variable{π:Q0b}{σ:St}{H:Hp}{s:ak}{a:ah}{y v:V}{u r:ai}{o:Option V}{A:bq}{E:Q0c}
def Φ.big(I:Φ X π σ H s):sysModules<s.heap.objs.size:=by have h:g_<s.heap.objs.size:=(I.mod.glob.keeps I.bk).lt;show a1L (by decide) h
theorem QC(x:A.units+1<dj)(I:Φ X π σ H s)(g:QB H a y (aa v))(q:Ψ y u)(h:∀d s',Φ X π σ H s'->Ψ v d->Q d s'):
  av (aw X.Ω X.w) A (getItem (.ref a) u) Q E s:=by
 rcases g with⟨χ,k,e,m,l⟩|⟨χ,k,b,e,m,K,l⟩
 .subst m;obtain⟨z,J,vs,rel,dd⟩:=VX I.hok e;obtain⟨d,hw,n⟩:=rB.some_of (v:=v) (o:=valueAt vs k) (by rw[l];show rel.val k);show a0l (vM q) dd.mapOf hw (h d _ (I.tok _) n)
 .subst m;cases (show u=cz b from q);obtain⟨z,J,xs,rel,dd⟩:=VY I.hok e;obtain⟨d,hw,n⟩:=rB.some_of (v:=v) (o:=(atKey xs k).map (·.2)) (by rw[l];show rel.val k);obtain⟨p,F,j⟩:=ip.mp hw;show a0m (a0r x) (EL I.hok K) dd F ?_;rw[j];show h d _ (I.tok _) n
theorem xC(I:Φ X π σ H s)(d:Mut (H a))(h:nq a s.heap h')(j:∃q,h'.get? a=aa q)(new:dN X.Ω X.w (upd H a ob) h' a ob):
  Φ X π σ (upd H a ob) {s with heap:=h',toks:=t' } :=
 I.write (x:=a) (e:=a) d (.inl rfl) (λb q l z=>(h.2 b l).trans z) j new
theorem aDm(z:χ.length<=bc)(d:(a == sysModules)=ag)(rel:KV χ vs)(dd:h'.DictOf (bO P w) a vs):
  dN P w H' h' a (.dK χ):=⟨z,d,vs,rel,dd⟩
theorem QD(Y:A.units+1<dj)(I:Φ X π σ H s)(g:VZ H a y v H')(K:Ψ y u)(L:Ψ v r)(h:∀s',Φ X π σ H' s'->Q () s'):
  av (aw X.Ω X.w) A (setItem (.ref a) u r) Q E s:=by
 rcases g with⟨χ,k,e,F,l,J⟩|⟨χ,k,b,e,F,U,l,J⟩
 .subst F J;obtain⟨z,x,vs,rel,dd⟩:=Yz I.hok e;have m:vs.length<=bc:=by rw[<- rel.length];show z
  have p:(putK χ k v).length<=bc:=by have:=vL χ k v;lia
  show a0d (hsz:=m) (vM K) dd λh' d n=>h _ ?_;have Z:∃q,h'.get? a=aa q:=let ⟨q,_,_,j,_⟩:=d;⟨q,j⟩;show xC I (by rw[e];show jq) n Z (aDm p x (rel.put k L) d)
 .subst F J;cases (show u=cz b from K);obtain⟨z,x,xs,rel,dd⟩:=Yy I.hok e;have m:xs.length<=bc:=by rw[<- qz rel];show z
  have p:(putK χ k v).length<=bc:=by have:=vL χ k v;lia
  show a0e (hsz:=m) (a0r Y) (EL I.hok U) dd λh' d n=>h _ ?_;obtain⟨q,es,ep,j,h2,h3,h4,_,h5⟩:=d;show xC I (by rw[e];show jq) n ⟨q,j⟩ ⟨p,x,_,(rel.put k U L).keeps λc ys O=>?_,q,es,ep,j,h2,h3,h4,h5⟩;rw[bB (Fm O e (λz=>nomatch z))];show O
end
def KL(i:au):Prop:=∀a d,subscripted i ag a d=operate [a,d] (getItem a d)
theorem NN{Ω:bf}{w:ba}{A:bq}{E:Q0c}{s:ak}{env:de}{value slice:au}{q:bb}{T id:String}{Q:Q0c}
  (y:typeLookup (.type T) "__getitem__"=pure (aa (.builtin id))) (v:KL slice)
  (h:av (aw Ω w) A (eval value env) (λo l=>av (aw Ω w) A (eval slice env) (λi a=>a.TypeIs o T/\av (aw Ω w) A (getItem o i) Q E a) E l) E s):
  av (aw Ω w) A (eval (.Subscript value slice q) env) Q E s:=by
 show Ij (ik h (λo l n=>ik n (λi a d=>?_) λ_ _ x=>x) λ_ _ x=>x);obtain⟨p,d⟩:=d;unfold subscriptTail;show aq ?_;rw[getitemInPython_of_ne p.not_modules];show aq (Gp p y ?_);have fin:av (aw Ω w) A (subscripted slice ag o i) (λr j=>av (aw Ω w) A (letTemporaryGo value o r >>= λ_=>pure r) Q E j) E a:=by rw[v o i];show wpAny_operating (ik d (λr j m=>aq (wpAny_letTemporaryGo (a_ m))) λ_ _ x=>x)
 first
  |show a_ (aq fin)
  |show aq (a_ (aq fin))
  |show aq fin
def G3(I:Φ X π σ H s)(g:QB H a y o):s.TypeIs (.ref a) "dict":=by
 rcases g with⟨χ,k,e,_,_⟩|⟨χ,k,b,e,_,_,_⟩
 .obtain ⟨_,_,vs,_,dd⟩:=VX I.hok e;show dd.typeIs
 .obtain ⟨_,_,xs,_,dd⟩:=VY I.hok e;show dd.typeIs
def Yx(h ty:TE):TE:=λσ H Q=>h σ H λx j=>ty σ j λy d=>∃a v,x=.ref a/\QB d a y (aa v)/\Q v d
def Yw(j ty h:TE):TS:=λD σ H=>h σ H λv n=>j σ n λx m=>ty σ m λy l=>∃a d,x=.ref a/\VZ l a y v d/\D.nx σ d
section
variable{o i e value:au}{ν pos' tpos:bb}{td ty tv:TE}
def aA1(n:X.A.units+1<dj)(ho:PE X o td)(hi:PE X i ty)(p:KL i):PE X (.Subscript o i ν) (Yx td ty):=by intro π s σ H Q I h;show NN a1c.lookup p (eR (ho π s σ H _ I h) λu j ⟨x,J,z,m,q1⟩=>eR (hi π j σ J _ z q1) λU O ⟨y,F,d,l,a,v,ex,g,q2⟩=>?_);subst ex;obtain rfl:u=cz a:=m;show⟨G3 d g,QC n d g l λL s3 q K=>⟨v,F,q,K,q2⟩⟩
theorem aA2(z:X.A.units+1<dj)(ho:PE X o td)(hi:PE X i ty)(q:PE X value tv)(F:di value (aa (.Subscript o i pos')) ν.line X.env=pure ag):
  PS X (.Assign [.Subscript o i pos'] value ν) (Yw td ty tv):=by
 intro π s σ H D I h;show a0q (eR (q π s σ H _ I h) λr j ⟨v,Z,O,n,q1⟩=>eR (ho π j σ Z _ O q1) λu d ⟨x,Y,L,m,q2⟩=>eR (hi π d σ Y _ L q2) λiv s3 ⟨y,H3,K,l,a,U,ex,g,p⟩=>?_) F;subst ex;obtain rfl:u=cz a:=m;show QD z K g l n λs4 J=>⟨σ,U,J,p⟩
end
def V0(h:ay)(a:sysModules<h.objs.size):dN P w H (h.push {cls:=.type "dict",data:=.dict #[]}) h.objs.size (.dK []) :=
 ⟨kh _,beq_eq_false_iff_ne.mpr (d_ (ee a)),[],.nil,a2Z h⟩
def aDn:TE:=λ_ H Q=>∀p,H p=af->Q (.ref p) (upd H p (.dK []))
section
variable{ν:bb}
def V1:PE X (.Dict [] [] ν) aDn:=λπ s σ H Q I h =>
 a0p ⟨.ref s.heap.objs.size,_,I.laid (a:=s.heap.objs.size) (o:=.dK []) (t':=s.toks) (λ_ _ q=>cm _ q) (bj _) (V0 s.heap I.big),rfl,h _ (I.hok.fresh (bj _))⟩
end
end L2
end
namespace L3
open L2
def Scr(K:ao)(H:Hp)(a:ah)(ns:Q0e):Prop:=(∃o,H a=aa (.w4 o (.lst (ns.map V.int))))\/eZ K (λ_=>af) a (ns.map V.int)
def Rw(S:ah->Prop)(H:Hp)(xs:Q0a)(p:ah):Prop:=∃as:List ah,H p=aa (.lst (as.map V.ref))/\as.Nodup/\(∀a∈as,S a)/\as.map H=xs.map λx=>aa (.lst (x.map V.int))
mutual
noncomputable def Dn(K:ao)(S:ah->Prop)(H:Hp):D->V->Prop
 |.non,v=>v=.non
 |.bl b,v=>v=.bl b
 |.int i,v=>v=.int i
 |.str x,v=>v=.str x
 |.tup ds,v=>∃a xs,v=.ref a/\H a=aa (.tup xs)/\bC K S H ds xs
 |.lst ds,v=>∃a xs,v=.ref a/\H a=aa (.lst xs)/\S a/\bC K S H ds xs
 |.j5 ns,v=>∃a,v=.ref a/\Scr K H a ns
 |.lA ks ds,v=>∃a xs,v=.ref a/\H a=aa (.dK (ks.zip xs))/\S a/\ks.length=xs.length/\bC K S H ds xs
 |.dC q ks ds,v=>∃a o χ,v=.ref a/\H a=aa (.dX o χ)/\S a/\(χ.map (·.1)=ks/\q a o)/\bC K S H ds (χ.map (·.2.2))
 |.exc _ a,v=>v=.ref a
 |.rws xs,v=>∃a,v=.ref a/\S a/\Rw S H xs a
noncomputable def bC(K:ao)(S:ah->Prop)(H:Hp):List D->List V->Prop
 |[],xs=>xs=[]
 |d::ds,xs=>∃v r,xs=v::r/\Dn K S H d v/\bC K S H ds r
end
structure Fits (K:ao) (S S':ah->Prop) (H H':Hp):Prop where
 t:∀a xs,H a=aa (.tup xs)->H' a=aa (.tup xs)
 s:∀a ns,Scr K H a ns->Scr K H' a ns
 l:∀a xs,H a=aa (.lst xs)->S a->H' a=aa (.lst xs)/\S' a
 d:∀a xs,H a=aa (.dK xs)->S a->H' a=aa (.dK xs)/\S' a
 e:∀a o xs,H a=aa (.dX o xs)->S a->H' a=aa (.dX o xs)/\S' a
section
variable{K:ao}{S S':ah->Prop}{H H':Hp}
def Rw.fits(f:Fits K S S' H H')(q:∀ys,H p=aa (.lst ys)->H' p=aa (.lst ys))(h:Rw S H xs p):Rw S' H' xs p:=by
 obtain⟨as,x,h2,o,n⟩:=h;have j:as.length=xs.length:=by have:=congrArg tj n;simpa using this
 have d:∀i (hi:i<as.length),H as[i]=aa (.lst ((xs[i]'(j▸hi)).map V.int)):=λi hi=>by have:=congrArg (λl=>l[i]?) n;simpa[hi,j▸hi] using this
 show⟨as,q _ x,h2,λa m=>?_,Jm (by simpa using j) λi hi v=>?_⟩
 .obtain ⟨i,hi,rfl⟩:=Ba m;show(f.l _ _ (d i hi) (o _ m)).2
 .rw [az] at hi;rw[qe,qe];show(f.l _ _ (d i hi) (o _ (md hi))).1
mutual
theorem Dn.fits(f:Fits K S S' H H'):∀(d:D) (v:V),Dn K S H d v->Dn K S' H' d v
 |.non,v,h=>by simpa only[Dn] using h
 |.bl b,v,h=>by simpa only[Dn] using h
 |.int i,v,h=>by simpa only[Dn] using h
 |.str x,v,h=>by simpa only[Dn] using h
 |.tup ds,v,h=>by symm at h ⊢;obtain⟨a,xs,e,q,r⟩:=h;show⟨a,xs,e,f.t a xs q,bC.fits f ds xs r⟩
 |.lst ds,v,h=>by symm at h ⊢;obtain⟨a,xs,e,q,s,r⟩:=h;obtain⟨j,s'⟩:=f.l a xs q s;show⟨a,xs,e,j,s',bC.fits f ds xs r⟩
 |.j5 ns,v,h=>by symm at h ⊢;obtain⟨a,e,q⟩:=h;show⟨a,e,f.s a ns q⟩
 |.lA ks ds,v,h=>by symm at h ⊢;obtain⟨a,xs,e,q,s,l,r⟩:=h;obtain⟨j,s'⟩:=f.d a _ q s;show⟨a,xs,e,j,s',l,bC.fits f ds xs r⟩
 |.dC _ ks ds,v,h=>by symm at h ⊢;obtain⟨a,o,χ,e,q,s,l,r⟩:=h;obtain⟨j,s'⟩:=f.e a _ _ q s;show⟨a,o,χ,e,j,s',l,bC.fits f ds _ r⟩
 |.exc _ _,v,h=>by simpa only[Dn] using h
 |.rws xs,v,h=>by symm at h ⊢;obtain⟨a,e,s,r⟩:=h;obtain⟨as,m,h2⟩:=r;show⟨a,e,(f.l a _ m s).2,Rw.fits f (λys n=>(f.l a ys n s).1) ⟨as,m,h2⟩⟩
theorem bC.fits(f:Fits K S S' H H'):∀(ds:List D) (xs:List V),bC K S H ds xs->bC K S' H' ds xs
 |[],xs,h=>by simpa only[bC] using h
 |d::ds,xs,h=>by simp only[bC] at h ⊢;obtain⟨v,r,e,a,h2⟩:=h;show⟨v,r,e,Dn.fits f d v a,bC.fits f ds r h2⟩
end
mutual
theorem Dn.QE:∀(d:D) (v:V),d.AN=ae->Dn K S H d v->Dn K S' H d v
 |.non,v,_,h=>by simpa only[Dn] using h
 |.bl b,v,_,h=>by simpa only[Dn] using h
 |.int i,v,_,h=>by simpa only[Dn] using h
 |.str x,v,_,h=>by simpa only[Dn] using h
 |.tup ds,v,hi,h=>by symm at h ⊢;obtain⟨a,xs,e,q,r⟩:=h;show⟨a,xs,e,q,bC.QE ds xs (by simpa only[D.AN] using hi) r⟩
 |.lst _,v,hi,h=>by simp only[D.AN] at hi;cases hi
 |.j5 ns,v,_,h=>by simpa only[Dn] using h
 |.lA _ _,v,hi,h=>by simp only[D.AN] at hi;cases hi
 |.dC _ _ _,v,hi,h=>by simp only[D.AN] at hi;cases hi
 |.exc _ _,v,_,h=>by simpa only[Dn] using h
 |.rws _,v,hi,h=>by simp only[D.AN] at hi;cases hi
theorem bC.QE:∀(ds:List D) (xs:List V),qC ds=ae->bC K S H ds xs->bC K S' H ds xs
 |[],xs,_,h=>by simpa only[bC] using h
 |d::ds,xs,hi,h=>by simp only[qC,gy] at hi;simp only[bC] at h ⊢;obtain⟨v,r,e,a,h2⟩:=h;show⟨v,r,e,Dn.QE d v hi.1 a,bC.QE ds r hi.2 h2⟩
end
def Dn.AN(hi:d.AN=ae)(h:Dn K S H d v):Dn K S' H d v:=Dn.QE d v hi h
def bC.AN(hi:qC ds=ae)(h:bC K S H ds xs):bC K S' H ds xs:=bC.QE ds xs hi h
def eZ.some(h:eZ K (λ_=>af) a xs):eZ K H a xs:=by
 rcases h with(h|⟨o,h⟩)|h
 .cases h
 .cases h
 .exact .inr h
def Scr.sq(h:Scr K H a ns):eZ K H a (ns.map V.int):=by
 rcases h with⟨o,h⟩|h
 .exact .inl (.inr ⟨o,h⟩)
 .exact eZ.some h
def Wr(H:Hp)(p:ah):Prop:=(∃xs,H p=aa (.lst xs))\/(∃xs,H p=aa (.dK xs)) \/∃o xs,H p=aa (.dX o xs)
def Wr.tup(w:Wr H p)(h:H a=aa (.tup xs)):upd H p o a=aa (.tup xs):=by
 rw[bB]
 .exact h
 .intro e;subst e;rcases w with⟨ys,w⟩|⟨ys,w⟩|⟨_,ys,w⟩<;>rw[h] at w<;>cases w
def Wr.j5(w:Wr H p)(h:Scr K H a ns):Scr K (upd H p o) a ns:=by
 rcases h with⟨d,h⟩|h
 .refine .inl ⟨d,?_⟩;rw[bB]
  .exact h
  .intro e;subst e;rcases w with⟨ys,w⟩|⟨ys,w⟩|⟨_,ys,w⟩<;>rw[h] at w<;>cases w
 .exact .inr h
def Fits.same(e:ξ H H'):Fits K S S H H' :=
 ⟨λa xs h=>e _ _ h,λa ns h=>h.elim (λ⟨o,h⟩=>.inl ⟨o,e _ _ h⟩) .inr,λa xs h s=>⟨e _ _ h,s⟩,λa xs h s=>⟨e _ _ h,s⟩,λa _ xs h s=>⟨e _ _ h,s⟩⟩
def Fits.mono(m:∀a,S a->S' a):Fits K S S' H H :=
 ⟨λ_ _ h=>h,λ_ _ h=>h,λa _ h s=>⟨h,m a s⟩,λa _ h s=>⟨h,m a s⟩,λa _ _ h s=>⟨h,m a s⟩⟩
def Fits.fresh(d:H p=af):Fits K S (λa=>S a/\a≠p) H H :=
 ⟨λ_ _ h=>h,λ_ _ h=>h,λa _ h s=>⟨h,s,bY h d⟩,λa _ h s=>⟨h,s,bY h d⟩,λa _ _ h s=>⟨h,s,bY h d⟩⟩
def Fits.upd(w:Wr H p)(d:¬ S p):Fits K S S H (upd H p o):=by have ne:∀a,S a->a≠p:=λa s e=>d (e▸s);show⟨λa xs h=>w.tup h,λa ns h=>w.j5 h,λa xs h s=>⟨by rw[bB (ne a s)];show h,s⟩,λa xs h s=>⟨by rw[bB (ne a s)];show h,s⟩,λa _ xs h s=>⟨by rw[bB (ne a s)];show h,s⟩⟩
def Fits.trans(a:Fits K S S' H H')(b:Fits K S' S'' H' H''):Fits K S S'' H H'' :=
 ⟨λx xs h=>b.t x xs (a.t x xs h),λx ns h=>b.s x ns (a.s x ns h),λx xs h s=>let ⟨h1,s1⟩:=a.l x xs h s;b.l x xs h1 s1,λx xs h s=>let ⟨h1,s1⟩:=a.d x xs h s;b.d x xs h1 s1,λx o xs h s=>let ⟨h1,s1⟩:=a.e x o xs h s;b.e x o xs h1 s1⟩
def aQ(a:H p=af):ξ H (upd H p o):=λb u h=>by rw[bB (bY h a)];show h
theorem bC.len:∀{ds:List D} {xs:List V},bC K S H ds xs->ds.length=xs.length
 |[],xs,h=>by simp only[bC] at h;subst h;rfl
 |d::ds,xs,h=>by simp only[bC] at h;obtain⟨v,r,e,_,h2⟩:=h;subst e;simp[bC.len h2]
theorem bC.get:∀{ds:List D} {xs:List V} {i:Nat} {d:D},bC K S H ds xs->ds[i]?=aa d ->∃v,xs[i]?=aa v/\Dn K S H d v
 |[],xs,i,d,h,e=>by simp at e
 |d::ds,xs,i,d',h,e=>by
  simp only[bC] at h;obtain⟨v,r,l,a,h2⟩:=h;subst l
  cases i with
  |zero=>simp at e;subst e;show⟨v,by simp,a⟩
  |succ i =>
   obtain⟨u,j,q⟩:=bC.get (i:=i) (d:=d') h2 (by simpa using e);show⟨u,by simpa using j,q⟩
def bC.nil:bC K S H [] []:=by simp only[bC]
def bC.cons(h:Dn K S H d v)(t:bC K S H ds xs):bC K S H (d::ds) (v::xs):=by simp only[bC];show⟨v,xs,rfl,h,t⟩
def bC.bQ(h:bC K S H (d::ds) xs):∃v r,xs=v::r/\Dn K S H d v/\bC K S H ds r:=by simpa only[bC] using h
theorem bC.append:∀{ds es:List D} {xs ys:List V},bC K S H ds xs->bC K S H es ys->bC K S H (ds++es) (xs++ys)
 |[],es,xs,ys,h,g=>by simp only[bC] at h;subst h;show g
 |d::ds,es,xs,ys,h,g=>by obtain⟨v,r,e,a,h2⟩:=h.bQ;subst e;show bC.cons a (bC.append h2 g)
def bC.one(h:Dn K S H d v):bC K S H [d] [v]:=bC.cons h bC.nil
theorem bC.take:∀{ds:List D} {xs:List V} (n:Nat),bC K S H ds xs->bC K S H (ds.take n) (xs.take n)
 |_,_,0,_=>by simp[bC.nil]
 |[],xs,n+1,h=>by simp only[bC] at h;subst h;simp[bC.nil]
 |d::ds,xs,n+1,h=>by obtain⟨v,r,e,a,h2⟩:=h.bQ;subst e;simpa using bC.cons a (bC.take n h2)
theorem bC.drop:∀{ds:List D} {xs:List V} (n:Nat),bC K S H ds xs->bC K S H (ds.drop n) (xs.drop n)
 |_,_,0,h=>by simpa using h
 |[],xs,n+1,h=>by simp only[bC] at h;subst h;simp[bC.nil]
 |d::ds,xs,n+1,h=>by obtain⟨v,r,e,a,h2⟩:=h.bQ;subst e;simpa using bC.drop n h2
theorem bC.set:∀{ds:List D} {xs:List V} {d:D} {v:V} (n:Nat),Dn K S H d v->bC K S H ds xs->bC K S H (ds.set n d) (xs.set n v)
 |[],xs,d,v,n,h,g=>by simp only[bC] at g;subst g;simp[bC.nil]
 |d::ds,xs,d',v',n,h,g=>by
  obtain⟨v,r,e,a,h2⟩:=g.bQ;subst e
  cases n with
  |zero=>show bC.cons h h2
  |succ n=>show bC.cons a (bC.set n h h2)
theorem bC.erase:∀{ds:List D} {xs:List V} (n:Nat),bC K S H ds xs->bC K S H (ds.eraseIdx n) (xs.eraseIdx n)
 |[],xs,n,g=>by simp only[bC] at g;subst g;simp[bC.nil]
 |d::ds,xs,n,g=>by
  obtain⟨v,r,e,a,h2⟩:=g.bQ;subst e
  cases n with
  |zero=>show h2
  |succ n=>show bC.cons a (bC.erase n h2)
theorem bC.ints:∀{ns:Q0e} {xs:List V},bC K S H (ns.map D.int) xs↔xs=ns.map V.int
 |[],xs=>by simp[bC]
 |n::ns,xs=>by
  rw[bo,bo]
  constructor
  .intro h;obtain⟨v,r,e,a,h2⟩:=h.bQ;symm at a;rw[e,a,bC.ints.mp h2]
  .intro e;rw[e];show bC.cons (by symm) (bC.ints.mpr rfl)
end
def Sl(K:ao)(S:ah->Prop)(H:Hp)(ρ:dZ)(σ:St):Prop:=∀(i:Nat) (d:D),ρ[i]?=aa (aa d) ->∃v,σ[i]?=aa (aa v)/\Dn K S H d v
theorem Sl.fits{K:ao}{S S':ah->Prop}{H H':Hp}{ρ:dZ}{σ:St}(f:Fits K S S' H H')(h:Sl K S H ρ σ):Sl K S' H' ρ σ:=λi d e =>
 let ⟨v,e1,q⟩:=h i d e;⟨v,e1,Dn.fits f d v q⟩
def zM(K:ao)(S:ah->Prop)(H:Hp)(d:D)(p:ah):Prop :=
 match d with
 |.lst ds=>∃xs,H p=aa (.lst xs)/\bC K S H ds xs
 |.lA ks ds=>∃xs,H p=aa (.dK (ks.zip xs))/\ks.length=xs.length/\bC K S H ds xs
 |.dC q ks ds=>∃o χ,H p=aa (.dX o χ)/\(χ.map (·.1)=ks/\q p o)/\bC K S H ds (χ.map (·.2.2))
 |.rws xs=>Rw S H xs p
 |_=>False
def SO(S:ah->Prop)(w:Nat->ah)(ρ:bT):ah->Prop:=λa=>S a /\∀(i:Nat) (d:D),ρ[i]?=aa (Sv.ow d)->a≠w i
structure ST (K:ao) (H₀:Hp) (S:ah->Prop) (w:Nat->ah) (σ:St) (H:Hp) (ρ:bT) (G:List (D×V)):Prop where
 fc:∀a,H₀ a=af->S a
 sm:ξ H₀ H
 own:∀(i:Nat) (d:D),ρ[i]?=aa (Sv.ow d)->σ[i]?=aa (aa (.ref (w i)))/\H₀ (w i)=af/\zM K (SO S w ρ) H d (w i)
 inj:∀(i j:Nat) (d e:D),ρ[i]?=aa (Sv.ow d)->ρ[j]?=aa (Sv.ow e)->w i=w j->i=j
 ro:∀(i:Nat) (d:D),ρ[i]?=aa (Sv.ro d) ->∃v,σ[i]?=aa (aa v)/\Dn K (SO S w ρ) H d v
 gh:∀g∈G,Dn K (SO S w ρ) H g.1 g.2
 rw:∀(i:Nat) (xs:Q0a),ρ[i]?=aa (Sv.ow (.rws xs)) ->∀ys,H (w i)=aa (.lst ys) ->∀a,V.ref a∈ys->H₀ a=af
section
variable{K:ao}{H₀ H H':Hp}{S S':ah->Prop}{w:Nat->ah}{σ:St}{ρ:bT}{G:List (D×V)}
theorem zM.wr(h:zM K S H d p):Wr H p:=by
 cases d with
 |lst ds=>obtain⟨xs,e,_⟩:=h;show .inl ⟨_,e⟩
 |lA ks ds=>obtain⟨xs,e,_⟩:=h;show .inr (.inl ⟨_,e⟩)
 |dC q0 ks ds=>obtain⟨o,χ,e,_⟩:=h;show .inr (.inr ⟨_,_,e⟩)
 |rws xs=>obtain⟨_,e,_⟩:=h;show .inl ⟨_,e⟩
 |_=>show jo h
theorem zM.dn{d:D}{p:ah}(h:zM K S H d p)(j:S' p)(m:∀a,S a->S' a):Dn K S' H d (.ref p):=by
 cases d with
 |lst ds=>obtain⟨xs,e,q⟩:=h;symm;show⟨p,xs,rfl,e,j,bC.fits (.mono m) ds xs q⟩
 |lA ks ds=>obtain⟨xs,e,l,q⟩:=h;symm;show⟨p,xs,rfl,e,j,l,bC.fits (.mono m) ds xs q⟩
 |dC q0 ks ds=>obtain⟨o,χ,e,l,q⟩:=h;symm;show⟨p,o,χ,rfl,e,j,l,bC.fits (.mono m) ds _ q⟩
 |rws xs=>symm;show⟨p,rfl,j,Rw.fits (.mono (K:=K) m) (λ_ e=>e) h⟩
 |_=>show jo h
theorem zM.fits{d:D}{p:ah}(f:Fits K S S' H H')(a:∀o,H p=aa o->H' p=aa o)(h:zM K S H d p):zM K S' H' d p:=by
 cases d with
 |lst ds=>obtain⟨xs,e,q⟩:=h;show⟨xs,a _ e,bC.fits f ds xs q⟩
 |lA ks ds=>obtain⟨xs,e,l,q⟩:=h;show⟨xs,a _ e,l,bC.fits f ds xs q⟩
 |dC q0 ks ds=>obtain⟨o,χ,e,l,q⟩:=h;show⟨o,χ,a _ e,l,bC.fits f ds _ q⟩
 |rws xs=>show Rw.fits f (λ_ e=>a _ e) h
 |_=>show jo h
def ST.rwN(h:ST K H₀ S w σ H ρ G)(q:ρ[i]?=aa (Sv.ow (.rws xs)))(j:∀o,H (w i)=aa o->H' (w i)=aa o):∀ys,H' (w i)=aa (.lst ys) ->∀a,V.ref a∈ys->H₀ a=af:=λys d=>by obtain⟨as,e,_⟩:=(h.own i _ q).2.2;rw[j _ e] at d;cases d;show h.rw i xs q _ e
def ST.IQ(h:ST K H₀ S w σ H ρ G):∀a,H a=af->S a:=λa e=>h.fc a (h.sm.free e)
def ST.NO(h:ST K H₀ S w σ H ρ G):∀a,H a=af->SO S w ρ a:=λa e=>⟨h.IQ a e,λi d q z=>by have wr:=(h.own i d q).2.2.wr;subst z;rcases wr with⟨xs,k⟩|⟨xs,k⟩|⟨_,xs,k⟩<;>rw[e] at k<;>cases k⟩
theorem A1{i:Nat}{d:D}(h:(bD ρ)[i]?=aa (aa d)):ρ[i]?=aa (Sv.ro d)\/ρ[i]?=aa (Sv.ow d):=by
 unfold bD at h;rw[cf] at h
 cases e:ρ[i]? with
 |none=>rw[e] at h;cases h
 |some s =>
  rw[e] at h
  cases s with
  |no=>cases h
  |ro d'=>cases h;show .inl rfl
  |ow d'=>cases h;show .inr rfl
theorem EM{i:Nat}{d:D}(h:(gF ρ)[i]?=aa (aa d)):ρ[i]?=aa (Sv.ro d):=by
 unfold gF at h;rw[cf] at h
 cases e:ρ[i]? with
 |none=>rw[e] at h;cases h
 |some s =>
  rw[e] at h
  cases s with
  |no=>cases h
  |ro d'=>cases h;rfl
  |ow d'=>cases h
def ST.all(h:ST K H₀ S w σ H ρ G):Sl K S H (bD ρ) σ:=λi d e=>by
 rcases A1 e with e|e
 .obtain ⟨v,a,q⟩:=h.ro i d e;show⟨v,a,Dn.fits (.mono λ_ z=>z.1) d v q⟩
 .obtain ⟨a,j,q⟩:=h.own i d e;show⟨_,a,q.dn (h.fc _ j) λ_ z=>z.1⟩
def ST.rd(h:ST K H₀ S w σ H ρ G):Sl K (SO S w ρ) H (gF ρ) σ:=λi d e=>h.ro i d (EM e)
def ST.same(h:ST K H₀ S w σ H ρ G)(e:ξ H H'):ST K H₀ S w σ H' ρ G :=
 ⟨h.fc,h.sm.trans e,λi d q=>let ⟨a,b,c⟩:=h.own i d q;⟨a,b,c.fits (.same e) λo z=>e _ o z⟩,h.inj,λi d q=>let ⟨v,a,b⟩:=h.ro i d q;⟨v,a,Dn.fits (.same e) d v b⟩,λg j=>Dn.fits (.same e) _ _ (h.gh g j),λi xs q=>h.rwN q λo z=>e _ o z⟩
def SO.mono{h:bT}(hw:∀(i:Nat) (d:D),h[i]?=aa (Sv.ow d) ->∃e,ρ[i]?=aa (Sv.ow e)):∀a,SO S w ρ a->SO S w h a:=λa j=>by obtain⟨s,n⟩:=j;show⟨s,λi d e=>let ⟨d',e'⟩:=hw i d e;n i d' e'⟩
def get_set{α:Type}{l:List α}{i j:Nat}{x y:α}(h:(l.set i x)[j]?=aa y):(j=i/\y=x/\i<l.length)\/(j≠i/\l[j]?=aa y):=by
 by_cases e:j=i
 .subst e;by_cases a:j<l.length
  .rw [kl a] at h;show .inl ⟨rfl,(cx h).symm,a⟩
  .rw [km (by simp;lia)] at h;cases h
 .rw [jk (d_ e)] at h;show .inr ⟨e,h⟩
theorem ST.lZ{i:Nat}{d:D}{v:V}(h:ST K H₀ S w σ H ρ G)(hi:i<σ.length)(q:Dn K (SO S w ρ) H d v):ST K H₀ S w (σ.set i (aa v)) H (ρ.set i (.ro d)) G:=by
 have hw:∀(j:Nat) (e:D),(ρ.set i (.ro d))[j]?=aa (Sv.ow e)->j≠i/\ρ[j]?=aa (Sv.ow e):=λj e l=>by
  rcases get_set l with⟨_,z,_⟩|z
  .cases z
  .exact z
 have m:∀a,SO S w ρ a->SO S w (ρ.set i (.ro d)) a:=SO.mono λj e l=>⟨e,(hw j e l).2⟩;show⟨h.fc,h.sm,λj e l=>?_,λj k d' p A h2=>h.inj j k d' p (hw j d' A).2 (hw k p h2).2,λj e l=>?_,λg y=>Dn.fits (.mono m) _ _ (h.gh g y),λj xs x=>h.rw j xs (hw j _ x).2⟩
 .obtain ⟨n,o⟩:=hw j e l;obtain⟨a,b,c⟩:=h.own j e o;show⟨by rw[jk (d_ n)];show a,b,c.fits (.mono m) λ_ z=>z⟩
 .rcases get_set l with⟨n,z,_⟩|⟨n,z⟩
  .cases z;subst n;show⟨v,kl hi,Dn.fits (.mono m) d v q⟩
  .obtain ⟨u,a,b⟩:=h.ro j e z;show⟨u,by rw[jk (d_ n)];show a,Dn.fits (.mono m) e u b⟩
noncomputable def freeze(ρ:bT)(i:Nat):bT:=match ρ[i]? with
 |some (.ow d)=>ρ.set i (.ro d)
 |_=>ρ
theorem ST.frozen{i:Nat}(h:ST K H₀ S w σ H ρ G):ST K H₀ S w σ H (freeze ρ i) G:=by
 unfold freeze
 cases e:ρ[i]? with
 |none=>show h
 |some s =>
  cases s with
  |no=>show h
  |ro d=>show h
  |ow d =>
   dsimp only;obtain⟨a,b,c⟩:=h.own i d e;have hi:i<σ.length:=(cg.mp a).1;have hw:∀(j:Nat) (e:D),(ρ.set i (.ro d))[j]?=aa (Sv.ow e)->j≠i/\ρ[j]?=aa (Sv.ow e):=λj e p=>by
    rcases get_set p with⟨_,z,_⟩|z
    .cases z
    .exact z
   have m:∀a,SO S w ρ a->SO S w (ρ.set i (.ro d)) a:=SO.mono λj e p=>⟨e,(hw j e p).2⟩;show⟨h.fc,h.sm,λj f o=>?_,λj k d' v F h2=>h.inj j k d' v (hw j d' F).2 (hw k v h2).2,λj f o=>?_,λg A=>Dn.fits (.mono m) _ _ (h.gh g A),λj xs x=>h.rw j xs (hw j _ x).2⟩
   .obtain ⟨a,b,c⟩:=h.own j f (hw j f o).2;show⟨a,b,c.fits (.mono m) λ_ z=>z⟩
   .rcases get_set o with⟨q,z,_⟩|⟨q,z⟩
    .cases z;subst q;show⟨_,a,c.dn ⟨h.fc _ b,λk I y z=>?_⟩ m⟩;obtain⟨n,l⟩:=hw k I y;show n (h.inj _ _ _ _ e l z).symm
    .obtain ⟨u,a,b⟩:=h.ro j f z;show⟨u,a,Dn.fits (.mono m) f u b⟩
theorem ST.EN{i:Nat}{d:D}{p:ah}(h:ST K H₀ S w σ H ρ G)(hi:i<σ.length)(e:ξ H H')(A:H p=af)(q:zM K (λa=>SO S w ρ a/\a≠p) H' d p)
  (O:∀xs,d=.rws xs ->∀ys,H' p=aa (.lst ys) ->∀a,V.ref a∈ys->H₀ a=af:=by intro _ z;cases z):
  ST K H₀ S (λj=>if j=i then p else w j) (σ.set i (aa (.ref p))) H' (ρ.set i (.ow d)) G:=by
 have Y:H₀ p=af:=h.sm.free A;have hw:∀(j:Nat) (e:D),j≠i->(ρ.set i (.ow d))[j]?=aa (Sv.ow e)->ρ[j]?=aa (Sv.ow e):=λj e l X=>by
  rcases get_set X with⟨z,_,_⟩|⟨_,z⟩
  .exact Zw z l
  .exact z
 have m:∀a,(SO S w ρ a/\a≠p)->SO S (λj=>if j=i then p else w j) (ρ.set i (.ow d)) a:=λa ⟨⟨s,n⟩,ne⟩=>⟨s,λj f v=>by
  show a≠(if j=i then p else w j);by_cases l:j=i
  .rw [Z_ l];show ne
  .rw [Zz l];show n j f (hw j f l v)⟩
 have F:Fits K (SO S w ρ) (SO S (λj=>if j=i then p else w j) (ρ.set i (.ow d))) H H':=((Fits.fresh A).trans (.mono m)).trans (.same e);have I:∀(j:Nat) (f:D),ρ[j]?=aa (Sv.ow f)->w j≠p:=λj f v z=>by have wr:=(h.own j f v).2.2.wr;rw[z] at wr;rcases wr with⟨xs,k⟩|⟨xs,k⟩|⟨_,xs,k⟩<;>rw[A] at k<;>cases k
 show⟨h.fc,h.sm.trans e,λj f v=>?_,λj k d' y L h2 z=>?_,λj f v=>?_,λg U=>Dn.fits F _ _ (h.gh g U),λj xs J=>?_⟩
 rotate_right
 .show ∀ys,H' (if j=i then p else w j)=aa (.lst ys)->_;by_cases l:j=i
  .subst l;rw[Z_ rfl];rcases get_set J with⟨_,z,_⟩|⟨z,_⟩
   .exact O xs (Sv.ow.inj z).symm
   .exact Zw rfl z
  .rw [Zz l];show h.rwN (hw j _ l J) λo z=>e _ o z
 .by_cases l:j=i
  .subst l;rcases get_set v with⟨_,z,_⟩|⟨z,_⟩
   .cases z;rw[Z_ rfl];show⟨kl hi,Y,q.fits (.mono m) λ_ z=>z⟩
   .exact Zw rfl z
  .rw [Zz l];obtain⟨a,b,c⟩:=h.own j f (hw j f l v);show⟨by rw[jk (d_ l)];show a,b,c.fits F λo z=>e _ o z⟩
 .have z:(if j=i then p else w j)=(if k=i then p else w k):=z;by_cases l:j=i
  .by_cases x:k=i
   .rw [l,x]
   .rw [Z_ l,Zz x] at z;show Zw z.symm (I k y (hw k y x h2))
  .by_cases x:k=i
   .rw [Zz l,Z_ x] at z;show Zw z (I j d' (hw j d' l L))
   .rw [Zz l,Zz x] at z;show h.inj j k d' y (hw j d' l L) (hw k y x h2) z
 .rcases get_set v with⟨_,z,_⟩|⟨l,z⟩
  .cases z
  .obtain ⟨u,a,b⟩:=h.ro j f z;show⟨u,by rw[jk (d_ l)];show a,Dn.fits F f u b⟩
def ST.write{i:Nat}{d d':D}{o:HO}(h:ST K H₀ S w σ H ρ G)(e:ρ[i]?=aa (Sv.ow d))(q:zM K (SO S w ρ) (upd H (w i) o) d' (w i))(U:∀xs,d'≠.rws xs:=by intro _ z;cases z):ST K H₀ S w σ (upd H (w i) o) (ρ.set i (.ow d')) G:=by
 obtain⟨a0,I,Z⟩:=h.own i d e;have v:SO S w (ρ.set i (.ow d'))=SO S w ρ:=by
  funext a
  show propext ⟨λ⟨s,n⟩=>⟨s,λj f m=>?_⟩,λ⟨s,n⟩=>⟨s,λj f m=>?_⟩⟩
  .by_cases l:j=i
   .subst l;show n j d' (by rw[kl (cg.mp e).1])
   .exact n j f (by rw[jk (d_ l)];show m)
  .by_cases l:j=i
   .subst l;show n j d e
   .exact n j f (by rw[jk (d_ l)] at m;show m)
 have L:¬ SO S w ρ (w i):=λ⟨_,n⟩=>n i d e rfl;have F:Fits K (SO S w ρ) (SO S w ρ) H (upd H (w i) o):=.upd Z.wr L;show⟨h.fc,λb u A=>?_,λj f m=>?_,λj k d1 e1 Y h2 z=>?_,λj f m=>?_,λg X=>by rw[v];show Dn.fits F _ _ (h.gh g X),λj xs O=>?_⟩
 rotate_right
 .rcases get_set O with⟨_,z,_⟩|⟨l,z⟩
  .exact Zw (Sv.ow.inj z).symm (U xs)
  .exact h.rwN z λJ p=>by rw[bB λy=>l (h.inj _ _ _ _ z e y)];show p
 .rw [bB (bY A I)];show h.sm b u A
 .rw [v];rcases get_set m with⟨l,z,_⟩|⟨l,z⟩
  .cases z;subst l;show⟨a0,I,q⟩
  .obtain ⟨a,b,c⟩:=h.own j f z;show⟨a,b,c.fits F λJ p=>by rw[bB λy=>l (h.inj _ _ _ _ z e y)];show p⟩
 .have g1:∃x,ρ[j]?=aa (Sv.ow x):=by
   rcases get_set Y with⟨l,_,_⟩|⟨_,z⟩
   .subst l;show⟨d,e⟩
   .exact ⟨_,z⟩
  have g2:∃x,ρ[k]?=aa (Sv.ow x):=by
   rcases get_set h2 with⟨l,_,_⟩|⟨_,z⟩
   .subst l;show⟨d,e⟩
   .exact ⟨_,z⟩
  obtain⟨_,g1⟩:=g1;obtain⟨_,g2⟩:=g2;show h.inj j k _ _ g1 g2 z
 .rw [v];rcases get_set m with⟨_,z,_⟩|⟨l,z⟩
  .cases z
  .obtain ⟨u,a,b⟩:=h.ro j f z;show⟨u,a,Dn.fits F f u b⟩
def Sy{n i:Nat}{d:D}{P:Nat->Prop}:∀(j:Nat) (xs:Q0a),((bp n Sv.no).set i (.ro d))[j]?=aa (Sv.ow (.rws xs))->P j:=λj xs z=>by
 rcases get_set z with⟨_,z,_⟩|⟨_,z⟩
 .cases z
 .rw [jc] at z;split at z<;>cases z
def ST.ghost(h:ST K H₀ S w σ H ρ G)(a:∀g∈G',Dn K (SO S w ρ) H g.1 g.2):ST K H₀ S w σ H ρ G':=⟨h.fc,h.sm,h.own,h.inj,h.ro,a,h.rw⟩
end
open PySem.Spec PyProof.Rows
abbrev WE:=dZ->(D->Prop)->Prop
abbrev WT:=dZ->(Bool->Prop)->Prop
abbrev WA:=dZ->(List D->Prop)->Prop
def lift(K:ao)(t:WE):TE:=λσ H Q=>∃(S:ah->Prop) (ρ:dZ) (Q3:D->Prop),(∀a,H a=af->S a)/\Sl K S H ρ σ/\t ρ Q3 /\∀v H' d,ξ H H'->Dn K S H' d v->Q3 d->Q v H'
def liftT(K:ao)(t:WT):TT:=λσ H Q=>∃(S:ah->Prop) (ρ:dZ) (Q3:Bool->Prop),(∀a,H a=af->S a)/\Sl K S H ρ σ/\t ρ Q3 /\∀b H',ξ H H'->Q3 b->Q b H'
def V2(K:ao)(t:WA):TA:=λσ H Q=>∃(S:ah->Prop) (ρ:dZ) (Q3:List D->Prop),(∀a,H a=af->S a)/\Sl K S H ρ σ/\t ρ Q3 /\∀vs H' ds,ξ H H'->bC K S H' ds vs->Q3 ds->Q vs H'
def V3(K:ao)(t:WE):TE:=λσ H Q=>∃(S:ah->Prop) (ρ:dZ) (Q3:D->Prop),(∀a,H a=af->S a)/\Sl K S H ρ σ/\t ρ Q3 /\
 ∀p xs H' ds,H p=af->H' p=aa (.lst xs)->ξ H H'->bC K (λa=>S a/\a≠p) H' ds xs->Q3 (.lst ds)->Q (.ref p) H'
def dB(X:Cx)(e:au)(t:WE):Prop:=PE X e (lift X.K t)
def FI(X:Cx)(e:au)(t:WE):Prop:=PE X e (V3 X.K t)
def xD(X:Cx)(e:au)(t:WT):Prop:=PT X e (liftT X.K t)
def zN(X:Cx)(es:List au)(t:WA):Prop:=PA X es (V2 X.K t)
variable{X:Cx}
section
def imp(h:PE X e t)(f:∀σ H Q,t' σ H Q->t σ H Q):PE X e t':=λπ s σ H Q I q=>h π s σ H Q I (f σ H Q q)
def QF(h:PT X e t)(f:∀σ H Q,t' σ H Q->t σ H Q):PT X e t':=λπ s σ H Q I q=>h π s σ H Q I (f σ H Q q)
def G4(h:PA X e t)(f:∀σ H Q,t' σ H Q->t σ H Q):PA X e t':=λa π s σ H Q I q=>h a π s σ H Q I (f σ H Q q)
def bP{H H':Hp}{S:ah->Prop}(d:∀a,H a=af->S a)(s:ξ H H'):∀a,H' a=af->S a:=λa e=>d a (s.free e)
theorem FI.pe(h:FI X e t):dB X e t:=imp h λσ H Q a=>by obtain⟨S,ρ,Q3,j,l,m,k⟩:=a;show⟨S,ρ,Q3,j,l,m,λp xs H' ds n d s dn q=>k _ H' _ s (by symm;show⟨p,xs,rfl,d,j p n,bC.fits (.mono λ_ z=>z.1) ds xs dn⟩) q⟩
noncomputable def vf(i:Nat):WE:=λρ Q=>match ρ[i]? with
 |some (aa d)=>Q d
 |_=>False
def wC(d:D):WE:=λ_ Q=>Q d
def V4{K:ao}{i:Nat}{σ:L2.St}{H:Hp}{Q:VK}(h:lift K (vf i) σ H Q):vb i σ H Q:=by
 obtain⟨S,ρ,Q3,m,j,a,k⟩:=h;unfold vf at a;split at a
 .rename_i d e;obtain⟨v,l,q⟩:=j i d e;show⟨v,l,k v H d (ξ.refl H) q a⟩
 .exact a.elim
def x3(i:Nat)(hN:X.N[i]?=aa x:=by rfl)(d:vZ X.env.scope x:=by walk_at "1")(h:Zu x:=by decide)
  (a:Zt x:=by decide):dB X (.Name x ν) (vf i):=imp (rE hN d h a) λ_ _ _=>V4
def zP{K:ao}{d:D}{v:V}{σ:L2.St}{H:Hp}{Q:VK}(j:∀S H,Dn K S H d v)(h:lift K (wC d) σ H Q):tC v σ H Q:=by obtain⟨S,ρ,Q3,m,l,a,k⟩:=h;show k v H d (ξ.refl H) (j S H) a
def i3{j ν}:dB X (.Constant (.int i) j ν) (wC (.int i)):=imp aDL λ_ _ _=>zP (λ_ _=>by symm)
def b3{j ν}:dB X (.Constant (.bool b) j ν) (wC (.bl b)):=imp aFm λ_ _ _=>zP (λ_ _=>by symm)
def n3{j ν}:dB X (.Constant .none j ν) (wC .non):=imp aDM λ_ _ _=>zP (λ_ _=>by symm)
def s3{j ν}:dB X (.Constant (.str x) j ν) (wC (.str x)):=imp aDN λ_ _ _=>zP (λ_ _=>by symm)
def g3(d:Gl X x)(a:X.mg x=aa (.int i t))(h:Zu x:=by decide):dB X (.Name x ν) (wC (.int i)) :=
 imp (M8 d a (v:=.int i) ⟨t,rfl⟩ h) λ_ _ _=>zP (λ_ _=>by symm)
abbrev F2:=D->D->(D->Prop)->Prop
def iB(f:F2)(d a:WE):WE:=λρ Q=>d ρ λx=>a ρ λy=>f x y Q
def O3(K:ao)(r:R2)(f:F2):Prop:=∀(S:ah->Prop) (H:Hp) (x y:V) (j h:D) (Q3:D->Prop) (Q:VK),(∀a,H a=af->S a)->Dn K S H j x->Dn K S H h y->f j h Q3 ->
 (∀v H' d,ξ H H'->Dn K S H' d v->Q3 d->Q v H')->r x y H Q
def sW{K:ao}{r:R2}{f:F2}{p o:WE}{σ:L2.St}{H:Hp}{Q:VK}(A:O3 K r f)(h:lift K (iB f p o) σ H Q):qk r (lift K p) (lift K o) σ H Q:=by obtain⟨S,ρ,Q3,l,q,z,k⟩:=h;show⟨S,ρ,_,l,q,z,λv L d a I q1=>?_⟩;show⟨S,ρ,_,bP l a,Sl.fits (.same a) q,q1,λu J F j n q2=>?_⟩;show A S J v u d F Q3 Q (bP l (a.trans j)) (Dn.fits (.same j) _ _ I) n q2 λx H' d' s' m y=>k x H' d' ((a.trans j).trans s') m y
theorem op3(ho:j6 X (binaryOp op) r)(j:O3 X.K r f)(h:dB X a ta)(d:dB X b tb):dB X (.BinOp a op b ν) (iB f ta tb) :=
 imp (VF ho h d) λ_ _ _=>sW j
def EO(C:Int->Int->Prop)(g:Int->Int->D):F2
 |.int i,.int j,Q=>C i j/\Q (g i j)
 |_,_,_=>False
theorem zQ{K:ao}{C:Int->Int->Prop}{g:Int->Int->Int}:O3 K (rI C λi j=>.int (g i j)) (EO C λi j=>.int (g i j)):=by
 intro S H x y m l Q3 Q n h d a k;cases m<;>cases l<;>try show a.elim
 symm at h d;show⟨_,_,h,d,a.1,k _ H _ (ξ.refl H) (by symm) a.2⟩
noncomputable def vN(g:Int->Int->D):F2
 |.int i,.int j,Q=>Q (g i j)
 |_,_,_=>False
def aA4{K:ao}{g:Int->Int->Int}:O3 K (PX λi j=>.int (g i j)) (vN λi j=>.int (g i j)):=by
 intro S H x y m l Q3 Q n d a h k;cases m<;>cases l<;>try show h.elim
 symm at d a;show⟨_,_,d,a,k _ H _ (ξ.refl H) (by symm) h⟩
def Sx:F2:=vN λi j=>.int (i-j)
def Sw:F2:=EO (λ_ j=>0<j) λi j=>.int (i%j)
def Su:F2:=EO Dl λi j=>.int (i/j)
def Ss:F2:=EO Dk λi j=>.int (i^j.toNat)
section
variable{a b:au}{ν:bb}{ta tb:WE}
def Sr(h:dB X a ta)(d:dB X b tb):dB X (.BinOp a .Sub b ν) (iB Sx ta tb):=op3 aD1 aA4 h d
def Sq(h:dB X a ta)(d:dB X b tb):dB X (.BinOp a .Mod b ν) (iB Sw ta tb):=op3 aD2 zQ h d
def So(h:dB X a ta)(d:dB X b tb):dB X (.BinOp a .FloorDiv b ν) (iB Su ta tb):=op3 aAN zQ h d
def Sn(h:dB X a ta)(d:dB X b tb):dB X (.BinOp a .Pow b ν) (iB Ss ta tb):=op3 aD3 zQ h d
end
def Ez(K:ao):R2:=λx y H Q=>∃a b xs ys,x=.ref a/\y=.ref b/\fJ K H a xs/\fJ K H b ys/\xs.length+ys.length<=bc /\
 (xs=[]->Q (.ref b) H)/\(xs≠[]->ys=[]->Q (.ref a) H)/\(xs≠[]->ys≠[] ->∀p,H p=af->Q (.ref p) (upd H p (.tup (xs++ys))))
theorem V5{Ω:bf}{w:ba}{A:bq}{E:Q0c}{s:ak}{t b:ah}{l:Q0f}{Q:Q0c}(x:ia s.heap t #[])(y:ia s.heap b l.toArray)
  (z:Q (.ref b) s):av (aw Ω w) A (binaryOp .Add (.ref t) (.ref b)) Q E s:=by
 obtain⟨⟨cls,dd,data,q⟩,ho,o,n,m⟩:=id x;obtain⟨⟨p,j,data2,h⟩,a,d,v,hd2⟩:=id y;simp only at o m d hd2;subst o m d hd2;show Hc ⟨_,ho,rfl⟩ ⟨_,a,rfl⟩ Hb Gy Hq Ht (Hv _ _)
   (tuple_addW0 t b #[] l.toArray n v dd j q h (by simp)) ⟨ho,a,z⟩
theorem V6:j6 X (binaryOp .Add) (Ez X.K):=by
 intro π s σ H x y v u Q I l j h;obtain⟨a,b,xs,ys,rfl,rfl,o,n,z,q,q1,q2⟩:=h;by_cases d:xs=[]
 .cases l;cases j;subst d;obtain⟨A,p,p1,_⟩:=I.tuple o;obtain⟨m,F,p2,_⟩:=I.tuple n;cases p;show V5 p1 p2 ⟨.ref b,H,I,rfl,q rfl⟩
 .exact aAW π s σ H _ _ v u Q I l j ⟨a,b,xs,ys,rfl,rfl,o,n,d,z,q1 d,q2 d⟩
noncomputable def yd:F2
 |.int i,.int j,Q=>Q (.int (i+j))
 |.lst a,.lst b,Q=>a.length+b.length<=bc/\Q (.lst (a++b))
 |.tup a,.tup b,Q=>a.length+b.length<=bc/\Q (.tup (a++b))
 |.str a,.str b,Q=>a.length+b.length<=bc/\Q (.str (a++b))
 |_,_,_=>False
def Cz(K:ao):R2:=λx y H Q=>(PX λi j=>.int (i+j)) x y H Q\/(Dc x y H Q\/(Ez K x y H Q \/∃i j,x=.str i/\y=.str j/\i.length+j.length<=bc/\Q (.str (i++j)) H))
theorem aDq{K:ao}:O3 K (Cz K) yd:=by
 intro S H x y J v Q3 Q I l h d k
 cases J with
 |int i =>
  cases v with
  |int j=>symm at l h;show .inl ⟨_,_,l,h,k _ H _ (ξ.refl H) (by symm) d⟩
  |_=>show d.elim
 |str i =>
  cases v with
  |str j=>symm at l h;show .inr (.inr (.inr ⟨_,_,l,h,d.1,k _ H _ (ξ.refl H) (by symm) d.2⟩))
  |_=>show d.elim
 |lst ds =>
  cases v with
  |lst es =>
   symm at l h;obtain⟨a,xs,rfl,A,O,n⟩:=l;obtain⟨b,ys,rfl,z,L,m⟩:=h;show .inr (.inl ⟨a,b,xs,ys,rfl,rfl,A,z,by rw[<- n.len,<- m.len];show d.1,λp o=>k _ _ _ (aQ o) ?_ d.2⟩);symm;show⟨p,_,rfl,aY,I p o,bC.fits (.same (aQ o)) _ _ (n.append m)⟩
  |_=>show d.elim
 |tup ds =>
  cases v with
  |tup es =>
   symm at l h;obtain⟨a,xs,rfl,A,n⟩:=l;obtain⟨b,ys,rfl,z,m⟩:=h;show .inr (.inr (.inl ⟨a,b,xs,ys,rfl,rfl,fJ.of A,fJ.of z,by rw[<- n.len,<- m.len];show d.1,λe=>?_,λ_ e=>?_,λ_ _ p o=>?_⟩))
   .subst e;have F:ds=[]:=qd.mp n.len;subst F;show k _ H _ (ξ.refl H) (by symm;show⟨b,ys,rfl,z,m⟩) d.2
   .subst e;have F:es=[]:=qd.mp m.len;subst F;have q:=d.2;rw[iu] at q;show k _ H _ (ξ.refl H) (by symm;show⟨a,xs,rfl,A,n⟩) q
   .refine k _ _ _ (aQ o) ?_ d.2;symm;show⟨p,_,rfl,aY,bC.fits (.same (aQ o)) _ _ (n.append m)⟩
  |_=>show d.elim
 |_=>cases v<;>show d.elim
def aA5:j6 X (binaryOp .Add) (Cz X.K):=j6.or aD0 (j6.or VS (j6.or V6 J6))
theorem Sm(h:dB X a ta)(d:dB X b tb):dB X (.BinOp a .Add b ν) (iB yd ta tb):=op3 aA5 aDq h d
noncomputable def Dp:F2
 |.lst a,.lst b,Q=>a.length+b.length<=bc/\Q (.lst (a++b))
 |_,_,_=>False
def aG1{a b:au}{L:bb}{z y:WE}(q:dB X a z)(o:dB X b y):FI X (.BinOp a .Add b L) (iB Dp z y):=imp (VF VS q o) λσ H Q h=>by
 obtain⟨S,ρ,Q3,F,A,O,k⟩:=h;show⟨S,ρ,_,F,A,O,λv H1 d m K q1=>?_⟩;show⟨S,ρ,_,bP F m,Sl.fits (.same m) A,q1,λu H2 U l j q2=>?_⟩;cases d<;>cases U<;>try show q2.elim
 symm at K j;obtain⟨a,xs,rfl,q,Z,J⟩:=K;obtain⟨b,ys,rfl,o,Y,I⟩:=j;have x:=bC.fits (.same l) _ _ J;show⟨a,b,xs,ys,rfl,rfl,l _ _ q,o,by rw[<- J.len,<- I.len];show q2.1,λp n=>k p _ _ _ ((m.trans l).free n) aY ((m.trans l).trans (aQ n)) ?_ q2.2⟩;show bC.fits ((Fits.fresh n).trans (.same (aQ n))) _ _ (x.append I)
def Sk:WA:=λ_ Q=>Q []
def Zn(a:WE)(t:WA):WA:=λρ Q=>a ρ λd=>t ρ λds=>Q (d::ds)
def Sj:zN X [] Sk:=G4 jY λσ H Q a=>by obtain⟨S,ρ,Q3,j,h,d,k⟩:=a;show k [] H [] (ξ.refl H) bC.nil d
def Zm{e:au}{es:List au}{te:WE}{t:WA}(p:dB X e te)(o:zN X es t)(n:Zr X e es:=by rfl):zN X (e::es) (Zn te t) :=
 G4 (eK p o n) λσ H Q y=>by obtain⟨S,ρ,Q3,l,h,m,k⟩:=y;show⟨S,ρ,_,l,h,m,λv F d a x q1=>?_⟩;show⟨S,ρ,_,bP l a,Sl.fits (.same a) h,q1,λA z ds j q q2=>?_⟩;show k _ z _ (a.trans j) (bC.cons (Dn.fits (.same j) _ _ x) q) q2
def Sf(t:WA):WE:=λρ Q=>t ρ λds=>ds.length<=bc/\Q (.tup ds)
def Se(t:WA):WE:=λρ Q=>t ρ λds=>ds.length<=bc/\Q (.lst ds)
def Sb{x1}(h:zN X es t):dB X (.Tuple es x1 ν) (Sf t):=imp (aD8 h) λσ H Q o=>by obtain⟨S,ρ,Q3,n,j,m,k⟩:=o;show⟨S,ρ,_,n,j,m,λvs q ds l d q1=>⟨by rw[<- d.len];show q1.1,λp a=>k _ _ _ (l.trans (aQ a)) ?_ q1.2⟩⟩;symm;show⟨p,_,rfl,aY,bC.fits (.same (aQ a)) _ _ d⟩
def R_(h:zN X es t):FI X (.List es ν) (Se t):=imp (aD9 h) λσ H Q o=>by obtain⟨S,ρ,Q3,n,l,m,k⟩:=o;show⟨S,ρ,_,n,l,m,λvs q ds d j q1=>⟨by rw[<- j.len];show q1.1,λp a=>k p vs _ ds (d.free a) aY (d.trans (aQ a)) ?_ q1.2⟩⟩;show bC.fits ((Fits.fresh a).trans (.same (aQ a))) _ _ j
end
section
noncomputable def nY(t:WE):WT:=λρ Q=>t ρ λd=>match d with
 |.bl b=>Q b
 |_=>False
theorem CD{K:ao}{t:WE}{σ:L2.St}{H:Hp}{Q:Bool->Hp->Prop}(h:liftT K (nY t) σ H Q):GW (lift K t) σ H Q:=by
 obtain⟨S,ρ,Q3,n,j,m,k⟩:=h;show⟨S,ρ,_,n,j,m,λv o d l a q1=>?_⟩
 cases d with
 |bl b=>symm at a;show⟨b,a,k b o l q1⟩
 |_=>show q1.elim
def zR(f:∀σ H Q,t' σ H Q->t σ H Q)(h:GW t' σ H Q):GW t σ H Q:=f σ H _ h
def KN(ho:j6 X (compareOp op) r)(l:O3 X.K r f)(j:dB X a ta)(h:dB X b tb)(d:behindInMarks op b=ag):dB X (.Compare a [op] [b] ν) (iB f ta tb) :=
 imp (aAO ho j h d) λ_ _ _=>sW l
def vO(ho:j6 X (compareOp op) r)(m:O3 X.K r f)(l:dB X a ta)(j:dB X b tb)(d:behindInMarks op b=ag):xD X (.Compare a [op] [b] ν) (nY (iB f ta tb)) :=
 QF (aAP ho l j d) λ_ _ _ h=>zR (λ_ _ _=>sW m) (CD h)
theorem l0{K:ao}{g:Int->Int->Bool}:O3 K (PX λi j=>.bl (g i j)) (vN λi j=>.bl (g i j)):=by
 intro S H x y m l Q3 Q n d a h k;cases m<;>cases l<;>try show h.elim
 symm at d a;show⟨_,_,d,a,k _ H _ (ξ.refl H) (by symm) h⟩
noncomputable def V7:D->D->Bool
 |.non,.non=>ae | .non,.int _=>ae | .int _,.non=>ae | .non,.bl _=>ae | .bl _,.non=>ae | .non,.str _=>ae | .str _,.non=>ae
 |.int _,.int _=>ae | .bl _,.bl _=>ae | .str _,.str _=>ae | .int _,.str _=>ae | .str _,.int _=>ae | .bl _,.str _=>ae | .str _,.bl _=>ae
 |_,_=>ag
noncomputable def eqS:D->D->Bool
 |.non,.non=>ae
 |.int i,.int j=>Zv (i=j)
 |.bl i,.bl j=>Zv (i=j)
 |.str i,.str j=>Zv (i=j)
 |_,_=>ag
def ve:F2:=λx y Q=>V7 x y=ae/\Q (.bl (eqS x y))
def yc:F2:=λx y Q=>V7 x y=ae/\Q (.bl (!eqS x y))
def NP{K:ao}{S:ah->Prop}{H:Hp}{x y:V}{d a:D}(l:Dn K S H d x)(j:Dn K S H a y)(h:V7 d a=ae):yl x y=ae/\Zv (x=y)=eqS d a:=by
 cases d<;>first
  | (show Zw (show ag=ae from h) bt)
  |skip
 all_goals (cases a<;>first
  | (show Zw (show ag=ae from h) bt)
  | (symm at l j;subst l;subst j;show⟨rfl,by first|show EB|show J1|show EC|show Zy (λh=>by cases h)|show Zx rfl⟩))
def V8{K:ao}:O3 K Bm ve:=by intro S H x y n m Q3 Q l h d a k;obtain⟨j,h2⟩:=NP h d a.1;show⟨j,k _ H _ (ξ.refl H) (by symm;rw[h2]) a.2⟩
theorem aDs{K:ao}:O3 K Bl yc:=by intro S H x y n m Q3 Q l h d a k;obtain⟨j,h2⟩:=NP h d a.1;show⟨j,k _ H _ (ξ.refl H) (by symm;rw[h2]) a.2⟩
noncomputable def allI:List D->Bool
 |[]=>ae
 |.int _::r=>allI r
 |_::_=>ag
noncomputable def A2(i:Int):List D->Bool
 |[]=>ag
 |.int j::r=>j == i||A2 i r
 |_::r=>A2 i r
theorem CF:∀ns:Q0e,allI (ns.map D.int)=ae
 |[]=>rfl
 |n::ns=>by rw[bo];show CF ns
theorem CG(i:Int):∀ns:Q0e,A2 i (ns.map D.int)=ns.contains i
 |[]=>rfl
 |n::ns=>by rw[bo,A2,CG i ns,List.contains_cons];congr 1;show Bool.beq_comm
theorem ER:∀{ds:List D},allI ds=ae ->∃ns:Q0e,ds=ns.map D.int
 |[],_=>⟨[],rfl⟩
 |.int n::r,h=>by obtain⟨ns,e⟩:=ER (ds:=r) h;show⟨n::ns,by rw[e];rfl⟩
 |.non::r,h=>Zw (show ag=ae from h) bt
 |.bl _::r,h=>Zw (show ag=ae from h) bt
 |.str _::r,h=>Zw (show ag=ae from h) bt
 |.tup _::r,h=>Zw (show ag=ae from h) bt
 |.lst _::r,h=>Zw (show ag=ae from h) bt
 |.j5 _::r,h=>Zw (show ag=ae from h) bt
 |.lA _ _::r,h=>Zw (show ag=ae from h) bt
 |.dC _ _ _::r,h=>Zw (show ag=ae from h) bt
def inF(neg:Bool):F2
 |.int i,.tup ds,Q=>allI ds=ae/\Q (.bl (if neg then !A2 i ds else A2 i ds))
 |.int i,.lst ds,Q=>allI ds=ae/\Q (.bl (if neg then !A2 i ds else A2 i ds))
 |_,_,_=>False
theorem zS(i:Int):∀ns:Q0e,inV (.int i) (ns.map V.int)=A2 i (ns.map D.int)
 |[]=>rfl
 |n::ns=>by have e:=zS i ns;unfold inV at e ⊢;rw[bo,bo,mh,A2,e];rfl
theorem uR:∀ns:Q0e,(ns.map V.int).all sS=ae
 |[]=>rfl
 |n::ns=>by rw[bo,mj,uR ns];rfl
theorem Ey{K:ao}{neg:Bool}:O3 K (w_ K neg) (inF neg):=by
 intro S H x y p o Q3 Q q n d h k
 cases p with
 |int i =>
  symm at n;subst n
  cases o with
  |tup ds =>
   symm at d;obtain⟨a,xs,rfl,j,m⟩:=d;obtain⟨l,h2⟩:=h;obtain⟨ns,rfl⟩:=ER l;have e:=bC.ints.mp m;subst e;show⟨a,_,rfl,.inr (fJ.of j),rfl,uR ns,k _ H _ (ξ.refl H) ?_ h2⟩;symm;rw[zS]
  |lst ds =>
   symm at d;obtain⟨a,xs,rfl,j,_,m⟩:=d;obtain⟨l,h2⟩:=h;obtain⟨ns,rfl⟩:=ER l;have e:=bC.ints.mp m;subst e;show⟨a,_,rfl,.inl (eZ.of j),rfl,uR ns,k _ H _ (ξ.refl H) ?_ h2⟩;symm;rw[zS]
  |_=>show h.elim
 |_=>cases o<;>show h.elim
section
variable{a b:au}{ν:bb}{ta tb:WE}
def ltF:F2:=vN λi j=>.bl (Zv (i<j))
def leF:F2:=vN λi j=>.bl (Zv (i<=j))
def gtF:F2:=vN λi j=>.bl (Zv (i>j))
def geF:F2:=vN λi j=>.bl (Zv (i >= j))
def lt3(h:dB X a ta)(d:dB X b tb):dB X (.Compare a [.Lt] [b] ν) (iB ltF ta tb):=KN NF l0 h d (jL _)
def le3(h:dB X a ta)(d:dB X b tb):dB X (.Compare a [.LtE] [b] ν) (iB leF ta tb):=KN vJ l0 h d (jL _)
def gt3(h:dB X a ta)(d:dB X b tb):dB X (.Compare a [.Gt] [b] ν) (iB gtF ta tb):=KN Fj l0 h d (jL _)
def ge3(h:dB X a ta)(d:dB X b tb):dB X (.Compare a [.GtE] [b] ν) (iB geF ta tb):=KN Fi l0 h d (jL _)
def Ti(h:dB X a ta)(d:dB X b tb):dB X (.Compare a [.Eq] [b] ν) (iB ve ta tb):=KN Fl V8 h d (jL _)
def in3(j:dB X a ta)(h:dB X b tb)(d:behindInMarks .In b=ag:=by with_unfolding_all rfl):dB X (.Compare a [.In] [b] ν) (iB (inF ag) ta tb):=KN P6 Ey j h d
def Th(h:dB X a ta)(d:dB X b tb):xD X (.Compare a [.Lt] [b] ν) (nY (iB ltF ta tb)):=vO NF l0 h d (jL _)
def Tg(h:dB X a ta)(d:dB X b tb):xD X (.Compare a [.LtE] [b] ν) (nY (iB leF ta tb)):=vO vJ l0 h d (jL _)
def Tf(h:dB X a ta)(d:dB X b tb):xD X (.Compare a [.Gt] [b] ν) (nY (iB gtF ta tb)):=vO Fj l0 h d (jL _)
def Te(h:dB X a ta)(d:dB X b tb):xD X (.Compare a [.GtE] [b] ν) (nY (iB geF ta tb)):=vO Fi l0 h d (jL _)
def Zl(h:dB X a ta)(d:dB X b tb):xD X (.Compare a [.Eq] [b] ν) (nY (iB ve ta tb)):=vO Fl V8 h d (jL _)
def Zk(h:dB X a ta)(d:dB X b tb):xD X (.Compare a [.NotEq] [b] ν) (nY (iB yc ta tb)):=vO Zd aDs h d (jL _)
def Zj(j:dB X a ta)(h:dB X b tb)(d:behindInMarks .NotIn b=ag:=by with_unfolding_all rfl):xD X (.Compare a [.NotIn] [b] ν) (nY (iB (inF ae) ta tb)):=vO EI Ey j h d
end
noncomputable def isD:D->Bool
 |.non=>ae
 |_=>ag
def vd:F2:=λx y Q=>isD y=ae/\Q (.bl (isD x))
def V9{K:ao}:O3 K (λx y H Q=>y=.non/\Q (.bl (Zv (x=.non))) H) vd:=by
 intro S H x y n m Q3 Q o d h j k;obtain⟨l,h2⟩:=j;cases m<;>try show Zw (show ag=ae from l) bt
 symm at h;show⟨h,k _ H _ (ξ.refl H) ?_ h2⟩;cases n<;>symm at d ⊢
 all_goals first
  | (subst d;simp[isD])
  | (obtain⟨a,xs,rfl,_⟩:=d;simp[isD])
  | (obtain⟨a,_,xs,rfl,_⟩:=d;simp[isD])
  | (obtain⟨a,rfl,_⟩:=d;simp[isD])
def Zi(h:dB X a ta)(d:dB X b tb):xD X (.Compare a [.Is] [b] ν) (nY (iB vd ta tb)):=vO VG V9 h d (jL _)
def Td(h:dB X a ta)(d:dB X b tb):dB X (.Compare a [.Is] [b] ν) (iB vd ta tb):=KN VG V9 h d (jL _)
def Zh(t:WT):WT:=λρ Q=>t ρ λb=>Q (!b)
def Zg(t u:WT):WT:=λρ Q=>t ρ λb=>if b=ae then u ρ Q else Q ag
def Tc(t u:WT):WT:=λρ Q=>t ρ λb=>if b=ae then Q ae else u ρ Q
def RY(X:Cx)(e:au)(t:WT):Prop:=PW X e (liftT X.K t)
def yb(h:PW X e t)(f:∀σ H Q,t' σ H Q->t σ H Q):PW X e t':=λa π s σ H Q I q=>h a π s σ H Q I (f σ H Q q)
section
variable{a b:au}{Θ:List au}{ν:bb}{ta tb:WT}
def RY.pt(h:RY X e t):xD X e t:=PW.pt h
def Yv(l:xD X a ta):xD X (.UnaryOp .Not a ν) (Zh ta):=QF (aDR l) λσ H Q n=>by obtain⟨S,ρ,Q3,m,d,j,k⟩:=n;show⟨S,ρ,_,m,d,j,λb o h q1=>k (!b) o h q1⟩
def S_(d:xD X a ta):RY X (.BoolOp .And [a] ν) ta:=aAK d
def or1(d:xD X a ta):RY X (.BoolOp .Or [a] ν) ta:=aDP d
theorem Yu(o:xD X a ta)(n:RY X (.BoolOp .And (b::Θ) ν) tb):RY X (.BoolOp .And (a::b::Θ) ν) (Zg ta tb):=yb (aDQ o n) λσ H Q q=>by
 obtain⟨S,ρ,Q3,j,h,m,k⟩:=q;show⟨S,ρ,_,j,h,m,λc x d q1=>?_⟩
 cases c with
 |true=>rw[Z_ rfl] at q1 ⊢;show⟨S,ρ,Q3,bP j d,Sl.fits (.same d) h,q1,λp v l q2=>k p v (d.trans l) q2⟩
 |false=>rw[Zz bt] at q1 ⊢;show k ag x d q1
theorem Rx(o:xD X a ta)(n:RY X (.BoolOp .Or (b::Θ) ν) tb):RY X (.BoolOp .Or (a::b::Θ) ν) (Tc ta tb):=yb (aFp o n) λσ H Q q=>by
 obtain⟨S,ρ,Q3,j,h,m,k⟩:=q;show⟨S,ρ,_,j,h,m,λc x d q1=>?_⟩
 cases c with
 |false=>rw[Zz bt] at q1 ⊢;show⟨S,ρ,Q3,bP j d,Sl.fits (.same d) h,q1,λp v l q2=>k p v (d.trans l) q2⟩
 |true=>rw[Z_ rfl] at q1 ⊢;show k ae x d q1
end
noncomputable def Rr(d a:WE):WE:=λρ Q=>d ρ λx=>match x with
 |.bl ae=>a ρ Q
 |.bl ag=>Q (.bl ag)
 |_=>False
noncomputable def Rq(a:WE):WE:=λρ Q=>a ρ λx=>match x with
 |.bl b=>Q (.bl (!b))
 |_=>False
def Ke(t:WT)(d a:WE):WE:=λρ Q=>t ρ λb=>if b=ae then d ρ Q else a ρ Q
section
variable{a b c:au}{Θ:List au}{ν:bb}{ta tb:WE}{tc:WT}
def Rp{op}(d:dB X a ta):dB X (.BoolOp op [a] ν) ta:=aDS d
theorem Ro(x:dB X a ta)(q:dB X (.BoolOp .And (b::Θ) ν) tb):dB X (.BoolOp .And (a::b::Θ) ν) (Rr ta tb):=imp (aDT x q) λσ H Q z=>by
 obtain⟨S,ρ,Q3,l,j,p,k⟩:=z;show⟨S,ρ,_,l,j,p,λv F d h m q1=>?_⟩
 cases d with
 |bl c =>
  symm at m;show⟨c,m,?_⟩
  cases c with
  |true=>rw[Z_ rfl];show⟨S,ρ,Q3,bP l h,Sl.fits (.same h) j,q1,λn A d' o y q2=>k n A d' (h.trans o) y q2⟩
  |false=>rw[Zz bt];show k _ F (.bl ag) h (by symm) q1
 |_=>show q1.elim
theorem Rm(n:dB X a ta):dB X (.UnaryOp .Not a ν) (Rq ta):=imp (aDU n) λσ H Q p=>by
 obtain⟨S,ρ,Q3,o,j,m,k⟩:=p;show⟨S,ρ,_,o,j,m,λv q d l h q1=>?_⟩
 cases d with
 |bl c=>symm at h;show⟨c,h,k _ q (.bl (!c)) l (by symm) q1⟩
 |_=>show q1.elim
theorem if3(q:xD X c tc)(x:dB X a ta)(v:dB X b tb):dB X (.IfExp c a b ν) (Ke tc ta tb):=imp (U8 q x v) λσ H Q y=>by
 obtain⟨S,ρ,Q3,m,j,p,k⟩:=y;show⟨S,ρ,_,m,j,p,λc z d q1=>?_⟩
 cases c with
 |true=>rw[Z_ rfl] at q1 ⊢;show⟨S,ρ,Q3,bP m d,Sl.fits (.same d) j,q1,λh o d' l n q2=>k h o d' (d.trans l) n q2⟩
 |false=>rw[Zz bt] at q1 ⊢;show⟨S,ρ,Q3,bP m d,Sl.fits (.same d) j,q1,λh o d' l n q2=>k h o d' (d.trans l) n q2⟩
noncomputable def Rj(ta:WE):WE:=λρ Q=>ta ρ λx=>match x with
 |.int i=>Q (.int (-i))
 |_=>False
theorem Ri(n:dB X a ta):dB X (.UnaryOp .USub a ν) (Rj ta):=imp (Ze aD4 n) λσ H Q p=>by
 obtain⟨S,ρ,Q3,o,j,m,k⟩:=p;show⟨S,ρ,_,o,j,m,λv q d l h q1=>?_⟩
 cases d with
 |int i=>symm at h;show⟨i,h,k _ q (.int (-i)) l (by symm) q1⟩
 |_=>show q1.elim
end
noncomputable def ES(f g:F2)(h d a:WE):WE:=λρ Q=>h ρ λx=>d ρ λy=>f x y λz=>match z with
 |.bl ae=>a ρ λu=>g y u Q
 |.bl ag=>Q (.bl ag)
 |_=>False
theorem zT{K:ao}{r A:R2}{f g:F2}{y x q:WE}{σ:L2.St}{H:Hp}{Q:VK}(Z:O3 K r f)(h2:O3 K A g)(h:lift K (ES f g y x q) σ H Q):J3 r A (lift K y) (lift K x) (lift K q) σ H Q:=by
 obtain⟨S,ρ,Q3,l,n,Y,k⟩:=h;show⟨S,ρ,_,l,n,Y,λv H1 d a d1 q1=>?_⟩;show⟨S,ρ,_,bP l a,Sl.fits (.same a) n,q1,λu H2 e j F q2=>?_⟩;show Z S H2 v u d e _ _ (bP l (a.trans j)) (Dn.fits (.same j) _ _ d1) F q2 λz H3 dz s3 m o=>?_
 cases dz with
 |bl c =>
  symm at m;show⟨c,m,?_⟩
  cases c with
  |false=>rw[Zz bt];show k _ H3 (.bl ag) ((a.trans j).trans s3) (by symm) o
  |true =>
   rw[Z_ rfl];show⟨S,ρ,_,bP l ((a.trans j).trans s3),Sl.fits (.same ((a.trans j).trans s3)) n,o,λI H4 dw s4 p U=>?_⟩;show h2 S H4 u I e dw Q3 Q (bP l (((a.trans j).trans s3).trans s4)) (Dn.fits (.same (s3.trans s4)) _ _ F) p U λJ H5 d' L d5 O=>k J H5 d' ((((a.trans j).trans s3).trans s4).trans L) d5 O
 |_=>show o.elim
theorem aDu(ho:j6 X (compareOp op) r)(d:j6 X (compareOp op') r')(n:O3 X.K r f)(h2:O3 X.K r' g)(m:dB X a ta)(l:dB X b tb)(j:dB X c tc)
  (h:lastMarks [op,op'] [b,c]=ag:=by with_unfolding_all rfl):dB X (.Compare a [op,op'] [b,c] ν) (ES f g ta tb tc):=imp (VH ho d m l j h) λ_ _ _=>zT n h2
theorem aA8(ho:j6 X (compareOp op) r)(d:j6 X (compareOp op') r')(o:O3 X.K r f)(h2:O3 X.K r' g)(n:dB X a ta)(m:dB X b tb)(l:dB X c tc)
  (j:lastMarks [op,op'] [b,c]=ag:=by with_unfolding_all rfl):xD X (.Compare a [op,op'] [b,c] ν) (nY (ES f g ta tb tc)):=QF (VI ho d n m l j) λ_ _ _ h=>zR (λ_ _ _=>zT o h2) (CD h)
noncomputable def ixF:F2
 |.lst ds,.int i,Q=>(match wB ds i with|some d=>Q d|none=>False)
 |.tup ds,.int i,Q=>(match wB ds i with|some d=>Q d|none=>False)
 |.j5 ns,.int i,Q=>(match wB ns i with|some n=>Q (.int n)|none=>False)
 |_,_,_=>False
theorem bC.at{K:ao}{S:ah->Prop}{H:Hp}{ds:List D}{xs:List V}{i:Int}{d:D}(h:bC K S H ds xs)(e:wB ds i=aa d):∃v,wB xs i=aa v/\Dn K S H d v:=by
 unfold wB at e ⊢;rw[<- h.len]
 cases q:P5 ds.length i with
 |none=>rw[q] at e;cases e
 |some j =>
  rw[q] at e;obtain⟨v,a,dn⟩:=h.get (i:=j) (d:=d) e;show⟨v,a,dn⟩
theorem aA9{α a:Type}(f:α->a)(xs:List α)(i:Int):wB (xs.map f) i=(wB xs i).map f:=by
 unfold wB;rw[az]
 cases P5 xs.length i with
 |none=>rfl
 |some j=>simp
theorem Yt{K:ao}:O3 K (λx y H Q=>Dh K x y H Q\/Dg K x y H Q) ixF:=by
 intro S H x y A o Q3 Q I l j h k
 cases A with
 |lst ds =>
  cases o with
  |int i =>
   symm at l j;obtain⟨a,xs,rfl,m,F,z⟩:=l;have h:(match wB ds i with|some d=>Q3 d|none=>False):=h
   cases e:wB ds i with
   |none=>rw[e] at h;show h.elim
   |some d =>
    rw[e] at h;obtain⟨v,p,q⟩:=z.at e;show .inl ⟨a,xs,i,v,rfl,j,eZ.of m,p,k v H d (ξ.refl H) q h⟩
  |_=>show h.elim
 |tup ds =>
  cases o with
  |int i =>
   symm at l j;obtain⟨a,xs,rfl,m,z⟩:=l;have h:(match wB ds i with|some d=>Q3 d|none=>False):=h
   cases e:wB ds i with
   |none=>rw[e] at h;show h.elim
   |some d =>
    rw[e] at h;obtain⟨v,p,q⟩:=z.at e;show .inr ⟨a,xs,i,v,rfl,j,(fJ.of m),p,k v H d (ξ.refl H) q h⟩
  |_=>show h.elim
 |j5 ns =>
  cases o with
  |int i =>
   symm at l j;obtain⟨a,rfl,m⟩:=l;have h:(match wB ns i with|some n=>Q3 (.int n)|none=>False):=h
   cases e:wB ns i with
   |none=>rw[e] at h;show h.elim
   |some n =>
    rw[e] at h;show .inl ⟨a,_,i,.int n,rfl,j,m.sq,by rw[aA9,e];rfl,k _ H (.int n) (ξ.refl H) (by symm) h⟩
  |_=>show h.elim
 |_=>cases o<;>show h.elim
def ix3(j:dB X a ta)(h:dB X b tb)(d:EG b:=by intro _ _;rfl):dB X (.Subscript a b ν) (iB ixF ta tb) :=
 imp (Za (aAX.or aDf) j h d) λ_ _ _=>sW Yt
abbrev F1:=List D->(D->Prop)->Prop
def QG(f:F1)(t:WA):WE:=λρ Q=>t ρ λds=>f ds Q
def C3(K:ao)(r:List V->Hp->VK->Prop)(f:F1):Prop:=∀(S:ah->Prop) (H:Hp) (xs:List V) (ds:List D) (Q3:D->Prop) (Q:VK),(∀a,H a=af->S a)->bC K S H ds xs->f ds Q3 ->
 (∀v H' d,ξ H H'->Dn K S H' d v->Q3 d->Q v H')->r xs H Q
def C3F(K:ao)(r:List V->Hp->VK->Prop)(f:F1):Prop:=∀(S:ah->Prop) (H:Hp) (xs:List V) (ds:List D) (Q3:D->Prop) (Q:VK),(∀a,H a=af->S a)->bC K S H ds xs->f ds Q3 ->
 (∀p ys H' es,H p=af->H' p=aa (.lst ys)->ξ H H'->bC K (λa=>S a/\a≠p) H' es ys->Q3 (.lst es)->Q (.ref p) H')->r xs H Q
def NQ{K:ao}{r:List V->Hp->VK->Prop}{f:F1}{t:WA}{σ:L2.St}{H:Hp}{Q:VK}(o:C3 K r f)(h:lift K (QG f t) σ H Q):ub r (V2 K t) σ H Q:=by obtain⟨S,ρ,Q3,j,l,n,k⟩:=h;show⟨S,ρ,_,j,l,n,λvs q ds a p q1=>?_⟩;show o S q vs ds Q3 Q (bP j a) p q1 λv H' d s' d' m=>k v H' d (a.trans s') d' m
def G5{K:ao}{r:List V->Hp->VK->Prop}{f:F1}{t:WA}{σ:L2.St}{H:Hp}{Q:VK}(q:C3F K r f)(h:V3 K (QG f t) σ H Q):ub r (V2 K t) σ H Q:=by obtain⟨S,ρ,Q3,j,l,n,k⟩:=h;show⟨S,ρ,_,j,l,n,λvs x ds a v q1=>?_⟩;show q S x vs ds Q3 Q (bP j a) v q1 λp ys H' es o d s' d' m=>k p ys H' es (a.free o) d (a.trans s') d' m
def uS{x:aj}{p h:bb}{e:au}{es:List au}{t:WA}{id:String}{r:List V->Hp->VK->Prop}{f:F1}(q:gD X (.builtin id) r)(y:C3 X.K r f)(j:bootBuiltins x=aa (.builtin id))(n:Gl X x)(m:X.mg x=af)(v:zN X (e::es) t)(l:x ≠ "__name__":=by decide)(d:Zu x:=by decide)
  (o:Zr X e es:=by rfl) (a:Q0l X h es:=by rfl):dB X (.Call (.Name x p) (e::es) [] h) (QG f t) :=
 imp (mM q n m j v l d o a) λ_ _ _=>NQ y
def NR{x:aj}{p h:bb}{e:au}{es:List au}{t:WA}{id:String}{r:List V->Hp->VK->Prop}{f:F1}(q:gD X (.builtin id) r)(y:C3F X.K r f)(j:bootBuiltins x=aa (.builtin id))(n:Gl X x)(m:X.mg x=af)(v:zN X (e::es) t)(l:x ≠ "__name__":=by decide)(d:Zu x:=by decide)
  (o:Zr X e es:=by rfl) (a:Q0l X h es:=by rfl):FI X (.Call (.Name x p) (e::es) [] h) (QG f t) :=
 imp (mM q n m j v l d o a) λ_ _ _=>G5 y
def NS(o:gD X (.type T) r)(v:C3 X.K r f)(h:bootBuiltins x=aa (.type T))(m:Gl X x)(l:X.mg x=af)(q:zN X (e::es) t)(j:x ≠ "__name__":=by decide)(d:Zu x:=by decide)
  (n:Zr X e es:=by rfl) (a:Q0l X ν es:=by rfl):dB X (.Call (.Name x p) (e::es) [] ν) (QG f t) :=
 imp (p6 o m l h q j d n a) λ_ _ _=>NQ v
theorem WB(o:gD X (.type T) r)(v:C3F X.K r f)(h:bootBuiltins x=aa (.type T))(m:Gl X x)(l:X.mg x=af)(q:zN X (e::es) t)(j:x ≠ "__name__":=by decide)(d:Zu x:=by decide)
  (n:Zr X e es:=by rfl) (a:Q0l X ν es:=by rfl):FI X (.Call (.Name x p) (e::es) [] ν) (QG f t) :=
 imp (p6 o m l h q j d n a) λ_ _ _=>G5 v
noncomputable def A3:F1
 |[.lst ds],Q=>Q (.int ds.length)
 |[.tup ds],Q=>Q (.int ds.length)
 |[.j5 ns],Q=>Q (.int ns.length)
 |_,_=>False
theorem aDv{K:ao}:C3 K (λxs H Q=>∃p ys,xs=[.ref p]/\(eZ K H p ys\/fJ K H p ys)/\Q (.int ys.length) H) A3:=by
 intro S H xs ds Q3 Q o l h k
 match ds,h with
 |[.lst es],h =>
  obtain⟨v,r,rfl,d,h2⟩:=l.bQ;simp only[bC] at h2;subst h2;symm at d;obtain⟨a,ys,rfl,j,n,m⟩:=d;show⟨a,ys,rfl,.inl (eZ.of j),k _ H _ (ξ.refl H) (by symm;rw[m.len]) h⟩
 |[.tup es],h =>
  obtain⟨v,r,rfl,d,h2⟩:=l.bQ;simp only[bC] at h2;subst h2;symm at d;obtain⟨a,ys,rfl,j,m⟩:=d;show⟨a,ys,rfl,.inr (fJ.of j),k _ H _ (ξ.refl H) (by symm;rw[m.len]) h⟩
 |[.j5 ns],h =>
  obtain⟨v,r,rfl,d,h2⟩:=l.bQ;simp only[bC] at h2;subst h2;symm at d;obtain⟨a,rfl,j⟩:=d;show⟨a,_,rfl,.inl j.sq,k _ H _ (ξ.refl H) (by symm;rw[az]) h⟩
theorem Rf(a:X.mg "len"=af)(j:zN X [e] t)(d:Gl X "len":=by rfl)
  (h:Zr X e []:=by rfl):dB X (.Call (.Name "len" p) [e] [] ν) (QG A3 t):=uS EJ aDv PySem.boot_len d a j (by decide) (by decide) h (by rfl)
noncomputable def KO:F1
 |[.lst ds],Q=>Q (.tup ds)
 |[.tup ds],Q=>Q (.tup ds)
 |_,_=>False
theorem WC{K:ao}:C3 K (λxs H Q=>∃p ys,xs=[.ref p]/\((eZ K H p ys /\∀l,H l=af->Q (.ref l) (upd H l (.tup ys)))\/(fJ K H p ys/\Q (.ref p) H))) KO:=by
 intro S H xs ds Q3 Q y o h k
 match ds,h with
 |[.lst es],h =>
  obtain⟨v,r,rfl,d,h2⟩:=o.bQ;simp only[bC] at h2;subst h2;symm at d;obtain⟨a,ys,rfl,j,x,q⟩:=d;show⟨a,ys,rfl,.inl ⟨eZ.of j,λl n=>k _ _ _ (aQ n) ?_ h⟩⟩;symm;show⟨l,ys,rfl,aY,bC.fits (.same (aQ n)) _ _ q⟩
 |[.tup es],h =>
  obtain⟨v,r,rfl,d,h2⟩:=o.bQ;simp only[bC] at h2;subst h2;have m:=d;symm at d;obtain⟨a,ys,rfl,j,q⟩:=d;show⟨a,ys,rfl,.inr ⟨(fJ.of j),k _ H _ (ξ.refl H) m h⟩⟩
theorem aDw(d:X.mg "tuple"=af)(a:bootBuiltins "tuple"=aa (.type "tuple"))(l:zN X [e] t)(h:Gl X "tuple":=by rfl)
  (j:Zr X e []:=by rfl):dB X (.Call (.Name "tuple" p) [e] [] ν) (QG KO t):=NS AZ WC a h d l (by decide) (by decide) j (by rfl)
noncomputable def WD:F1
 |[.lst ds],Q=>Q (.lst ds)
 |[.tup ds],Q=>Q (.lst ds)
 |_,_=>False
theorem aAa{K:ao}:C3F K (λxs H Q=>∃p ys,xs=[.ref p]/\(eZ K H p ys\/fJ K H p ys) /\∀l,H l=af->Q (.ref l) (upd H l (.lst ys))) WD:=by
 intro S H xs ds Q3 Q x o h k
 match ds,h with
 |[.lst es],h =>
  obtain⟨v,r,rfl,j,h2⟩:=o.bQ;simp only[bC] at h2;subst h2;symm at j;obtain⟨a,ys,rfl,m,q,n⟩:=j;show⟨a,ys,rfl,.inl (eZ.of m),λl d=>k l ys _ es d aY (aQ d) (bC.fits ((Fits.fresh d).trans (.same (aQ d))) _ _ n) h⟩
 |[.tup es],h =>
  obtain⟨v,r,rfl,j,h2⟩:=o.bQ;simp only[bC] at h2;subst h2;symm at j;obtain⟨a,ys,rfl,m,n⟩:=j;show⟨a,ys,rfl,.inr (fJ.of m),λl d=>k l ys _ es d aY (aQ d) (bC.fits ((Fits.fresh d).trans (.same (aQ d))) _ _ n) h⟩
def Ys(d:X.mg "list"=af)(a:bootBuiltins "list"=aa (.type "list"))(l:zN X [e] t)(h:Gl X "list":=by rfl)
  (j:Zr X e []:=by rfl):FI X (.Call (.Name "list" p) [e] [] ν) (QG WD t):=WB EK aAa a h d l (by decide) (by decide) j (by rfl)
abbrev Spec:=List D->(D->Prop)->Prop
def sp3(K:ao)(R:Spec):Sp:=λvs H Q _=>∃(S:ah->Prop) (ds:List D) (Q3:D->Prop),(∀a,H a=af->S a)/\bC K S H ds vs/\R ds Q3 /\∀v H' d,ξ H H'->Dn K S H' d v->Q3 d->Q v H'
theorem Yr(F:lY X.Ω X.w X.K X.mg X.ω mP k f fd ps (sp3 X.K R))(q:fL k X.A)(y:X.mg x=aa (.ref f))(z:keepIn X.K (.ref f)=ae)(L:Binds X.K fd ps [])
  (O:zN X (e::es) t) (I:Gl X x:=by rfl) (h:Zu x:=by decide) (J:Zr X e es:=by rfl) (a:Q0l X ν es:=by rfl):
  dB X (.Call (.Name x p) (e::es) [] ν) (QG R t):=imp (pZ F q I y z L .nil NM O h J a) λσ H Q Y=>by
 obtain⟨S,ρ,Q3,l,m,o,k⟩:=Y;show⟨S,ρ,_,l,m,o,λvs Z ds j U q1=>?_⟩;show sp3 X.K R (vs++[]) Z Q E0;rw[iu];show⟨S,ds,Q3,bP l j,U,q1,λv H' d s' d' n=>k v H' d (j.trans s') d' n⟩
end
structure DE where
 nx:bT->Prop
 rt:D->Prop
 bk:bT->Prop:=λ_=>False
 ct:bT->Prop:=λ_=>False
 ex:aj->Prop:=λ_=>False
abbrev WS:=DE->bT->Prop
structure rH (X:Cx) (π:Q0b) (H:Hp) (s:ak) (e:ah) (cls a0:ai) (P:List ah):Prop where
 mem:e∈P
 free:∀q∈P,H q=af
 new:∀q∈P,X.s₀.heap.get? q=af
 fld:∀q∈P,∃o vs,s.heap.get? q=aa o/\o.data=.fields vs
 pin:∀q∈P,∀p∈X.pn++π,p.1≠q
 tr:(∃oe vs,s.heap.get? e=aa oe/\oe.cls=cls/\oe.data=.fields vs/\vs[1]?=aa .none/\vs[0]?=aa a0) \/
  (∃oe vs T oT ts,s.heap.get? e=aa oe/\(oe.cls=cls/\vs[0]?=aa a0)/\oe.data=.fields vs/\vs[1]?=aa (.ref T)/\T∈P/\T≠e/\s.heap.get? T=aa oT/\oT.data=.fields ts/\ts[3]?=aa .none)
def XC(X:Cx)(c:aj)(H:Hp):Prop:=∃C:ah,X.mg c=aa (.ref C) /\∀(π:Q0b) (σ:L2.St) (s:ak) (e:ah) (a:ai) (P:List ah),Φ X π σ H s->rH X π H s e (.ref C) a P->X.xe (.ref e) s
structure WH (K:ao) (xc:aj->Hp->Prop) (n:Nat) (H₀:Hp) (S:ah->Prop) (G:List (D×V)) (E:DE) (B:Ends):Prop where
 nx:∀w σ H ρ,σ.length=n->ST K H₀ S w σ H ρ G->E.nx ρ->B.nx σ H
 rt:∀v H d,ξ H₀ H->Dn K S H d v->E.rt d->B.rt v H
 bk:∀w σ H ρ,σ.length=n->ST K H₀ S w σ H ρ G->E.bk ρ->B.bk σ H
 ct:∀w σ H ρ,σ.length=n->ST K H₀ S w σ H ρ G->E.ct ρ->B.ct σ H
 ex:∀c H,ξ H₀ H->E.ex c->xc c H
def sY(K:ao)(xc:aj->Hp->Prop)(n:Nat)(t:WS):TS:=λB σ H=>∃(H₀:Hp) (S:ah->Prop) (w:Nat->ah) (ρ:bT) (G:List (D×V)) (E:DE),σ.length=n/\ST K H₀ S w σ H ρ G/\t E ρ/\WH K xc n H₀ S G E B
def CH(X:Cx)(st:bz)(t:WS):Prop:=PS X st (sY X.K (XC X) X.N.length t)
def wF(X:Cx)(st:List bz)(t:WS):Prop:=zC X st (sY X.K (XC X) X.N.length t)
section
def jR{e:bz}{t t':TS}(h:PS X e t)(f:∀B σ H,t' B σ H->t B σ H):PS X e t':=λπ s σ H B I q=>h π s σ H B I (f B σ H q)
def G6(h:zC X e t)(f:∀B σ H,t' B σ H->t B σ H):zC X e t':=λπ s σ H B I q=>h π s σ H B I (f B σ H q)
def Yq:WS:=λE ρ=>E.nx ρ
def ya(t u:WS):WS:=λE ρ=>t {E with nx:=u E} ρ
def Rb:wF X [] Yq:=G6 NA λB σ H h=>by obtain⟨H₀,S,w,ρ,G,E,d,st,a,ok⟩:=h;show ok.nx w σ H ρ d st a
def Q_{st:bz}{j:List bz}{t u:WS}(v:CH X st t)(h2:wF X j u):wF X (st::j) (ya t u):=G6 (zD v h2) λB σ H x=>by obtain⟨H₀,S,w,ρ,G,E,p,n,o,ok⟩:=x;show⟨H₀,S,w,ρ,G,{E with nx:=u E},p,n,o,⟨λm l H' a h d q=>⟨H₀,S,m,a,G,E,h,d,q,ok⟩,ok.rt,ok.bk,ok.ct,ok.ex⟩⟩
def Yp{st:bz}{t:WS}(a:CH X st t):wF X [st] t:=G6 (NB a) λ_ _ _ h=>h
def Qy(t:WE):WS:=λE ρ=>t (bD ρ) E.rt
def Qx(h:dB X e t):CH X (.Return (aa e) ν) (Qy t):=jR (JY h) λB σ H l=>by obtain⟨H₀,S,w,ρ,G,E,m,st,j,ok⟩:=l;show⟨S,bD ρ,E.rt,st.IQ,st.all,j,λv H' d s' d' a=>ok.rt v H' d (st.sm.trans s') d' a⟩
def Qu(c:WT)(t u:WS):WS:=λE ρ=>c (bD ρ) λb=>if b=ae then t E ρ else u E ρ
theorem Qt(m:xD X c tc)(o:wF X a t)(n:wF X b u):CH X (.If c a b ν) (Qu tc t u):=jR (aFv m o n) λB σ H p=>by
 obtain⟨H₀,S,w,ρ,G,E,j,st,l,ok⟩:=p;show⟨S,bD ρ,_,st.IQ,st.all,l,λd q h q1=>?_⟩
 cases d with
 |true=>rw[Z_ rfl] at q1 ⊢;show⟨H₀,S,w,ρ,G,E,j,st.same h,q1,ok⟩
 |false=>rw[Zz bt] at q1 ⊢;show⟨H₀,S,w,ρ,G,E,j,st.same h,q1,ok⟩
def x_(i:Nat)(t:WE):WS:=λE ρ=>t (gF ρ) λd=>E.nx (ρ.set i (.ro d))
def Qj(i:Nat)(t:WE):WS:=λE ρ=>t (gF ρ) λd=>E.nx (ρ.set i (.ow d))
def Yo(i:Nat)(t:WE):WS:=λE ρ=>t (bD ρ) λd=>(match d with | .lst ds=>qC ds=ae|_=>False)/\E.nx (ρ.set i (.ow d))
section
variable{i:Nat}{x:aj}{e:au}{t:WE}{ν pos':bb}
def jS{N:Q0g}{i:Nat}{x:aj}(h:N[i]?=aa x):i<N.length:=(cg.mp h).1
def Qi(hN:X.N.Nodup)(o:dB X e t)(hi:X.N[i]?=aa x:=by rfl)(j:Loc X.env.scope x:=by walk_at "0")(m:Si X e x pos' ν:=by rfl)(n:Zq X x:=by walk_at "0"):
  CH X (.Assign [.Name x pos'] e ν) (x_ i t):=jR (nI hN hi j o m n) λB σ H p=>by
 obtain⟨H₀,S,w,ρ,G,E,a,st,l,ok⟩:=p;show⟨_,gF ρ,_,st.NO,st.rd,l,λv H' d s' d' h=>ok.nx w _ H' _ (by rw[dm];show a) ((st.same s').lZ (by rw[a];show jS hi) d') h⟩
def Qg(hN:X.N.Nodup)(v:FI X e t)(hi:X.N[i]?=aa x:=by rfl)(l:Loc X.env.scope x:=by walk_at "0")(n:Si X e x pos' ν:=by rfl)(q:Zq X x:=by walk_at "0"):
  CH X (.Assign [.Name x pos'] e ν) (Qj i t):=jR (nI hN hi l v n q) λB σ H y=>by
 obtain⟨H₀,S,w,ρ,G,E,h,st,m,ok⟩:=y;show⟨_,gF ρ,_,st.NO,st.rd,m,λp xs H' ds o a s' d' j=>ok.nx _ _ H' _ (by rw[dm];show h) (st.EN (d:=.lst ds) (by rw[h];show jS hi) s' o ⟨xs,a,d'⟩) j⟩
def Yn(hN:X.N.Nodup)(v:FI X e t)(hi:X.N[i]?=aa x:=by rfl)(l:Loc X.env.scope x:=by walk_at "0")(n:Si X e x pos' ν:=by rfl)(q:Zq X x:=by walk_at "0"):
  CH X (.Assign [.Name x pos'] e ν) (Yo i t):=jR (nI hN hi l v n q) λB σ H y=>by
 obtain⟨H₀,S,w,ρ,G,E,j,st,m,ok⟩:=y;show⟨_,bD ρ,_,st.IQ,st.all,m,λp xs H' ds o a s' d' h=>ok.nx _ _ H' _ (by rw[dm];show j) (st.EN (d:=.lst ds) (by rw[j];show jS hi) s' o ⟨xs,a,bC.AN h.1 d'⟩) h.2⟩
end
def jZ(N:Q0g)(ds:List D):bT:=ds.map Sv.ro++bp (N.length-ds.length) Sv.no
def zU{K:ao}{H:Hp}{S:ah->Prop}{N:Q0g}{ds:List D}{vs:List V}(x:∀a,H a=af->S a)(h:bC K S H ds vs):ST K H S (λ_=>0) (L2.start N vs) H (jZ N ds) []:=by
 have no:∀(i:Nat) (d:D),(jZ N ds)[i]?≠aa (Sv.ow d):=λi d e=>by
  unfold jZ at e;by_cases hi:i<ds.length
  .rw [jv (by simpa using hi),cf] at e
   cases q:ds[i]? with
   |none=>rw[q] at e;cases e
   |some a=>rw[q] at e;cases e
  .rw [ju (by simpa using hi),jc] at e;split at e<;>cases e
 have m:∀a,S a->SO S (λ_=>0) (jZ N ds) a:=λa s=>⟨s,λi d e=>Zw e (no i d)⟩;show⟨x,ξ.refl H,λi d e=>Zw e (no i d),λi j d e p=>Zw p (no i d),λi d e=>?_,λg o=>(nomatch o),λi _ e=>Zw e (no i _)⟩;unfold jZ at e;by_cases hi:i<ds.length
 .rw [jv (by simpa using hi),cf] at e
  cases q:ds[i]? with
  |none=>rw[q] at e;cases e
  |some a =>
   rw[q] at e;cases e;obtain⟨v,l,y⟩:=h.get q;show⟨v,?_,Dn.fits (.mono m) _ _ y⟩;unfold L2.start;have n:i<vs.length:=(cg.mp l).1;rw[jv (by simpa using n),cf,l];rfl
 .rw [ju (by simpa using hi),jc] at e;split at e<;>cases e
theorem Qb{P:bf}{w:ba}{K:ao}{mg:Q0d}{ω:ay}{x qual:aj}{st:bz}{f:ah}{fd:fv}{N l:Q0g}{k:Nat}{R:Spec}(F:YM K x qual st f fd)(S:fE N l (aT st))(len:∀ds Q,R ds Q->ds.length=l.length)
  (j:∀(a:ai) (A:bq) (Γ:List de) (s:ak) (H:Hp) (E:XK),fL k (A.deeper (envOfC qual (aT st) s.heap.objs.size f a)) ->
   ∃t:WS,wF (lB mP P w K mg ω N qual (aT st) f a A Γ s H E).IP (eL st) t /\∀ds Q,R ds Q->t {nx:=λ_=>Q .non,rt:=Q} (jZ N ds)):lY P w K mg ω mP (k+1) f fd l (sp3 K R):=by
 show F.ok S (λvs H Q E h=>?_) λa A Γ s H vs Q E z h=>?_
 .obtain ⟨S',ds,Q3,n,dn,r,_⟩:=h;rw[<- dn.len];show len ds Q3 r
 .obtain ⟨t,y,I⟩:=j a A Γ s H E z;obtain⟨S',ds,Q3,n,dn,r,kk⟩:=h;show⟨_,y,H,S',λ_=>0,jZ N ds,[],{nx:=λ_=>Q3 .non,rt:=Q3},?_,zU n dn,I ds Q3 r,⟨λL o H' p _ m q=>?_,λv H' d s' d' q=>kk v H' d s' d' q,λ_ _ _ _ _ _ q=>q,λ_ _ _ _ _ _ q=>q,λ_ _ _ q=>q.elim⟩⟩
  .have U:=len ds Q3 r;have J:=dn.len;have O:l.length<=N.length:=by have:=congrArg tj S.pre;rw[kj] at this;lia
   unfold L2.start;show _=N.length;rw[cy,az,ig];lia
  .exact kk .non H' .non m.sm (by symm) q
end
abbrev WX:=bT->(bT->D->Prop)->Prop
def WJ(K:ao)(n:Nat)(t:WX):TE:=λσ H Q=>∃(H₀:Hp) (S:ah->Prop) (w:Nat->ah) (ρ:bT) (G:List (D×V)) (Q3:bT->D->Prop),σ.length=n/\ST K H₀ S w σ H ρ G/\t ρ Q3 /\
 ∀h v H' a d,ST K H₀ S h σ H' a G->Dn K (SO S h a) H' d v->Q3 a d->Q v H'
def G7(X:Cx)(e:au)(t:WX):Prop:=PE X e (WJ X.K X.N.length t)
def Ym(t:WE):WX:=λρ Q=>t (bD ρ) λd=>d.AN=ae/\Q ρ d
def aDz(t:WE):WX:=λρ Q=>t (gF ρ) λd=>Q ρ d
section
def px3(h:dB X e t):G7 X e (Ym t):=imp h λσ H Q l=>by obtain⟨H₀,S,w,ρ,G,Q3,m,st,j,k⟩:=l;show⟨S,bD ρ,_,st.IQ,st.all,j,λv H' d s' d' a=>k w v H' ρ d (st.same s') (Dn.AN a.1 d') a.2⟩
def P_(h:dB X e t):G7 X e (aDz t):=imp h λσ H Q l=>by obtain⟨H₀,S,w,ρ,G,Q3,m,st,j,k⟩:=l;show⟨_,gF ρ,_,st.NO,st.rd,j,λv H' d s' d' a=>k w v H' ρ d (st.same s') d' a⟩
def Yl(i:Nat)(t:WX):WS:=λE ρ=>t ρ λa d=>E.nx (a.set i (.ro d))
def Yk(hN:X.N.Nodup)(y:G7 X e t)(hi:X.N[i]?=aa x:=by rfl)(n:Loc X.env.scope x:=by walk_at "0")(p:Si X e x pos' ν:=by rfl)(q:Zq X x:=by walk_at "0"):
  CH X (.Assign [.Name x pos'] e ν) (Yl i t):=jR (nI hN hi n y p q) λB σ H z=>by
 obtain⟨H₀,S,w,ρ,G,E,h,st,o,ok⟩:=z;show⟨H₀,S,w,ρ,G,_,h,st,o,λl v H' j d a d' m=>ok.nx l _ H' _ (by rw[dm];show h) (a.lZ (by rw[h];show jS hi) d') m⟩
def Yj(t:WX):WS:=λE ρ=>t ρ λa _=>E.nx a
theorem Yi(p:G7 X e t)(o:di e af ν.line X.env=pure ag:=by rfl):CH X (.Expr e ν) (Yj t):=jR (D0 p o) λB σ H q=>by obtain⟨H₀,S,w,ρ,G,E,h,st,n,ok⟩:=q;show⟨H₀,S,w,ρ,G,_,h,st,n,λl v H' j d a d' m=>ok.nx l _ H' _ h a m⟩
noncomputable def oq(i:Nat)(f:List D->D->(List D->D->Prop)->Prop)(t:WX):WX:=λρ Q=>(match ρ[i]? with|some (.ow (.lst _))=>True|_=>False)/\t ρ λa d=>match a[i]? with
 |some (.ow (.lst ds))=>f ds d λh r=>Q (a.set i (.ow (.lst h))) r
 |_=>False
def M3(K:ao)(r:V->List V->Hp->VK->Prop)(f:List D->D->(List D->D->Prop)->Prop):Prop:=∀(S:ah->Prop) (H:Hp) (p:ah) (xs:List V) (ds:List D) (y:V) (d:D) (Q3:List D->D->Prop) (Q:VK),
 H p=aa (.lst xs)->bC K S H ds xs->Dn K S H d y->f ds d Q3->(∀ys a v d',bC K S H a ys->Dn K S H d' v->Q3 a d'->Q v (upd H p (.lst ys)))->r (.ref p) [y] H Q
theorem aAb{K:ao}{n i:Nat}{r:V->List V->Hp->VK->Prop}{f:List D->D->(List D->D->Prop)->Prop}{t:WX}{σ:L2.St}{H:Hp}{Q:VK}(h3:M3 K r f)(h:WJ K n (oq i f t) σ H Q):
  Bk K "list" r (vb i) (Fh (WJ K n t) Di) σ H Q:=by
 obtain⟨H₀,S,w,ρ,G,Q3,hl,st,⟨J,ht⟩,k⟩:=h;split at J
 .rename_i ds e;obtain⟨a,b,c⟩:=st.own i _ e;obtain⟨xs,hp,dn⟩:=c;show⟨_,a,.inl ⟨rfl,xs,eZ.of hp⟩,H₀,S,w,ρ,G,_,hl,st,ht,λm v H' l d o d' y=>?_⟩;split at y
  .rename_i ds' e';obtain⟨a',b',c'⟩:=o.own i _ e';obtain⟨x,p,I⟩:=c';have ew:w i=m i:=by have z:=a.symm.trans a';have L:=cx (cx z);injection L
   rw[ew];show h3 _ H' (m i) x ds' v d _ Q p I d' y λys q O d2 Y A q2=>?_;have Z:¬ SO S m l (m i):=λ⟨_,z⟩=>z i _ e' rfl;have F:Fits K (SO S m l) (SO S m l) H' (upd H' (m i) (.lst ys)):=.upd (.inl ⟨_,p⟩) Z;have U:∀a,SO S m l a->SO S m (l.set i (.ow (.lst q))) a:=SO.mono λj f hf=>by
    rcases get_set hf with⟨hj,_,_⟩|⟨_,z⟩
    .subst hj;show⟨_,e'⟩
    .exact ⟨_,z⟩
   show k m O _ _ d2 (o.write (d':=.lst q) e' ⟨ys,aY,bC.fits F _ _ Y⟩) (Dn.fits (F.trans (.mono U)) _ _ A) q2
  .exact y.elim
 .exact J.elim
theorem m1{i:Nat}{x:aj}{id:String}{name:aj}{e:au}{p apos a:bb}{r:V->List V->Hp->VK->Prop}{f:List D->D->(List D->D->Prop)->Prop}{t:WX}(slot:Slot "list" name id)(m:typeOf (.builtin id)=pure (.type "method_descriptor"))(v:MtR X id r)(A:M3 X.K r f)(y:G7 X e t)
  (hN:X.N[i]?=aa x:=by rfl) (q:vZ X.env.scope x:=by walk_at "1") (z:Zu x:=by decide) (n:Zt x:=by decide)
  (j:attributeBase (.Name x p) name X.env (eval (.Name x p) X.env)=eval (.Name x p) X.env:=by rfl)
  (l:Zp X a e:=by rfl)
  (d:Q0k apos a:=by rfl) (o:Zr X e []:=by rfl):
  G7 X (.Call (.Attribute (.Name x p) name apos) [e] [] a) (oq i f t) :=
 imp (NJ Hr slot m v (rE hN q z n) (eK y jY o) j l d o (by rfl)) λ_ _ _ h=>aAb A h
def xw:List D->D->(List D->D->Prop)->Prop:=λds d Q=>ds.length<bc/\Q (ds++[d]) .non
theorem aEB{K:ao}:M3 K NK xw:=by intro S H p xs ds y d Q3 Q h dn j a k;show⟨p,xs,y,rfl,rfl,h,by rw[<- dn.len];show a.1,k _ _ _ _ (dn.append (bC.one j)) (by symm) a.2⟩
noncomputable def xu:List D->D->(List D->D->Prop)->Prop
 |ds,.int k,Q=>(-(2^63)<=k/\k<2^63)/\(match P5 ds.length k with|some j=>(match ds[j]? with|some d=>Q (ds.eraseIdx j) d|none=>False)|none=>False)
 |_,_,_=>False
theorem aED{K:ao}:M3 K VQ xu:=by
 intro S H p xs ds y d Q3 Q l dn h a k
 cases d with
 |int i =>
  symm at h;subst h;obtain⟨⟨m,h2⟩,a⟩:=a;split at a
  .rename_i j ej;split at a
   .rename_i dd ed;obtain⟨v,ev,n⟩:=dn.get ed;obtain⟨g1,_⟩:=EE ej;show⟨p,xs,i,j,v,rfl,rfl,l,m,h2,by rw[<- dn.len];show g1,ev,k _ _ _ _ (dn.erase j) n a⟩
   .exact a.elim
  .exact a.elim
 |_=>show a.elim
section
variable{i:Nat}{x:aj}{e:au}{p apos cpos:bb}{t:WX}
def Pw(n:G7 X e t)(hN:X.N[i]?=aa x:=by rfl)(l:vZ X.env.scope x:=by walk_at "1")(o:Zu x:=by decide)(j:Zt x:=by decide)
  (d:attributeBase (.Name x p) "append" X.env (eval (.Name x p) X.env)=eval (.Name x p) X.env:=by rfl)
  (h:Zp X cpos e:=by rfl)
  (a:Q0k apos cpos:=by rfl) (m:Zr X e []:=by rfl):
  G7 X (.Call (.Attribute (.Name x p) "append" apos) [e] [] cpos) (oq i xw t):=m1 a1a PySem.F.type_list_append CB aEB n hN l o j d h a m
def Pu(n:G7 X e t)(hN:X.N[i]?=aa x:=by rfl)(l:vZ X.env.scope x:=by walk_at "1")(o:Zu x:=by decide)(j:Zt x:=by decide)
  (d:attributeBase (.Name x p) "pop" X.env (eval (.Name x p) X.env)=eval (.Name x p) X.env:=by rfl)
  (h:Zp X cpos e:=by rfl)
  (a:Q0k apos cpos:=by rfl) (m:Zr X e []:=by rfl):
  G7 X (.Call (.Attribute (.Name x p) "pop" apos) [e] [] cpos) (oq i xu t):=m1 a06 PySem.F.type_list_pop VR aED n hN l o j d h a m
end
def xt(ρ:bT)(i:Nat):Prop:=match ρ[i]? with
 |some (.ow (.lst _))=>True
 |_=>False
def Pr(i:Nat)(t:WX)(h:WE):WS:=λE ρ=>t ρ λa d=>xt a i/\h (bD a) λk=>match a[i]?,k with
 |some (.ow (.lst ds)),.int k=>(match P5 ds.length k with|some j=>E.nx (a.set i (.ow (.lst (ds.set j d))))|none=>False)
 |_,_=>False
theorem put3(he:G7 X e t)(hk:dB X k tk)
  (hN:X.N[i]?=aa x:=by rfl) (Y:vZ X.env.scope x:=by walk_at "1") (hd:Zu x:=by decide) (A:Zt x:=by decide)
  (ha:∀v,assign (.Subscript (.Name x p) k pos') X.env v=(do
   let ov <- holding [v] (eval (.Name x p) X.env)
   let iv <- holding [v,ov] (eval k X.env)
   standAt pos'
   holding [v,ov,iv] (setItem ov iv v)
   release [v,ov,iv] []):=by intro _;rfl)
  (hs:swapsWithSole [.Subscript (.Name x p) k pos'] e ν.line X.env=pure ag:=by rfl) (hw:swappedStores [.Subscript (.Name x p) k pos'] e X.env=pure af:=by rfl)
  (h1:(df [.Subscript (.Name x p) k pos'] X.env).map (·.2)=[assign (.Subscript (.Name x p) k pos') X.env]:=by rfl):
  CH X (.Assign [.Subscript (.Name x p) k pos'] e ν) (Pr i t tk):=jR (VB he (aDV (rE hN Y hd A) hk set_list ha) hs hw h1) λB σ H Pq=>by
 obtain⟨H₀,S,w,ρ,G,E,L,st,Z,ok⟩:=Pq;show⟨H₀,S,w,ρ,G,_,L,st,Z,λm v H' h d l d' y=>?_⟩;obtain⟨q,y⟩:=y;unfold xt at q;split at q
 .rename_i ds0 e0;obtain⟨a0,_,_⟩:=l.own i _ e0;show⟨_,a0,S,bD h,_,l.IQ,l.all,y,λkv O dk I o q2=>?_⟩;split at q2
  .rename_i ds k' e1;symm at o;split at q2
   .rename_i j ej;have n:=l.same I;obtain⟨a,b,c⟩:=n.own i _ e1;obtain⟨xs,J,dn⟩:=c;have U:¬ SO S m h (m i):=λ⟨_,z⟩=>z i _ e1 rfl;have F:Fits X.K (SO S m h) (SO S m h) O (upd O (m i) (.lst (xs.set j v))):=.upd (.inl ⟨_,J⟩) U;show⟨m i,xs,k',j,rfl,o,J,by rw[<- dn.len];show ej,ok.nx m σ _ _ L (n.write (d':=.lst (ds.set j d)) e1 ⟨_,aY,bC.fits F _ _ (dn.set j (Dn.fits (.same I) _ _ d'))⟩) q2⟩
   .exact q2.elim
  .exact q2.elim
 .exact q.elim
end
structure Wlk (K:ao) (J:It) (ds:List D) (G:List (D×V)):Prop where
 go:∀(S:ah->Prop) (H:Hp),(∀a,H a=af->S a)->(∀g∈G,Dn K S H g.1 g.2) ->∀(i:Nat) (d:D),ds[i]?=aa d->J.go i H /\∀x H',J.yld i H x H'->ξ H H'/\Dn K S H' d x
 stop:∀(S:ah->Prop) (H:Hp),(∀g∈G,Dn K S H g.1 g.2) ->∀i:Nat,ds.length=i->J.stop i H
abbrev WI:=dZ->(List D->Prop)->Prop
def Ex(K:ao)(t:WI):TI:=λσ H R=>∃(S:ah->Prop) (ρ:dZ) (Q3:List D->Prop),(∀a,H a=af->S a)/\Sl K S H ρ σ/\t ρ Q3 /\
 ∀J H' ds G,ξ H H'->(∀g∈G,Dn K S H' g.1 g.2)->Wlk K J ds G->Q3 ds->R J H'
def WK(X:Cx)(a iter:au)(t:WI):Prop:=PI X a iter (Ex X.K t)
section
variable{tg:au}
theorem QH(h:PI X tg e t)(f:∀σ H R,t' σ H R->t σ H R):PI X tg e t':=λπ s σ H R I q=>h π s σ H R I (f σ H R q)
noncomputable def Yh(t:WE):WI:=λρ Q=>t ρ λd=>match d with
 |.lst ds=>Q ds
 |.tup ds=>Q ds
 |_=>False
theorem WL{K:ao}{a:ah}{ds:List D}:Wlk K (Itl K a) ds [(.lst ds,.ref a)] where
 go:=λS H q m i d e=>by have h:=m _ (cc.mpr rfl);symm at h;obtain⟨b,xs,j,l,n,dn⟩:=h;injection j with j;subst j;obtain⟨v,ev,p⟩:=dn.get e;show⟨⟨xs,v,eZ.of l,ev⟩,λx H' y=>?_⟩;obtain⟨o,y⟩:=y;subst o;have ex:=y xs (eZ.of l);rw[ev] at ex;cases ex;show⟨ξ.refl _,p⟩
 stop:=λS H m i hi=>by have h:=m _ (cc.mpr rfl);symm at h;obtain⟨b,xs,j,l,n,dn⟩:=h;injection j with j;subst j;show⟨xs,eZ.of l,by rw[<- dn.len];show nz hi⟩
theorem aAc{K:ao}{a:ah}{ds:List D}:Wlk K (Itt K a) ds [(.tup ds,.ref a)] where
 go:=λS H p m i d e=>by have h:=m _ (cc.mpr rfl);symm at h;obtain⟨b,xs,j,l,dn⟩:=h;injection j with j;subst j;obtain⟨v,ev,o⟩:=dn.get e;show⟨⟨xs,v,(fJ.of l),ev⟩,λx H' y=>?_⟩;obtain⟨n,y⟩:=y;subst n;have ex:=y xs (fJ.of l);rw[ev] at ex;cases ex;show⟨ξ.refl _,o⟩
 stop:=λS H m i hi=>by have h:=m _ (cc.mpr rfl);symm at h;obtain⟨b,xs,j,l,dn⟩:=h;injection j with j;subst j;show⟨xs,(fJ.of l),by rw[<- dn.len];show nz hi⟩
def aEG(L:PE X l tl):PI X tg l (λσ H R=>tl σ H λx m=>∃a,x=.ref a/\(((∃xs,eZ X.K m a xs)/\R (Itl X.K a) m)\/((∃xs,fJ X.K m a xs)/\R (Itt X.K a) m))):=by
 intro π s σ H R I h;show eR (L π s σ H _ I h) λv d O=>?_;obtain⟨x,m,j,F,q1⟩:=O;obtain⟨a,e,q⟩:=q1;subst e;cases F;rcases q with⟨⟨xs,n⟩,q⟩|⟨⟨xs,n⟩,q⟩
 .obtain ⟨z,A,p,J⟩:=j.list n;show Gq p.isList ?_;show⟨d.heap.objs.size,[d.heap.objs.size],_,_,m,rfl,j.kept (t':=d.toks) λb o e=>cm _ e,PQ a _,⟨_,dg _ rfl,rfl,rfl⟩,λb y=>?_,q⟩;have e:b=d.heap.objs.size:=by simpa using y
  subst e;show j.EA (bj _) (j.hok.fresh (bj _))
 .obtain ⟨z,A,p,J⟩:=j.tuple n;show ou (show d.heap.IsTuple a z.toArray from p) ?_;show⟨d.heap.objs.size,[d.heap.objs.size],_,_,m,rfl,j.kept (t':=d.toks) λb o e=>cm _ e,JZ a _,⟨_,dg _ rfl,rfl,rfl⟩,λb y=>?_,q⟩;have e:b=d.heap.objs.size:=by simpa using y
  subst e;show j.EA (bj _) (j.hok.fresh (bj _))
theorem Yg(h:dB X l t):WK X tg l (Yh t):=QH (aEG h) λσ H R F=>by
 obtain⟨S,ρ,Q3,z,x,y,k⟩:=F;show⟨S,ρ,_,z,x,y,λv q d p m q1=>?_⟩
 cases d with
 |lst ds =>
  have j:=m;symm at m;obtain⟨a,xs,rfl,o,I,A⟩:=m;show⟨a,rfl,.inl ⟨⟨xs,eZ.of o⟩,k _ q ds [(.lst ds,.ref a)] p (λg n=>by cases cc.mp n;show j) WL q1⟩⟩
 |tup ds =>
  have j:=m;symm at m;obtain⟨a,xs,rfl,o,A⟩:=m;show⟨a,rfl,.inr ⟨⟨xs,(fJ.of o)⟩,k _ q ds [(.tup ds,.ref a)] p (λg n=>by cases cc.mp n;show j) aAc q1⟩⟩
 |_=>show q1.elim
def kX(lo:Int)(n:Nat):List Int:=(b_ n).map λk:Nat=>lo+(k:Int)
def lP(lo:Int)(n:Nat):(kX lo n).length=n:=by simp[kX]
def WM{lo:Int}{n i:Nat}:(kX lo n)[i]?=if i<n then aa (lo+(i:Int)) else af:=by
 unfold kX;rw[cf];by_cases h:i<n
 .rw [Z_ h,tm h];rfl
 .rw [Zz h,km (by simpa using h)];rfl
theorem QI{K:ao}{lo:Int}{n:Nat}:Wlk K (Itr lo n) ((kX lo n).map D.int) [] where
 go:=λS H m a i d e=>by
  rw[cf,WM] at e;by_cases h:i<n
  .rw [Z_ h] at e;cases e;show⟨h,λx H' y=>?_⟩;obtain⟨l,j⟩:=y;subst l;show⟨ξ.refl _,by symm;show j⟩
  .rw [Zz h] at e;cases e
 stop:=λS H a i hi=>by rw[az,lP] at hi;show nz hi
noncomputable def aEH(t:WA):WI:=λρ Q=>t ρ λds=>match ds with
 |[.int j]=>(-(2^62)<=j/\j<2^62)/\Q ((kX 0 j.toNat).map D.int)
 |_=>False
def aEI(q:X.mg "range"=af)(x:zN X [a] t)(d:Gl X "range":=by rfl)(o:ar [a] X.env=[(ag,eval a X.env)]:=by rfl):WK X tg (.Call (.Name "range" p) [a] [] ν) (aEH t) :=
 QH (PU d q x o) λσ H R A=>by
  obtain⟨S,ρ,Q3,y,l,n,k⟩:=A;show⟨S,ρ,_,y,l,n,λvs F ds m z q1=>?_⟩;split at q1
  .rename_i j;obtain⟨v,r,rfl,h,h2⟩:=z.bQ;simp only[bC] at h2;subst h2;symm at h;subst h;show⟨j,rfl,q1.1.1,q1.1.2,k _ F _ [] m (λg d=>nomatch d) QI q1.2⟩
  .exact q1.elim
abbrev WG:=D->bT->(bT->Prop)->Prop
def Yf(K:ao)(n:Nat)(g:WG):TG:=λv σ H Q=>∃(H₀:Hp) (S:ah->Prop) (w:Nat->ah) (ρ:bT) (G:List (D×V)) (d:D) (Q3:bT->Prop),σ.length=n/\ST K H₀ S w σ H ρ G/\Dn K (SO S w ρ) H d v/\g d ρ Q3 /\
 ∀a H' h,a.length=n->ST K H₀ S w a H' h G->Q3 h->Q a H'
def PG3(X:Cx)(tg:au)(g:WG):Prop:=PG X tg (Yf X.K X.N.length g)
def QJ(h:PG X e t)(f:∀v σ H Q,t' v σ H Q->t v σ H Q):PG X e t':=λπ s σ H v u Q I r q=>h π s σ H v u Q I r (f v σ H Q q)
def gN(i:Nat):WG:=λd ρ Q=>Q (ρ.set i (.ro d))
theorem Ye(hN:X.N.Nodup)(hi:X.N[i]?=aa x:=by rfl)(h:Loc X.env.scope x:=by walk_at "0")(l:Zq X x:=by walk_at "0"):PG3 X (.Name x ν) (gN i) :=
 QJ (pX hN hi h l) λv σ H Q m=>by obtain⟨H₀,S,w,ρ,G,d,Q3,a,st,dn,j,k⟩:=m;show k _ H _ (by rw[dm];show a) (st.lZ (by rw[a];show jS hi) dn) j
noncomputable def g2(i j:Nat):WG:=λd ρ Q=>match d with
 |.tup [d1,d2]=>Q ((ρ.set i (.ro d1)).set j (.ro d2))
 |_=>False
def Yd(hc:X.calm=ae)(hN:X.N.Nodup)(hi:X.N[i]?=aa x:=by rfl)(L:X.N[j]?=aa y:=by rfl)(Z:Loc X.env.scope x:=by walk_at "0")(Y:Loc X.env.scope y:=by walk_at "0")
  (K:Zq X x:=by walk_at "0") (J:Zq X y:=by walk_at "0")
  (hn:Q0j X x y px py:=by rfl) (q:Q0i X x y px py:=by rfl)
  (F:gV X x y px py:=by rfl) (A:Q0h X y py:=by rfl):
  PG3 X (.Tuple [.Name x px,.Name y py] k ν) (g2 i j) :=
 QJ (VA (n:=2) hc (sP (pX hN hi Z K) (sP (pX hN L Y J) NC A) F) hn q) λv σ H Q Pl=>by
  obtain⟨H₀,S,w,ρ,G,d,Q3,I,st,dn,h,k⟩:=Pl;unfold g2 at h;split at h
  .rename_i d1 d2;symm at dn;obtain⟨a,xs,rfl,ha,da⟩:=dn;obtain⟨U,r1,rfl,h1,h2⟩:=da.bQ;obtain⟨l,r2,rfl,h3,O⟩:=h2.bQ;simp only[bC] at O;subst O;show⟨a,_,rfl,(fJ.of ha),rfl,U,[l],rfl,l,[],rfl,rfl,?_⟩;have p:=st.lZ (i:=i) (by rw[I];show jS hi) h1;have m:∀a,SO S w ρ a->SO S w (ρ.set i (.ro d1)) a:=SO.mono λn f K=>by
    rcases get_set K with⟨_,z,_⟩|⟨_,z⟩
    .cases z
    .exact ⟨_,z⟩
   have o:=p.lZ (i:=j) (d:=d2) (v:=l) (by rw[dm,I];show jS L) (Dn.fits (.mono m) _ _ h3);show k _ H _ (by rw[dm,dm];show I) o h
  .exact h.elim
def Pk(j:WI)(g:WG)(l:WS):WS:=λE ρ=>j (gF ρ) λds=>∃Φ:Nat->bT->Prop,Φ 0 ρ /\
 (∀(i:Nat) (d:D) (a:bT),ds[i]?=aa d->Φ i a->g d a λh=>l {E with nx:=Φ (i+1),ct:=Φ (i+1),bk:=E.nx} h) /\∀a,Φ ds.length a->E.nx a
theorem Pj(hc:X.calm=ae)(hp:qx (aw X.Ω X.w) X.A X.env X.xe)(hi:WK X tg iter ti)(p:PG3 X tg g)(hb:wF X body tb)
  (hs:Zo X iter:=by intro _;rfl):CH X (.For tg iter body [] ν) (Pk ti g tb):=jR (aDY hp hc hi p hb hs) λB σ H Pg=>by
 obtain⟨H₀,S,w,ρ,G,E,hl,st,ht,ok⟩:=Pg;show⟨_,gF ρ,_,st.NO,st.rd,ht,λJ H1 ds U s1 hg1 wk q1=>?_⟩;obtain⟨Iv,h0,turn,fin⟩:=q1;have L:∀{w σ H ρ},ST X.K H₀ S w σ H ρ (U++G)->ST X.K H₀ S w σ H ρ G:=λst=>st.ghost λg p=>st.gh g (gp _ p);show⟨λi m σ H=>m=ds.length-i/\i<=ds.length/\σ.length=X.N.length /\∃w ρ,ST X.K H₀ S w σ H ρ (U++G)/\Iv i ρ,
  ⟨_,rfl,kh _,hl,w,ρ,(st.same s1).ghost λg p=>(gn.mp p).elim (λz=>hg1 g z) λz=>(st.same s1).gh g z,h0⟩,?_⟩
 rintro i m Y H2 ⟨rfl,hi2,O,w2,o,n,iv⟩;by_cases I:i<ds.length
 .refine .inr ?_;obtain⟨g1,g2⟩:=wk.go _ H2 n.NO (λg p=>n.gh g (gj _ p)) i ds[i] (by simp[I]);show⟨g1,λa H'=>a.length=X.N.length /\∃w ρ,ST X.K H₀ S w a H' ρ (U++G)/\Iv (i+1) ρ,λa H' ⟨l,F,h,j,iv'⟩=>⟨ds.length-(i+1),by lia,rfl,I,l,F,h,j,iv'⟩,λx H' y=>?_⟩;obtain⟨s3,dx⟩:=g2 x H' y;show⟨H₀,S,w2,o,U++G,ds[i],_,O,n.same s3,dx,turn i ds[i] o (by simp[I]) iv,λσ4 H4 Z hl4 st4 q4=>?_⟩;show⟨H₀,S,w2,Z,U++G,_,hl4,st4,q4,⟨λF a H' h l j q=>⟨l,F,h,j,q⟩,λv H' d s' d' q=>ok.rt v H' d s' d' q,λF a H' h l j q=>ok.nx F a H' h l (L j) q,λF a H' h l j q=>⟨l,F,h,j,q⟩,ok.ex⟩⟩
 .have e:i=ds.length:=by lia
  subst e;show .inl ⟨wk.stop _ H2 (λg p=>n.gh g (gj _ p)) _ rfl,ok.nx w2 Y H2 o O (L n) (fin o iv)⟩
end
theorem zV(h:∀x∈scope.names,x.2=.free ->∃c,env.cells.lookup x.1=aa c):
  ∃d,closureFor scope env=pure d/\(∀x∈scope.names,x.2=.free->d.lookup x.1=env.cells.lookup x.1) /\∀x c,d.lookup x=aa c->env.cells.lookup x=aa c:=by
 have go:∀(l:List (aj×ja)) (j:List (aj×ah)),(∀x∈l,x.2=.free ->∃c,env.cells.lookup x.1=aa c)->(∀x c,j.lookup x=aa c->env.cells.lookup x=aa c) ->
   ∃d,(forIn l j λ(x:aj×ja) (U:List (aj×ah))=>(match x with|(name,kind)=>if(kind == jh)=ae then(do let c <- cellOf env name;pure (mq ((name,c)::U))) else pure (mq U):Sem (ForInStep (List (aj×ah)))))=pure d /\
    (∀x c,j.lookup x=aa c->d.lookup x=aa c)/\(∀x∈l,x.2=.free->d.lookup x.1=env.cells.lookup x.1) /\∀x c,d.lookup x=aa c->env.cells.lookup x=aa c:=by
  intro l
  induction l with
  |nil=>intro j _ p;show⟨j,by rw[wc],λ_ _ z=>z,λx a=>(nomatch a),p⟩
  |cons y l ih =>
   intro j J p;by_cases F:y.2=.free
   .obtain ⟨c,I⟩:=J y cb F;have K:∀x n,((y.1,c)::j).lookup x=aa n->env.cells.lookup x=aa n:=λx n a=>by
     rw[s_] at a;split at a
     .rename_i e;cases a;rw[eq_of_beq e];show I
     .exact p x n a
    obtain⟨d,e,v,h2,q⟩:=ih ((y.1,c)::j) (λx a=>J x (e_ _ a)) K;show⟨d,?_,λx n a=>?_,λx a m=>?_,q⟩
    .rw [ll,<- e];have A:(y.2 == jh)=ae:=by rw[F];rfl
     have O:cellOf env y.1=pure c:=by unfold cellOf;rw[I]
     obtain⟨X,Y⟩:=y;dsimp only at A O ⊢;rw[Z_ A,O];rfl
    .by_cases o:x=y.1
     .subst o;have Z:((y.1,c)::j).lookup y.1=aa c:=by simp
      have L:=p _ _ a;rw[I] at L;cases L;show v _ _ Z
     .refine v x n ?_;rw[s_];have:(x == y.1)=ag:=by simpa using o
      rw[this];show a
    .rcases bh.mp a with rfl|a
     .rw [I];show v _ _ (by simp)
     .exact h2 x a m
   .obtain ⟨d,e,v,h2,q⟩:=ih j (λx a=>J x (e_ _ a)) p;show⟨d,?_,v,λx a m=>?_,q⟩
    .rw [ll,<- e];have A:¬ (y.2 == jh)=ae:=by simpa using F
     obtain⟨X,Y⟩:=y;dsimp only at A ⊢;rw[Zz A];rfl
    .rcases bh.mp a with rfl|a
     .exact Zw m F
     .exact h2 x a m
 obtain⟨d,e,_,h2,q⟩:=go scope.names [] h (λx c z=>by simp at z);show⟨d,?_,h2,q⟩;have e':=congrArg (λt=>t >>= λr=>(pure r:Sem (List (aj×ah)))) e;show e'
theorem jN:∀(l:List (aj×ja)) (n:Nat) (own a:List (aj×ah)),cellsFrom n l (own++a)=cellsFrom n l own++a
 |[],_,_,_=>rfl
 | (x,k)::r,n,own,a=>by
  unfold cellsFrom;split
  .exact jN r (n+1) ((x,n)::own) a
  .exact jN r n own a
theorem kZ:∀(l:List (aj×ja)) (n:Nat) (own:List (aj×ah)) (p:aj×ah),p∈cellsFrom n l own->p∈own\/(p.1,kg)∈l
 |[],_,_,_,h=>.inl h
 | (x,k)::r,n,own,p,h=>by
  unfold cellsFrom at h;split at h
  .rename_i hk;rcases kZ r _ _ p h with h|h
   .rcases bh.1 h with rfl|h
    .exact .inr (by rw[<- eq_of_beq hk];show cb)
    .exact .inl h
   .exact .inr (e_ _ h)
  .rcases kZ r _ _ p h with h|h
   .exact .inl h
   .exact .inr (e_ _ h)
theorem l5:∀(l:List (aj×ja)) (n:Nat) (own:List (aj×ah)) (x:aj),((∃c,own.lookup x=aa c)\/(x,kg)∈l) ->∃c,(cellsFrom n l own).lookup x=aa c
 |[],_,_,_,h=>h.elim id λz=>(nomatch z)
 | (y,k)::r,n,own,x,h=>by
  unfold cellsFrom;split
  .refine l5 r _ _ x ?_;by_cases e:x=y
   .exact .inl ⟨n,by rw[e,s_,beq_self_eq_true]⟩
   .rcases h with⟨c,h⟩|h
    .exact .inl ⟨c,by rw[s_,beq_eq_false_iff_ne.mpr e];show h⟩
    .rcases bh.mp h with z|z
     .exact Zw (a1H z).1 e
     .exact .inr z
  .rename_i hk;show l5 r _ _ x (h.imp_right λz=>?_);rcases bh.mp z with z|z
   .rw [<- (a1H z).2] at hk;show Zw rfl hk
   .exact z
theorem QK{M:vq}{A:bq}{E:Q0c}{s:ak}{sc:fj}{g:ah}{j:List (aj×ah)}{q:aj}{f:Option ah}{code:ai}{env:de}{bl:ah}{Q:de->ak->Prop}
  (h:∀a:ay,a.Ns s.heap.objs.size (λ_=>af)->(∀b o,s.heap.get? b=aa o->a.get? b=aa o)->CellsOk a (s.heap.objs.size+1) (cellsFrom (s.heap.objs.size+1) sc.names []) ->
   Q (newEnv sc s.heap.objs.size g (cellsFrom (s.heap.objs.size+1) sc.names j) q f code (aa env) bl) {s with heap:=a}):
  av M A (newFunctionEnv sc g j [] q f code (aa env) bl) Q E s:=by
 unfold newFunctionEnv;show aq (wpAny_alloc (aq (wpAny_layCells _ (λx k c=>by cases e:k == kg<;>simp[e]) _ _ _ _ ?_)));have d:∀o:ax,(s.heap.push o).objs.size=s.heap.objs.size+1:=λo=>ko ..;have ok:=λo=>cellsFrom_ok sc.names (s.heap.push o) (s.heap.objs.size+1) [] ⟨λ_ _ z=>(nomatch z),.nil⟩ (by rw[d];show bj _);simp only[d] at ok ⊢;rw[wc];show aq (a_ (a_ (h _ ((Heap.Ns.new s.heap _).keeps (a0t _ _)) (λb o e=>a0t _ _ b o (cm _ e)) (ok _))))
def blk(X:Cx)(N:Q0g)(sc:fj)(a:List (aj×ah))(C:ah)(pn:Q0b)(ex:List ah)(s₀:ak)(H₀:Hp):Cx :=
 {X with N:=N,s₀:=s₀,H₀:=H₀,env:=compEnvC sc a C X.env,Γ:=X.stack,stack:=X.stack,ex:=ex,fn:=λx=>sc.names.lookup x == aa kg,pn:=pn,xe:=λ_ _=>False}
def G8(nl:Nat)(fr:List Nat)(σ:L2.St):L2.St:=bp nl af++fr.map λj=>(σ[j]?).join
structure G9 (X:Cx) (ls fs:Q0g) (fr:List Nat) (sc:fj):Prop where
 kind:sc.kind=.function
 nd:(ls++fs).Nodup
 uniq:∀x∈sc.names,sc.names.lookup x.1=aa x.2
 free:∀x∈sc.names,x.2=.free->X.env.kindOf x.1=aa .cell\/X.env.kindOf x.1=aa .free
 slot:∀(k:Nat) (x:aj),fs[k]?=aa x ->∃j,fr[k]?=aa j/\X.N[j]?=aa x/\(x,jh)∈sc.names/\sc.names.lookup x=aa .free
 A3:fr.length=fs.length
theorem vP(t:aj->ja->ja)(x:aj):∀l:List (aj×ja),(l.map λp=>(p.1,t p.1 p.2)).lookup x=(l.lookup x).map (t x)
 |[]=>rfl
 | (n,k)::r=>by
  rw[bo,s_,s_];by_cases a:(x == n)=ae
  .rw [a,eq_of_beq a];rfl
  .rw [a2z] at a;rw[a];show vP t x r
theorem zW{sc:fj}{env:de}{x:aj}{l:List (aj×ja)}:(l.map λ(n,k)=>if(k == jh&&env.scope.kind == .function&&env.kindOf n == aa .cell) then(n,kg) else(n,k)).lookup x =
  (l.lookup x).map λk=>if(k == jh&&env.scope.kind == .function&&env.kindOf x == aa .cell) then kg else k:=by
 rw[<- vP (λy k=>if(k == jh&&env.scope.kind == .function&&env.kindOf y == aa .cell) then kg else k) x l];show congrArg (List.lookup x) (gk λp _=>?_);dsimp only;split<;>rfl
def ne_size{b c:ah}{h:ay}{o:ax}(e:h.get? b=aa o)(a:c=h.objs.size):b≠c:=λz=>jb _ (by have q:=br e;rw[z,a] at q;show q)
def HA{b c:ah}{n:Nat}(h:b<n)(a:n<=c):b≠c:=λz=>jb c (fw (z▸h) a)
theorem aAe{ls fs:Q0g}{fr:List Nat}{sc:fj}{h:List (aj×ah)}{C:ah}{π:Q0b}{ex:List ah}{σ:L2.St}{H:Hp}{s s4:ak}(B:G9 X ls fs fr sc)(I:Φ X π σ H s)
  (hcl:∀x∈sc.names,x.2=.free->h.lookup x.1=X.env.cells.lookup x.1) (mQ:∀x c,h.lookup x=aa c->X.env.cells.lookup x=aa c\/(C<c/\s4.heap.IsCell c af)) (Cy:∀x∈sc.names,x.2=.cell ->∃c,h.lookup x.1=aa c/\C<c)
  (hinj:∀x y c,h.lookup x=aa c->h.lookup y=aa c->x=y) (hex:∀b∈ex,rF X π H b/\b<s.heap.objs.size)
  (O:C=s.heap.objs.size) {m:Q0d} (hn:s4.heap.Ns C m) (hk:∀b o,s.heap.get? b=aa o->s4.heap.get? b=aa o) (ho:s4.os=s.os) (hg:s4.gens=s.gens):
  Φ (blk X (ls++fs) sc h C (X.pn++π) ex s H) [] (G8 ls.length fr σ) H s4:=by
 have Z:∀{b:ah} {o:ax},s.heap.get? b=aa o->b≠C:=λe=>ne_size e O;have aNk:∀x c,h.lookup x=aa c->c≠C:=λx c e=>by
  rcases mQ x c e with e|⟨e,_⟩
  .obtain ⟨v,o,ho,_⟩:=I.cell x c e;show Z ho
  .exact kr e
 have Bx:∀x,(compEnvC sc h C X.env).kindOf x=(sc.names.lookup x).map λk=>if(k == jh&&X.env.scope.kind == .function&&X.env.kindOf x == aa .cell) then kg else k:=λx=>zW (sc:=sc)
 have okX:(blk X (ls++fs) sc h C (X.pn++π) ex s H).Ok:=by
  show⟨I.ok.mod,B.kind,I.ok.glob,I.ok.blt,(by show s.heap.objs.size<=C;rw[O];show bj _),hinj,λx A=>?_,λx c hf hl=>?_,I.ok.hd,I.ok.frames,.inl rfl,λb L=>?_,λb o e=>I.bs b o e,f_ I.ok.RX I.sz,λb o e L=>?_,λb L=>?_,I.stack,I.w9,I.tab⟩
  ·-- a cell or free name of the block
   have hx':∃k,sc.names.lookup x=aa k/\((if(k == jh&&X.env.scope.kind == .function&&X.env.kindOf x == aa .cell) then kg else k)=.cell\/(if(k == jh&&X.env.scope.kind == .function&&X.env.kindOf x == aa .cell) then kg else k)=.free):=by
    have A:(compEnvC sc h C X.env).kindOf x=aa .cell\/(compEnvC sc h C X.env).kindOf x=aa .free:=A;rw[Bx] at A
    cases e:sc.names.lookup x with
    |none=>rw[e] at A;rcases A with A|A<;>cases A
    |some k=>rw[e] at A;show⟨k,rfl,A.imp (λz=>cx z) λz=>cx z⟩
   obtain⟨k,e,K⟩:=hx';have U:=jr e;by_cases kf:k=.free
   .subst kf;have q:=hcl _ U rfl;obtain⟨c,hc⟩:=I.ok.has x (B.free _ U rfl);show⟨c,q.trans hc⟩
   .have Y:(k == jh)=ag:=by simpa using kf
    rw[Y] at K;simp only[tw,qi,if_false] at K;rcases K with z|z
    .obtain ⟨c,hc,_⟩:=Cy _ U z;show⟨c,hc⟩
    .exact Zw z kf
  ·-- an own cell is new
   obtain⟨c',F,hlt⟩:=Cy _ (jr (eq_of_beq hf)) rfl;have F:h.lookup x=aa c':=F;have hl:h.lookup x=aa c:=hl;rw[hl] at F;cases F;rw[O] at hlt;show ku hlt
  .refine ⟨HA (hex b L).2 (nz O.symm),λx c e=>?_⟩;rcases mQ x c e with e|⟨e,_⟩
   .exact (hex b L).1.2.2.2.2.1 x c e
   .exact d_ (HA (hex b L).2 (by rw[<- O];show ku e))
  .obtain ⟨⟨_,_,_,f3,_,_⟩,_⟩:=hex b L;rcases f3 with f3|f3
   .exact I.ok.JW b o e f3
   .exact Zw (fw (br e) (f_ I.ok.RX f3)) (jb _)
  .intro z;obtain⟨⟨_,f1,f2,_,_,_⟩,_⟩:=hex b L;rcases bh.mp (I.rD b z) with z|z
   .exact f1 z
   .exact f2 z
 show⟨okX,ho,by rw[hg];show I.bare,Un.kept hk,⟨m,hn,λi x v h1 h2 h3=>?_⟩,λx c e=>?_,?_,λx c e=>?_,λp hp=>?_,I.hok.kept hk,?_⟩
 ·-- a name with a value is one from around
  have hi:¬ i<ls.length:=λhi=>by unfold G8 at h2;rw[jv (by simpa using hi),jc,Z_ hi] at h2;cases h2
  have e1:fs[i-ls.length]?=aa x:=by have h1:(ls++fs)[i]?=aa x:=h1;rw[ju ∅] at h1;show h1
  obtain⟨j,ej,eN,U,hlk⟩:=B.slot _ _ e1;have Y:(σ[j]?).join=aa v:=by unfold G8 at h2;rw[ju (by simpa using hi),cf,ig,ej] at h2;show cx h2
  have e3:σ[j]?=aa (aa v):=by
   cases q:σ[j]? with
   |none=>rw[q] at Y;cases Y
   |some o=>rw[q] at Y;rw[show o=aa v from Y]
  have hfr:=B.free _ U rfl;have vis:vZ X.env.scope x:=.inr hfr;obtain⟨mm,hnm,hl⟩:=I.loc;obtain⟨u,r,l⟩:=hl j x v eN e3 vis;show⟨u,r,?_⟩;rcases l with⟨k1,_⟩|⟨k1,c,ec,zc⟩
  .have k1:X.env.kindOf x=aa .local:=k1;rcases hfr with z|z<;>rw[k1] at z<;>cases z
  .refine .inr ⟨?_,c,(hcl _ U rfl).trans ec,?_⟩
   .show (compEnvC sc h C X.env).kindOf x=aa .cell\/(compEnvC sc h C X.env).kindOf x=aa .free;rw[Bx,hlk];dsimp only[Option.map];split
    .exact .inl rfl
    .exact .inr rfl
   .obtain ⟨oc,J,hd⟩:=zc;show⟨oc,hk _ _ J,hd⟩
 .rcases mQ x c e with e|⟨_,e⟩
  .obtain ⟨v,oc,J,hd⟩:=I.cell x c e;show⟨v,oc,hk _ _ J,hd⟩
  .exact ⟨af,e⟩
 .show H C=af;rw[O];show I.hok.fresh (bj _)
 .rcases mQ x c e with e|⟨e,_⟩
  .exact I.iH x c e
  .exact I.hok.fresh (by rw[<- O];show ku e)
 .have hp:p∈(X.pn++π)++[]:=hp;rw[iu] at hp;obtain⟨e,n,ne,nf,d⟩:=I.pin p hp;show⟨hk _ _ e,n,Z e,λz=>?_,d⟩;rcases bh.mp (I.rD _ z) with z|z
  .exact ne z
  .exact nf z
 .show (G8 ls.length fr σ).length=(ls++fs).length;unfold G8;rw[cy,cy,ig,az,B.A3]
theorem WN{ls fs:Q0g}{sc:fj}{O:List (aj×ah)}{C:ah}{π U:Q0b}{ex:List ah}{σ m:L2.St}{H H':Hp}{s s':ak}{h':ay}(I:Φ X π σ H s)
  (J:Φ (blk X (ls++fs) sc O C (X.pn++π) ex s H) U m H' s') (hex:∀b∈ex,rF X π H b) (y:C=s.heap.objs.size) (l:nq C s'.heap h'):Φ X π σ H' {s' with heap:=h' }:=by
 have a:∀{b:ah} {o:ax},s.heap.get? b=aa o->b≠C:=λe=>ne_size e y;have fr:H' C=af:=J.free;have un:Un (frs X.stack) ex H H' s.heap s'.heap:=J.ω;show I.call' (s':={s' with heap:=h' }) (ch:=ex) J.os ⟨λb o e n j h=>(l.2 b (a e)).trans (un.keep b o e n j h),λb o e n j h=>?_,un.free,λb o e h=>?_,un.tups,un.vY,un.uP⟩ ?_ J.bare λb j=>?_
 .obtain ⟨p,q⟩:=un.slot b o e n j h;show⟨p,(l.2 b (a e)).trans q⟩
 .obtain ⟨x,q⟩:=un.there b o e h;show⟨x,(l.2 b (a e)).trans q⟩
 .intro b v e;show(J.hok b v e).stay (λc u d q=>(l.2 c ?_).trans q) (λ_ q=>q) λ_ _ q=>q;intro z;rcases d with d|d
  .rw [z] at d;rw[<- d,fr] at e;cases e
  .rw [z,fr] at d;cases d
 .obtain ⟨_,L,_,K,F,A⟩:=hex b j;show⟨K,L,F,A⟩
abbrev aEJ(ifs:List au)(env:de):Sem Bool:=forIn ifs ae λc r=>if r=ae then(do let b <- isTrue c env (eval c env);pure (mq b)) else pure (mq r)
abbrev Calm(Ω:bf)(w:ba)(A:bq){α:Type}(t:Sem α)(Q:α->ak->Prop)(s:ak):Prop:=av (aw Ω w) A t Q (λ_ _=>False) s
theorem oX(l:Nat->ak->Prop)
  (turn:∀n s,l n s->Calm Ω w A (pyNext it) (λgot o=>match got with
   |none=>R (.ok .next) o
   |some v=>Calm Ω w A (letOwnedTupleGo tg it v) (λ_ y=>Calm Ω w A (assign tg env v) (λ_ s3=>Calm Ω w A (aEJ ifs env) (λok s4 =>
     if ok=ae then Calm Ω w A (eval el env) (λx q=>Calm Ω w A (call (.builtin "list.append") [ψ,x]) (λ_ p=>∃m,m<n/\l m p) q) s4 else ∃m,m<n/\l m s4) s3) y) o) s)
  (n:Nat) (h:l n s):ng (aw Ω w) A (.compLoop (.ListComp el [⟨tg,src,ifs,0⟩] bs at_) 0 it ψ env) R s:=by
 have no:∀{α:Type} {E:Q0c} {t:Sem α} {Q Q':α->ak->Prop} {s:ak},Calm Ω w A t Q s->(∀a s,Q a s->Q' a s)->av (aw Ω w) A t Q' E s:=λh f=>ik h f λ_ _ z=>z.elim;show codeAny_loop rfl l (λn s F=>?_) n h;show wpAny_noted (m:=compTurn (.ListComp el [⟨tg,src,ifs,0⟩] bs at_) 0 it ψ env) ?_;rw[compTurn_list];show aq (Gm (aq (no (turn n s F) λgot o j=>?_)))
 match got,j with
 |none,j=>show a_ j
 |some v,j =>
  show aq (no j λ_ _ h2=>aq (no h2 λ_ _ K=>aq (no K λok s4 d=>?_)))
  match ok,d with
  |false,d=>show a_ (wx rfl d)
  |true,d=>show aq (aq (no d λ_ _ J=>aq (no J λ_ _ I=>a_ (a_ (wx rfl I)))))
abbrev TFk:=L2.St->Hp->(Bool->Hp->Prop)->Prop
def PIf(X:Cx)(ifs:List au)(t:TFk):Prop :=
 ∀(π:Q0b) (s:ak) (σ:L2.St) (H:Hp) (Q:Bool->Hp->Prop),Φ X π σ H s->t σ H Q ->
  av (aw X.Ω X.w) X.A (forIn ifs ae λc r=>if r=ae then do let ok <- isTrue c X.env (eval c X.env);pure (mq ok) else pure (mq r)) (TP X π σ Q) X.xe s
def aAf:PIf X [] (λ_ H Q=>Q ae H):=λπ s σ H Q I h=>by rw[wc];show a_ ⟨H,I,h⟩
def aEK(h:PT X c t):PIf X [c] t:=λπ s σ H Q I hw=>by rw[ll];show aq ?_;rw[Z_ rfl];show aq (eR (h π s σ H Q I hw) λb a q=>a_ ?_);dsimp only;rw[wc];show a_ q
def NT(nl:Nat)(fr:List Nat)(wi:TI)(g:TG)(tf:TFk)(te:TE):TE:=λσ H Q=>wi σ H λJ o=>∀d,o d=af ->∃W:Nat->Nat->Hp->List V->Prop,(∃m,W 0 m (upd o d (.lst [])) []) /\
 ∀i m H ys,W i m H ys->H d=aa (.lst ys)/\((J.stop i H/\Q (.ref d) H)\/(J.go i H /\∀x H',J.yld i H x H'->g x (G8 nl fr σ) H' λa p=>(a.drop nl=fr.map λj=>(σ[j]?).join)/\tf a p λb n =>
  if b=ae then te a n λy l=>l d=aa (.lst ys)/\ys.length<bc /\∃h,h<m/\W (i+1) h (upd l d (.lst (ys++[y]))) (ys++[y]) else ∃h,h<m/\W (i+1) h n ys))
theorem HB{ls fs:Q0g}{fr:List Nat}{sc:fj}{tg iter elt:au}{ifs:List au}{ν p2:bb}{wi:TI}{g:TG}{tf:TFk}{te:TE}{π:Q0b}{σ:L2.St}{H:Hp}{s:ak}{Qe:VK}{use:Option (ai->Sem Unit)}{Qv:Q0c}
  (hc:X.calm=ae) (B:G9 X ls fs fr sc) (hi:PI X tg iter wi) (hg:∀F C pn ex s H,PG (blk X (ls++fs) sc F C pn ex s H) tg g) (hf:∀F C pn ex s H,PIf (blk X (ls++fs) sc F C pn ex s H) ifs tf) (he:∀F C pn ex s H,PE (blk X (ls++fs) sc F C pn ex s H) elt te)
  (hs:Zo X iter) (I:Φ X π σ H s) (h:NT ls.length fr wi g tf te σ H Qe)
  (fin:∀j C s' H',Φ X π σ H' s'->(∃m,s'.heap.Ns C m)->rF X π H' C->Qe (.ref j) H'->compPost (aw X.Ω X.w) X.A X.xe use Qv (.ref j) C (.ok .next) s'):
  av (aw X.Ω X.w) X.A (comprehension (.ListComp elt [⟨tg,iter,ifs,0⟩] sc ν) sc X.env p2 (newList []) ag (eval iter X.env) use) Qv X.xe s:=by
 obtain⟨F,ecl,hcl,mQ⟩:=zV (scope:=sc) (env:=X.env) λx hx hf=>I.ok.has x.1 (B.free x hx hf);show wpAny_comprehension_free (g:=⟨tg,iter,ifs,0⟩) (gs:=[]) rfl hs ecl B.kind (λx hx e=>(B.uniq x hx).trans (congrArg aa e)) ?_;show eR (hi π s σ H _ I h) λv s1 h1=>eR h1 λitv U h2=>?_;obtain⟨it,l,tn,J,H2,e,I2,T,st2,f2,h2⟩:=h2;subst e;show vh ?_ (by show([]:Q0f).toArray.size<=bc;simp);have hacc:H2 U.heap.objs.size=af:=I2.hok.fresh (bj _);have I3:Φ X π σ (upd H2 U.heap.objs.size (.lst [])) {U with heap:=U.heap.push {cls:=.type "list",data:=.seq ([]:Q0f).toArray} } :=
  I2.laid (t':=U.toks) (λb o e=>cm _ e) (bj _) ⟨by simp,[],0,.nil,dg _ rfl⟩
 have hfp:∀b∈l,b<U.heap.objs.size:=λb a=>by obtain⟨o,e,_⟩:=T.obj _ _ st2 b a;show br e
 obtain⟨W,⟨m0,w0⟩,turn⟩:=h2 _ hacc;generalize HC:U.heap.objs.size=j at hacc I3 w0 turn ⊢;have Qs:∀b∈l,b≠j:=λb a=>HA (hfp b a) (nz HC);have f3:∀b∈l,rF X π (upd H2 j (.lst [])) b:=λb a=>⟨by rw[bB (Qs b a)];show(f2 b a).1,(f2 b a).2⟩;generalize hs3:({U with heap:=U.heap.push {cls:=.type "list",data:=.seq ([]:Q0f).toArray} }:ak)=s3 at I3;have O:s3.heap.objs.size=j+1:=by rw[<- hs3];show(U.heap.push _).objs.size=_;rw[ko,HC]
 have st3:tn 0 s3.heap:=T.keep _ _ _ st2 λb a o e=>by rw[<- hs3];show cm _ e
 show QK λh4 hn4 hk4 co=>?_;generalize hC:s3.heap.objs.size=C at hn4 co ⊢;have eC:cellsFrom (C+1) sc.names F=cellsFrom (C+1) sc.names []++F:=jN sc.names (C+1) [] F;generalize hcs:cellsFrom (C+1) sc.names []=cs at co eC;have own:∀x c,cs.lookup x=aa c->(x,kg)∈sc.names/\C<c/\h4.IsCell c af:=λx c e=>by
  have m:=jr e;show⟨?_,(co.empty x c m).2,(co.empty x c m).1⟩;rw[<- hcs] at m;rcases kZ _ _ _ _ m with z|z
  .cases z
  .exact z
 generalize hdl:cellsFrom (C+1) sc.names F=dl at eC ⊢;have two:∀x c,dl.lookup x=aa c->cs.lookup x=aa c\/(cs.lookup x=af/\F.lookup x=aa c):=λx c e=>by
  rw[eC,Je] at e
  cases q:cs.lookup x with
  |none=>rw[q] at e;show .inr ⟨rfl,e⟩
  |some d=>rw[q] at e;show .inl e
 have Qr:∀x∈sc.names,x.2=.free->dl.lookup x.1=X.env.cells.lookup x.1:=λx hx e=>by
  rw[<- hcl x hx e,eC,Je]
  cases q:cs.lookup x.1 with
  |none=>rfl
  |some d =>
   have z:=B.uniq _ (own _ _ q).1;rw[B.uniq x hx,e] at z;cases z
 have Cw:∀x c,dl.lookup x=aa c->X.env.cells.lookup x=aa c\/(C<c/\h4.IsCell c af):=λx c e=>by
  rcases two x c e with e|⟨_,e⟩
  .exact .inr (own x c e).2
  .exact .inl (mQ x c e)
 have Qq:∀x∈sc.names,x.2=.cell ->∃c,dl.lookup x.1=aa c/\C<c:=λx hx e=>by obtain⟨c,hc⟩:=l5 sc.names (C+1) [] x.1 (.inr (by rw[<- e];show hx));rw[hcs] at hc;show⟨c,by rw[eC,Je,hc];rfl,(own _ _ hc).2.1⟩
 have low:∀x c,F.lookup x=aa c->c<C:=λx c e=>by obtain⟨v,o,ho,_⟩:=I3.cell x c (mQ x c e);rw[<- hC];show br ho
 have Qp:∀x y c,dl.lookup x=aa c->dl.lookup y=aa c->x=y:=λx y c e e'=>by
  rcases two x c e with e|⟨_,e⟩<;>rcases two y c e' with e' | ⟨_,e'⟩
  .exact a0u co.apart (jr e) (jr e')
  .exact Zw (own _ _ e).2.1 (a1O (low _ _ e'))
  .exact Zw (own _ _ e').2.1 (a1O (low _ _ e))
  .exact I3.ok.inj x y c (mQ x c e) (mQ y c e')
 have I4:Φ (blk X (ls++fs) sc dl C (X.pn++π) l s3 (upd H2 j (.lst []))) [] (G8 ls.length fr σ) (upd H2 j (.lst [])) {s3 with heap:=h4} :=
  aAe B I3 Qr Cw Qq Qp (λb a=>⟨f3 b a,by rw[O,<- HC];show qa (hfp b a)⟩) hC.symm hn4 hk4 rfl rfl
 generalize Z:blk X (ls++fs) sc dl C (X.pn++π) l s3 (upd H2 j (.lst []))=Y at I4;have pY:Y.Ω=X.Ω:=by rw[<- Z];rfl
 have wY:Y.w=X.w:=by rw[<- Z];rfl
 have kY:Y.K=X.K:=by rw[<- Z];rfl
 have AY:Y.A=X.A:=by rw[<- Z];rfl
 have cY:Y.calm=ae:=by rw[<- Z];show hc
 have eY:Y.env=compEnvC sc dl C X.env:=by rw[<- Z];rfl
 have xY:Y.xe=λ_ _=>False:=by rw[<- Z];rfl
 have WQ:∀{H':Hp},(∀b∈l,H' b=af) ->∀b∈l,rF Y [] H' b:=λhn b a=>by
  rw[<- Z];obtain⟨_,f1,f2',_,f4,f5⟩:=f3 b a;show⟨hn b a,λz=>?_,λz=>?_,.inl a,λx c e=>?_,λp hp=>f5 p ?_⟩
  .exact Zw z (HA (hfp b a) (by rw[<- hC,O,HC];show qb _))
  .rcases bh.mp (I3.rD b z) with z|z
   .exact f1 z
   .exact f2' z
  .rcases Cw x c e with e|⟨e,_⟩
   .exact f4 x c e
   .exact d_ (HA (hfp b a) (by rw[HC];show ku (a1L (by rw[<- hC,O];show vz _) e)))
  .have hp:p∈(X.pn++π)++[]:=hp;rw[iu] at hp;show hp
 have st4:tn 0 h4:=T.keep _ _ _ st3 λb a o e=>hk4 b o e;have loop:∀s5:ak,(∃i H',Φ Y [] (G8 ls.length fr σ) H' s5/\tn i s5.heap/\(∀b∈l,H' b=af) /\∃m ys,W i m H' ys)->ng (aw X.Ω X.w) X.A (.compLoop (.ListComp elt [⟨tg,iter,ifs,0⟩] sc ν) 0 (.ref it) (.ref j) (compEnvC sc dl C X.env)) (compPost (aw X.Ω X.w) X.A X.xe use Qv (.ref j) C) s5:=by
  rintro s5 ⟨i,H',I5,st5,fr5,m,ys,w5⟩;show oX (λn s'=>∃i H' ys,Φ Y [] (G8 ls.length fr σ) H' s'/\tn i s'.heap/\(∀b∈l,H' b=af)/\W i n H' ys) ?_ m ⟨i,H',ys,I5,st5,fr5,w5⟩;rintro n s6 ⟨i,H6,ys,I6,st6,fr6,w6⟩;obtain⟨ha6,alt⟩:=turn i n H6 ys w6;rcases alt with⟨stop,qn⟩|⟨go,step⟩
  .have q:=T.done Y pY wY kY cY i [] s6 _ H6 (λ_ _=>False) I6 (WQ fr6) st6 stop;rw[AY] at q;show eR q λr s7 Qo=>?_;obtain⟨hr,I7⟩:=Qo;subst hr;have fr7:H6 C=af:=by have:=I7.free;rw[eY] at this;show this
   show fin j C s7 H6 ?_ ?_ (I3.EA (nz hC) fr7) qn
   .rw [<- Z] at I7;show WN I3 I7 (λb a=>f3 b a) hC.symm (.refl ..)
   .obtain ⟨m,hm,_⟩:=I7.loc;rw[eY] at hm;show⟨m,hm⟩
  .have q:=T.item Y pY wY kY cY i [] s6 _ H6 (λ_ _=>False) I6 (WQ fr6) st6 go;rw[AY] at q;show eR q λr s7 Qn=>?_;obtain⟨u,hr,h7⟩:=Qn;subst hr;show eR h7 λ_ s8 Qm=>?_;obtain⟨x,H8,I8,r8,y8,st8,fr8⟩:=Qm;have I8':=I8.pinned (WQ fr8) (T.obj _ _ st8);have hgY:=hg dl C (X.pn++π) l s3 (upd H2 j (.lst []));have hfY:=hf dl C (X.pn++π) l s3 (upd H2 j (.lst []));have heY:=he dl C (X.pn++π) l s3 (upd H2 j (.lst []));rw[Z] at hgY hfY heY;have q8:=hgY _ s8 _ H8 x u _ I8' r8 (step x H8 y8);rw[pY,wY,AY,eY,xY] at q8;show eR q8 λ_ s9 Ql=>?_;obtain⟨L,H9,I9,hσ9,q9⟩:=Ql;have mx:=hfY _ s9 L H9 _ I9 q9;rw[pY,wY,AY,eY,xY] at mx;show eR mx λok wz Pe=>?_;obtain⟨H10,I10,mx⟩:=Pe;have bl:∀{H7:Hp} {s7:ak},Φ Y ([]++zE l s8.heap) L H7 s7->(∃m',m'<n /\∃ys',W (i+1) m' H7 ys') ->∃m,m<n /\∃i H' ys,Φ Y [] (G8 ls.length fr σ) H' s7/\tn i s7.heap/\(∀b∈l,H' b=af)/\W i m H' ys:=λ{H7 s7} I7 ⟨m',hm,ys',w7⟩=>by
    show⟨m',hm,i+1,H7,ys',?_,T.keep _ _ _ st8 λb a o e=>(I7.pin (b,o) (gp _ (gp _ (nJ a e)))).1,λb a=>?_,w7⟩
    .refine I7.jQ.weak ?_ λk v e=>?_
     .rw [I7.len,<- I6.len]
     .by_cases hk:k<ls.length
      .unfold G8 at e;rw[jv (by simpa using hk),jc,Z_ hk] at e;cases e
      .have e2:(L.drop ls.length)[k-ls.length]?=aa (aa v):=by rw[hσ9];unfold G8 at e;rw[ju (by simpa using hk),ig] at e;show e
       rw[List.getElem?_drop] at e2;rw[show ls.length+(k-ls.length)=k by lia] at e2;show e2
    .obtain ⟨o,e,d⟩:=T.obj _ _ st8 b a;show(I7.pin (b,o) (gp _ (gp _ (nJ a e)))).2.1
   cases ok with
   |false =>
    rw[Zz bt] at mx ⊢;obtain⟨m',hm,w'⟩:=mx;show bl I10 ⟨m',hm,ys,w'⟩
   |true =>
    rw[Z_ rfl] at mx ⊢;have Bo:=heY _ wz L H10 _ I10 mx;rw[pY,wY,AY,eY,xY] at Bo;show eR Bo λyv Kj Pd=>?_;obtain⟨y,H11,I11,Kk,aEM,Pc,m',hm,w'⟩:=Pd;have Bn:=(CB (X:=Y)) _ Kj L H11 (.ref j) [y] (.ref j) [yv] (λ_ H'=>H'=upd H11 j (.lst (ys++[y]))) I11 rfl (.cons Kk .nil) ⟨j,ys,y,rfl,rfl,aEM,Pc,rfl⟩;rw[pY,wY,AY,xY] at Bn;show eR Bn λ_ s12 Pb=>?_;obtain⟨_,H12,I12,_,Lq⟩:=Pb;subst Lq;show bl I12 ⟨m',hm,_,w'⟩
 have L0:=loop _ ⟨0,_,I4,st4,λb a=>(f3 b a).1,m0,[],w0⟩;show codeAny_compStart_list L0 (T.self _ 0 _ _ _ st4 L0)
theorem aAg
  (y:X.calm=ae) (B:G9 X ls fs fr sc) (hi:PI X tg iter wi) (p:∀a C pn ex s H,PG (blk X (ls++fs) sc a C pn ex s H) tg g) (v:∀a C pn ex s H,PIf (blk X (ls++fs) sc a C pn ex s H) ifs tf) (x:∀a C pn ex s H,PE (blk X (ls++fs) sc a C pn ex s H) elt te)
  (n:Zo X iter:=by intro _;rfl):PE X (.ListComp elt [⟨tg,iter,ifs,0⟩] sc ν) (NT ls.length fr wi g tf te):=by
 intro π s σ H Q I h;rw[eval_ListComp];show HB (use:=af) y B hi p v x n I h λl C s' H' U j A q=>?_;obtain⟨m,j⟩:=j;obtain⟨O,L,_,K,J,F⟩:=A;show⟨m,j,λh' d=>⟨.ref l,H',U.turned (t':=s'.toks) (λb o z e=>(d.2 b z).trans e) O L K J F,rfl,q⟩⟩
theorem zX(hN:X.N.Nodup)(n:X.N[i]?=aa x)(L:X.env.scope.names.lookup x=aa .local)
  (hc:X.calm=ae) (B:G9 X ls fs fr sc) (hi:PI X tg iter wi) (hg:∀j C pn ex s H,PG (blk X (ls++fs) sc j C pn ex s H) tg g) (hf:∀j C pn ex s H,PIf (blk X (ls++fs) sc j C pn ex s H) ifs tf) (he:∀j C pn ex s H,PE (blk X (ls++fs) sc j C pn ex s H) elt te)
  (p:Rv X elt tg iter ifs sc ν x pos' spos)
  (Z:Zo X iter:=by intro _;rfl):PS X (.Assign [.Name x pos'] (.ListComp elt [⟨tg,iter,ifs,0⟩] sc ν) spos) (yg (NT ls.length fr wi g tf te) (U9 i)):=by
 intro π s σ H D I h;rw[exec_Assign_Name_used _ _ _ _ p];show aq (Gm (aq ?_));show av _ X.A (do let _ <- comprehension (.ListComp elt [⟨tg,iter,ifs,0⟩] sc ν) sc X.env _ (newList []) ag (eval iter X.env) (aa (assign (.Name x pos') X.env))) _ _ s;show aq (ik (HB (use:=aa (assign (.Name x pos') X.env)) (Qv:=λ_ s'=>SP X π D .next s') hc B hi hg hf he Z I h λY C s' H' I' z fp q=>?_) (λ_ s' hq=>a_ (a_ hq)) λ_ _ e=>e);obtain⟨m,z⟩:=z;obtain⟨f0,U,_,f3,O,f5⟩:=fp;show a0o (B4 I' hN n (.inl L) (v:=.ref Y) rfl (λl K d=>?_) (.inr L));obtain⟨a,d,J⟩:=d;have F:a≠C:=by
  rcases J with rfl|J
  .exact d_ U
  .exact O x a J
 show⟨m,z.sameBut d (d_ F),λh' y=>⟨_,H',K.turned (t':=l.toks) (λb o hb e=>(y.2 b hb).trans e) f0 U f3 O f5,q⟩⟩
def RZ(Γ:List (aj×ja))(sc:fj)(N ls fs:Q0g)(fr:List Nat):Bool :=
 (sc.kind == .function)&&Zv (ls++fs).Nodup&&sc.names.all (λx=>Zv (sc.names.lookup x.1=aa x.2)) &&
 sc.names.all (λx=>Zv (x.2=.free->(Γ.lookup x.1=aa .cell\/Γ.lookup x.1=aa .free)))&&Zv (fr.length=fs.length) &&
 (fs.zip fr).all (λx=>Zv (N[x.2]?=aa x.1)&&sc.names.contains (x.1,jh)&&Zv (sc.names.lookup x.1=aa .free))
def nL(h:RZ X.env.scope.names sc X.N ls fs fr=ae):G9 X ls fs fr sc:=by
 unfold RZ at h;simp only[gy,gx,decide_eq_true_eq] at h;obtain⟨⟨⟨⟨⟨o,h2⟩,n⟩,m⟩,l⟩,j⟩:=h;show⟨eq_of_beq o,h2,n,m,λk x e=>?_,l⟩;have p:k<fs.length:=(cg.mp e).1;have d:(x,fr[k]'∅)∈fs.zip fr:=by
  have:(fs.zip fr)[k]?=aa (x,fr[k]'∅):=by rw[Bb];show⟨e,by simp⟩
  show lh this
 obtain⟨⟨a,b⟩,c⟩:=j _ d;show⟨fr[k]'∅,by simp,a,by simpa using b,c⟩
abbrev GE:=D->dZ->(dZ->Prop)->Prop
def zY(K:ao)(nl n:Nat)(g:GE):TG:=λv σ H Q=>∃(S:ah->Prop) (ρ:dZ) (d:D) (Q3:dZ->Prop),σ.length=n/\(∀a,H a=af->S a)/\Sl K S H ρ σ/\Dn K S H d v/\g d ρ Q3 /\
 ∀h j,Sl K S H j h->h.drop nl=σ.drop nl->Q3 j->Q h H
def PG4(X:Cx)(nl:Nat)(a:au)(g:GE):Prop:=PG X a (zY X.K nl X.N.length g)
theorem Sl.set{K:ao}{S:ah->Prop}{H:Hp}{ρ:dZ}{σ:L2.St}{i:Nat}{d:D}{v:V}(h:Sl K S H ρ σ)(hi:i<σ.length)(q:Dn K S H d v):Sl K S H (ρ.set i (aa d)) (σ.set i (aa v)):=λj e m=>by
 rcases get_set m with⟨l,z,_⟩|⟨l,z⟩
 .cases z;subst l;show⟨v,kl hi,q⟩
 .obtain ⟨u,a,b⟩:=h j e z;show⟨u,by rw[jk (d_ l)];show a,b⟩
def hN(i:Nat):GE:=λd ρ Q=>Q (ρ.set i (aa d))
noncomputable def h2(i j:Nat):GE:=λd ρ Q=>match d with
 |.tup [d1,d2]=>Q ((ρ.set i (aa d1)).set j (aa d2))
 |_=>False
def drop_set{α:Type}{l:List α}{i n:Nat}{x:α}(h:i<n):(l.set i x).drop n=l.drop n:=by rw[List.drop_set,Z_ h]
def Yc{nl i:Nat}{x:aj}{j:bb}(nd:X.N.Nodup)(a:i<nl)(hi:X.N[i]?=aa x:=by rfl)(m:Loc X.env.scope x:=by walk_at "0")(h:Zq X x:=by walk_at "2"):PG4 X nl (.Name x j) (hN i) :=
 QJ (pX nd hi m h) λv σ H Q p=>by obtain⟨S,ρ,d,Q3,n,q,l,dn,o,k⟩:=p;show k _ _ (l.set (by rw[n];show jS hi) dn) (drop_set a) o
def Yb{nl i j:Nat}{x y:aj}{kk:Nat}{U l h:bb}(hc:X.calm=ae)(nd:X.N.Nodup)(A:i<nl)(z:j<nl)(hi:X.N[i]?=aa x:=by rfl)(L:X.N[j]?=aa y:=by rfl)(hx:Loc X.env.scope x:=by walk_at "0")(I:Zq X x:=by walk_at "2")(hy:Loc X.env.scope y:=by walk_at "0")(F:Zq X y:=by walk_at "2")
  (hn:Q0j X x y l h:=by rfl) (o:Q0i X x y l h:=by rfl)
  (q:gV X x y l h:=by rfl) (p:Q0h X y h:=by rfl):
  PG4 X nl (.Tuple [.Name x l,.Name y h] kk U) (h2 i j) :=
 QJ (VA (n:=2) hc (sP (pX nd hi hx I) (sP (pX nd L hy F) NC p) q) hn o) λv σ H Q O_=>by
  obtain⟨S,ρ,d,Q3,K,fc,Z,dn,m,k⟩:=O_;unfold h2 at m;split at m
  .rename_i d1 d2;symm at dn;obtain⟨a,xs,rfl,ha,da⟩:=dn;obtain⟨Y,r1,rfl,h1,h2⟩:=da.bQ;obtain⟨J,r2,rfl,h3,O⟩:=h2.bQ;simp only[bC] at O;subst O;show⟨a,_,rfl,(fJ.of ha),rfl,Y,[J],rfl,J,[],rfl,rfl,?_⟩;show k _ _ ((Z.set (by rw[K];show jS hi) h1).set (by rw[dm,K];show jS L) h3) (by rw[drop_set z,drop_set A]) m
  .exact m.elim
def QL(X:Cx)(ifs:List au)(t:WT):Prop:=PIf X ifs (liftT X.K t)
def Ya:WT:=λ_ Q=>Q ae
def Oz:QL X [] Ya:=λπ s σ H Q I d=>by obtain⟨S,ρ,Q3,j,h,a,k⟩:=d;show aAf π s σ H Q I (k ae H (ξ.refl H) a)
theorem X_(h:xD X c t):QL X [c] t:=aEK h
noncomputable def tD(g:GE)(tf:WT)(te:WE)(ρ:dZ):List D->List D->(D->Prop)->Prop
 |[],ψ,Q=>Q (.lst ψ)
 |d::r,ψ,Q=>g d ρ λa=>tf a λb=>if b=ae then te a λy=>ψ.length<bc/\tD g tf te ρ r (ψ++[y]) Q else tD g tf te ρ r ψ Q
def benv(nl:Nat)(fr:List Nat)(ρ:dZ):dZ:=bp nl af++fr.map λj=>(ρ[j]?).join
def HD(nl:Nat)(fr:List Nat)(a:WI)(g:GE)(tf:WT)(te:WE):WE:=λρ Q=>a ρ λds=>tD g tf te (benv nl fr ρ) ds [] Q
def aAh{K:ao}{S:ah->Prop}{H:Hp}{ρ:dZ}{σ:L2.St}{nl:Nat}{fr:List Nat}(h:Sl K S H ρ σ):Sl K S H (benv nl fr ρ) (G8 nl fr σ):=λi d e=>by
 unfold benv at e;unfold G8;by_cases hi:i<nl
 .rw [jv (by simpa using hi),jc,Z_ hi] at e;cases e
 .rw [ju (by simpa using hi),cf,ig] at e ⊢
  cases q:fr[i-nl]? with
  |none=>rw[q] at e;cases e
  |some j =>
   rw[q] at e;have a:(ρ[j]?).join=aa d:=cx e;have l:ρ[j]?=aa (aa d):=by
    cases z:ρ[j]? with
    |none=>rw[z] at a;cases a
    |some o=>rw[z] at a;rw[show o=aa d from a]
   obtain⟨v,ev,m⟩:=h j d l;show⟨v,by show aa ((σ[j]?).join)=_;rw[ev];rfl,m⟩
def uT{K:ao}{nl n:Nat}{fr:List Nat}{ti:WI}{g:GE}{tf:WT}{te:WE}{σ:L2.St}{H:Hp}{Q:VK}(hn:nl+fr.length=n)(h:V3 K (HD nl fr ti g tf te) σ H Q):NT nl fr (Ex K ti) (zY K nl n g) (liftT K tf) (lift K te) σ H Q:=by
 obtain⟨S,ρ,Q3,fc,sl,ht,k⟩:=h;show⟨S,ρ,_,fc,sl,ht,λJ H1 ds G s1 hG wk q1=>?_⟩;intro j l;have h0:H j=af:=s1.free l;have fc1:=bP fc s1;have ok:∀{o:Hp},ξ H1 o->(∃ys,o j=aa (.lst ys))->(∀a,o a=af->S a/\a≠j)/\Sl K (λa=>S a/\a≠j) o (benv nl fr ρ) (G8 nl fr σ) /\∀g∈G,Dn K (λa=>S a/\a≠j) o g.1 g.2:=λ{o} I p=>by
  show⟨λa e=>⟨bP fc1 I a e,λz=>?_⟩,?_,λg hg=>Dn.fits ((Fits.fresh l).trans (.same I)) _ _ (hG g hg)⟩
  .subst z;obtain⟨ys,p⟩:=p;rw[e] at p;cases p
  .exact aAh (Sl.fits ((Fits.fresh h0).trans (.same (s1.trans I))) sl)
 show⟨λi m o ys=>m=ds.length-i/\i<=ds.length/\ξ H1 o/\o j=aa (.lst ys) /\∃L,bC K (λa=>S a/\a≠j) o L ys/\tD g tf te (benv nl fr ρ) (ds.drop i) L Q3,
  ⟨_,rfl,kh _,aQ l,aY,[],bC.nil,q1⟩,?_⟩
 rintro i m o ys ⟨rfl,hi,I,p,L,dn,cw⟩;obtain⟨A,sl2,Z⟩:=ok I ⟨ys,p⟩;show⟨p,?_⟩;by_cases q:i<ds.length
 .refine .inr ?_;obtain⟨g1,g2⟩:=wk.go _ o A Z i ds[i] (by simp[q]);show⟨g1,λx H' y=>?_⟩;obtain⟨s3,dx⟩:=g2 x H' y;rw[tq q,tD] at cw;show⟨λa=>S a/\a≠j,benv nl fr ρ,ds[i],_,?_,bP A s3,Sl.fits (.same s3) sl2,dx,cw,λσ' O U hd q'=>?_⟩
  .unfold G8;rw[cy,ig,az];show hn
  .refine ⟨by rw[hd];unfold G8;rw[List.drop_append_of_le_length (by simp),List.drop_replicate];simp,λa=>S a/\a≠j,O,_,bP A s3,U,q',λb H3 s4 q4=>?_⟩
   cases b with
   |false =>
    rw[Zz bt] at q4 ⊢;show⟨_,by lia,rfl,q,(I.trans s3).trans s4,(s3.trans s4) _ _ p,L,bC.fits (.same (s3.trans s4)) _ _ dn,q4⟩
   |true =>
    rw[Z_ rfl] at q4 ⊢;show⟨λa=>S a/\a≠j,O,_,bP A (s3.trans s4),Sl.fits (.same s4) U,q4,λv H4 d s5 d5 q5=>?_⟩;have Y:H4 j=aa (.lst ys):=((s3.trans s4).trans s5) _ _ p;have F:Fits K (λa=>S a/\a≠j) (λa=>S a/\a≠j) H4 (upd H4 j (.lst (ys++[v]))):=.upd (.inl ⟨_,Y⟩) λz=>z.2 rfl;show⟨Y,by rw[<- dn.len];show q5.1,_,by lia,rfl,q,λb u hb=>?_,aY,L++[d],bC.fits F _ _ ((bC.fits (.same ((s3.trans s4).trans s5)) _ _ dn).append (bC.one d5)),q5.2⟩;rw[bB (bY hb l)];show(((I.trans s3).trans s4).trans s5) _ _ hb
 .have e:i=ds.length:=by lia
  subst e;rw[Jo,tD] at cw;show .inl ⟨wk.stop _ o Z _ rfl,k j ys o L h0 p (s1.trans I) dn cw⟩
theorem Xz{ls fs:Q0g}{fr:List Nat}{sc:fj}{d iter elt:au}{ifs:List au}{l:bb}{j:WI}{g:GE}{tf:WT}{te:WE}(v:X.calm=ae)(hi:WK X d iter j)
  (o:∀a C pn ex s H,(blk X (ls++fs) sc a C pn ex s H).N.Nodup->PG4 (blk X (ls++fs) sc a C pn ex s H) ls.length d g) (p:∀a C pn ex s H,QL (blk X (ls++fs) sc a C pn ex s H) ifs tf) (q:∀a C pn ex s H,dB (blk X (ls++fs) sc a C pn ex s H) elt te)
  (B:RZ X.env.scope.names sc X.N ls fs fr=ae:=by rfl) (m:Zo X iter:=by intro _;rfl):FI X (.ListComp elt [⟨d,iter,ifs,0⟩] sc l) (HD ls.length fr j g tf te) :=
 imp (aAg (g:=zY X.K ls.length (ls++fs).length g) (tf:=liftT X.K tf) (te:=lift X.K te) v (nL B) hi (λa C pn ex s H=>o a C pn ex s H (nL B).nd) p q m) λσ H Q h=>uT (n:=(ls++fs).length) (by rw[cy,(nL B).A3]) h
theorem QM{i:Nat}{x:aj}{ls fs:Q0g}{fr:List Nat}{sc:fj}{l iter elt:au}{ifs:List au}{q a pos':bb}{v:WI}{g:GE}{tf:WT}{te:WE}(nd:X.N.Nodup)(Z:X.calm=ae)(hi:WK X l iter v)
  (O:∀h C pn ex s H,(blk X (ls++fs) sc h C pn ex s H).N.Nodup->PG4 (blk X (ls++fs) sc h C pn ex s H) ls.length l g) (U:∀h C pn ex s H,QL (blk X (ls++fs) sc h C pn ex s H) ifs tf) (Y:∀h C pn ex s H,dB (blk X (ls++fs) sc h C pn ex s H) elt te)
  (j:X.N[i]?=aa x:=by rfl) (F:X.env.scope.names.lookup x=aa .local:=by rfl) (m:Rv X elt l iter ifs sc q x pos' a:=by rfl)
  (B:RZ X.env.scope.names sc X.N ls fs fr=ae:=by rfl) (J:Zo X iter:=by intro _;rfl):CH X (.Assign [.Name x pos'] (.ListComp elt [⟨l,iter,ifs,0⟩] sc q) a) (x_ i (HD ls.length fr v g tf te)) :=
 jR (zX (g:=zY X.K ls.length (ls++fs).length g) (tf:=liftT X.K tf) (te:=lift X.K te) nd j F Z (nL B) hi (λh C pn ex s H=>O h C pn ex s H (nL B).nd) U Y m J) λBd σ H Ox=>by
 obtain⟨H₀,S,w,ρ,G,E,y,st,I,ok⟩:=Ox;show uT (n:=(ls++fs).length) (by rw[cy,(nL B).A3]) ⟨_,gF ρ,_,st.NO,st.rd,I,λp xs H' ds L o s' d' A=>ok.nx w _ H' _ (by rw[dm];show y) ((st.same s').lZ (d:=.lst ds) (by rw[y];show jS j) (by symm;show⟨p,xs,rfl,o,st.NO p L,bC.fits (.mono λ_ z=>z.1) _ _ d'⟩)) A⟩
noncomputable def tyD:D->String
 |.non => "NoneType"
 |.bl _ => "bool"
 |.int _ => "int"
 |.str _ => "str"
 |.tup _ => "tuple"
 |.lst _ => "list"
 |.j5 _ => "list"
 |.lA _ _ => "dict"
 |.dC _ _ _ => "dict"
 |.exc _ _ => "NoneType"
 |.rws _ => "NoneType"
inductive FJ:String->Prop
 |t:FJ "tuple"
 |b:FJ "bool"
 |i:FJ "int"
 |s:FJ "str"
def isT(T:String)(d:D):Bool:=tyD d == T||(T == "int"&&tyD d == "bool")
def Ow(K:ao)(T:String):List V->Hp->VK->Prop:=λxs H Q=>∃x t b,xs=[x,.ty T]/\(sQ K H x t\/(t=.type "tuple" /\∃a ys,x=.ref a/\fJ K H a ys)\/(t=.type "list" /\∃a ys,x=.ref a/\eZ K H a ys))/\qv K t (.type T)=aa b/\Q (.bl b) H
theorem WR:gD X (.builtin "isinstance") (Ow X.K T):=by
 intro π s σ H xs F Q I r h;obtain⟨x,t,b,rfl,ty,e,q⟩:=h;obtain⟨u,y,rfl,j,A⟩:=vals2 r;obtain rfl:y=pq T:=A;rcases ty with ty|⟨rfl,a,ys,rfl,l⟩|⟨rfl,a,ys,rfl,l⟩
 .exact P0 I j ty e λd=>⟨.bl b,H,I.tok d,rfl,q⟩
 .cases j;obtain⟨v,_,p,_⟩:=I.tuple l;obtain⟨o,m,h2,_⟩:=p;show je a0I I.w8 ⟨o,m,h2⟩ e (λz=>nomatch z) λd=>⟨.bl b,H,I.tok d,rfl,q⟩
 .cases j;obtain⟨v,_,p,_⟩:=I.list l;obtain⟨o,n,m,h2,_⟩:=p;show je Hj I.w8 ⟨o,m,h2⟩ e (λz=>nomatch z) λd=>⟨.bl b,H,I.tok d,rfl,q⟩
noncomputable def Ew:D->Prop
 |.exc _ _=>False
 |.dC _ _ _=>False
 |.rws _=>False
 |_=>True
def Ov(T:String)(t:WE):WE:=λρ Q=>t ρ λd=>Ew d/\Q (.bl (isT T d))
def Ou{K:ao}{T:String}(h:FJ T)(d:D):qv K (.type (tyD d)) (.type T)=aa (isT T d):=by cases h<;>cases d<;>with_unfolding_all rfl
def Xq{K:ao}{S:ah->Prop}{H:Hp}{d:D}{v:V}(l:Ew d)(h:Dn K S H d v):∃t,t=pq (tyD d)/\(sQ K H v t\/(t=.type "tuple" /\∃a ys,v=.ref a/\fJ K H a ys)\/(t=.type "list" /\∃a ys,v=.ref a/\eZ K H a ys)):=by
 show⟨_,rfl,?_⟩;cases d<;>symm at h
 .subst h;show .inl .non
 .subst h;show .inl (.bl _)
 .subst h;show .inl (.int _)
 .subst h;show .inl (.str _)
 .obtain ⟨a,xs,rfl,j,_⟩:=h;show .inr (.inl ⟨rfl,a,xs,rfl,(fJ.of j)⟩)
 .obtain ⟨a,xs,rfl,j,_⟩:=h;show .inl (.lst j)
 .obtain ⟨a,rfl,j⟩:=h;show .inr (.inr ⟨rfl,a,_,rfl,j.sq⟩)
 .obtain ⟨a,xs,rfl,j,_⟩:=h;show .inl (.dK j)
 .exact l.elim
 .exact l.elim
 .exact l.elim
theorem Ot{T:String}{x:aj}{e:au}{t:WE}{p p2 n:bb}(O:FJ T)(J:X.mg "isinstance"=af)(j:X.mg x=af)(A:bootBuiltins x=aa (.type T))(L:dB X e t)(K:Gl X "isinstance":=by rfl)(l:Gl X x:=by rfl)(I:x ≠ "__name__":=by decide)(m:Zu x:=by decide)
  (o:ar [e,.Name x p2] X.env=(ag,eval e X.env)::ar [.Name x p2] X.env:=by rfl) (a:ar [.Name x p2] X.env=(ag,eval (.Name x p2) X.env)::ar [] X.env:=by rfl) (h:(cu n (ar [.Name x p2] X.env)).any (·.1)=ag:=by rfl):
  dB X (.Call (.Name "isinstance" p) [e,.Name x p2] [] n) (Ov T t) :=
 imp (mM (WR (T:=T)) K J Ii (eK L (eK (M9 (v:=.ty T) l j A rfl I m) jY a) o) (by decide) (by decide) o h) λσ H Q Oq=>by obtain⟨S,ρ,Q3,U,y,F,k⟩:=Oq;show⟨S,ρ,_,U,y,F,λv H1 d z d1 q1=>?_⟩;obtain⟨q,Z,Y⟩:=Xq q1.1 d1;show⟨v,q,isT T d,rfl,Y,?_,k _ H1 (.bl _) z (by symm) q1.2⟩;rw[Z];show Ou O d
def vF:List D->Option (List Bool)
 |[]=>aa []
 |.bl b::r=>(vF r).map (b :: ·)
 |_::_=>af
theorem range_all(bs:List Bool):(b_ bs.length).all (λi=>bs.getD i ae)=bs.all id:=by
 induction bs with
 |nil=>rfl
 |cons b bs ih=>rw[cn,I_,mj,qg,mj,<- ih];rfl
def blF(f:List Bool->Bool):F1
 |[.lst ds],Q=>(match vF ds with|some bs=>Q (.bl (f bs))|none=>False)
 |_,_=>False
def NU:List V->Hp->VK->Prop:=λxs H Q=>∃a ns,xs=[.ref a]/\H a=aa (.lst (ns.map V.int))/\ns.length<64 /\∀d:Q0e,d.Perm ns->d.Pairwise (· <= ·) ->∀p,H p=af->Q (.ref p) (upd H p (.lst (d.map V.int)))
theorem tE:gD X (.builtin "sorted") NU:=by
 intro π s σ H xs L Q I r h;obtain⟨a,ns,rfl,z,U,q⟩:=h;obtain⟨u,rfl,y⟩:=vals1 r;cases y;obtain⟨j,v,p,O⟩:=I.list (eZ.of z);have hi:=intsAre_of v;have hlen:j.length=ns.length:=by have:=v.length;rw[az] at this;show this.symm
 show sorted_ints p.isList hi ∅ λout d J x F=>?_;have m:H (s.heap.objs.size+1)=af:=I.hok.fresh (qb _);obtain⟨A,n⟩:=a1x s.heap j out;have l:d.length<=bc:=by rw[x.length_eq,fg];lia
 have K:Φ X π σ (upd H (s.heap.objs.size+1) (.lst (d.map V.int))) {s with heap:=sortedAll s.heap j out} :=
  I.laid (t':=s.toks) (λb o e=>a1w e) (qb _) ⟨by rw[az];show l,out.toList,A,p7 J,by simpa[seqObj] using n⟩
 show⟨.ref _,_,K,rfl,q d x F _ m⟩
def intsOf:List D->Option (List Int)
 |[]=>aa []
 |.int b::r=>(intsOf r).map (b :: ·)
 |_::_=>af
theorem dI:∀bs:Q0e,intsOf (bs.map D.int)=aa bs
 |[]=>rfl
 |b::bs=>by rw[bo,intsOf,dI bs];rfl
theorem uU:∀{ds:List D} {bs:Q0e},intsOf ds=aa bs->ds=bs.map D.int
 |[],bs,h=>by cases h;rfl
 |.int b::r,bs,h=>by
  rw[intsOf] at h
  cases q:intsOf r with
  |none=>rw[q] at h;cases h
  |some cs=>rw[q] at h;cases h;rw[bo,uU q]
 |.non::r,bs,h=>by cases h
 |.bl _::r,bs,h=>by cases h
 |.str _::r,bs,h=>by cases h
 |.tup _::r,bs,h=>by cases h
 |.lst _::r,bs,h=>by cases h
 |.j5 _::r,bs,h=>by cases h
 |.lA _ _::r,bs,h=>by cases h
 |.dC _ _ _::r,bs,h=>by cases h
def WU:F1
 |[.lst ds],Q=>(match intsOf ds with|some ns=>ns.length<64 /\∀a:Q0e,a.Perm ns->a.Pairwise (· <= ·)->Q (.lst (a.map D.int))|none=>False)
 |_,_=>False
theorem aAi{K:ao}:C3F K NU WU:=by
 intro S H xs ds Q3 Q A n j k
 match ds,j with
 |[.lst es],j =>
  obtain⟨v,r,rfl,l,h2⟩:=n.bQ;simp only[bC] at h2;subst h2;symm at l;obtain⟨a,ys,rfl,o,z,y⟩:=l;have h:(match intsOf es with|some ns=>ns.length<64 /\∀d:Q0e,d.Perm ns->d.Pairwise (· <= ·)->Q3 (.lst (d.map D.int))|none=>False):=j
  clear j
  cases q:intsOf es with
  |none=>rw[q] at h;show h.elim
  |some ns =>
   rw[q] at h;have e:=uU q;subst e;have x:=bC.ints.mp y;subst x;show⟨a,ns,rfl,o,h.1,λd l h2 p m=>k p _ _ _ m aY (aQ m) (bC.ints.mpr rfl) (h.2 d l h2)⟩
def aAj(a:X.mg "sorted"=af)(j:zN X [e] t)(d:Gl X "sorted":=by rfl)
  (h:Zr X e []:=by rfl):FI X (.Call (.Name "sorted" p) [e] [] ν) (QG WU t):=NR tE aAi Ao d a j (by decide) (by decide) h (by rfl)
section
def uV(z:Gl X "range")(y:X.mg "range"=af)(A:PA X [a] ta)(x:ar [a] X.env=[(ag,eval a X.env)]:=by rfl):
  PE X (.Call (.Name "range" p) [a] [] ν) (λσ H Q=>ta σ H λvs d=>∃j:Int,vs=[.int j] /\∀p,d p=af->Q (.ref p) (upd d p (.rng 0 j))):=by
 intro π s σ H Q I h;show vy (nG I z y a1B (r6 (eR (A ν π s σ H _ I h) λF m ⟨vs,d,l,v,q1⟩=>?_) x rfl));obtain⟨j,e,q⟩:=q1;subst e;obtain⟨u,rfl,n⟩:=vals1 v;obtain⟨t,rfl⟩:=n;show a0B ?_;show⟨.ref m.heap.objs.size,_,l.laid (o:=.rng 0 j) (λb o e=>cm _ e) (bj _) ⟨_,_,_,dg _ rfl⟩,rfl,q _ (l.hok.fresh (bj _))⟩
def zZ{lo:Int}{n:Nat}{a:Array ai}(h:Ac (λi v=>∃t,v=.int (lo+(i:Nat)*1) t) a n):θ ((kX lo n).map V.int) a.toList:=by
 obtain⟨q,x⟩:=h;have key:∀(l:Q0f) (k:Nat) (m:Nat),l.length=m->(∀(j:Nat) (v:ai),l[j]?=aa v ->∃t,v=js (lo+((k+j:Nat):Int)) t)->θ (((List.range' k m).map λi:Nat=>lo+(i:Int)).map V.int) l:=by
  intro l
  induction l with
  |nil=>intro k m d _;subst d;show .nil
  |cons v l ih =>
   intro k m d p;subst d;rw[cn,List.range'_succ,bo,bo];show .cons ?_ (ih (k+1) l.length rfl λj w e=>?_)
   .obtain ⟨t,e⟩:=p 0 v (by simp);show⟨t,by simpa using e⟩
   .obtain ⟨t,o⟩:=p (j+1) w (by simpa using e);show⟨t,by rw[o];congr 1;congr 1;congr 1;lia⟩
 have:=key a.toList 0 n (by simpa using q) λj v e=>by obtain⟨t,o⟩:=x j v (by simpa using e);show⟨t,by rw[o];simp⟩
 unfold kX;rw[List.range_eq_range'];show this
theorem A4(J:X.calm=ae):gD X (.type "list") (λxs H Q=>∃p j,xs=[.ref p]/\H p=aa (.rng 0 j) /\ -(2^62)<=j/\j<=16777216 /\∀l,H l=af->Q (.ref l) (upd H l (.lst ((kX 0 j.toNat).map V.int)))):=by
 intro π s σ H xs L Q I r h;obtain⟨p,j,rfl,A,Y,U,q⟩:=h;obtain⟨u,rfl,x⟩:=vals1 r;cases x;obtain⟨t,u,v,e⟩:=I.hok p _ A;have hsz:p0 0 j 1=(j.toNat:Int):=by rw[zm];split<;>lia
 show call_list_range (a:=0) (b:=j) (c:=1) (n:=j.toNat) (I.ok.hd J) e (zk ∅ ∅ ∅ ∅) hsz ∅ λh' O d K y F hit=>?_;have m:H s.heap.objs.size=af:=I.hok.fresh (bj _);have z:θ ((kX 0 j.toNat).map V.int) d.toList:=zZ hit;show⟨.ref s.heap.objs.size,_,I.laid (o:=.lst ((kX 0 j.toNat).map V.int)) y (bj _) ⟨?_,d.toList,K,z,by simpa using F⟩,rfl,q _ m⟩;rw[az,lP,fg];lia
noncomputable def aEN(t:WA):WE:=λρ Q=>t ρ λds=>match ds with
 |[.int j]=>(-(2^62)<=j/\j<=16777216)/\Q (.lst ((kX 0 j.toNat).map D.int))
 |_=>False
def KP(K:X.calm=ae)(I:X.mg "list"=af)(d:X.mg "range"=af)(L:zN X [a] t)(J:Gl X "list":=by rfl)(m:Gl X "range":=by rfl)(F:ar [a] X.env=[(ag,eval a X.env)]:=by rfl)
  (x:ar [.Call (.Name "range" p2) [a] [] pos2] X.env=(ag,eval (.Call (.Name "range" p2) [a] [] pos2) X.env)::ar [] X.env:=by rfl):
  FI X (.Call (.Name "list" p) [.Call (.Name "range" p2) [a] [] pos2] [] ν) (aEN t) :=
 imp (p6 (A4 K) J I a1C (eK (uV m d L F) jY x) (by decide) (by decide) x (by rfl)) λσ H Q Y=>by
  obtain⟨S,ρ,Q3,O,z,A,k⟩:=Y;show⟨S,ρ,_,O,z,A,λvs Z ds n U q1=>?_⟩;split at q1
  .rename_i j;obtain⟨v,r,rfl,y,h2⟩:=U.bQ;simp only[bC] at h2;subst h2;symm at y;subst y;show⟨j,rfl,λp o=>⟨p,j,rfl,aY,q1.1.1,q1.1.2,λl q=>?_⟩⟩;have h:Z l=af:=(aQ o).free q;show k l _ _ _ (n.free h) aY ((n.trans (aQ o)).trans (aQ q)) (bC.ints.mpr rfl) q1.2
  .exact q1.elim
def lQ(ks:List Key)(ds:List D)(k:Key):Option D:=((ks.zip ds).find? λa=>Zv (a.1=k)).map (·.2)
theorem z4{K:ao}{S:ah->Prop}{H:Hp}{k:Key}:∀{ks:List Key} {ds:List D} {xs:List V},ks.length=xs.length->bC K S H ds xs ->
  (∀d,lQ ks ds k=aa d ->∃v,n8 (ks.zip xs) k=aa v/\Dn K S H d v)/\(lQ ks ds k=af->n8 (ks.zip xs) k=af)
 |[],ds,xs,_,_=>by
  show⟨λd e=>?_,λ_=>?_⟩
  .simp [lQ] at e
  .simp [n8]
 |q::ks,ds,xs,hl,dn=>by
  cases ds with
  |nil=>simp only[bC] at dn;subst dn;simp at hl
  |cons d0 ds =>
   obtain⟨v,r,rfl,l,h2⟩:=dn.bQ;have j:=z4 (k:=k) (ks:=ks) (ds:=ds) (xs:=r) (by simpa using hl) h2;by_cases e:q=k
   .refine ⟨λd a=>?_,λa=>?_⟩
    .simp only[lQ,a1T,ij,e,decide_true,nu] at a;cases a;show⟨v,by simp[n8,e],l⟩
    .simp [lQ,e] at a
   .refine ⟨λd a=>?_,λa=>?_⟩
    .have h:lQ ks ds k=aa d:=by simpa[lQ,e] using a
     obtain⟨u,m,n⟩:=j.1 d h;show⟨u,by simpa[n8,e] using m,n⟩
    .have h:lQ ks ds k=af:=by simpa[lQ,e] using a
     simpa[n8,e] using j.2 h
theorem WV(hN:X.N.Nodup)(hi:X.N[i]?=aa x:=by rfl)(j:Loc X.env.scope x:=by walk_at "0")(m:di (.Dict [] [] p) (aa (.Name x pos')) ν.line X.env=pure ag:=by rfl)(n:Zq X x:=by walk_at "0"):
  CH X (.Assign [.Name x pos'] (.Dict [] [] p) ν) (λE ρ=>E.nx (ρ.set i (.ow (.lA [] [])))):=jR (nI hN hi j V1 m n) λB σ H ⟨H₀,S,w,ρ,G,E,h,st,l,ok⟩=>λp a =>
 ok.nx _ _ _ _ (by rw[dm];show h) (st.EN (d:=.lA [] []) (by rw[h];show jS hi) (aQ a) a ⟨[],aY,rfl,bC.nil⟩) l
noncomputable def HE:D->Option Key
 |.int i=>aa (.inl i)
 |.str x=>aa (.inr x)
 |_=>af
theorem WW{K:ao}{S:ah->Prop}{H:Hp}{d:D}{v:V}{k:Key}(h:Dn K S H d v)(e:HE d=aa k):v=kV k:=by cases d<;>simp only[HE] at e<;>cases e<;>symm at h<;>show h
def xr:F2:=λx y Q=>match x,HE y with
 |.lA ks ds,aa k=>(match lQ ks ds k with|some d=>Q d|none=>False)
 |_,_=>False
theorem Om{o i:au}{y:bb}{m n:WE}(F:X.A.units+1<dj)(ho:dB X o m)(hi:dB X i n)(J:KL i:=by intro _ _;rfl):dB X (.Subscript o i y) (iB xr m n):=imp (aA1 F ho hi J) λσ H Q Ol=>by
 obtain⟨S,ρ,Q3,x,p,I,k⟩:=Ol;show⟨S,ρ,_,x,p,I,λv H1 d j Z q1=>?_⟩;show⟨S,ρ,_,bP x j,Sl.fits (.same j) p,q1,λu H2 d2 q z q2=>?_⟩;unfold xr at q2;split at q2
 .rename_i ks ds kk ek;have h:=Dn.fits (.same q) _ _ Z;symm at h;obtain⟨a,xs,rfl,L,sa,K,Y⟩:=h;split at q2
  .rename_i d3 e3;obtain⟨l,ev,U⟩:=(z4 K Y).1 d3 e3;have O:=WW z ek;subst O;show⟨a,l,rfl,?_,k l H2 d3 (j.trans q) U q2⟩;have g:=QB.k (k:=kk) L;rw[ev] at g;show g
  .exact q2.elim
 .exact q2.elim
def Xp(i:Nat)(t:WX)(h:WE):WS:=λE ρ=>t ρ λa d=>(match a[i]? with|some (.ow (.lA _ _))=>True|_=>False)/\h (bD a) λkd=>match a[i]?,HE kd with
 |some (.ow (.lA ks ds)),aa k=>(lQ ks ds k=af/\ds.length<bc)/\E.nx (a.set i (.ow (.lA (ks++[k]) (ds++[d]))))
 |_,_=>False
theorem Xo{i:Nat}{x:aj}{e k:au}{t:WX}{J:WE}{I pos' p:bb}(hu:X.A.units+1<dj)(he:G7 X e t)(hk:dB X k J)
  (hN:X.N[i]?=aa x:=by rfl) (hv:vZ X.env.scope x:=by walk_at "1") (hd:Zu x:=by decide) (q:Zt x:=by decide)
  (hs:di e (aa (.Subscript (.Name x p) k pos')) I.line X.env=pure ag:=by rfl):
  CH X (.Assign [.Subscript (.Name x p) k pos'] e I) (Xp i t J):=jR (aA2 hu (rE hN hv hd q) hk he hs) λB σ H Oj=>by
 obtain⟨H₀,S,w,ρ,G,E,Y,st,ht,ok⟩:=Oj;show⟨H₀,S,w,ρ,G,_,Y,st,ht,λl v H' h d j d' n=>?_⟩;obtain⟨O,n⟩:=n;split at O
 .rename_i ks0 ds0 e0;obtain⟨a0,_,_⟩:=j.own i _ e0;show⟨_,a0,S,bD h,_,j.IQ,j.all,n,λkv Z dk L y q2=>?_⟩;split at q2
  .rename_i ks ds kk e1 ek;have m:=j.same L;obtain⟨a,b,c⟩:=m.own i _ e1;obtain⟨xs,U,hlen,dn⟩:=c;have eu:=WW y ek;subst eu;have o:=(z4 (k:=kk) hlen dn).2 q2.1.1;have nS:¬ SO S l h (l i):=λ⟨_,z⟩=>z i _ e1 rfl;have hz:(ks.zip xs).length<bc:=by rw[a19,hlen,Nat.min_self,<- dn.len];show q2.1.2
   have Oi:putK (ks.zip xs) kk v=(ks++[kk]).zip (xs++[v]):=by rw[VW v o,a1U hlen];rfl
   have F:Fits X.K (SO S l h) (SO S l h) Z (upd Z (l i) (.dK (putK (ks.zip xs) kk v))):=.upd (.inr (.inl ⟨_,U⟩)) nS;show⟨l i,_,rfl,VZ.k U hz,ok.nx l σ _ _ Y (m.write (d':=.lA (ks++[kk]) (ds++[d])) e1 ⟨xs++[v],?_,by simp[hlen],bC.fits F _ _ (dn.append (bC.one (Dn.fits (.same L) _ _ d')))⟩) q2.2⟩;rw[aY,Oi]
  .exact q2.elim
 .exact O.elim
def Eu(i:Nat)(t:WE):WS:=λE ρ=>t (bD ρ) λd=>(match d with | .lst ds=>qC ds=ae|_=>False)/\E.nx (ρ.set i (.ro d))
def Xn(hN:X.N.Nodup)(v:FI X e t)(hi:X.N[i]?=aa x:=by rfl)(l:Loc X.env.scope x:=by walk_at "0")(n:Si X e x pos' ν:=by rfl)(q:Zq X x:=by walk_at "0"):
  CH X (.Assign [.Name x pos'] e ν) (Eu i t):=jR (nI hN hi l v n q) λB σ H y=>by
 obtain⟨H₀,S,w,ρ,G,E,j,st,m,ok⟩:=y;show⟨_,bD ρ,_,st.IQ,st.all,m,λp xs H' ds o a s' d' h=>ok.nx w _ H' _ (by rw[dm];show j) ((st.same s').lZ (d:=.lst ds) (by rw[j];show jS hi) (by symm;show⟨p,xs,rfl,a,st.NO p o,bC.AN h.1 d'⟩)) h.2⟩
def aEP(c:WT)(j:WS):WS:=λE ρ=>∃(Φ:bT->Prop) (h:bT->Nat),Φ ρ /\∀a,Φ a->c (bD a) λb=>if b=ae then j {E with nx:=λd=>Φ d/\h d<h a,ct:=λd=>Φ d/\h d<h a,bk:=E.nx} a else E.nx a
theorem aEQ(U:qx (aw X.Ω X.w) X.A X.env X.xe)(hc:xD X c tc)(hb:wF X body tb):CH X (.While c body [] ν) (aEP tc tb):=jR (VC U hc hb) λB σ H Og=>by
 obtain⟨H₀,S,w,ρ,G,E,Z,st,⟨L,F,h0,turn⟩,ok⟩:=Og;show⟨λm σ H=>∃w ρ,σ.length=X.N.length/\ST X.K H₀ S w σ H ρ G/\L ρ/\m=F ρ,⟨_,w,ρ,Z,st,h0,rfl⟩,?_⟩;rintro m z H2 ⟨J,n,x,o,O,rfl⟩;show⟨S,bD n,_,o.IQ,o.all,turn n O,λb H3 s3 y=>?_⟩
 cases b with
 |false=>rw[Zz bt] at y ⊢;show ok.nx J z H3 n x (o.same s3) y
 |true =>
  rw[Z_ rfl] at y ⊢;show⟨λa H'=>∃w ρ,a.length=X.N.length/\ST X.K H₀ S w a H' ρ G/\L ρ/\F ρ<F n,λa H' ⟨p,h,l,j,I,Y⟩=>⟨_,Y,p,h,l,j,I,rfl⟩,?_⟩;show⟨H₀,S,J,n,G,_,x,o.same s3,y,⟨λp a H' h l j q=>⟨p,h,l,j,q.1,q.2⟩,λv H' d s' d' q=>ok.rt v H' d s' d' q,λp a H' h l j q=>ok.nx p a H' h l j q,λp a H' h l j q=>⟨p,h,l,j,q.1,q.2⟩,ok.ex⟩⟩
noncomputable def xq:List D->D->(List D->D->Prop)->Prop
 |ds,.lst es,Q=>ds.length+es.length<=bc/\Q (ds++es) .non
 |_,_,_=>False
theorem aES{K:ao}:M3 K NL xq:=by
 intro S H p xs ds y d Q3 Q m dn h a k
 cases d with
 |lst es =>
  symm at h;obtain⟨b,l,rfl,n,o,j⟩:=h;show⟨p,b,xs,l,rfl,rfl,m,n,by rw[<- dn.len,<- j.len];show a.1,k _ _ _ _ (dn.append j) (by symm) a.2⟩
 |_=>show a.elim
section
variable{i:Nat}{x:aj}{e:au}{p apos cpos:bb}{t:WX}
def aAk(n:G7 X e t)(hN:X.N[i]?=aa x:=by rfl)(l:vZ X.env.scope x:=by walk_at "1")(o:Zu x:=by decide)(j:Zt x:=by decide)
  (d:attributeBase (.Name x p) "extend" X.env (eval (.Name x p) X.env)=eval (.Name x p) X.env:=by rfl)
  (h:Zp X cpos e:=by rfl)
  (a:Q0k apos cpos:=by rfl) (m:Zr X e []:=by rfl):
  G7 X (.Call (.Attribute (.Name x p) "extend" apos) [e] [] cpos) (oq i xq t):=m1 a08 PySem.F.type_list_extend P7 aES n hN l o j d h a m
end
end
section
variable{π:Q0b}{σ:L2.St}{H:Hp}{s:ak}{h':ay}
theorem turnT{t':Nat}{ch:List ah}{T:ah}{xs:List V}{h:Q0f}(I:Φ X π σ H s)(k:∀b o,b∉ch->s.heap.get? b=aa o->h'.get? b=aa o)(l:∀b∈ch,rF X π H b)
  (m:s.heap.objs.size<=T) (y:θ xs h) (x:xs.length<=bc) (A:ia h' T h.toArray) (nd:DX h' T):Φ X π σ (upd H T (.tup xs)) {s with heap:=h',toks:=t' }:=by
 have fr:H T=af:=I.hok.fresh m;have p:∀{b:ah} {o:ax},s.heap.get? b=aa o->b≠T:=λ{b} {o} e z=>jb _ (fw (br e) (z▸m));have live:∀{b:ah} {u:HO},H b=aa u->b∉ch:=λ{b} {u} e z=>by rw[(l _ z).1] at e;cases e
 show I.call' (s':={s with heap:=h',toks:=t' }) (ch:=ch) rfl ⟨λb o e _ _ a=>k b o a e,λb o e _ _ a=>⟨o.slots,k b o a e⟩,λb o e n _=>by rw[bB (p e)];show n,λb o e a=>⟨o,k b o a e⟩,
  λb ys e=>by rw[bB (bY e fr)];show e,λb o u e=>by rw[bB (bY e fr)];show e,λb O e=>by rw[bB (bY e fr),e]⟩ ?_ I.bare λb d=>?_
 .intro b u e;by_cases d:b=T
  .subst d;rw[aY] at e;cases e;show⟨x,h,y,A,nd⟩
  .rw [bB d] at e;show(I.hok b u e).stay (λc v j q=>k c v ?_ q) (λc q=>by rw[bB (bY q fr)];show q) (λc ys q=>by rw[bB (bY q fr)];show q) λc o u q=>by rw[bB (bY q fr)];show q
   rcases j with rfl|j
   .exact live e
   .exact live j
 .obtain ⟨_,L,_,K,J,F⟩:=l b d;show⟨K,L,J,F⟩
def WY{t':Nat}{ch:List ah}(I:Φ X π σ H s)(k:∀b o,b∉ch->s.heap.get? b=aa o->h'.get? b=aa o)(h:∀b∈ch,rF X π H b):Φ X π σ H {s with heap:=h',toks:=t' }:=by
 have live:∀{b:ah} {u:HO},H b=aa u->b∉ch:=λ{b} {u} e z=>by rw[(h _ z).1] at e;cases e
 show I.call' (s':={s with heap:=h',toks:=t' }) (ch:=ch) rfl ⟨λb o e _ _ a=>k b o a e,λb o e _ _ a=>⟨o.slots,k b o a e⟩,λb o e n _=>n,λb o e a=>⟨o,k b o a e⟩,
  λb ys e=>e,λb o u e=>e,λb y e=>e⟩ ?_ I.bare λb j=>?_
 .intro b u e;show(I.hok b u e).stay (λc v d q=>k c v ?_ q) (λc q=>q) λc ys q=>q;rcases d with rfl|d
  .exact live e
  .exact live d
 .obtain ⟨_,x,_,p,m,l⟩:=h b j;show⟨p,x,m,l⟩
end
def Itp(go:Nat->Hp->Prop)(Y:Nat->Hp->List V->Prop)(stop:Nat->Hp->Prop):It:=⟨go,λi H x H'=>∃T vs,x=.ref T/\H T=af/\H'=upd H T (.tup vs)/\Y i H vs,stop⟩
def HF(P:bf)(w:ba)(A:bq)(it:ah)(wr:List ah)(n:Nat)(d:Nat->Array ai->Prop)(St:Nat->ay->Prop)(Mid:Nat->ah->ay->Prop):Prop :=
 ∀i (s:ak) (Q:Option ai->ak->Prop) (E:Q0c),i<n->St i s.heap ->
  (∀T vals h' a,d i vals->s.heap.objs.size<=T->h'.IsTuple T vals->DX h' T->Mid i T h'->(∀b o,b∉wr->s.heap.get? b=aa o->h'.get? b=aa o)->Q (aa (.ref T)) {s with heap:=h',toks:=a}) ->
  av (aw P w) A (pyNext (.ref it)) Q E s
theorem nM{P:bf}{w:ba}{K:ao}{es:List au}{kk:Nat}{tp:bb}{go:Nat->Hp->Prop}{Y:Nat->Hp->List V->Prop}{stop:Nat->Hp->Prop}{m:List ah}{it:ah}{tn:Nat->ay->Prop}(mem:it∈m)
  (obj:∀i h,tn i h ->∀b∈m,∃o,h.get? b=aa o /\∀v,o.data≠.cell v) (keep:∀i h h',tn i h->(∀b∈m,∀o,h.get? b=aa o->h'.get? b=aa o)->tn i h')
  (wk:∀(X:Cx),X.Ω=P->X.w=w->X.K=K->X.calm=ae ->∀(i:Nat) (π:Q0b) (s:ak) (σ:L2.St) (H:Hp),Φ X π σ H s->tn i s.heap->go i H\/stop i H ->
   ∃j wr n p St Mid,(WalksT P w X.A it j wr n p St Mid/\HF P w X.A it wr n p St Mid)/\St i s.heap/\(∀b∈wr,b∈m)/\(∀h,St (i+1) h->tn (i+1) h) /\
    (go i H->i<n /\∀vals,p i vals ->∃vs,vs.length<=bc/\θ vs vals.toList/\Y i H vs)/\(stop i H->i=n))
  (self:∀(A:bq) (i:Nat) (s:ak) (Q:Q0c) (E:Q0c),tn i s.heap->Q (.ref it) s->av (aw P w) A (pyIter (.ref it)) Q E s):
  Turn P w K (.Tuple es kk tp) (Itp go Y stop) m it tn where
 mem:=mem
 obj:=obj
 keep:=keep
 self:=self
 item:=by intro X U hw Z L i π s σ H E I x st l;obtain⟨j,wr,n,p,St,Mid,⟨W,J2⟩,F,sub,nx,ok,_⟩:=wk X U hw Z L i π s σ H I st (.inl l);obtain⟨hi,ok⟩:=ok l;show J2 i s _ _ hi F λT vals h1 q hp O ht nd J k1=>⟨.ref T,rfl,W.go es kk tp i T _ _ _ J λh2 s2 k2=>?_⟩;obtain⟨vs,hz,hv,hy⟩:=ok vals hp;obtain⟨o,eo,c,d⟩:=ht;have y:ia h2 T vals.toList.toArray:=⟨o,k2 T o (W.apart i T _ J) eo,c,by simpa using d⟩;have I2:Φ X π σ (upd H T (.tup vs)) {s with heap:=h2,toks:=q}:=turnT (t':=q) (ch:=wr) I (λb o a e=>k2 b o a (k1 b o a e)) (λb a=>x b (sub b a)) O hv hz y (nd.at eo (k2 T o (W.apart i T _ J) eo));show⟨.ref T,upd H T (.tup vs),I2,rfl,⟨T,vs,rfl,I.hok.fresh O,rfl,hy⟩,nx h2 s2,λb a=>?_⟩;obtain⟨ob,eb,_⟩:=obj _ _ st b a;have nb:b≠T:=λz=>jb _ (fw (br eb) (z▸O));rw[bB nb];show(x b a).1
 done:=by intro X U hw Z L i π s σ H E I x st l;obtain⟨j,wr,n,p,St,Mid,⟨W,_⟩,F,sub,nx,_,ok⟩:=wk X U hw Z L i π s σ H I st (.inr l);obtain rfl:=ok l;show W.done s _ _ F λh2 q k2=>⟨rfl,WY (t':=q) (ch:=wr) I k2 λb a=>x b (sub b a)⟩
def Iel(K:ao)(l:ah):It:=Itp (λi H=>∃xs v,eZ K H l xs/\xs[i]?=aa v) (λi H vs=>∃v,vs=[.int i,v] /\∀xs,eZ K H l xs->xs[i]?=aa v) (λi H=>∃xs,eZ K H l xs/\xs.length=i)
def Iet(K:ao)(l:ah):It:=Itp (λi H=>∃xs v,fJ K H l xs/\xs[i]?=aa v) (λi H vs=>∃v,vs=[.int i,v] /\∀xs,fJ K H l xs->xs[i]?=aa v) (λi H=>∃xs,fJ K H l xs/\xs.length=i)
def tF:[V.int 0,V.int 0].length<=bc:=by rw[fg];decide
theorem HG(e it l:ah)(d:e≠it)(hle:l≠e)(a:l≠it)(items:Array ai):HF Ω w A e [e,it] items.size (λi vals=>∃t x,items[i]?=aa x/\vals=#[.int i t,x])
  (λi h=>(∃old,vt h e it i old)/\h.IsListIter it l i/\h.IsList l items) (λi T h=>(∃x,IsEnumOut h e it ((i:Int)+1) x T)/\h.IsListIter it l (i+1)/\h.IsList l items/\T≠e/\T≠it):=by
 intro i s Q E hi ⟨⟨old,z⟩,v,p⟩ q;have n:items[i]?=aa items[i]:=qj hi;show wpAny_pyNext_enum_item z v p n d λg K J b3 _ m=>?_;have I:e<s.heap.objs.size:=br z;have F:it<s.heap.objs.size:=by obtain⟨_,y,_⟩:=v;show br y
 show q s.heap.objs.size #[.int i s.toks,items[i]] g (s.toks+1) ⟨_,_,n,rfl⟩ (bj _) ⟨_,b3,rfl,_,rfl⟩ (DX.is b3 rfl) ⟨⟨_,K⟩,J,p.at λo y=>m l o hle a y,kr I,kr F⟩ λb o j y=>?_;simp only[bh,ie,or_false,not_or] at j;show m b o j.1 j.2 y
theorem HH{Ω:bf}{w:ba}{A:bq}{it:ah}{m:List ah}{n:Nat}{P:Nat->ai->Prop}{St:Nat->ay->Prop}(D:ji Ω w A.in1 it m n P St)(e:ah)(a:e≠it)(d:e∉m):
  HF Ω w A e [e,it] n (λi vals=>∃t x,P i x/\vals=#[.int i t,x]) (λi h=>(∃old,vt h e it i old)/\St i h) (λi T h=>(∃x,IsEnumOut h e it ((i:Int)+1) x T)/\St (i+1) h/\T≠e/\T≠it):=by
 intro i s Q E hi ⟨⟨old,v⟩,p⟩ q;show wpAny_pyNext_enum_itemD D v p hi a d λx g l z L K b3 _ J=>?_;have I:e<s.heap.objs.size:=br v;have F:it<s.heap.objs.size:=by obtain⟨_,y⟩:=D.live _ _ p;show br y
 show q s.heap.objs.size #[.int i l,x] g (l+1) ⟨_,_,z,rfl⟩ (bj _) ⟨_,b3,rfl,_,rfl⟩ (DX.is b3 rfl) ⟨⟨_,L⟩,K,kr I,kr F⟩ λb o j y=>?_;simp only[bh,ie,or_false,not_or] at j;show J b o j.1 j.2 y
theorem KQ(z TI TO j d m l:ah)(D:ZipApart z TI TO j d m l)(xs ys:Array ai):
  HF Ω w A z [z,TO,j,d] (min xs.size ys.size) (λi vals=>∃x y,xs[i]?=aa x/\ys[i]?=aa y/\vals=#[x,y])
   (λi h=>gw h z TI TO .none/\dq h TI (.ref j) (.ref d)/\(∃a b,dq h TO a b)/\h.IsListIter j m i/\h.IsListIter d l i/\h.IsList m xs/\h.IsList l ys)
   (λi T h=>gw h z TI TO (rawInt T)/\dq h TI (.ref j) (.ref d)/\(∃a b,dq h TO a b)/\h.IsListIter j m (i+1)/\h.IsListIter d l (i+1)/\h.IsList m xs/\h.IsList l ys/\T≠z/\T≠TO/\T≠j/\T≠d):=by
 intro i s Q E hi ⟨Y,X,⟨x,y,U⟩,O,L,K,J⟩ q;have F:i<xs.size:=by lia
 have v:i<ys.size:=by lia
 show wpAny_pyNext_zip_item D Y X U O L K J (qj F) (qj v) λg b1 Z b3 b4 I _ p=>?_;have fresh:∀{c:ah} {o:ax},s.heap.get? c=aa o->s.heap.objs.size≠c:=λe=>kr (br e);show q s.heap.objs.size #[xs[i],ys[i]] g s.toks ⟨_,_,qj F,qj v,rfl⟩ (bj _) ⟨_,I,rfl,_,rfl⟩ (DX.is I rfl)
  ⟨b1,p _ _ D.TIz D.TITO D.TIi1 D.TIi2 X,⟨_,_,Z⟩,b3,b4,K.at λo e=>p _ o D.l1z D.l1TO D.l1i1 D.l1i2 e,J.at λo e=>p _ o D.l2z D.l2TO D.l2i1 D.l2i2 e,fresh Y,fresh U,(by obtain⟨_,e,_⟩:=O;show fresh e),(by obtain⟨_,e,_⟩:=L;show fresh e)⟩ λb o n e=>?_
 simp only[bh,ie,or_false,not_or] at n;show p b o n.1 n.2.1 n.2.2.1 n.2.2.2 e
theorem KR{P:bf}{w:ba}{K:ao}{es:List au}{kk:Nat}{Z:bb}{e it l:ah}(m:e≠it)(hle:l≠e)(j:l≠it):
  Turn P w K (.Tuple es kk Z) (Iel K l) [e,it] e (λi h=>(∃old,vt h e it i old)/\h.IsListIter it l i):=by
 show nM (by simp) (λi h st b O=>?_) (λi h h2 st k=>?_) (λX hP hw hK hc i π s σ H I st hg=>?_) (λA i s Q E st q=>?_)
 .obtain ⟨⟨old,a⟩,o,c,d1,d2⟩:=st;rcases bh.mp O with rfl|d
  .exact ⟨_,a,λv z=>by cases z⟩
  .rw [cc.mp d];show⟨o,c,λv z=>by rw[d2] at z;cases z⟩
 .obtain ⟨⟨old,a⟩,b⟩:=st;show⟨⟨old,k e (by simp) _ a⟩,b.at λo q=>k it (by simp) o q⟩
 .subst hP hw hK;have d:∃xs,eZ X.K H l xs:=by rcases hg with⟨xs,_,a,_⟩|⟨xs,a,_⟩<;>show⟨xs,a⟩
  obtain⟨xs,d⟩:=d;obtain⟨n,U,p,hz⟩:=I.list d;have Y:=U.length;show⟨_,_,_,_,_,_,⟨WalksT.enumerate (I.ok.hd hc) e it l m hle j n.toArray,HG e it l m hle j n.toArray⟩,⟨st.1,st.2,p.isList⟩,λb O=>O,λh q=>⟨q.1,q.2.1⟩,λg=>?_,λg=>?_⟩
  .obtain ⟨ys,v,F,J⟩:=g;obtain rfl:=I.gY F d;obtain⟨u,hu,ru⟩:=U.get J;have L:i<ys.length:=(cg.mp J).1;show⟨by rw[bw,<- Y];show L,λvals q=>?_⟩;obtain⟨t,x,hx,rfl⟩:=q;have ex:x=u:=by
    have:n[i]?=aa x:=by simpa using hx
    rw[hu] at this;show(cx this).symm
   subst ex;show⟨[.int i,v],tF,.cons ⟨t,rfl⟩ (.cons ru .nil),v,rfl,λzs y=>by rw[I.gY y d];show J⟩
  .obtain ⟨ys,F,e2⟩:=g;obtain rfl:=I.gY F d;rw[bw,<- Y,e2]
 .obtain ⟨⟨old,a⟩,b⟩:=st;show yy a q
def Izl(K:ao)(l m:ah):It:=Itp (λi H=>∃xs ys v u,eZ K H l xs/\eZ K H m ys/\xs[i]?=aa v/\ys[i]?=aa u) (λi H vs=>∃v u,vs=[v,u]/\(∀xs,eZ K H l xs->xs[i]?=aa v) /\∀ys,eZ K H m ys->ys[i]?=aa u)
 (λi H=>∃xs ys,eZ K H l xs/\eZ K H m ys/\min xs.length ys.length=i)
theorem WZ{P:bf}{w:ba}{K:ao}{es:List au}{kk:Nat}{tp:bb}{z TI TO F n l m:ah}(D:ZipApart z TI TO F n l m):
  Turn P w K (.Tuple es kk tp) (Izl K l m) [z,TI,TO,F,n] z (λi h=>gw h z TI TO .none/\dq h TI (.ref F) (.ref n)/\(∃a b,dq h TO a b)/\h.IsListIter F l i/\h.IsListIter n m i):=by
 show nM (by simp) (λi h st b Z=>?_) (λi h h2 st k=>?_) (λX hP hw hK hc i π s σ H I st hg=>?_) (λA i s Q E st q=>?_)
 .obtain ⟨a1,a2,⟨x,y,a3⟩,⟨o4,c4,_,d4⟩,o5,c5,_,d5⟩:=st;simp only[bh,or_false,ie] at Z;rcases Z with rfl|rfl|rfl|rfl|rfl
  .exact ⟨_,a1,λv z=>by cases z⟩
  .exact ⟨_,a2,λv z=>by cases z⟩
  .exact ⟨_,a3,λv z=>by cases z⟩
  .exact ⟨o4,c4,λv z=>by rw[d4] at z;cases z⟩
  .exact ⟨o5,c5,λv z=>by rw[d5] at z;cases z⟩
 .obtain ⟨a1,a2,⟨x,y,a3⟩,a4,a5⟩:=st;show⟨k z (by simp) _ a1,k TI (by simp) _ a2,⟨x,y,k TO (by simp) _ a3⟩,a4.at λo q=>k F (by simp) o q,a5.at λo q=>k n (by simp) o q⟩
 .subst hP hw hK;have O:∃xs ys,eZ X.K H l xs/\eZ X.K H m ys:=by rcases hg with⟨xs,ys,_,_,a,b,_⟩|⟨xs,ys,a,b,_⟩<;>show⟨xs,ys,a,b⟩
  obtain⟨xs,ys,O,j⟩:=O;obtain⟨ι,rv,p,hz⟩:=I.list O;obtain⟨d,U,p2,hz2⟩:=I.list j;have hl:=rv.length;have Y:=U.length;show⟨_,_,_,_,_,_,⟨WalksT.zip2 (I.ok.hd hc) z TI TO F n l m D ι.toArray d.toArray,KQ z TI TO F n l m D ι.toArray d.toArray⟩,⟨st.1,st.2.1,st.2.2.1,st.2.2.2.1,st.2.2.2.2,p.isList,p2.isList⟩,λb Z=>?_,λh q=>⟨q.1,q.2.1,q.2.2.1,q.2.2.2.1,q.2.2.2.2.1⟩,λg=>?_,λg=>?_⟩
  .simp only[bh,ie,or_false] at Z ⊢;rcases Z with rfl|rfl|rfl|rfl<;>simp
  .obtain ⟨x',y',v,u,hy,L,hv,hu⟩:=g;obtain rfl:=I.gY hy O;obtain rfl:=I.gY L j;obtain⟨r,er,rr⟩:=rv.get hv;obtain⟨r2,er2,rr2⟩:=U.get hu;have hlt:i<x'.length:=(cg.mp hv).1;have hlt2:i<y'.length:=(cg.mp hu).1;show⟨by rw[bw,bw,<- hl,<- Y];lia,λvals q=>?_⟩;obtain⟨x,y,hx,hy',rfl⟩:=q;have ex:x=r:=by
    have:ι[i]?=aa x:=by simpa using hx
    rw[er] at this;show(cx this).symm
   have ey:y=r2:=by
    have:d[i]?=aa y:=by simpa using hy'
    rw[er2] at this;show(cx this).symm
   subst ex ey;show⟨[v,u],tF,.cons rr (.cons rr2 .nil),v,u,rfl,λzs J=>by rw[I.gY J O];show hv,λzs J=>by rw[I.gY J j];show hu⟩
  .obtain ⟨x',y',hy,L,e2⟩:=g;obtain rfl:=I.gY hy O;obtain rfl:=I.gY L j;rw[bw,bw,<- hl,<- Y,e2]
 .exact vg st.1 q
section
variable{Ω:bf}{w:ba}{A:bq}{E:Q0c}{s:ak}
theorem W0(hit:s.heap.IsTupleIter it t i)(l:s.heap.IsTuple t items)(j:items[i]?=aa x)
  (p:∀h',h'.IsTupleIter it t (i+1)->nq it s.heap h'->Q x {s with heap:=h' }):av (aw Ω w) A (rh (.ref it)) Q E s:=by
 obtain⟨⟨q,d,_,nl,h⟩,o,ho,n,a⟩:=wx l hit;show aq (m:=callSpecial? _ _) (oy hit.typeIs Af (j_ Af hit.typeIs a1f ?_ (a1j _)));show aq (m:=field _ 0) (il ho a (x:=.ref t) rfl ?_);show av _ _ (if ag=ae then _ else _) _ _ s;rw[Zz bt];show aq (m:=field _ 1) (il ho a (x:=.int i 0) rfl (aq (m:=seqItems? _) (ma d h ?_)));simp only[j,jn];show aq (a0g ho a (by simp) (a_ ⟨x,rfl,a_ (p _ ⟨_,Ad _ ho (Obj.isFreed_of_fields (a01 a _)),(Obj.cls_mapFields ..).trans n,?_⟩ (q_ ..))⟩));rw[a01 a];simp[rawInt]
theorem QN(p:A.handled=af)(hit:s.heap.IsTupleIter it t i)(n:s.heap.IsTuple t items)(l:items[i]?=af)
  (q:∀h' e,a04 it s.heap h'->(∃o,h'.get? e=aa o/\o.cls=.type "StopIteration")->E (.ref e) {s with heap:=h' }):av (aw Ω w) A (rh (.ref it)) Q E s:=by
 obtain⟨⟨v,a,_,nl,h⟩,o,ho,y,j⟩:=wx n hit;show aq (m:=callSpecial? _ _) (oy hit.typeIs Af (j_ Af hit.typeIs a1f ?_ (a1j _)));show aq (m:=field _ 0) (il ho j (x:=.ref t) rfl ?_);show av _ _ (if ag=ae then _ else _) _ _ s;rw[Zz bt];show aq (m:=field _ 1) (il ho j (x:=.int i 0) rfl (aq (m:=seqItems? _) (ma a h ?_)));simp only[l,jn];show aq (nc (aq (m:=setField _ _ _) (a0g ho j (by simp) ?_)));have d:A.in1.handled=af:=p
 wp_walk
 unfold raiseNew;apply aq;apply wpAny_handled;rw[d];show aq (a_ (wpAny_throw (q _ _ (((q_ ..).extBut.push _).push _) ⟨_,dg _ rfl,rfl⟩)))
theorem KS(m:A.handled=af)(it t:ah)(j:t≠it)(items:Array ai):ji Ω w A it [it,t] items.size (λi v=>items[i]?=aa v) (λi h=>h.IsTupleIter it t i/\h.IsTuple t items) where
 live:=λi h st=>by obtain⟨⟨o,ho,_⟩,_⟩:=st;show⟨o,ho⟩
 frame:=λi h h' st k=>by obtain⟨⟨o,ho,r⟩,o2,d,l⟩:=st;show⟨⟨o,k it (by simp) o ho,r⟩,o2,k t (by simp) o2 d,l⟩
 item:=λi s Q E hi st q=>W0 st.1 st.2 (x:=items[i]) (qj hi) λh' a b=>q _ h' s.toks (qj hi) ⟨a,st.2.extBut b.extBut j⟩ b
 done:=λs Q E st q=>QN m st.1 st.2 (Array.getElem?_eq_none (bj _)) q
theorem QO(l:ah)(items:Array ai):Meets (Builtin.«enumerate.__new__» ⟨[.type "enumerate",.ref l],[]⟩) (λ_ R s=>s.heap.IsTuple l items /\
  R (.ok (.ret (.ref (s.heap.push {cls:=.type "tuple_iterator",data:=.fields #[.ref l,.int 0 0]}).objs.size))) {s with heap:=(s.heap.push {cls:=.type "tuple_iterator",data:=.fields #[.ref l,.int 0 0]}).push {cls:=.type "enumerate",data:=.fields #[.none,.bool ag,.ref s.heap.objs.size,rawInt 0,.none,.none]} }):=by
 show .of_wp λp0 n x v s h=>?_;obtain⟨a,h⟩:=h;obtain⟨m,q,d,o,p⟩:=s;have j:=sub_enumerate
 wp_walk using ou a
 show wpAny_stack_any λ_=>a_ ?_;split<;>first
  | (rename_i c _ _ _ _ _;cases (c == pq "enumerate")<;>(wp_walk using ou a;show⟨_,rfl,h⟩))
  | (wp_walk using ou a;show⟨_,rfl,h⟩)
theorem KU(j:s.heap.IsTuple l items)
  (h:∀h',vt h' (s.heap.objs.size+1) s.heap.objs.size 0 .none->h'.IsTupleIter s.heap.objs.size l 0->(∀b o,s.heap.get? b=aa o->h'.get? b=aa o)->Q (.ref (s.heap.objs.size+1)) {s with heap:=h' }):av (aw Ω w) A (call (.type "enumerate") [.ref l]) Q E s:=by
 show He F.called_enumerate (by decide) (F.typeCall_enumerate_1 _) (F.newCall_enumerate_1 _) (λobj=>a1k obj _) F.entry_enumerate_new (QO l items) ⟨j,?_⟩;generalize a:s.heap.push {cls:=.type "tuple_iterator",data:=.fields #[.ref l,.int 0 0]}=h1;have m:h1.objs.size=s.heap.objs.size+1:=by rw[<- a,ko]
 have g1:h1.get? s.heap.objs.size=aa {cls:=.type "tuple_iterator",data:=.fields #[.ref l,.int 0 0]}:=by rw[<- a];show dg _ rfl
 have k1:∀b o,s.heap.get? b=aa o->h1.get? b=aa o:=λb o e=>by rw[<- a];show cm _ e
 generalize d:h1.push {cls:=.type "enumerate",data:=.fields #[.none,.bool ag,.ref s.heap.objs.size,rawInt 0,.none,.none]}=h2;have g2:h2.get? h1.objs.size=aa {cls:=.type "enumerate",data:=.fields #[.none,.bool ag,.ref s.heap.objs.size,rawInt 0,.none,.none]}:=by rw[<- d];show dg _ rfl
 have k2:∀b o,h1.get? b=aa o->h2.get? b=aa o:=λb o e=>by rw[<- d];show cm _ e
 show⟨⟨_,g2,rfl⟩,?_⟩;rw[m] at g2 ⊢;show h h2 g2 ⟨_,k2 _ _ g1,rfl,rfl⟩ λb o e=>k2 b o (k1 b o e)
end
theorem KW{P:bf}{w:ba}{K:ao}{es:List au}{kk:Nat}{tp:bb}{e it l:ah}(j:e≠it)(hle:l≠e)(U:l≠it):
  Turn P w K (.Tuple es kk tp) (Iet K l) [e,it] e (λi h=>(∃old,vt h e it i old)/\h.IsTupleIter it l i):=by
 show nM (by simp) (λi h st b Y=>?_) (λi h h2 st k=>?_) (λX hP hw hK hc i π s σ H I st hg=>?_) (λA i s Q E st q=>?_)
 .obtain ⟨⟨old,a⟩,o,c,d1,d2⟩:=st;rcases bh.mp Y with rfl|d
  .exact ⟨_,a,λv z=>by cases z⟩
  .rw [cc.mp d];show⟨o,c,λv z=>by rw[d2] at z;cases z⟩
 .obtain ⟨⟨old,a⟩,o,b,r⟩:=st;show⟨⟨old,k e (by simp) _ a⟩,o,k it (by simp) o b,r⟩
 .subst hP hw hK;have d:∃xs,fJ X.K H l xs:=by rcases hg with⟨xs,_,a,_⟩|⟨xs,a,_⟩<;>show⟨xs,a⟩
  obtain⟨xs,d⟩:=d;obtain⟨m,Z,p,hz⟩:=I.tuple d;have hl:=Z.length;have D:ji X.Ω X.w X.A.in1 it [it,l] m.toArray.size (λi v=>m.toArray[i]?=aa v) (λi h=>h.IsTupleIter it l i/\h.IsTuple l m.toArray):=KS (show X.A.in1.handled=af from I.ok.hd hc) it l U m.toArray;have n:e∉[it,l]:=λz=>by
   rcases bh.mp z with y|y
   .exact j y
   .exact hle (cc.mp y).symm
  show⟨_,_,_,_,_,_,⟨WalksT.enumerateD D e j n (by simp),HH D e j n⟩,⟨st.1,st.2,p⟩,λb Y=>Y,λh q=>⟨q.1,q.2.1⟩,λg=>?_,λg=>?_⟩
  .obtain ⟨ys,v,J,L⟩:=g;obtain rfl:=I.f7 J d;obtain⟨u,hu,ru⟩:=Z.get L;have O:i<ys.length:=(cg.mp L).1;show⟨by rw[bw,<- hl];show O,λvals q=>?_⟩;obtain⟨t,x,hx,rfl⟩:=q;have ex:x=u:=by
    have:m[i]?=aa x:=by simpa using hx
    rw[hu] at this;show(cx this).symm
   subst ex;show⟨[.int i,v],tF,.cons ⟨t,rfl⟩ (.cons ru .nil),v,rfl,λzs F=>by rw[I.f7 F d];show L⟩
  .obtain ⟨ys,J,e2⟩:=g;obtain rfl:=I.f7 J d;rw[bw,<- hl,e2]
 .obtain ⟨⟨old,a⟩,b⟩:=st;show yy a q
section
variable{es:List au}{kk:Nat}{tp:bb}
def aAl{a:au}{L:TA}{p F:bb}(hg:Gl X "enumerate")(hm:X.mg "enumerate"=af)(ha:PA X [a] L)(hs:ar [a] X.env=[(ag,eval a X.env)]:=by rfl):
  PI X (.Tuple es kk tp) (.Call (.Name "enumerate" p) [a] [] F) (λσ H R=>L σ H λvs m=>∃l,vs=[.ref l]/\(((∃xs,eZ X.K m l xs)/\R (Iel X.K l) m)\/((∃xs,fJ X.K m l xs)/\R (Iet X.K l) m))):=by
 intro π s σ H R I h;show vy (nG I hg hm boot_enumerate (r6 (eR (ha F π s σ H _ I h) λus j ⟨vs,m,v,r1,q1⟩=>?_) hs rfl));obtain⟨l,e,q⟩:=q1;subst e;obtain⟨u,rfl,Z⟩:=vals1 r1;cases Z;have U:∀b∈[j.heap.objs.size+1,j.heap.objs.size],rF X π m b:=λb O=>by
  have hle:j.heap.objs.size<=b:=by
   simp only[bh,or_false,ie] at O;rcases O with rfl|rfl
   .exact qb _
   .exact bj _
  show v.EA hle (v.hok.fresh hle)
 rcases q with⟨⟨xs,z⟩,q⟩|⟨⟨xs,z⟩,q⟩
 .obtain ⟨J,Y,x,hz⟩:=v.list z;have d:l<j.heap.objs.size:=by obtain⟨o,n,e,_⟩:=x;show br e
  show call_enumerate_list x.isList λh' y hi hsz A=>yy y ?_;show⟨j.heap.objs.size+1,_,_,_,m,rfl,v.kept (t':=j.toks) A,KR (a1J _) (ee (qa d)) (ee d),⟨⟨_,y⟩,hi⟩,U,q⟩
 .obtain ⟨J,Y,x,hz⟩:=v.tuple z;have d:l<j.heap.objs.size:=x.lt;show KU (items:=J.toArray) x λh' y hi A=>yy y ?_;show⟨j.heap.objs.size+1,_,_,_,m,rfl,v.kept (t':=j.toks) A,KW (a1J _) (ee (qa d)) (ee d),⟨⟨_,y⟩,hi⟩,U,q⟩
def aEU{a b:au}{Y:TA}{p U:bb}(hg:Gl X "zip")(hm:X.mg "zip"=af)(ha:PA X [a,b] Y)(hs:ar [a,b] X.env=[(ag,eval a X.env),(ag,eval b X.env)]:=by rfl)(v:ar [b] X.env=[(ag,eval b X.env)]:=by rfl):
  PI X (.Tuple es kk tp) (.Call (.Name "zip" p) [a,b] [] U) (λσ H R=>Y σ H λvs z=>∃l m xs ys,vs=[.ref l,.ref m]/\eZ X.K z l xs/\eZ X.K z m ys/\R (Izl X.K l m) z):=by
 intro π s σ H R I h;show vy (nG I hg hm boot_zip (r6 (eR (ha U π s σ H _ I h) λus d ⟨vs,z,y,r1,q1⟩=>?_) (by rw[hs,v]) (by rw[v];rfl)));obtain⟨l,m,xs,ys,e,hq,F,q⟩:=q1;subst e;obtain⟨u,u2,rfl,ru,A⟩:=vals2 r1;cases ru;cases A;obtain⟨ι,rv,Z,hz⟩:=y.list hq;obtain⟨its2,rv2,j,hz2⟩:=y.list F;have J:l<d.heap.objs.size:=by obtain⟨o,n,e,_⟩:=Z;show br e
 have x:m<d.heap.objs.size:=by obtain⟨o,n,e,_⟩:=j;show br e
 show call_zip_2 Z.isList j.isList λh' hZ Lh Lg O L hsz hk=>vg hZ ?_;show⟨d.heap.objs.size+4,_,_,_,z,rfl,y.kept (t':=d.toks) hk,WZ (zipApart_new J x),⟨hZ,Lh,⟨_,_,Lg⟩,O,L⟩,λb hb=>?_,q⟩;have hle:d.heap.objs.size<=b:=by
  simp only[bh,or_false,ie] at hb;rcases hb with rfl|rfl|rfl|rfl|rfl
  .exact kz _ 4
  .exact kz _ 2
  .exact kz _ 3
  .exact bj _
  .exact kz _ 1
 show y.EA hle (y.hok.fresh hle)
def vQ(ds:List D):List D:=ds.zipIdx.map λp=>.tup [.int (p.2:Int),p.1]
def KY(a b:List D):List D:=(a.zip b).map λp=>.tup [p.1,p.2]
theorem CI{ds:List D}{i:Nat}{d:D}(h:(vQ ds)[i]?=aa d):∃d0,ds[i]?=aa d0/\d=.tup [.int (i:Int),d0]:=by
 unfold vQ at h;rw[cf,Bc] at h
 cases q:ds[i]? with
 |none=>rw[q] at h;cases h
 |some d0 =>
  rw[q] at h;simp at h;show⟨d0,rfl,h.symm⟩
theorem HI{a b:List D}{i:Nat}{d:D}(h:(KY a b)[i]?=aa d):∃x y,a[i]?=aa x/\b[i]?=aa y/\d=.tup [x,y]:=by
 unfold KY at h;rw[cf] at h
 cases q:(a.zip b)[i]? with
 |none=>rw[q] at h;cases h
 |some xy =>
  rw[q] at h;obtain⟨j,h2⟩:=Bb.mp q;show⟨xy.1,xy.2,j,h2,(cx h).symm⟩
def xE{K:ao}{S:ah->Prop}{H:Hp}{T:ah}{x y:V}{d a:D}(fr:H T=af)(j:Dn K S H d x)(h:Dn K S H a y):Dn K S (upd H T (.tup [x,y])) (.tup [d,a]) (.ref T):=by symm;show⟨T,[x,y],rfl,aY,bC.fits (.same (aQ fr)) _ _ (bC.cons j (bC.one h))⟩
theorem QP{K:ao}{a:ah}{ds:List D}:Wlk K (Iel K a) (vQ ds) [(.lst ds,.ref a)] where
 go:=λS H A m i d e=>by have h:=m _ (cc.mpr rfl);symm at h;obtain⟨b,xs,j,l,n,dn⟩:=h;injection j with j;subst j;obtain⟨d0,p,rfl⟩:=CI e;obtain⟨v,ev,q⟩:=dn.get p;show⟨⟨xs,v,eZ.of l,ev⟩,λx H' y=>?_⟩;obtain⟨T,vs,rfl,fr,rfl,z,rfl,o⟩:=y;have ex:=o xs (eZ.of l);rw[ev] at ex;cases ex;show⟨aQ fr,xE fr (by symm) q⟩
 stop:=λS H m i hi=>by have h:=m _ (cc.mpr rfl);symm at h;obtain⟨b,xs,j,l,n,dn⟩:=h;injection j with j;subst j;show⟨xs,eZ.of l,by rw[<- dn.len,<- hi];simp[vQ]⟩
theorem QQ{K:ao}{a:ah}{ds:List D}:Wlk K (Iet K a) (vQ ds) [(.tup ds,.ref a)] where
 go:=λS H z m i d e=>by have h:=m _ (cc.mpr rfl);symm at h;obtain⟨b,xs,j,l,dn⟩:=h;injection j with j;subst j;obtain⟨d0,o,rfl⟩:=CI e;obtain⟨v,ev,p⟩:=dn.get o;show⟨⟨xs,v,(fJ.of l),ev⟩,λx H' y=>?_⟩;obtain⟨T,vs,rfl,fr,rfl,q,rfl,n⟩:=y;have ex:=n xs (fJ.of l);rw[ev] at ex;cases ex;show⟨aQ fr,xE fr (by symm) p⟩
 stop:=λS H m i hi=>by have h:=m _ (cc.mpr rfl);symm at h;obtain⟨b,xs,j,l,dn⟩:=h;injection j with j;subst j;show⟨xs,(fJ.of l),by rw[<- dn.len,<- hi];simp[vQ]⟩
theorem aAm{K:ao}{a c:ah}{ds es:List D}:Wlk K (Izl K a c) (KY ds es) [(.lst ds,.ref a),(.lst es,.ref c)] where
 go:=λS H fc n i d e=>by have h:=n (.lst ds,.ref a) (by simp);have h2:=n (.lst es,.ref c) (by simp);symm at h h2;obtain⟨b,xs,l,p,I,dn⟩:=h;obtain⟨Z,ys,m,j,q,z⟩:=h2;injection l with l;injection m with m;subst l m;obtain⟨x0,y0,O,L,rfl⟩:=HI e;obtain⟨v,ev,U⟩:=dn.get O;obtain⟨u,F,Y⟩:=z.get L;show⟨⟨xs,ys,v,u,eZ.of p,eZ.of j,ev,F⟩,λx H' y=>?_⟩;obtain⟨T,vs,rfl,fr,rfl,v',u',rfl,J,A⟩:=y;have ex:=J xs (eZ.of p);have o:=A ys (eZ.of j);rw[ev] at ex;rw[F] at o;cases ex;cases o;show⟨aQ fr,xE fr U Y⟩
 stop:=λS H n i hi=>by have h:=n (.lst ds,.ref a) (by simp);have h2:=n (.lst es,.ref c) (by simp);symm at h h2;obtain⟨b,xs,l,p,I,dn⟩:=h;obtain⟨Z,ys,m,j,q,z⟩:=h2;injection l with l;injection m with m;subst l m;show⟨xs,ys,eZ.of p,eZ.of j,by rw[<- dn.len,<- z.len,<- hi];simp[KY]⟩
noncomputable def Xm(t:WA):WI:=λρ Q=>t ρ λds=>match ds with
 |[.lst es]=>Q (vQ es)
 |[.tup es]=>Q (vQ es)
 |_=>False
noncomputable def Nv(t:WA):WI:=λρ Q=>t ρ λds=>match ds with
 |[.lst a,.lst b]=>Q (KY a b)
 |_=>False
def K0(F:X.mg "enumerate"=af)(I:zN X [a] t)(j:Gl X "enumerate":=by rfl)(A:ar [a] X.env=[(ag,eval a X.env)]:=by rfl):WK X (.Tuple es kk tp) (.Call (.Name "enumerate" p) [a] [] ν) (Xm t) :=
 QH (aAl j F I A) λσ H R L=>by
  obtain⟨S,ρ,Q3,J,y,z,k⟩:=L;show⟨S,ρ,_,J,y,z,λvs q ds n o q1=>?_⟩;split at q1
  .obtain ⟨v,r,rfl,h,h2⟩:=o.bQ;simp only[bC] at h2;subst h2;have d:=h;symm at h;obtain⟨l,xs,rfl,m,x,K⟩:=h;show⟨l,rfl,.inl ⟨⟨xs,eZ.of m⟩,k _ q _ [(_,.ref l)] n (λg j=>by cases cc.mp j;show d) QP q1⟩⟩
  .obtain ⟨v,r,rfl,h,h2⟩:=o.bQ;simp only[bC] at h2;subst h2;have d:=h;symm at h;obtain⟨l,xs,rfl,m,K⟩:=h;show⟨l,rfl,.inr ⟨⟨xs,(fJ.of m)⟩,k _ q _ [(_,.ref l)] n (λg j=>by cases cc.mp j;show d) QQ q1⟩⟩
  .exact q1.elim
def Nt{a b:au}{t:WA}{p z:bb}(O:X.mg "zip"=af)(Y:zN X [a,b] t)(d:Gl X "zip":=by rfl)(L:ar [a,b] X.env=[(ag,eval a X.env),(ag,eval b X.env)]:=by rfl)(h:ar [b] X.env=[(ag,eval b X.env)]:=by rfl):
  WK X (.Tuple es kk tp) (.Call (.Name "zip" p) [a,b] [] z) (Nv t) :=
 QH (aEU d O Y L h) λσ H R Nr=>by
  obtain⟨S,ρ,Q3,Z,I,K,k⟩:=Nr;show⟨S,ρ,_,Z,I,K,λvs H1 ds J d1 q1=>?_⟩;split at q1
  .obtain ⟨v,r,rfl,x,h2⟩:=d1.bQ;obtain⟨v2,r2,rfl,o,y⟩:=h2.bQ;simp only[bC] at y;subst y;have q:=x;have n:=o;symm at x o;obtain⟨l,xs,rfl,U,F,da⟩:=x;obtain⟨m,ys,rfl,j,A,da2⟩:=o;show⟨l,m,xs,ys,rfl,eZ.of U,eZ.of j,k _ H1 _ [(_,.ref l),(_,.ref m)] J (λg d=>?_) aAm q1⟩;rcases bh.mp d with rfl|d
   .exact q
   .cases cc.mp d;show n
  .exact q1.elim
variable{a b:au}{ν:bb}{ta tb:WE}
def aAo:j6 X (binaryOp .Mult) (rI vv λi j=>.int (i*j)):=opI λ_ _ _ _ _ _ _ d q=>mul_int q d
def Xl:F2:=EO vv λi j=>.int (i*j)
def Xk(h:dB X a ta)(d:dB X b tb):dB X (.BinOp a .Mult b ν) (iB Xl ta tb):=op3 aAo zQ h d
end
theorem aAp(hi:i.natAbs<2^m)(a:j.natAbs<2^n)(h:m+n<=134217728):vv i j:=by show mulOk_of_bits (Ic hi) (Ic a) h
noncomputable def aOA(t:WE):WT:=λρ Q=>t ρ λd=>match d with
 |.lst ds=>Q (!ds.isEmpty)
 |.tup ds=>Q (!ds.isEmpty)
 |_=>False
def bC.empty{K:ao}{S:ah->Prop}{H:Hp}{ds:List D}{xs:List V}(h:bC K S H ds xs):ds.isEmpty=xs.isEmpty:=by have:=h.len;cases ds<;>cases xs<;>simp at this ⊢
def Ct:List V->Hp->VK->Prop:=λxs H Q=>∃(a:ah) (ns:Q0e),xs=[.ref a]/\H a=aa (.lst (ns.map V.int))/\Q (.int ns.sum) H
theorem QR(o:X.calm=ae):gD X (.builtin "sum") Ct:=by
 intro π s σ H xs z Q I r h;obtain⟨a,ns,rfl,v,q⟩:=h;obtain⟨u,rfl,m⟩:=vals1 r;cases m;obtain⟨y,l,p,F⟩:=I.list (eZ.of v);have hi:=intsAre_of l;obtain⟨d,j⟩:=hi.allInts.items;have x:d.toList.map (·.1)=ns:=by rw[<- Ha,<- j];show hi.numsOf
 have ev:preSum (numAt d) d.size=ns.sum:=by rw[preSum_eq,r_ (by simp),x]
 show sum_intListG (I.ok.hd o) (j▸p.isList) λh' A t' n=>⟨.int ns.sum,H,I.kept n,⟨t',by rw[ev]⟩,q⟩
def sumF:F1
 |[.lst ds],Q=>(match intsOf ds with|some ns=>Q (.int ns.sum)|none=>False)
 |_,_=>False
def QS{ns:Q0e}{Q:D->Prop}:sumF [.lst (ns.map D.int)] Q=Q (.int ns.sum):=by show(match intsOf (ns.map D.int) with|some ns=>Q (.int ns.sum)|none=>False)=_;rw[dI]
theorem aEV{K:ao}:C3 K Ct sumF:=by
 intro S H xs ds Q3 Q x l h k
 match ds,h with
 |[.lst es],h =>
  obtain⟨v,r,rfl,j,h2⟩:=l.bQ;simp only[bC] at h2;subst h2;symm at j;obtain⟨a,ys,rfl,m,p,o⟩:=j;have d:(match intsOf es with|some ns=>Q3 (.int ns.sum)|none=>False):=h
  clear h
  cases q:intsOf es with
  |none=>rw[q] at d;show d.elim
  |some ns =>
   rw[q] at d;have e:=uU q;subst e;have n:=bC.ints.mp o;subst n;show⟨a,ns,rfl,m,k _ H _ (ξ.refl H) (by symm) d⟩
theorem Nq(j:X.calm=ae)(a:X.mg "sum"=af)(l:zN X [e] t)(d:Gl X "sum":=by rfl)
  (h:Zr X e []:=by rfl):dB X (.Call (.Name "sum" p) [e] [] ν) (QG sumF t):=uS (QR j) aEV a3y d a l (by decide) (by decide) h (by rfl)
abbrev WO:=dZ->(Option Int->Prop)->Prop
def Xj(K:ao)(t:WO):TO:=λσ H Q=>∃(S:ah->Prop) (ρ:dZ) (Q3:Option Int->Prop),(∀a,H a=af->S a)/\Sl K S H ρ σ/\t ρ Q3 /\∀o H',ξ H H'->Q3 o->Q o H'
def PO3(X:Cx)(e:Option au)(t:WO):Prop:=PO X e (Xj X.K t)
def aAq:WO:=λ_ Q=>Q af
noncomputable def Xi(t:WE):WO:=λρ Q=>t ρ λd=>match d with
 |.int i=>Q (aa i)
 |_=>False
def Np:PO3 X af aAq:=λπ s σ H Q I d=>by obtain⟨S,ρ,Q3,j,h,a,k⟩:=d;show aAU π s σ H Q I (k af H (ξ.refl H) a)
theorem po3(h:dB X e t):PO3 X (aa e) (Xi t):=λπ s σ H Q I o=>by
 obtain⟨S,ρ,Q3,n,j,m,k⟩:=o;show aAV h π s σ H Q I ⟨S,ρ,_,n,j,m,λv p d l a q1=>?_⟩
 cases d with
 |int i=>symm at a;show⟨i,a,k _ p l q1⟩
 |_=>show q1.elim
def cutD(xs:List D)(lo hi:Option Int):List D:=(xs.drop (HT.iP xs.length 0 lo)).take (HT.iP xs.length xs.length hi-HT.iP xs.length 0 lo)
def bC.cut{K:ao}{S:ah->Prop}{H:Hp}{ds:List D}{xs:List V}{lo hi:Option Int}(h:bC K S H ds xs):bC K S H (cutD ds lo hi) (GY xs lo hi):=by unfold cutD GY;rw[h.len];show(h.drop _).take _
theorem W2{Ω:bf}{w:ba}{A:bq}{E:Q0c}{s:ak}{t j:ah}{items:Array ai}{p l:ai}{lo hi:Option Int}{Q:Q0c}(d:ia s.heap t items)(q:s.heap.IsSliceOf j p l .none)(x:kn p lo)(v:kn l hi)
  (F:HT.iP items.size 0 lo=0) (z:HT.iP items.size items.size hi=items.size) (h:Q (.ref t) s):av (aw Ω w) A (getItem (.ref t) (.ref j)) Q E s:=by
 have y:s.TypeIs (.ref j) "slice":=by obtain⟨o,a,b,_⟩:=q;show⟨o,a,b⟩
 unfold getItem
 try with_reducible show iy ?_
 first|show aq (a_ ?_)|skip
 apply aq;show a0h d.typeIs (by decide) (aq (oy d.typeIs p_ (j_ p_ d.typeIs a1z ?_ (a1D _ _))));show aq (m:=a1p _) (a1t d (aq (yx y ?_)));rw[Z_ (by decide)];show aq (HT.mO (n:=items.size) q x v ?_);rw[F,z];show av _ _ (if((((0:Nat):Int) == 0)&&((1:Int) == 1)&&((items.size-0) == items.size))=ae then _ else _) _ _ s;rw[Z_ (by simp)];show aq (m:=a3n _) (aq (yx d.typeIs (a_ ?_)));show av _ _ (if ae=ae then _ else _) _ _ s;rw[Z_ rfl];show aq (nc (a_ ⟨_,rfl,a_ h⟩))
def Nl(K:ao):V->Option Int->Option Int->Hp->VK->Prop:=λx lo hi H Q=>∃a xs,x=.ref a/\fJ K H a xs/\(HT.iP xs.length 0 lo=0/\HT.iP xs.length xs.length hi=xs.length)/\Q (.ref a) H
theorem aAr:SlR X (Nl X.K):=by
 intro π s σ H x v z y lo hi A Q I l p n m h;obtain⟨a,xs,rfl,o,hw,q⟩:=h;cases l;obtain⟨j,r,d,F⟩:=I.tuple o;have hlen:j.toArray.size=xs.length:=by rw[bw];show r.length.symm
 show⟨"tuple",_,p_.lookup,d.typeIs,W2 d p n m (by rw[hlen];show hw.1) (by rw[hlen];show hw.2) ⟨.ref a,H,I,rfl,q⟩⟩
def Kd(te:WE)(a h:WO):WE:=λρ Q=>te ρ λd=>a ρ λlo=>h ρ λhi=>match d with
 |.lst ds=>Q (.lst (cutD ds lo hi))
 |.tup ds=>Q (.tup (cutD ds lo hi))
 |_=>False
def sl3{e:au}{lo hi:Option au}{p2 K:bb}{te:WE}{I J:WO}(Y:dB X e te)(y:PO3 X lo I)(U:PO3 X hi J):dB X (.Subscript e (.Slice lo hi af p2) K) (Kd te I J) :=
 imp (VN (aAY.or (aDd.or aAr)) Y y U) λσ H Q Nk=>by
  obtain⟨S,ρ,Q3,z,F,O,k⟩:=Nk;show⟨S,ρ,_,z,F,O,λv H1 d j Z q1=>?_⟩;show⟨S,ρ,_,bP z j,Sl.fits (.same j) F,q1,λo H2 q q2=>?_⟩;show⟨S,ρ,_,bP z (j.trans q),Sl.fits (.same (j.trans q)) F,q2,λo2 H3 s3 x=>?_⟩;have A:=Dn.fits (.same (q.trans s3)) _ _ Z;have n:=(j.trans q).trans s3
  cases d with
  |lst ds =>
   symm at A;obtain⟨a,xs,rfl,l,L,m⟩:=A;show .inl ⟨a,xs,rfl,eZ.of l,λp h=>k _ _ _ (n.trans (aQ h)) ?_ x⟩;symm;show⟨p,_,rfl,aY,bP z n p h,bC.fits (.same (aQ h)) _ _ m.cut⟩
  |tup ds =>
   symm at A;obtain⟨a,xs,rfl,l,m⟩:=A;have y:=m.len;by_cases hw:HT.iP xs.length 0 o=0/\HT.iP xs.length xs.length o2=xs.length
   .refine .inr (.inr ⟨a,xs,rfl,(fJ.of l),hw,k _ _ _ n ?_ x⟩);have e:cutD ds o o2=ds:=by unfold cutD;rw[y,hw.1,hw.2,oj,ny,r_ (nz y)]
    rw[e];symm;show⟨a,xs,rfl,l,m⟩
   .refine .inr (.inl ⟨a,xs,rfl,(fJ.of l),hw,λp h=>k _ _ _ (n.trans (aQ h)) ?_ x⟩);symm;show⟨p,_,rfl,aY,bC.fits (.same (aQ h)) _ _ m.cut⟩
  |_=>show x.elim
end L3
namespace L4
open PySem.Spec PyProof.Rows L2 L3
def wE(f:EF):WE:=λρ Q=>∃d,f ρ=aa d/\Q d
def wT(f:TF):WT:=λρ Q=>∃d,f ρ=aa d/\Q d
def wA(f:AF):WA:=λρ Q=>∃d,f ρ=aa d/\Q d
def wI(f:AF):WI:=λρ Q=>∃d,f ρ=aa d/\Q d
def wO(f:OF):WO:=λρ Q=>∃d,f ρ=aa d/\Q d
def wX(f:XF):WX:=λρ Q=>∃p,f ρ=aa p/\Q p.1 p.2
noncomputable def wS(f:SF):WS:=λE ρ=>match f ρ with
 |.nx ρ'=>E.nx ρ'
 |.rt d=>E.rt d
 |.ex c=>E.ex c
 |.no=>False
def wG(g:GSF):WG:=λd ρ Q=>∃a,g d ρ=aa a/\Q a
def wy(g:YR):GE:=λd ρ Q=>∃a,g d ρ=aa a/\Q a
abbrev cD(X:Cx)(e:au)(f:EF):Prop:=dB X e (wE f)
abbrev kE(X:Cx)(e:au)(f:EF):Prop:=FI X e (wE f)
abbrev xF(X:Cx)(e:au)(f:TF):Prop:=xD X e (wT f)
abbrev FK(X:Cx)(e:au)(f:TF):Prop:=RY X e (wT f)
abbrev uW(X:Cx)(es:List au)(f:AF):Prop:=zN X es (wA f)
abbrev QT(X:Cx)(a e:au)(f:AF):Prop:=WK X a e (wI f)
abbrev PO4(X:Cx)(e:Option au)(f:OF):Prop:=PO3 X e (wO f)
abbrev NV(X:Cx)(e:au)(f:XF):Prop:=G7 X e (wX f)
abbrev qL(X:Cx)(st:bz)(f:SF):Prop:=CH X st (wS f)
abbrev lC(X:Cx)(st:List bz)(f:SF):Prop:=wF X st (wS f)
variable{X:Cx}
section
def cE{e:au}{t t':WE}(h:dB X e t)(c:∀ρ Q,t' ρ Q->t ρ Q):dB X e t':=imp h λ_ _ _ l=>by obtain⟨S,ρ,Q3,j,a,d,k⟩:=l;show⟨S,ρ,Q3,j,a,c ρ Q3 d,k⟩
def cF(h:FI X e t)(c:∀ρ Q,t' ρ Q->t ρ Q):FI X e t':=imp h λ_ _ _ l=>by obtain⟨S,ρ,Q3,j,a,d,k⟩:=l;show⟨S,ρ,Q3,j,a,c ρ Q3 d,k⟩
def cT{e:au}{t t':WT}(h:xD X e t)(c:∀ρ Q,t' ρ Q->t ρ Q):xD X e t':=QF h λ_ _ _ l=>by obtain⟨S,ρ,Q3,j,a,d,k⟩:=l;show⟨S,ρ,Q3,j,a,c ρ Q3 d,k⟩
def cW{e:au}{t t':WT}(h:RY X e t)(c:∀ρ Q,t' ρ Q->t ρ Q):RY X e t':=yb h λ_ _ _ l=>by obtain⟨S,ρ,Q3,j,a,d,k⟩:=l;show⟨S,ρ,Q3,j,a,c ρ Q3 d,k⟩
def cA(h:zN X e t)(c:∀ρ Q,t' ρ Q->t ρ Q):zN X e t':=G4 h λ_ _ _ l=>by obtain⟨S,ρ,Q3,j,a,d,k⟩:=l;show⟨S,ρ,Q3,j,a,c ρ Q3 d,k⟩
def cI(h:WK X tg e t)(c:∀ρ Q,t' ρ Q->t ρ Q):WK X tg e t':=QH h λ_ _ _ l=>by obtain⟨S,ρ,Q3,j,a,d,k⟩:=l;show⟨S,ρ,Q3,j,a,c ρ Q3 d,k⟩
def cX(h:G7 X e t)(c:∀ρ Q,t' ρ Q->t ρ Q):G7 X e t':=imp h λ_ _ _ j=>by obtain⟨H₀,S,w,ρ,G,Q3,d,st,a,k⟩:=j;show⟨H₀,S,w,ρ,G,Q3,d,st,c ρ Q3 a,k⟩
def cS(h:CH X e t)(c:∀E ρ,t' E ρ->t E ρ):CH X e t':=jR h λ_ _ _ j=>by obtain⟨H₀,S,w,ρ,G,E,d,st,a,ok⟩:=j;show⟨H₀,S,w,ρ,G,E,d,st,c E ρ a,ok⟩
def Cg(h:wF X e t)(c:∀E ρ,t' E ρ->t E ρ):wF X e t':=G6 h λ_ _ _ j=>by obtain⟨H₀,S,w,ρ,G,E,d,st,a,ok⟩:=j;show⟨H₀,S,w,ρ,G,E,d,st,c E ρ a,ok⟩
def FK.pt(h:FK X e f):xF X e f:=RY.pt h
def kE.pe(h:kE X e f):cD X e f:=FI.pe h
theorem bnd{α d:Type}{o:Option α}{f:α->Option d}{b:d}(h:o.bind f=aa b):∃a,o=aa a/\f a=aa b:=by
 cases o with
 |none=>cases h
 |some a=>show⟨a,rfl,h⟩
theorem wH{α d:Type}{o:Option α}{f:α->d}{b:d}(h:o.map f=aa b):∃a,o=aa a/\f a=b:=by
 cases o with
 |none=>cases h
 |some a=>show⟨a,rfl,cx h⟩
theorem x4(i:Nat)(hN:X.N[i]?=aa x:=by rfl)(j:vZ X.env.scope x:=by walk_at "1")(l:Zu x:=by decide)
  (a:Zt x:=by decide):cD X (.Name x ν) (aS i):=cE (x3 i hN j l a) λρ Q m=>by
 obtain⟨d,e,q⟩:=m;unfold aS at e;unfold vf
 cases h:ρ[i]? with
 |none=>rw[h] at e;cases e
 |some o =>
  rw[h] at e
  cases o with
  |none=>cases e
  |some d'=>cases e;show q
def i4{j ν}:cD X (.Constant (.int i) j ν) (eI i):=cE i3 λ_ _ a=>by obtain⟨_,e,q⟩:=a;cases e;show q
def b4{j ν}:cD X (.Constant (.bool b) j ν) (eC (.bl b)):=cE b3 λ_ _ a=>by obtain⟨_,e,q⟩:=a;cases e;show q
def n4{j ν}:cD X (.Constant .none j ν) (eC .non):=cE n3 λ_ _ a=>by obtain⟨_,e,q⟩:=a;cases e;show q
def s4{j ν}:cD X (.Constant (.str x) j ν) (eC (.str x)):=cE s3 λ_ _ a=>by obtain⟨_,e,q⟩:=a;cases e;show q
def c4(a:X.mg x=aa (.int i t))(d:Gl X x:=by rfl)(h:Zu x:=by decide):cD X (.Name x ν) (eI i):=cE (g3 d a h) λ_ _ j=>by obtain⟨_,e,q⟩:=j;cases e;show q
def Tells(f:F2)(g:D->D->Option D):Prop:=∀(x y d:D) (Q:D->Prop),g x y=aa d->Q d->f x y Q
def jB{f:F2}{g:D->D->Option D}(h:Tells f g){j a:EF}(ρ:dZ)(Q:D->Prop)(w:wE (aB g j a) ρ Q):iB f (wE j) (wE a) ρ Q:=by obtain⟨d,e,q⟩:=w;obtain⟨x,ex,e⟩:=bnd e;obtain⟨y,l,e⟩:=bnd e;show⟨x,ex,y,l,h x y d Q e q⟩
def fH:Tells (vN g) (IT g):=λx y d Q e q=>by
 cases x<;>first|(cases e;done)|skip
 all_goals (cases y<;>first|(cases e;done)|skip)
 cases e;show q
def k6(h:∀i j,c i j=ae->C i j):Tells (EO C g) (oA c g):=λx y d Q e q=>by
 cases x<;>first|(cases e;done)|skip
 all_goals (cases y<;>first|(cases e;done)|skip)
 rename_i i j;have e:(if c i j=ae then aa (g i j) else af)=aa d:=e;by_cases a:c i j=ae
 .rw [Z_ a] at e;cases e;show⟨h i j a,q⟩
 .rw [Zz a] at e;cases e
def szl{n:Nat}{α:Type}{x d:α}{Q:α->Prop}(e:(if n<=nU then aa x else af)=aa d)(q:Q d):n<=bc/\Q x:=by
 by_cases h:n<=nU
 .rw [Z_ h] at e;cases e;show⟨by rw[fg];show h,q⟩
 .rw [Zz h] at e;cases e
def QU:Tells yd bX:=λx y d Q e q=>by
 cases x<;>first|(cases e;done)|skip
 all_goals (cases y<;>first|(cases e;done)|skip)
 .cases e;show q
 .exact szl (x:=D.str _) e q
 .exact szl (x:=D.tup _) e q
 .exact szl (x:=D.lst _) e q
def QV:Tells Dp FQ:=λx y d Q e q=>by
 cases x<;>first|(cases e;done)|skip
 all_goals (cases y<;>first|(cases e;done)|skip)
 show szl (x:=D.lst _) e q
def aEX(h:xK i j=ae):vv i j:=by
 unfold xK at h;simp only[Bool.or_eq_true,decide_eq_true_eq] at h;rcases h with(h|h)|h
 .exact uz.ok (.inl ⟨by lia,by lia⟩)
 .exact uz.ok (.inr ⟨by lia,by lia⟩)
 .refine aAp (m:=i.natAbs.log2+1) (n:=j.natAbs.log2+1) ?_ ?_ ∅
  .exact a1N
  .exact a1N
section
variable{a b:au}{ν:bb}{fa fb:EF}
def dY(h:cD X a fa)(d:cD X b fb):cD X (.BinOp a .Add b ν) (aB bX fa fb):=cE (Sm h d) (jB QU)
def iC(h:cD X a fa)(d:cD X b fb):cD X (.BinOp a .Sub b ν) (aB dH fa fb):=cE (Sr h d) (jB fH)
def uX(j:cD X a fa)(d:cD X b fb):cD X (.BinOp a .Mult b ν) (aB mulM fa fb):=cE (Xk j d) (jB (k6 λ_ _ h=>aEX h))
def iO(j:cD X a fa)(d:cD X b fb):cD X (.BinOp a .Mod b ν) (aB e8 fa fb):=cE (Sq j d) (jB (k6 λ_ _ h=>by simpa using h))
def ET(l:cD X a fa)(d:cD X b fb):cD X (.BinOp a .FloorDiv b ν) (aB l8 fa fb):=cE (So l d) (jB (k6 λi j h=>by simp only[gy,decide_eq_true_eq] at h;show⟨h.1,by lia⟩))
def EU(l:cD X a fa)(d:cD X b fb):cD X (.BinOp a .Pow b ν) (aB i7 fa fb):=cE (Sn l d) (jB (k6 λi j h=>by simp only[gy,decide_eq_true_eq] at h;show⟨h.1.1,by lia,h.2⟩))
def Et(h:cD X a fa)(d:cD X b fb):kE X (.BinOp a .Add b ν) (aB FQ fa fb):=cF (aG1 h d) (jB QV)
def tells_eq:Tells ve j9:=λx y d Q e q=>by
 cases x<;>first|(cases e;done)|skip
 all_goals (cases y<;>first|(cases e;done)|skip)
 all_goals (cases e;show⟨rfl,q⟩)
def W3:Tells yc OH:=λx y d Q e q=>by
 cases x<;>first|(cases e;done)|skip
 all_goals (cases y<;>first|(cases e;done)|skip)
 all_goals (cases e;show⟨rfl,q⟩)
theorem ints_of:∀{ds:List D} {ns:Q0e},intsOf ds=aa ns->ds=ns.map D.int
 |[],ns,h=>by cases h;rfl
 |d::ds,ns,h=>by
  cases d<;>first|cases h;done|skip
  obtain⟨m,e,rfl⟩:=wH h;rw[ints_of e];rfl
def HJ{neg:Bool}:Tells (inF neg) (xN neg):=λx y d Q e q=>by
 cases x<;>first|(cases e;done)|skip
 all_goals (cases y<;>first|(cases e;done)|skip)
 all_goals
  obtain⟨ns,h,rfl⟩:=wH e;have:=ints_of h;subst this;show⟨CF ns,by rw[CG];show q⟩
def HK:Tells vd YQ:=λx y d Q e q=>by
 unfold YQ at e;split at e
 .rename_i h;cases e;show⟨(by cases y<;>first|rfl|cases h),?_⟩;have:isD x=xM x:=by cases x<;>rfl
  rw[this];show q
 .cases e
def lt4(h:cD X a fa)(d:cD X b fb):cD X (.Compare a [.Lt] [b] ν) (aB CV fa fb):=cE (lt3 h d) (jB fH)
def le4(h:cD X a fa)(d:cD X b fb):cD X (.Compare a [.LtE] [b] ν) (aB AO fa fb):=cE (le3 h d) (jB fH)
def gt4(h:cD X a fa)(d:cD X b fb):cD X (.Compare a [.Gt] [b] ν) (aB n9 fa fb):=cE (gt3 h d) (jB fH)
def ge4(h:cD X a fa)(d:cD X b fb):cD X (.Compare a [.GtE] [b] ν) (aB geM fa fb):=cE (ge3 h d) (jB fH)
def eq4(h:cD X a fa)(d:cD X b fb):cD X (.Compare a [.Eq] [b] ν) (aB j9 fa fb):=cE (Ti h d) (jB tells_eq)
def in4(j:cD X a fa)(h:cD X b fb)(d:behindInMarks .In b=ag:=by with_unfolding_all rfl):cD X (.Compare a [.In] [b] ν) (aB (xN ag) fa fb):=cE (in3 j h d) (jB HJ)
def is4(h:cD X a fa)(d:cD X b fb):cD X (.Compare a [.Is] [b] ν) (aB YQ fa fb):=cE (Td h d) (jB HK)
def vR{f:F2}{g:D->D->Option D}(h:Tells f g)(l:∀x y d,g x y=aa d ->∃b,d=.bl b){fa fb:EF}(ρ:dZ)(Q:Bool->Prop)(w:wT (tV (aB g fa fb)) ρ Q):nY (iB f (wE fa) (wE fb)) ρ Q:=by obtain⟨b,e,q⟩:=w;obtain⟨d,j,n⟩:=bnd e;obtain⟨x,ex,j⟩:=bnd j;obtain⟨y,m,j⟩:=bnd j;obtain⟨c,rfl⟩:=l x y d j;cases n;show⟨x,ex,y,m,h x y _ _ j q⟩
def uY{g:Int->Int->Bool}(x y d:D)(e:IT (λi j=>.bl (g i j)) x y=aa d):∃b,d=.bl b:=by
 cases x<;>first|(cases e;done)|skip
 all_goals (cases y<;>first|(cases e;done)|skip)
 cases e;show⟨_,rfl⟩
def Xh(x y d:D)(e:j9 x y=aa d):∃b,d=.bl b:=by obtain⟨b,_,rfl⟩:=wH e;show⟨_,rfl⟩
def Xg(x y d:D)(e:OH x y=aa d):∃b,d=.bl b:=by obtain⟨b,_,rfl⟩:=wH e;show⟨_,rfl⟩
def Xf{neg:Bool}(x y d:D)(e:xN neg x y=aa d):∃b,d=.bl b:=by
 cases x<;>first|(cases e;done)|skip
 all_goals (cases y<;>first|(cases e;done)|skip)
 all_goals (obtain⟨b,_,rfl⟩:=wH e;show⟨_,rfl⟩)
def Xe(x y d:D)(e:YQ x y=aa d):∃b,d=.bl b:=by
 unfold YQ at e;split at e
 .cases e;show⟨_,rfl⟩
 .cases e
def QW(h:cD X a fa)(d:cD X b fb):xF X (.Compare a [.Lt] [b] ν) (tV (aB CV fa fb)):=cT (Th h d) (vR fH uY)
def Cs(h:cD X a fa)(d:cD X b fb):xF X (.Compare a [.LtE] [b] ν) (tV (aB AO fa fb)):=cT (Tg h d) (vR fH uY)
def wJ(h:cD X a fa)(d:cD X b fb):xF X (.Compare a [.Gt] [b] ν) (tV (aB n9 fa fb)):=cT (Tf h d) (vR fH uY)
def Cr(h:cD X a fa)(d:cD X b fb):xF X (.Compare a [.GtE] [b] ν) (tV (aB geM fa fb)):=cT (Te h d) (vR fH uY)
def lD(h:cD X a fa)(d:cD X b fb):xF X (.Compare a [.Eq] [b] ν) (tV (aB j9 fa fb)):=cT (Zl h d) (vR tells_eq Xh)
def HL(h:cD X a fa)(d:cD X b fb):xF X (.Compare a [.NotEq] [b] ν) (tV (aB OH fa fb)):=cT (Zk h d) (vR W3 Xg)
def W4(j:cD X a fa)(h:cD X b fb)(d:behindInMarks .NotIn b=ag:=by with_unfolding_all rfl):xF X (.Compare a [.NotIn] [b] ν) (tV (aB (xN ae) fa fb)):=cT (Zj j h d) (vR HJ Xf)
def Oa(h:cD X a fa)(d:cD X b fb):xF X (.Compare a [.Is] [b] ν) (tV (aB YQ fa fb)):=cT (Zi h d) (vR HK Xe)
end
def O4(K:ao)(r:R2)(g:D->D->Option D):Prop:=∃f,O3 K r f/\Tells f g /\∀x y d,g x y=aa d ->∃b,d=.bl b
def Es{K:ao}:O4 K (PX λi j=>.bl (Zv (i<j))) CV:=⟨_,l0,fH,uY⟩
def CJ{K:ao}:O4 K (PX λi j=>.bl (Zv (i<=j))) AO:=⟨_,l0,fH,uY⟩
theorem NW{f g:F2}{p q:D->D->Option D}(o:Tells f p)(n:Tells g q){l j h:EF}(ρ:dZ)(Q:D->Prop)(w:wE (fP p q l j h) ρ Q):ES f g (wE l) (wE j) (wE h) ρ Q:=by
 obtain⟨d,e,k⟩:=w;obtain⟨x,ex,e⟩:=bnd e;obtain⟨y,A,e⟩:=bnd e;obtain⟨z,v,e⟩:=bnd e;obtain⟨b,m,a⟩:=bnd e;show⟨x,ex,y,A,o x y z _ v ?_⟩
 clear e
 cases z<;>first|cases m;done|skip
 cases m
 cases b with
 |true =>
  rw[Z_ rfl] at a;obtain⟨u,F,e⟩:=bnd a;show⟨u,F,n y u d Q e k⟩
 |false =>
  rw[Zz bt] at a;cases a;show k
theorem W5(ho:j6 X (compareOp op) r)(d:j6 X (compareOp op') r')(n:O4 X.K r p)(h2:O4 X.K r' q)(m:cD X a fa)(l:cD X b fb)(j:cD X c fc)
  (h:lastMarks [op,op'] [b,c]=ag:=by with_unfolding_all rfl):cD X (.Compare a [op,op'] [b,c] ν) (fP p q fa fb fc):=by
 obtain⟨f,o1,t1,_⟩:=n;obtain⟨g,o2,t2,_⟩:=h2;show cE (aDu ho d o1 o2 m l j h) (NW t1 t2)
theorem NX{a b c:au}{op j:CmpOp}{A:bb}{r m:R2}{p q:D->D->Option D}{v o n:EF}(ho:j6 X (compareOp op) r)(l:j6 X (compareOp j) m)(U:O4 X.K r p)(h2:O4 X.K m q)(O:cD X a v)(L:cD X b o)(J:cD X c n)
  (F:lastMarks [op,j] [b,c]=ag:=by with_unfolding_all rfl):xF X (.Compare a [op,j] [b,c] A) (tV (fP p q v o n)):=by
 obtain⟨f,o1,t1,_⟩:=U;obtain⟨g,o2,t2,Z⟩:=h2;show cT (aA8 ho l o1 o2 O L J F) λρ Q w=>?_;obtain⟨b,e,q⟩:=w;obtain⟨d,h,Y⟩:=bnd e;show NW t1 t2 ρ _ ⟨d,h,?_⟩;have I:∃c,d=.bl c:=by
  obtain⟨x,ex,h⟩:=bnd h;obtain⟨y,ey,h⟩:=bnd h;obtain⟨z,ez,h⟩:=bnd h;obtain⟨k,ek,h⟩:=bnd h
  cases k with
  |true =>
   rw[Z_ rfl] at h;obtain⟨u,eu,h⟩:=bnd h;show Z _ _ _ h
  |false =>
   rw[Zz bt] at h;cases h;show⟨_,rfl⟩
 obtain⟨c,rfl⟩:=I;cases Y;show q
section
variable{a b c:au}{Θ:List au}{ν:bb}{fa fb:EF}{ta tb tc:TF}
def lR(d:xF X a ta):xF X (.UnaryOp .Not a ν) (jD ta):=cT (Yv d) λρ Q j=>by obtain⟨b,e,q⟩:=j;obtain⟨c,h,rfl⟩:=wH e;show⟨c,h,q⟩
def Er(d:xF X a ta):FK X (.BoolOp .And [a] ν) ta:=S_ d
def HM(d:xF X a ta):FK X (.BoolOp .Or [a] ν) ta:=or1 d
theorem Ep(j:xF X a ta)(h:FK X (.BoolOp .And (b::Θ) ν) tb):FK X (.BoolOp .And (a::b::Θ) ν) (qD ta tb):=cW (Yu j h) λρ Q m=>by
 obtain⟨d,e,q⟩:=m;obtain⟨c,l,e⟩:=bnd e;show⟨c,l,?_⟩
 cases c with
 |true=>rw[Z_ rfl] at e ⊢;show⟨d,e,q⟩
 |false=>rw[Zz bt] at e ⊢;cases e;show q
theorem A5(j:xF X a ta)(h:FK X (.BoolOp .Or (b::Θ) ν) tb):FK X (.BoolOp .Or (a::b::Θ) ν) (vE ta tb):=cW (Rx j h) λρ Q m=>by
 obtain⟨d,e,q⟩:=m;obtain⟨c,l,e⟩:=bnd e;show⟨c,l,?_⟩
 cases c with
 |true=>rw[Z_ rfl] at e ⊢;cases e;show q
 |false=>rw[Zz bt] at e ⊢;show⟨d,e,q⟩
def ux{op}(d:cD X a fa):cD X (.BoolOp op [a] ν) fa:=Rp d
theorem W6(m:cD X a fa)(l:cD X (.BoolOp .And (b::Θ) ν) fb):cD X (.BoolOp .And (a::b::Θ) ν) (qM fa fb):=cE (Ro m l) λρ Q n=>by
 obtain⟨d,e,q⟩:=n;obtain⟨x,ex,j⟩:=bnd e;obtain⟨c,h,e⟩:=bnd j
 clear j
 show⟨x,ex,?_⟩;cases x<;>first|cases h;done|skip
 cases h
 cases c with
 |true=>rw[Z_ rfl] at e;show⟨d,e,q⟩
 |false=>rw[Zz bt] at e;cases e;show q
def Mz(j:cD X a fa):cD X (.UnaryOp .Not a ν) (FN fa):=cE (Rm j) λρ Q l=>by
 obtain⟨d,e,q⟩:=l;obtain⟨x,ex,e⟩:=bnd e;obtain⟨c,h,rfl⟩:=wH e;show⟨x,ex,?_⟩;cases x<;>first|cases h;done|skip
 cases h;show q
theorem if4(h:xF X c tc)(l:cD X a fa)(j:cD X b fb):cD X (.IfExp c a b ν) (R4 tc fa fb):=cE (if3 h l j) λρ Q n=>by
 obtain⟨d,e,q⟩:=n;obtain⟨c,m,e⟩:=bnd e;show⟨c,m,?_⟩
 cases c with
 |true=>rw[Z_ rfl] at e ⊢;show⟨d,e,q⟩
 |false=>rw[Zz bt] at e ⊢;show⟨d,e,q⟩
def EV(h:cD X a fa):cD X (.UnaryOp .USub a ν) (qN fa):=cE (Ri h) λρ Q j=>by
 obtain⟨d,e,q⟩:=j;obtain⟨x,ex,e⟩:=bnd e;show⟨x,ex,?_⟩;cases x<;>first|cases e;done|skip
 cases e;show q
def mR{e:au}{f:EF}(h:cD X e f)(y:∀whole,isTrue e X.env whole=(do let v <- whole;standAt e.pos;holding [v] (truthy v)):=by intro _;rfl):xF X e (tV f) :=
 QF (VJ h y) λσ H Q I=>by
  obtain⟨S,ρ,Q3,A,x,⟨b,z,n⟩,k⟩:=I;obtain⟨d0,F,l⟩:=bnd z;show⟨S,ρ,λd=>d=d0,A,x,⟨d0,F,rfl⟩,λv q d m j q1=>?_⟩;subst q1
  cases d with
  |bl c=>cases l;symm at j;subst j;show⟨_,rfl,k _ q m n⟩
  |lst ds =>
   cases l;symm at j;obtain⟨a,xs,rfl,o,J,p⟩:=j;show⟨_,.inl ⟨xs,eZ.of o,by rw[<- p.empty]⟩,k _ q m n⟩
  |tup ds =>
   cases l;symm at j;obtain⟨a,xs,rfl,o,p⟩:=j;show⟨_,.inr (.inl ⟨xs,(fJ.of o),by rw[<- p.empty]⟩),k _ q m n⟩
  |_=>cases l
end
end
section
def aZ:uW X [] aG:=cA Sj λ_ _ a=>by obtain⟨_,e,q⟩:=a;cases e;show q
def aC(j:cD X e fe)(h:uW X es t)(a:Zr X e es:=by rfl):uW X (e::es) (aA fe t):=cA (Zm j h a) λρ Q n=>by obtain⟨ds,e,q⟩:=n;obtain⟨d,m,e⟩:=bnd e;obtain⟨r,l,e⟩:=bnd e;cases e;show⟨d,m,r,l,q⟩
def i9{x1}(h:uW X es t):cD X (.Tuple es x1 ν) (eT t):=cE (Sb h) λρ Q j=>by obtain⟨d,e,q⟩:=j;obtain⟨ds,a,e⟩:=bnd e;show⟨ds,a,szl (x:=D.tup ds) e q⟩
def jT(h:uW X es t):kE X (.List es ν) (eU t):=cF (R_ h) λρ Q j=>by obtain⟨d,e,q⟩:=j;obtain⟨ds,a,e⟩:=bnd e;show⟨ds,a,szl (x:=D.lst ds) e q⟩
def W7:Tells ixF cZ:=λx y d Q e q=>by
 cases x<;>first|(cases e;done)|skip
 all_goals (cases y<;>first|(cases e;done)|skip)
 .have e:wB _ _=aa d:=e;show(match wB _ _ with|some d=>Q d|none=>False);rw[e];show q
 .have e:wB _ _=aa d:=e;show(match wB _ _ with|some d=>Q d|none=>False);rw[e];show q
 .obtain ⟨n,a,rfl⟩:=wH e;have a:wB _ _=aa n:=a;show(match wB _ _ with|some n=>Q (.int n)|none=>False);rw[a];show q
def iI(j:cD X a fa)(h:cD X b fb)(d:EG b:=by intro _ _;rfl):cD X (.Subscript a b ν) (aB cZ fa fb):=cE (ix3 j h d) (jB W7)
def QX:Tells xr xP:=λx y d Q e q=>by
 cases x<;>first|cases e;done|skip
 rename_i ks ds;obtain⟨k,a,e⟩:=bnd e;have a:HE y=aa k:=by cases y<;>first|show a|cases a
 have e:lQ ks ds k=aa d:=e
 show(match D.lA ks ds,HE y with
  |.lA ks ds,aa k=>(match lQ ks ds k with|some d=>Q d|none=>False)
  |_,_=>False)
 rw[a];dsimp only;rw[e];show q
def Cq(a:X.A.units+1<dj)(ho:cD X o fo)(hi:cD X i fi)(d:KL i:=by intro _ _;rfl):cD X (.Subscript o i ν) (aB xP fo fi):=cE (Om a ho hi d) (jB QX)
def k7(f:F1)(g:List D->Option D):Prop:=∀(ds:List D) (d:D) (Q:D->Prop),g ds=aa d->Q d->f ds Q
def z5(h:k7 f g)(ρ:dZ)(Q:D->Prop)(w:wE (cK g t) ρ Q):QG f (wA t) ρ Q:=by obtain⟨d,e,q⟩:=w;obtain⟨ds,a,e⟩:=bnd e;show⟨ds,a,h ds d Q e q⟩
theorem QY:k7 A3 bU:=λds d Q e q=>by
 cases ds with
 |nil=>cases e
 |cons a ds =>
  cases a<;>first|(cases e;done)|skip
  all_goals (cases ds<;>first|(cases e;show q)|(cases e;done))
theorem HN:k7 KO d8:=λds d Q e q=>by
 cases ds with
 |nil=>cases e
 |cons a ds =>
  cases a<;>first|(cases e;done)|skip
  all_goals (cases ds<;>first|(cases e;show q)|(cases e;done))
theorem K1:k7 WD FP:=λds d Q e q=>by
 cases ds with
 |nil=>cases e
 |cons a ds =>
  cases a<;>first|(cases e;done)|skip
  all_goals (cases ds<;>first|(cases e;show q)|(cases e;done))
def eE(a:X.mg "len"=af)(j:uW X [e] t)(d:Gl X "len":=by rfl)(h:Zr X e []:=by rfl):cD X (.Call (.Name "len" p) [e] [] ν) (cK bU t):=cE (Rf a j d h) (z5 QY)
def gP(a:X.mg "tuple"=af)(j:uW X [e] t)(d:Gl X "tuple":=by rfl)(h:Zr X e []:=by rfl):cD X (.Call (.Name "tuple" p) [e] [] ν) (cK d8 t):=cE (aDw a vx j d h) (z5 HN)
def Xd(a:X.mg "list"=af)(j:uW X [e] t)(d:Gl X "list":=by rfl)(h:Zr X e []:=by rfl):kE X (.Call (.Name "list" p) [e] [] ν) (cK FP t):=cF (Ys a a1C j d h) (z5 K1)
theorem CK:∀ds:List D,L3.intsOf ds=L4.intsOf ds
 |[]=>rfl
 |d::ds=>by
  cases d<;>first|rfl|skip
  show(L3.intsOf ds).map _=(L4.intsOf ds).map _;rw[CK ds]
theorem rJ(a:Int):∀l:Q0e,(insI a l).Perm (a::l)
 |[]=>.refl _
 |b::l=>by
  unfold insI;split
  .exact .refl _
  .exact ((rJ a l).cons b).trans (.swap a b l)
theorem oY:∀l:Q0e,(sortI l).Perm l
 |[]=>.refl _
 |a::l=>(rJ a (sortI l)).trans ((oY l).cons a)
theorem tG(a:Int):∀l:Q0e,l.Pairwise (· <= ·)->(insI a l).Pairwise (· <= ·)
 |[],_=>by simp[insI]
 |b::l,h=>by
  unfold insI;split
  .rename_i hab;show fq.mpr ⟨λc d=>?_,h⟩;rcases bh.mp d with e|e
   .subst e;show hab
   .exact wo hab ((fq.mp h).1 c e)
  .rename_i hab;show fq.mpr ⟨λc d=>?_,tG a l (fq.mp h).2⟩;rcases bh.mp ((rJ a l).mem_iff.mp d) with e|e
   .subst e;lia
   .exact (fq.mp h).1 c e
theorem l6:∀l:Q0e,(sortI l).Pairwise (· <= ·)
 |[]=>Jq
 |a::l=>tG a _ (l6 l)
theorem rK:∀{l m:Q0e},l.Perm m->l.Pairwise (· <= ·)->m.Pairwise (· <= ·)->l=m
 |[],m,p,_,_=>by rw[p.nil_eq]
 |a::l,[],p,_,_=>by have:=p.length_eq;simp at this
 |a::l,b::m,p,h1,h2=>by
  have e:a=b:=by
   have m1:=p.mem_iff.mp (cb (a:=a) (l:=l));have h:=p.mem_iff.mpr (cb (a:=b) (l:=m));rcases bh.mp m1 with e|e
   .exact e
   .rcases bh.mp h with d|d
    .exact d.symm
    .have:=(fq.mp h2).1 a e;have:=(fq.mp h1).1 b d;lia
  subst e;rw[rK p.cons_inv (fq.mp h1).2 (fq.mp h2).2]
def EW:k7 WU lG:=λds d Q e q=>by
 unfold lG at e;split at e
 .rename_i a;obtain⟨ns,l,e⟩:=bnd e;by_cases j:ns.length<64
  .rw [Z_ j] at e;cases e;show(match L3.intsOf a with|some ns=>ns.length<64 /\∀h:Q0e,h.Perm ns->h.Pairwise (· <= ·)->Q (.lst (h.map D.int))|none=>False);rw[CK,l];show⟨j,λh p s=>?_⟩;rw[rK (p.trans (oY ns).symm) s (l6 ns)];show q
  .rw [Zz j] at e;cases e
 .cases e
def aAt(a:X.mg "sorted"=af)(j:uW X [e] t)(d:Gl X "sorted":=by rfl)(h:Zr X e []:=by rfl):kE X (.Call (.Name "sorted" p) [e] [] ν) (cK lG t):=cF (aAj a j d h) (z5 EW)
def QZ:k7 sumF IU:=λds d Q e q=>by
 unfold IU at e;split at e
 .rename_i a;obtain⟨ns,h,rfl⟩:=wH e;have:=ints_of h;subst this;rw[QS];show q
 .cases e
def Cp(j:X.calm=ae)(a:X.mg "sum"=af)(l:uW X [e] t)(d:Gl X "sum":=by rfl)(h:Zr X e []:=by rfl):cD X (.Call (.Name "sum" p) [e] [] ν) (cK IU t):=cE (Nq j a l d h) (z5 QZ)
def aEY(T:String)(d:D):IV T d=isT T d:=by cases d<;>rfl
theorem z6(I:FJ T)(z:X.mg "isinstance"=af)(l:X.mg x=af)(o:bootBuiltins x=aa (.type T))(F:cD X e f)(A:Gl X "isinstance":=by rfl)(m:Gl X x:=by rfl)(y:x ≠ "__name__":=by decide)(n:Zu x:=by decide)
  (v:ar [e,.Name x p2] X.env=(ag,eval e X.env)::ar [.Name x p2] X.env:=by rfl) (h:ar [.Name x p2] X.env=(ag,eval (.Name x p2) X.env)::ar [] X.env:=by rfl) (j:(cu ν (ar [.Name x p2] X.env)).any (·.1)=ag:=by rfl):
  cD X (.Call (.Name "isinstance" p) [e,.Name x p2] [] ν) (kM T f):=cE (Ot I z l o F A m y n v h j) λρ Q J=>by
 obtain⟨d,e,q⟩:=J;obtain⟨x,ex,e⟩:=bnd e;by_cases a:IW x=ae
 .rw [Z_ a] at e;cases e;show⟨x,ex,(by cases x<;>first|trivial|cases a),by show Q (.bl (isT T x));rw[<- aEY];show q⟩
 .rw [Zz a] at e;cases e
def HP(K:ao)(R:g8):Sp:=sp3 K λds Q=>∃d,R ds=.ok d/\Q d
inductive Cl (P:bf) (w:ba) (K:ao) (mg:Q0d) (ω:ay) (CX:J8) (k:Nat) (x:aj) (ps:Q0g) (sp:Sp):Prop
 |mk {f:ah} {fd:fv} (F:lY P w K mg ω CX k f fd ps sp) (m:mg x=aa (.ref f)) (kp:keepIn K (.ref f)=ae) (b:Binds K fd ps []):Cl P w K mg ω CX k x ps sp
theorem Cl.up{P:bf}{w:ba}{K:ao}{mg:Q0d}{ω:ay}{CX:J8}{j k:Nat}{x:aj}{a:Q0g}{sp:Sp}(c:Cl P w K mg ω CX j x a sp)(h:j<=k:=by decide):Cl P w K mg ω CX k x a sp:=by obtain⟨F,m,q,b⟩:=c;show⟨F.mono h,m,q,b⟩
inductive Df (K:ao) (mg:Q0d) (x:aj) (st:bz) (ps:Q0g):Prop
 |mk {f:ah} {fd:fv} (a:Hh K g_ x=aa (aa (.ref f))) (F:YM K x x st f fd) (m:mg x=aa (.ref f)) (b:Binds K fd ps []):Df K mg x st ps
theorem aHV{K:ao}{mg:Q0d}{h:ay}{x:aj}{st:bz}{m:Q0g}{f:ah}{q:ai}{p o:Option ah}{n:Array (Option ai)}{kV doc pm d ct:ai}(X:K.In h)(G:h.Ns g_ mg)
  (b:∀j:Q0f,j.length=m.length->bindArgs (fnOf x x (sV st) (eL st) (aT st) .none kV doc pm o d ct) ⟨j,[]⟩=pure (m.zip j)) (a:Hh K g_ x=aa (aa (.ref f)))
  (l:K.lookup f=aa ⟨q,p,.func (fnOf x x (sV st) (eL st) (aT st) .none kV doc pm o d ct),n⟩) (c:codeIn K d x=ae) (k:keepIn K (.ref f)=ae):Df K mg x st m:=⟨a,aDl l c k,PySem.W.mg_of X G a,.all b⟩
def u1(r:fL k A):A.units+1<dj:=by have:=r.units;lia
def u2(r:fL k A):A.units+2<dj:=by have:=r.units;lia
theorem aU(C:Cl X.Ω X.w X.K X.mg X.ω mP k x ps (HP X.K R))(l:fL k X.A)
  (z:uW X (e::es) t) (o:Gl X x:=by rfl) (j:Zu x:=by decide) (v:Zr X e es:=by rfl) (a:Q0l X ν es:=by rfl):
  cD X (.Call (.Name x p) (e::es) [] ν) (aF R t):=by
 obtain⟨F,m,n,y⟩:=C;show cE (Yr F l m n y z o j v a) λρ Q J=>?_;obtain⟨d,e,q⟩:=J;obtain⟨ds,I,e⟩:=bnd e;show⟨ds,I,d,?_,q⟩
 cases h:R ds with
 |ok d'=>rw[h] at e;cases e;rfl
 |no=>rw[h] at e;cases e
 |ex c=>rw[h] at e;cases e
def K2(y:X.calm=ae)(o:X.mg "list"=af)(l:X.mg "range"=af)(z:uW X [a] t)(v:Gl X "list":=by rfl)(m:Gl X "range":=by rfl)(n:ar [a] X.env=[(ag,eval a X.env)]:=by rfl)
  (x:ar [.Call (.Name "range" p2) [a] [] pos2] X.env=(ag,eval (.Call (.Name "range" p2) [a] [] pos2) X.env)::ar [] X.env:=by rfl):
  kE X (.Call (.Name "list" p) [.Call (.Name "range" p2) [a] [] pos2] [] ν) (IY t):=cF (KP y o l z v m n x) λρ Q F=>by
 obtain⟨d,e,q⟩:=F;obtain⟨ds,A,e⟩:=bnd e;show⟨ds,A,?_⟩;split at e
 .rename_i j;by_cases h:j.natAbs<=16777216
  .rw [Z_ h] at e;cases e;show⟨⟨by lia,by lia⟩,q⟩
  .rw [Zz h] at e;cases e
 .cases e
section
variable{tg:au}
def gZ(h:cD X l f):QT X tg l (cQ f):=cI (Yg h) λρ Q j=>by
 obtain⟨ds,e,q⟩:=j;obtain⟨d,a,e⟩:=bnd e;show⟨d,a,?_⟩;cases d<;>first|cases e;done|skip
 all_goals (cases e;show q)
def W8(h:aA fa aG ρ=aa as):∃a,fa ρ=aa a/\as=[a]:=by obtain⟨a,d,e⟩:=bnd h;cases e;show⟨a,d,rfl⟩
def d7(n:X.mg "range"=af)(v:cD X a fa)(o:Gl X "range":=by rfl)(m:ar [a] X.env=[(ag,eval a X.env)]:=by rfl):QT X tg (.Call (.Name "range" p) [a] [] ν) (b9 (aA fa aG)):=cI (aEI n (aC v aZ m) o m) λρ Q x=>by
 obtain⟨ds,e,q⟩:=x;obtain⟨as,l,e⟩:=bnd e;show⟨as,l,?_⟩;obtain⟨a,d,rfl⟩:=W8 l
 clear l d
 cases a<;>first|cases e;done|skip
 rename_i j;by_cases h:j.natAbs<4611686018427387904
 .have e:(if j.natAbs<4611686018427387904 then aa ((bE 0 j.toNat).map D.int) else af)=aa ds:=e;rw[Z_ h] at e;cases e;show⟨⟨by lia,by lia⟩,q⟩
 .have e:(if j.natAbs<4611686018427387904 then aa ((bE 0 j.toNat).map D.int) else af)=aa ds:=e;rw[Zz h] at e;cases e
end
def nN(h:X.mg "enumerate"=af)(l:uW X [a] t)(j:Gl X "enumerate":=by rfl)(d:ar [a] X.env=[(ag,eval a X.env)]:=by rfl):QT X (.Tuple es kk tp) (.Call (.Name "enumerate" p) [a] [] ν) (l9 t):=cI (K0 h l j d) λρ Q n=>by obtain⟨ds,e,q⟩:=n;obtain⟨as,m,e⟩:=bnd e;show⟨as,m,?_⟩;unfold LS at e;split at e<;>first|(cases e;show q)|cases e
theorem z7:∀(ds a ys:List D) (Q:D->Prop),kN g t e ρ ds=aa ys->a.length+ds.length<=bc->Q (.lst (a++ys))->tD (wy g) (wT t) (wE e) ρ ds a Q
 |[],a,ys,Q,h,_,q=>by cases h;rw[tD];simpa using q
 |d::ds,a,ys,Q,h,hl,q=>by
  rw[tD];obtain⟨ρ1,o,h⟩:=bnd h;obtain⟨b,n,h⟩:=bnd h;simp only[cn] at hl;show⟨ρ1,o,b,n,?_⟩
  cases b with
  |true =>
   rw[Z_ rfl] at h ⊢;obtain⟨y,m,h⟩:=bnd h;obtain⟨j,l,rfl⟩:=wH h;show⟨y,m,by lia,z7 ds (a++[y]) j Q l (by simp;lia) (by simpa using q)⟩
  |false =>
   rw[Zz bt] at h ⊢;show z7 ds a ys Q h ∅ q
def K3(ρ:dZ)(Q:D->Prop)(w:wE (cN nl fr it g t e) ρ Q):HD nl fr (wI it) (wy g) (wT t) (wE e) ρ Q:=by
 obtain⟨d,h,q⟩:=w;obtain⟨ds,l,h⟩:=bnd h;show⟨ds,l,?_⟩;by_cases a:ds.length<=nU
 .rw [Z_ a] at h;obtain⟨ys,j,rfl⟩:=wH h;show z7 ds [] ys Q j (by rw[fg,gr,ki];show a) (by simpa using q)
 .rw [Zz a] at h;cases h
abbrev K4(X:Cx)(nl:Nat)(a:au)(g:YR):Prop:=PG4 X nl a (wy g)
abbrev W9(X:Cx)(ifs:List au)(t:TF):Prop:=QL X ifs (wT t)
def cG(h:PG4 X nl tg g)(c:∀d ρ Q,g' d ρ Q->g d ρ Q):PG4 X nl tg g':=QJ h λ_ _ _ _ n=>by obtain⟨S,ρ,d,Q3,j,m,a,dn,l,k⟩:=n;show⟨S,ρ,d,Q3,j,m,a,dn,c d ρ Q3 l,k⟩
def uZ(nd:X.N.Nodup)(a:i<nl)(hi:X.N[i]?=aa x:=by rfl)(l:Loc X.env.scope x:=by walk_at "0")(h:Zq X x:=by walk_at "2"):K4 X nl (.Name x ν) (g1 i):=cG (Yc nd a hi l h) λd ρ Q m=>by obtain⟨j,e,q⟩:=m;cases e;show q
theorem NY(h:A9 d=aa p):d=.tup [p.1,p.2]:=by
 cases d<;>first|(cases h;done)|skip
 rename_i l
 cases l with
 |nil=>cases h
 |cons a l =>
  cases l with
  |nil=>cases h
  |cons b l =>
   cases l with
   |nil=>cases h;rfl
   |cons c l=>cases h
def XA(K:X.calm=ae)(nd:X.N.Nodup)(n:i<nl)(m:j<nl)(hi:X.N[i]?=aa x:=by rfl)(J:X.N[j]?=aa y:=by rfl)(F:Loc X.env.scope x:=by walk_at "0")(v:Zq X x:=by walk_at "2")(A:Loc X.env.scope y:=by walk_at "0")(o:Zq X y:=by walk_at "2")
  (I:Q0j X x y px py:=by rfl) (a:Q0i X x y px py:=by rfl)
  (l:gV X x y px py:=by rfl) (h:Q0h X y py:=by rfl):
  K4 X nl (.Tuple [.Name x px,.Name y py] kk ν) (g2 i j):=cG (Yb K nd n m hi J F v A o I a l h) λd ρ Q O=>by
 obtain⟨z,e,q⟩:=O;obtain⟨p,L,rfl⟩:=wH e;rw[NY L];show q
def Eo:W9 X [] dM:=λπ s σ H Q I h=>by obtain⟨S,ρ,Q3,d,a,⟨_,e,q⟩,k⟩:=h;cases e;show Oz π s σ H Q I ⟨S,ρ,Q3,d,a,q,k⟩
def u3(h:xF X c t):W9 X [c] t:=X_ h
section
variable{ls fs:Q0g}{fr:List Nat}{sc:fj}{tg iter elt:au}{ifs:List au}{ν:bb}{it:AF}{g:YR}{t:TF}{e:EF}
theorem NZ(m:X.calm=ae)(hi:QT X tg iter it)
  (h:∀a C pn ex s H,(blk X (ls++fs) sc a C pn ex s H).N.Nodup->K4 (blk X (ls++fs) sc a C pn ex s H) ls.length tg g) (j:∀a C pn ex s H,W9 (blk X (ls++fs) sc a C pn ex s H) ifs t) (l:∀a C pn ex s H,cD (blk X (ls++fs) sc a C pn ex s H) elt e)
  (B:RZ X.env.scope.names sc X.N ls fs fr=ae:=by rfl) (d:Zo X iter:=by intro _;rfl):kE X (.ListComp elt [⟨tg,iter,ifs,0⟩] sc ν) (cN ls.length fr it g t e):=cF (Xz m hi h j l B d) K3
variable{i:Nat}{x:aj}{spos pos':bb}
theorem u4(nd:X.N.Nodup)(v:X.calm=ae)(hi:QT X tg iter it)
  (o:∀a C pn ex s H,(blk X (ls++fs) sc a C pn ex s H).N.Nodup->K4 (blk X (ls++fs) sc a C pn ex s H) ls.length tg g) (p:∀a C pn ex s H,W9 (blk X (ls++fs) sc a C pn ex s H) ifs t) (q:∀a C pn ex s H,cD (blk X (ls++fs) sc a C pn ex s H) elt e)
  (j:X.N[i]?=aa x:=by rfl) (m:X.env.scope.names.lookup x=aa .local:=by rfl) (l:Rv X elt tg iter ifs sc ν x pos' spos:=by rfl)
  (B:RZ X.env.scope.names sc X.N ls fs fr=ae:=by rfl) (n:Zo X iter:=by intro _;rfl):qL X (.Assign [.Name x pos'] (.ListComp elt [⟨tg,iter,ifs,0⟩] sc ν) spos) (aO i (cN ls.length fr it g t e)) :=
 cS (QM nd v hi o p q j m l B n) λE ρ w=>by
  unfold wS aO at w;unfold x_
  cases h:cN ls.length fr it g t e (gF ρ) with
  |none=>rw[h] at w;show w.elim
  |some d=>rw[h] at w;show K3 _ _ ⟨d,h,w⟩
end
end
section
def cO(h:PO3 X e t)(c:∀ρ Q,t' ρ Q->t ρ Q):PO3 X e t':=λπ s σ H Q I l=>by obtain⟨S,ρ,Q3,j,a,d,k⟩:=l;show h π s σ H Q I ⟨S,ρ,Q3,j,a,c ρ Q3 d,k⟩
def XB:PO4 X af wM:=cO Np λ_ _ a=>by obtain⟨_,e,q⟩:=a;cases e;show q
def XD(h:cD X e f):PO4 X (aa e) (oE f):=cO (po3 h) λρ Q l=>by
 obtain⟨o,e,q⟩:=l;obtain⟨d,j,e⟩:=bnd e;obtain⟨i,a,rfl⟩:=wH e;show⟨d,j,?_⟩;cases d<;>first|cases a;done|skip
 cases a;show q
def XE{e:au}{lo hi:Option au}{p2 j:bb}{f:EF}{fl a:OF}(o:cD X e f)(m:PO4 X lo fl)(n:PO4 X hi a):cD X (.Subscript e (.Slice lo hi af p2) j) (xS f fl a):=cE (sl3 o m n) λρ Q y=>by
 obtain⟨r,e,q⟩:=y;obtain⟨d,x,e⟩:=bnd e;obtain⟨l,p,e⟩:=bnd e;obtain⟨h,v,e⟩:=bnd e;show⟨d,x,l,p,h,v,?_⟩;cases d<;>first|cases e;done|skip
 all_goals (cases e;show q)
def px4(h:cD X e f):NV X e (mB f):=cX (px3 h) λρ Q j=>by
 obtain⟨p,e,q⟩:=j;obtain⟨d,a,e⟩:=bnd e;show⟨d,a,?_⟩;by_cases hi:d.AN=ae
 .rw [Z_ hi] at e;cases e;show⟨hi,q⟩
 .rw [Zz hi] at e;cases e
def oZ(h:cD X e f):NV X e (aX f):=cX (P_ h) λρ Q j=>by obtain⟨p,e,q⟩:=j;obtain⟨d,a,e⟩:=bnd e;cases e;show⟨d,a,q⟩
def K5(h:nZ o=aa ds):o=aa (.ow (.lst ds)):=by
 unfold nZ at h;split at h
 .cases h;rfl
 .cases h
def EX(f:List D->D->(List D->D->Prop)->Prop)(m:List D->D->Option (List D×D)):Prop:=∀ds d q (Q:List D->D->Prop),m ds d=aa q->Q q.1 q.2->f ds d Q
def xx(h:EX f m)(ρ:bT)(Q:bT->D->Prop)(w:wX (qO i m x) ρ Q):oq i f (wX x) ρ Q:=by obtain⟨r,e,q⟩:=w;obtain⟨ds0,o,e⟩:=bnd e;obtain⟨p,l,e⟩:=bnd e;obtain⟨ds,n,e⟩:=bnd e;obtain⟨z,j,rfl⟩:=wH e;have d:=K5 o;have o1:=K5 n;show⟨by rw[d];trivial,p,l,?_⟩;show(match p.1[i]? with|some (.ow (.lst ds))=>f ds p.2 λa r=>Q (p.1.set i (.ow (.lst a))) r|_=>False);rw[o1];show h ds p.2 z _ j q
def Q0:EX xw n5:=λds d q Q e k=>by
 unfold n5 at e;by_cases h:ds.length<nU
 .rw [Z_ h] at e;cases e;show⟨by rw[fg];show h,k⟩
 .rw [Zz h] at e;cases e
def Q1:EX xu YS:=λds d q Q e k=>by
 cases d<;>first|cases e;done|skip
 rename_i i;have e:(if i.natAbs<9223372036854775808 then(FO ds.length i).bind λj=>(ds[j]?).map λd=>(ds.eraseIdx j,d) else af)=aa q:=e;by_cases h:i.natAbs<9223372036854775808
 .rw [Z_ h] at e;obtain⟨j,a,e⟩:=bnd e;obtain⟨d,l,rfl⟩:=wH e;have a:P5 ds.length i=aa j:=a;show⟨⟨by lia,by lia⟩,?_⟩;show(match P5 ds.length i with|some j=>(match ds[j]? with|some d=>Q (ds.eraseIdx j) d|none=>False)|none=>False);rw[a];dsimp only;rw[l];show k
 .rw [Zz h] at e;cases e
def Q2:EX xq tU:=λds d q Q e k=>by
 cases d<;>first|cases e;done|skip
 rename_i es;have e:(if ds.length+es.length<=nU then aa (ds++es,D.non) else af)=aa q:=e;by_cases h:ds.length+es.length<=nU
 .rw [Z_ h] at e;cases e;show⟨by rw[fg];show h,k⟩
 .rw [Zz h] at e;cases e
section
variable{i:Nat}{x:aj}{e:au}{p apos cpos:bb}{f:XF}
def XG(n:NV X e f)(hN:X.N[i]?=aa x:=by rfl)(l:vZ X.env.scope x:=by walk_at "1")(o:Zu x:=by decide)(j:Zt x:=by decide)
  (d:attributeBase (.Name x p) "append" X.env (eval (.Name x p) X.env)=eval (.Name x p) X.env:=by rfl)
  (h:Zp X cpos e:=by rfl)
  (a:Q0k apos cpos:=by rfl) (m:Zr X e []:=by rfl):
  NV X (.Call (.Attribute (.Name x p) "append" apos) [e] [] cpos) (qO i n5 f):=cX (Pw n hN l o j d h a m) (xx Q0)
def Me(n:NV X e f)(hN:X.N[i]?=aa x:=by rfl)(l:vZ X.env.scope x:=by walk_at "1")(o:Zu x:=by decide)(j:Zt x:=by decide)
  (d:attributeBase (.Name x p) "pop" X.env (eval (.Name x p) X.env)=eval (.Name x p) X.env:=by rfl)
  (h:Zp X cpos e:=by rfl)
  (a:Q0k apos cpos:=by rfl) (m:Zr X e []:=by rfl):
  NV X (.Call (.Attribute (.Name x p) "pop" apos) [e] [] cpos) (qO i YS f):=cX (Pu n hN l o j d h a m) (xx Q1)
def EY(n:NV X e f)(hN:X.N[i]?=aa x:=by rfl)(l:vZ X.env.scope x:=by walk_at "1")(o:Zu x:=by decide)(j:Zt x:=by decide)
  (d:attributeBase (.Name x p) "extend" X.env (eval (.Name x p) X.env)=eval (.Name x p) X.env:=by rfl)
  (h:Zp X cpos e:=by rfl)
  (a:Q0k apos cpos:=by rfl) (m:Zr X e []:=by rfl):
  NV X (.Call (.Attribute (.Name x p) "extend" apos) [e] [] cpos) (qO i tU f):=cX (aAk n hN l o j d h a m) (xx Q2)
end
def fI:lC X [] dE:=Cg Rb λ_ _ w=>w
theorem Xy(E:DE)(ρ:bT)(w:wS (aH f g) E ρ):ya (wS f) (wS g) E ρ:=by
 unfold wS aH at w;unfold ya wS
 cases h:f ρ with
 |nx ρ'=>rw[h] at w;show w
 |rt d=>rw[h] at w;show w
 |no=>rw[h] at w;show w
 |ex c=>rw[h] at w;show w
def aM{st:bz}{a:List bz}{f g:SF}(d:qL X st f)(h2:lC X a g):lC X (st::a) (aH f g):=Cg (Q_ d h2) Xy
def aI{st:bz}{f:SF}(a:qL X st f):lC X [st] f:=Yp a
theorem cL(h:cD X e f):qL X (.Return (aa e) ν) (bI f):=cS (Qx h) λE ρ w=>by
 unfold wS bI at w
 cases h:f (bD ρ) with
 |none=>rw[h] at w;show w.elim
 |some d=>rw[h] at w;show⟨d,h,w⟩
theorem dJ(d:xF X c t)(l:lC X a f)(j:lC X b g):qL X (.If c a b ν) (eO t f g):=cS (Qt d l j) λE ρ w=>by
 unfold wS eO at w
 cases h:t (bD ρ) with
 |none=>rw[h] at w;show w.elim
 |some c =>
  rw[h] at w;show⟨c,h,?_⟩
  cases c with
  |true=>rw[Z_ rfl];show w
  |false=>rw[Zz bt];show w
section
variable{i:Nat}{x:aj}{e:au}{f:EF}{ν pos':bb}
theorem cJ(hN:X.N.Nodup)(m:cD X e f)(hi:X.N[i]?=aa x:=by rfl)(a:Loc X.env.scope x:=by walk_at "0")(j:Si X e x pos' ν:=by rfl)(l:Zq X x:=by walk_at "0"):
  qL X (.Assign [.Name x pos'] e ν) (aO i f):=cS (Qi hN m hi a j l) λE ρ w=>by
 unfold wS aO at w
 cases h:f (gF ρ) with
 |none=>rw[h] at w;show w.elim
 |some d=>rw[h] at w;show⟨d,h,w⟩
theorem wK(hN:X.N.Nodup)(m:kE X e f)(hi:X.N[i]?=aa x:=by rfl)(a:Loc X.env.scope x:=by walk_at "0")(j:Si X e x pos' ν:=by rfl)(l:Zq X x:=by walk_at "0"):
  qL X (.Assign [.Name x pos'] e ν) (kA i f):=cS (Qg hN m hi a j l) λE ρ w=>by
 unfold wS kA at w
 cases h:f (gF ρ) with
 |none=>rw[h] at w;show w.elim
 |some d=>rw[h] at w;show⟨d,h,w⟩
theorem Xx(hN:X.N.Nodup)(n:kE X e f)(hi:X.N[i]?=aa x:=by rfl)(j:Loc X.env.scope x:=by walk_at "0")(l:Si X e x pos' ν:=by rfl)(m:Zq X x:=by walk_at "0"):
  qL X (.Assign [.Name x pos'] e ν) (vG i f):=cS (Yn hN n hi j l m) λE ρ w=>by
 unfold wS vG at w
 cases h:f (bD ρ) with
 |none=>rw[h] at w;show w.elim
 |some d =>
  rw[h] at w;dsimp only at w;by_cases a:oB d=ae
  .rw [Z_ a] at w;show⟨d,h,?_,w⟩;cases d<;>first|show a|cases a
  .rw [Zz a] at w;show w.elim
theorem Xw(hN:X.N.Nodup)(n:kE X e f)(hi:X.N[i]?=aa x:=by rfl)(j:Loc X.env.scope x:=by walk_at "0")(l:Si X e x pos' ν:=by rfl)(m:Zq X x:=by walk_at "0"):
  qL X (.Assign [.Name x pos'] e ν) (nV i f):=cS (Xn hN n hi j l m) λE ρ w=>by
 unfold wS nV at w
 cases h:f (bD ρ) with
 |none=>rw[h] at w;show w.elim
 |some d =>
  rw[h] at w;dsimp only at w;by_cases a:oB d=ae
  .rw [Z_ a] at w;show⟨d,h,?_,w⟩;cases d<;>first|show a|cases a
  .rw [Zz a] at w;show w.elim
theorem N0{f:XF}(hN:X.N.Nodup)(m:NV X e f)(hi:X.N[i]?=aa x:=by rfl)(a:Loc X.env.scope x:=by walk_at "0")(j:Si X e x pos' ν:=by rfl)(l:Zq X x:=by walk_at "0"):
  qL X (.Assign [.Name x pos'] e ν) (mC i f):=cS (Yk hN m hi a j l) λE ρ w=>by
 unfold wS mC at w
 cases h:f ρ with
 |none=>rw[h] at w;show w.elim
 |some d=>rw[h] at w;show⟨d,h,w⟩
def XH(hN:X.N.Nodup)(hi:X.N[i]?=aa x:=by rfl)(a:Loc X.env.scope x:=by walk_at "0")(d:di (.Dict [] [] p) (aa (.Name x pos')) ν.line X.env=pure ag:=by rfl)(h:Zq X x:=by walk_at "0"):
  qL X (.Assign [.Name x pos'] (.Dict [] [] p) ν) (FR i):=cS (WV hN hi a d h) λE ρ w=>w
end
theorem vS(j:NV X e f)(a:di e af ν.line X.env=pure ag:=by rfl):qL X (.Expr e ν) (sX f):=cS (Yi j a) λE ρ w=>by
 unfold wS sX at w
 cases h:f ρ with
 |none=>rw[h] at w;show w.elim
 |some d=>rw[h] at w;show⟨d,h,w⟩
theorem EZ(z:NV X e f)(y:cD X k fk)
  (hN:X.N[i]?=aa x:=by rfl) (m:vZ X.env.scope x:=by walk_at "1") (A:Zu x:=by decide) (a:Zt x:=by decide)
  (F:∀v,assign (.Subscript (.Name x p) k pos') X.env v=(do
   let ov <- holding [v] (eval (.Name x p) X.env)
   let iv <- holding [v,ov] (eval k X.env)
   standAt pos'
   holding [v,ov,iv] (setItem ov iv v)
   release [v,ov,iv] []):=by intro _;rfl)
  (n:swapsWithSole [.Subscript (.Name x p) k pos'] e ν.line X.env=pure ag:=by rfl) (hw:swappedStores [.Subscript (.Name x p) k pos'] e X.env=pure af:=by rfl)
  (I:(df [.Subscript (.Name x p) k pos'] X.env).map (·.2)=[assign (.Subscript (.Name x p) k pos') X.env]:=by rfl):
  qL X (.Assign [.Subscript (.Name x p) k pos'] e ν) (kO i f fk):=cS (put3 z y hN m A a F n hw I) λE ρ w=>by
 unfold wS kO at w
 cases h:((f ρ).bind λp=>(nZ p.1[i]?).bind λds=>(fk (bD p.1)).bind λkd=>(asInt kd).bind λkk=>(FO ds.length kk).map λj=>p.1.set i (.ow (.lst (ds.set j p.2)))) with
 |none=>rw[h] at w;show w.elim
 |some ρ' =>
  rw[h] at w;obtain⟨q,J,h⟩:=bnd h;obtain⟨ds,L,h⟩:=bnd h;obtain⟨kd,K,h⟩:=bnd h;obtain⟨kk,l,h⟩:=bnd h;obtain⟨j,d,rfl⟩:=wH h;have o:=K5 L;show⟨q,J,by unfold xt;rw[o];trivial,kd,K,?_⟩;cases kd<;>first|cases l;done|skip
  cases l;have d:P5 ds.length kk=aa j:=d
  show(match q.1[i]?,D.int kk with
   |some (.ow (.lst ds)),.int k=>(match P5 ds.length k with|some j=>E.nx (q.1.set i (.ow (.lst (ds.set j q.2))))|none=>False)
   |_,_=>False)
  rw[o];dsimp only;rw[d];show w
def Q4(h:xT o=aa p):o=aa (.ow (.lA p.1 p.2)):=by
 unfold xT at h;split at h
 .cases h;rfl
 .cases h
theorem Xv(v:X.A.units+1<dj)(F:NV X e f)(z:cD X k fk)
  (hN:X.N[i]?=aa x:=by rfl) (n:vZ X.env.scope x:=by walk_at "1") (I:Zu x:=by decide) (l:Zt x:=by decide)
  (y:di e (aa (.Subscript (.Name x p) k pos')) ν.line X.env=pure ag:=by rfl):
  qL X (.Assign [.Subscript (.Name x p) k pos'] e ν) (LU i f fk):=cS (Xo v F z hN n I l y) λE ρ w=>by
 unfold wS LU at w;cases h:((f ρ).bind λp=>(xT p.1[i]?).bind λkd=>(fk (bD p.1)).bind λa=>(xO a).bind λkk =>
  if(lF kd.1 kd.2 kk).isNone=ae/\kd.2.length<nU then aa (p.1.set i (.ow (.lA (kd.1++[kk]) (kd.2++[p.2])))) else af) with
 |none=>rw[h] at w;show w.elim
 |some ρ' =>
  rw[h] at w;obtain⟨q,J,h⟩:=bnd h;obtain⟨kd,L,h⟩:=bnd h;obtain⟨a,K,h⟩:=bnd h;obtain⟨kk,m,h⟩:=bnd h;have o:=Q4 L;by_cases j:(lF kd.1 kd.2 kk).isNone=ae/\kd.2.length<nU
  .rw [Z_ j] at h;cases h;show⟨q,J,by rw[o];trivial,a,K,?_⟩;have O:HE a=aa kk:=by cases a<;>first|show m|cases m
   show(match q.1[i]?,HE a with
    |some (.ow (.lA ks ds)),aa k=>(lQ ks ds k=af/\ds.length<bc)/\E.nx (q.1.set i (.ow (.lA (ks++[k]) (ds++[q.2]))))
    |_,_=>False)
   rw[o,O];show⟨⟨?_,by rw[fg];show j.2⟩,w⟩;have:=j.1
   cases hl:lF kd.1 kd.2 kk with
   |none=>show hl
   |some d=>rw[hl] at this;cases this
  .rw [Zz j] at h;cases h
def Ci(h:PG3 X tg g)(c:∀d ρ Q,g' d ρ Q->g d ρ Q):PG3 X tg g':=QJ h λ_ _ _ _ l=>by obtain⟨H₀,S,w,ρ,G,d,Q3,a,st,dn,j,k⟩:=l;show⟨H₀,S,w,ρ,G,d,Q3,a,st,dn,c d ρ Q3 j,k⟩
def jC(hN:X.N.Nodup)(hi:X.N[i]?=aa x:=by rfl)(h:Loc X.env.scope x:=by walk_at "0")(j:Zq X x:=by walk_at "0"):PG3 X (.Name x ν) (wG (n6 i)) :=
 Ci (Ye hN hi h j) λd ρ Q l=>by obtain⟨a,e,q⟩:=l;cases e;show q
def HQ(I:X.calm=ae)(hN:X.N.Nodup)(hi:X.N[i]?=aa x:=by rfl)(A:X.N[j]?=aa y:=by rfl)(v:Loc X.env.scope x:=by walk_at "0")(o:Loc X.env.scope y:=by walk_at "0")
  (F:Zq X x:=by walk_at "0") (m:Zq X y:=by walk_at "0")
  (z:Q0j X x y px py:=by rfl) (a:Q0i X x y px py:=by rfl)
  (l:gV X x y px py:=by rfl) (h:Q0h X y py:=by rfl):
  PG3 X (.Tuple [.Name x px,.Name y py] k ν) (wG (IL i j)):=Ci (Yd I hN hi A v o F m z a l h) λd ρ Q K=>by
 obtain⟨n,e,q⟩:=K;obtain⟨p,J,rfl⟩:=wH e;rw[NY J];show q
theorem lE(q:X.calm=ae)(p:qx (aw X.Ω X.w) X.A X.env X.xe)(hi:QT X tg iter it)(m:PG3 X tg (wG g))(l:lC X body b)
  (o:Zo X iter:=by intro _;rfl):qL X (.For tg iter body [] ν) (eM it g b):=cS (Pj q p hi m l o) λE ρ w=>by
 unfold wS eM at w
 cases h:it (gF ρ) with
 |none=>rw[h] at w;show w.elim
 |some ds =>
  rw[h] at w;show⟨ds,h,λi j=>wS (fX g b (ds.drop i)) E j,(by show wS (fX g b (ds.drop 0)) E ρ;rw[oj];show w),λi d j n a=>?_,λj a=>?_⟩
  .have hi:i<ds.length:=(cg.mp n).1;have v:ds[i]=d:=(cg.mp n).2;have a:wS (fX g b (ds.drop i)) E j:=a;rw[tq hi,v] at a;unfold wS fX at a
   cases m:g d j with
   |none=>rw[m] at a;show a.elim
   |some ρ1 =>
    rw[m] at a;dsimp only at a;show⟨ρ1,m,?_⟩;unfold wS
    cases l:b ρ1 with
    |nx ρ2=>rw[l] at a;dsimp only;rw[l];show a
    |rt d=>rw[l] at a;dsimp only;rw[l];show a
    |no=>rw[l] at a;dsimp only;rw[l];show a
    |ex c=>rw[l] at a;dsimp only;rw[l];show a
  .have a:wS (fX g b (ds.drop ds.length)) E j:=a;rw[Jo] at a;show a
theorem aE1(F:qx (aw X.Ω X.w) X.A X.env X.xe)(K:xF X c t)(l:lC X body b):qL X (.While c body [] ν) (R6 n t b):=cS (aEQ F K l) λE ρ w=>by
 have least:∀{p:Nat->Prop},(∃n,p n) ->∃n,p n /\∀m,p m->n<=m:=λ{p} ⟨n,I⟩=>by
  induction n using Nat.strongRecOn with
  |ind n ih =>
   by_cases h:∃m,m<n/\p m
   .obtain ⟨m,o,pm⟩:=h;show ih m o pm
   .exact ⟨n,I,λm pm=>by apply mw;intro z;show h ⟨m,by lia,pm⟩⟩
 show⟨λa=>∃m,wS (fQ t b m) E a,λa=>(a2y λm=>wS (fQ t b m) E a /\∀k,wS (fQ t b k) E a->m<=k),⟨n,w⟩,λa y=>?_⟩;obtain⟨x,q⟩:=least y;have o:=a2x (p:=λm=>wS (fQ t b m) E a /\∀k,wS (fQ t b k) E a->m<=k) ⟨x,q⟩;dsimp only;generalize (a2y λm=>wS (fQ t b m) E a /\∀k,wS (fQ t b k) E a->m<=k)=m at o ⊢
 cases m with
 |zero=>show o.1.elim
 |succ m =>
  have j:=o.1;unfold wS fQ at j
  cases ht:t (bD a) with
  |none=>rw[ht] at j;show j.elim
  |some c =>
   rw[ht] at j;show⟨c,ht,?_⟩
   cases c with
   |false=>rw[Zz bt];show j
   |true =>
    rw[Z_ rfl];dsimp only at j;unfold wS
    cases l:b a with
    |nx ρ2 =>
     rw[l] at j;have h2:wS (fQ t b m) E ρ2:=j;show⟨⟨m,h2⟩,?_⟩;obtain⟨k0,v⟩:=least (p:=λm=>wS (fQ t b m) E ρ2) ⟨m,h2⟩;have J:=a2x (p:=λm=>wS (fQ t b m) E ρ2 /\∀k,wS (fQ t b k) E ρ2->m<=k) ⟨k0,v⟩;show Nat.lt_succ_of_le (J.2 m h2)
    |rt d=>rw[l] at j;show j
    |no=>rw[l] at j;show j
    |ex c=>rw[l] at j;show j
end
theorem Cv{P:bf}{w:ba}{K:ao}{mg:Q0d}{ω:ay}{x qual:aj}{st:bz}{f:ah}{fd:fv}{N l:Q0g}{k n m:Nat}{b:SF}(F:YM K x qual st f fd)(S:fE N l (aT st))(v:N.length=n)(p:l.length=m)
  (j:∀(a:ai) (A:bq) (Γ:List de) (s:ak) (H:Hp) (E:XK),fL k (A.deeper (envOfC qual (aT st) s.heap.objs.size f a)) ->
   lC (lB mP P w K mg ω N qual (aT st) f a A Γ s H E).IP (eL st) b):lY P w K mg ω mP (k+1) f fd l (HP K (bZ n m b)):=by
 subst v p;show Qb F S (λds Q ⟨d,e,q⟩=>?_) λa A Γ s H E o=>⟨_,j a A Γ s H E o,λds Q ⟨d,e,q⟩=>?_⟩
 .unfold bZ at e;by_cases h:ds.length=l.length
  .exact h
  .rw [Zz h] at e;cases e
 .unfold bZ at e;by_cases h:ds.length=l.length
  .rw [Z_ h] at e;have y:jZ N ds=dD N.length ds:=rfl;unfold wS;rw[y]
   cases hb:b (dD N.length ds) with
   |rt d'=>rw[hb] at e;cases e;show q
   |nx ρ=>rw[hb] at e;cases e;show q
   |no=>rw[hb] at e;cases e
   |ex c=>rw[hb] at e;cases e
  .rw [Zz h] at e;cases e
theorem fd4{P:bf}{w:ba}{K:ao}{mg:Q0d}{ω:ay}{x:aj}{st:bz}{N d:Q0g}{k n j:Nat}{b:SF}(D:Df K mg x st d)
  (h:∀{f:ah} {a:ai} {A:bq} {Γ:List de} {s:ak} {H:Hp} {E:XK},fL k (A.deeper (envOfC x (aT st) s.heap.objs.size f a))->N.Nodup->lC (lB mP P w K mg ω N x (aT st) f a A Γ s H E).IP (eL st) b)
  (S:fE N d (aT st):=by show⟨rfl,rfl,rfl,by decide+kernel,rfl,by decide+kernel,by decide+kernel⟩) (p:N.length=n:=by rfl) (o:d.length=j:=by rfl):Cl P w K mg ω mP (k+1) x d (HP K (bZ n j b)):=by
 obtain⟨_,F,m,q⟩:=D;show⟨Cv F S p o λ_ _ _ _ _ _ l=>h l S.nd,m,F.kp,q⟩
def Xr{P:bf}{w:ba}{K:ao}{mg:Q0d}{ω:ay}{k:Nat}{f:ah}{fd:fv}{a:Q0g}:lY P w K mg ω mP k f fd a (HP K λ_=>.no) :=
 ⟨λ_ _ _ _ h=>(by obtain⟨_,_,_,_,_,⟨_,e,_⟩,_⟩:=h;cases e),λ_ _ _ _ _ _ _ _ _ _ _ _ _ h=>(by obtain⟨_,_,_,_,_,⟨_,e,_⟩,_⟩:=h;cases e)⟩
def nn4{P:bf}{w:ba}{K:ao}{mg:Q0d}{ω:ay}{k:Nat}{x:aj}{st:bz}{a:Q0g}(D:Df K mg x st a):Cl P w K mg ω mP k x a (HP K λ_=>.no):=by obtain⟨_,F,m,q⟩:=D;show⟨Xr,m,F.kp,q⟩
section
variable{π:Q0b}{σ:L2.St}{H:Hp}
theorem HR(I:Φ X π σ H s)(h:Ψ x v)(e:x=.bl k\/(∃p xs,x=.ref p/\(eZ X.K H p xs\/fJ X.K H p xs)/\k=!xs.isEmpty))
  (q:∀l,Q k {s with toks:=l}):av (aw X.Ω X.w) A (truthy v) Q E s:=by
 have n:bc=16777216:=fg;rcases e with rfl|⟨p,xs,rfl,a,rfl⟩
 .cases h;show j7 (q s.toks)
 .cases h;rcases a with a|a
  .obtain ⟨j,r,d,m⟩:=I.list a;have hlen:=r.length;show a0c d.isList (by simp only[bw];lia) (by rw[nK r];show q _)
  .obtain ⟨j,r,d,m⟩:=I.tuple a;have hlen:=r.length;show a1u d (by simp only[bw];lia) (by rw[nK r];show q _)
def TrV(K:ao)(H:Hp)(x:V)(k:Bool):Prop:=x=.bl k\/(∃p xs,x=.ref p/\(eZ K H p xs\/fJ K H p xs)/\k=!xs.isEmpty)
def Q5(h:j<n):(b_ n).drop j=j::(b_ n).drop (j+1):=by
 have a:j<(b_ n).length:=by rw[oi];show h
 rw[tq a,List.getElem_range]
section
variable{it:ah}{fp wr:List ah}{n:Nat}{P:Nat->ai->Prop}{St:Nat->ay->Prop}{R:Aa->ak->Prop}{tr:Nat->Bool}
theorem CL(W:Walks X.Ω X.w X.A.in1 it fp wr n P St)(l:∀b∈wr,rF X π H b)(o:∀j v,P j v ->∃x,Ψ x v/\TrV X.K H x (tr j)):
  ∀(m j:Nat) (st:ak),m+j=n->Φ X π σ H st->St j st.heap->(∀a,Φ X π σ H a->R (.ok (.ret (.bool (((b_ n).drop j).all tr)))) a)->ng (aw X.Ω X.w) X.A (.builtin "all.loop" ⟨[.ref it],[]⟩) R st
 |0,j,st,hj,I,hS,k=>by
  obtain rfl:j=n:=by lia
  show oz (a1i) ?_;rw[rm Ah];show aq (W.done st _ _ hS λh2 t2 h=>aq (nc (a_ ?_)));have:=k _ (WY (t':=t2) I h l)
  rwa [a2j (by simp)] at this
 |m+1,j,st,hj,I,hS,k=>by
  have d:j<n:=by lia
  show oz (a1i) ?_;rw[rm Ah];show aq (W.item j st _ _ d hS λv h2 t2 z J h=>?_);have q:Φ X π σ H {st with heap:=h2,toks:=t2}:=WY (t':=t2) I h l;obtain⟨x,y,F⟩:=o j v z;rw[Q5 d,mj] at k;show aq (iy (HR q y F λt3=>aq (vj ?_)));have p:Φ X π σ H {st with heap:=h2,toks:=t3}:=q.tok t3
  cases hb:tr j with
  |true =>
   rw[hb,wu] at k;rw[Z_ rfl];show a_ ⟨zo Ah _,CL W l o m (j+1) _ ∅ p J k⟩
  |false =>
   rw[hb,tw] at k;rw[Zz bt];show aq (nc (a_ (k _ p)))
end
def Cu(f:List Bool->Bool)(K:ao):List V->Hp->VK->Prop:=λxs H Q=>∃a ys bs,xs=[.ref a]/\H a=aa (.lst ys)/\bs.length=ys.length/\(∀(j:Nat) (y:V) (b:Bool),ys[j]?=aa y->bs[j]?=aa b->TrV K H y b)/\Q (.bl (f bs)) H
def Q6(hc:X.calm=ae):gD X (.builtin "all") (Cu (λbs=>bs.all id) X.K):=by
 intro π s σ H xs us Q I r h;obtain⟨a,ys,bs,rfl,ha,hl,ht,q⟩:=h;obtain⟨u,rfl,l⟩:=vals1 r;cases l;obtain⟨d,L,p,hz⟩:=I.list (eZ.of ha);have z:a<s.heap.objs.size:=by obtain⟨o,n,e,_⟩:=p;show br e
 have hn:d.length=ys.length:=L.length.symm;have y:∀j v,d.toArray[j]?=aa v ->∃x,Ψ x v/\TrV X.K H x (bs.getD j ae):=λj v e=>by
  have Y:d[j]?=aa v:=by simpa using e
  have O:j<ys.length:=by have:=(cg.mp Y).1;lia
  obtain⟨u,U,l⟩:=L.get (bx O);rw[Y] at U;cases U;show⟨_,l,ht j _ _ (bx O) ?_⟩;rw[jw,bx ∅];rfl
 show call_function_tree (F.kind_all) F.plain_all F.entry_all (F.args_all1 _) ?_;unfold Builtin.«all»;show aq (m:=oneArg "all" _) (a_ (aq (Gq p.isList (a_ ⟨zo Ah _,?_⟩))));have J:H s.heap.objs.size=af:=I.hok.fresh (bj _);have I1:Φ X π σ H {s with heap:=s.heap.push {cls:=.type "list_iterator",data:=.fields #[.ref a,rawInt 0]} }:=I.kept (t':=s.toks) λb o e=>cm _ e;show CL (X:=X) (π:=π) (σ:=σ) (H:=H) (tr:=λj=>bs.getD j ae) (a0F (A:=X.A.in1) (show X.A.in1.handled=af from I.ok.hd hc) s.heap.objs.size a (ee z) d.toArray) (λb hb=>?_) y d.toArray.size 0 _ rfl I1
  ⟨⟨_,dg _ rfl,rfl,rfl⟩,p.isList.at λo e=>cm _ e⟩ λZ I'=>?_
 .cases cc.mp hb;show I.EA (bj _) J
 .refine ⟨.bl _,H,I',rfl,?_⟩;rw[oj,show d.toArray.size=bs.length by simp[hn,hl],range_all];show q
theorem En{K:ao}{S:ah->Prop}{H:Hp}:∀{es:List D} {ys:List V} {bs:List Bool},bC K S H es ys->tT es=aa bs->bs.length=ys.length /\∀(j:Nat) (y:V) (b:Bool),ys[j]?=aa y->bs[j]?=aa b->TrV K H y b
 |[],ys,bs,dn,h=>by simp only[bC] at dn;subst dn;cases h;show⟨rfl,λj y b e=>by simp at e⟩
 |d::es,ys,bs,dn,h=>by
  obtain⟨v,r,rfl,l,h2⟩:=dn.bQ;obtain⟨b,m,h⟩:=bnd h;obtain⟨F,A,rfl⟩:=wH h;obtain⟨z,x⟩:=En h2 A;show⟨by simp[z],λj y c o p=>?_⟩
  cases j with
  |zero =>
   simp at o p;subst o p;cases d<;>first|cases m;done|skip
   .cases m;symm at l;show .inl l
   .cases m;symm at l;obtain⟨a,xs,rfl,n,q⟩:=l;show .inr ⟨a,xs,rfl,.inr (fJ.of n),by rw[<- q.empty]⟩
   .cases m;symm at l;obtain⟨a,xs,rfl,n,_,q⟩:=l;show .inr ⟨a,xs,rfl,.inl (eZ.of n),by rw[<- q.empty]⟩
  |succ j=>show x j y c (by simpa using o) (by simpa using p)
def trF(f:List Bool->Bool):F1
 |[.lst es],Q=>∃bs,tT es=aa bs/\Q (.bl (f bs))
 |_,_=>False
theorem aE2{K:ao}{f:List Bool->Bool}:C3 K (Cu f K) (trF f):=by
 intro S H xs ds Q3 Q x m l k
 match ds,l with
 |[.lst es],⟨bs,eb,q⟩ =>
  obtain⟨v,r,rfl,d,h2⟩:=m.bQ;simp only[bC] at h2;subst h2;symm at d;obtain⟨a,ys,rfl,n,p,o⟩:=d;obtain⟨j,h⟩:=En o eb;show⟨a,ys,bs,rfl,n,j,h,k _ H _ (ξ.refl H) (by symm) q⟩
def K6{p a:bb}{e:au}{t:AF}(m:X.calm=ae)(h:X.mg "all"=af)(n:uW X [e] t)(j:Gl X "all":=by rfl)(l:Zr X e []:=by rfl):cD X (.Call (.Name "all" p) [e] [] a) (cK allM t) :=
 cE (uS (Q6 m) aE2 a3A j h n (by decide) (by decide) l (by rfl)) (z5 λds d Q e q=>by
  unfold allM at e;split at e
  .obtain ⟨bs,o,rfl⟩:=wH e;show⟨bs,o,q⟩
  .cases e)
end
end L4
namespace L3
open PySem.Spec PyProof.Rows L2
noncomputable def aPu(t:WA):WI:=λρ Q=>t ρ λds=>match ds with
 |[.lst ds]=>Q ds.reverse
 |[.tup ds]=>Q ds.reverse
 |_=>False
section
variable{Ω:bf}{w:ba}{A:bq}{E:Q0c}{s:ak}
theorem vT{Q:List ai->ak->Prop}{r:ah}{a b c:Int}{t u v:h_}{n:Nat}(z:A.handled=af)(q:Hn s.heap r a b c t u v)(d:Hx a b c=ae)(x:p0 a b c=n)
  (hlen:n<=2^24) (F:∀h' m p,s.heap.objs.size<=h'.objs.size->(∀b o,s.heap.get? b=aa o->h'.get? b=aa o)->Ac (λi v=>∃t,v=.int (a+i*c) t) p n->Q p.toList {s with heap:=h',toks:=m}):av (aw Ω w) A (collect (.ref r)) Q E s:=by
 unfold collect;apply aq;apply a0i;show oz a1g ?_;rw[rm a1d]
 wp_walk
 show⟨zo Ag _,oz a1h ?_⟩;rw[rm Ag];show wpAny_extend_range (R:=wants _ _) (s:={s with heap:=s.heap.push {cls:=.type "list",data:=.seq #[]} }) z (cm _ q) d x hlen s.heap.objs.size (.ref s.heap.objs.size) _ (dg _ rfl) λh' m l I y j h=>?_;apply aq;apply Gs j;show a_ (F h' m l (ku (br j)) (λb o e=>y b o (ee (br e)) (cm _ e)) h)
theorem HS{r:ah}{a b c:Int}{t u v:h_}{n:Nat}(d:Hx a b c=ae)(q:p0 a b c=n)(hlen:n<=2^24):Meets (Builtin.«tuple.__new__» ⟨[.type "tuple",.ref r],[]⟩)
   (λA R s=>A.handled=af/\Hn s.heap r a b c t u v /\∀(h':ay) (m:Nat) (l:Array ai),s.heap.objs.size<=h'.objs.size->(∀b o,s.heap.get? b=aa o->h'.get? b=aa o)->Ac (λi v=>∃t,v=.int (a+i*c) t) l n ->
    R (.ok (.ret (.ref h'.objs.size))) {s with heap:=h'.push {cls:=.type "tuple",data:=.seq l},toks:=m}) :=
 .of_wp λΩ w A R s h=>by
  obtain⟨y,p,h⟩:=h;have F:=sub_tuple_self;have h2:=init_tuple_lookup;have z:=madeHere_tuple
  wp_walk using yx (T:="range") (v:=.ref r) ⟨_,p,rfl⟩,vT (A:=A.in1) y p d q hlen
  intro h' m l hsz x j;have fits:l.size<=bc:=by rw[j.1,fg];lia
  wp_walk
  simpa using h h' m l hsz x j
theorem E1{Q:Q0c}{r:ah}{a b c:Int}{t u v:h_}{n:Nat}(y:A.handled=af)(p:Hn s.heap r a b c t u v)(d:Hx a b c=ae)(q:p0 a b c=n)(hlen:n<=2^24)
  (h:∀(h':ay) (m:Nat) (l:Array ai),s.heap.objs.size<=h'.objs.size->(∀b o,s.heap.get? b=aa o->h'.get? b=aa o)->Ac (λi v=>∃t,v=.int (a+i*c) t) l n->Q (.ref h'.objs.size) {s with heap:=h'.push {cls:=.type "tuple",data:=.seq l},toks:=m}):
  av (aw Ω w) A (call (.type "tuple") [.ref r]) Q E s :=
 He F.called_tuple (by decide) (F.typeCall_tuple_1 _) (F.newCall_tuple_1 _) (λobj=>a1k obj _) F.entry_tuple_new
  (HS d q hlen) ⟨y,p,λh' m l hsz x j=>⟨⟨_,dg _ rfl,rfl⟩,h h' m l hsz x j⟩⟩
variable{X:Cx}
def A6(K:X.calm=ae):gD X (.type "tuple") (λxs H Q=>∃p i j,xs=[.ref p]/\H p=aa (.rng i j) /\ -16777216<=i/\i<=16777216 /\ -16777216<=j/\j<=16777216/\j-i<=16777216 /\∀l,H l=af->Q (.ref l) (upd H l (.tup ((kX i (j-i).toNat).map V.int)))):=by
 intro π s σ H xs L Q I r h;obtain⟨p,i,j,rfl,J,Z,Y,h2,U,O,q⟩:=h;obtain⟨u,rfl,y⟩:=vals1 r;cases y;obtain⟨t,u,v,e⟩:=I.hok p _ J;have hsz:p0 i j 1=((j-i).toNat:Int):=by rw[zm];split<;>lia
 show E1 (a:=i) (b:=j) (c:=1) (n:=(j-i).toNat) (I.ok.hd K) e (zk ∅ ∅ ∅ ∅) hsz ∅ λh' x d hle z hit=>?_;have F:θ ((kX i (j-i).toNat).map V.int) d.toList:=zZ hit;have m:H h'.objs.size=af:=I.hok.fresh hle;show⟨.ref h'.objs.size,_,I.laid (t':=x) (o:=.tup ((kX i (j-i).toNat).map V.int)) (λb o e=>cm _ (z b o e)) hle ⟨?_,d.toList,F,⟨_,dg _ rfl,rfl,_,rfl⟩,DX.new _ _⟩,rfl,q _ m⟩;rw[az,lP,fg];lia
def Q7(L:X.calm=ae)(I:X.mg "tuple"=af)(d:X.mg "range"=af)(O:zN X [a] t)(K:Gl X "tuple":=by rfl)(h:Gl X "range":=by rfl)(F:ar [a] X.env=[(ag,eval a X.env)]:=by rfl)
  (o:ar [.Call (.Name "range" p2) [a] [] pos2] X.env=(ag,eval (.Call (.Name "range" p2) [a] [] pos2) X.env)::ar [] X.env:=by rfl):
  dB X (.Call (.Name "tuple" p) [.Call (.Name "range" p2) [a] [] pos2] [] ν) (λρ Q=>(t ρ λds=>match ds with|[.int j]=>(-16777216<=j/\j<=16777216)/\Q (.tup ((kX 0 j.toNat).map D.int))|_=>False)) :=
 imp (p6 (A6 L) K I vx (eK (uV h d O F) jY o) (by decide) (by decide) o (by rfl)) λσ H Q Z=>by
  obtain⟨S,ρ,Q3,U,x,z,k⟩:=Z;show⟨S,ρ,_,U,x,z,λvs H1 ds y Y q1=>?_⟩;split at q1
  .rename_i j;obtain⟨v,r,rfl,q,h2⟩:=Y.bQ;simp only[bC] at h2;subst h2;symm at q;subst q;show⟨j,rfl,λp m=>⟨p,0,j,rfl,aY,by lia,by lia,q1.1.1,q1.1.2,by have:=q1.1.2;lia,λl n=>?_⟩⟩;have J:H1 l=af:=(aQ m).free n;rw[Jt];show k _ _ _ ((y.trans (aQ m)).trans (aQ n)) ?_ q1.2;symm;show⟨l,_,rfl,aY,bC.ints.mpr rfl⟩
  .exact q1.elim
end
end L3
namespace L4
open PySem.Spec PyProof.Rows L2 L3
variable{X:Cx}
section
variable{tg:au}
theorem HU(z:X.calm=ae)(v:X.mg "tuple"=af)(l:X.mg "range"=af)(F:cD X a fa)(x:Gl X "tuple":=by rfl)(m:Gl X "range":=by rfl)(n:ar [a] X.env=[(ag,eval a X.env)]:=by rfl)
  (y:ar [.Call (.Name "range" p2) [a] [] pos2] X.env=(ag,eval (.Call (.Name "range" p2) [a] [] pos2) X.env)::ar [] X.env:=by rfl):
  cD X (.Call (.Name "tuple" p) [.Call (.Name "range" p2) [a] [] pos2] [] ν) (LR (aA fa aG)):=cE (Q7 z v l (aC F aZ n) x m n y) λρ Q I=>by
 obtain⟨d,e,q⟩:=I;obtain⟨ds,o,e⟩:=bnd e;show⟨ds,o,?_⟩;obtain⟨a,A,rfl⟩:=W8 o;split at e
 .rename_i j hj;cases hj;by_cases h:j.natAbs<=16777216
  .rw [Z_ h] at e;cases e;show⟨⟨by lia,by lia⟩,q⟩
  .rw [Zz h] at e;cases e
 .rename_i hj;cases hj
 .cases e
noncomputable def EO:F1
 |[.int i],Q=>Q (.int i)
 |[.bl b],Q=>Q (.int (if b=ae then 1 else 0))
 |_,_=>False
theorem aE3{K:ao}:C3 K (λxs H Q=>(∃i,xs=[.int i]/\Q (.int i) H) \/∃k,xs=[.bl k]/\Q (.int (if k then 1 else 0)) H) EO:=by
 intro S H xs ds Q3 Q j h a k
 match ds,a with
 |[.int i],a =>
  obtain⟨v,r,rfl,d,h2⟩:=h.bQ;simp only[bC] at h2;subst h2;symm at d;subst d;show .inl ⟨i,rfl,k _ H _ (ξ.refl H) (by symm) a⟩
 |[.bl b],a =>
  obtain⟨v,r,rfl,d,h2⟩:=h.bQ;simp only[bC] at h2;subst h2;symm at d;subst d;show .inr ⟨b,rfl,k _ H _ (ξ.refl H) (by symm) a⟩
theorem HV:k7 EO CW:=λds d Q e q=>by
 cases ds with
 |nil=>cases e
 |cons a ds =>
  cases a<;>first|(cases e;done)|skip
  all_goals (cases ds<;>first|(cases e;show q)|(cases e;done))
def Md(l:X.calm=ae)(a:X.mg "int"=af)(j:uW X [e] t)(d:Gl X "int":=by rfl)(h:Zr X e []:=by rfl):cD X (.Call (.Name "int" p) [e] [] ν) (cK CW t):=cE (NS PY aE3 Ap d a j (by decide) (by decide) h (by rfl)) (z5 HV)
end
open PySem.W
noncomputable def told(lt:Nat->Nat->Bool){α:Type}:pj α->α
 |.ret a=>a
 |.ask i j k=>told lt (k (lt i j))
theorem kK{α a:Type}(f:α->pj a):∀t:pj α,told lt (t.bind f)=told lt (f (told lt t))
 |.ret _=>rfl
 |.ask i j k=>kK f (k (lt i j))
section
variable{lt:Nat->Nat->Bool}
def Up(lt:Nat->Nat->Bool)(p:Array Nat)(k:Nat):Prop:=∀i j,i<j->j<k->lt (p.getD j 0) (p.getD i 0)=ag
def R1(lt:Nat->Nat->Bool)(p:Array Nat)(k:Nat):Prop:=∀i j,i<j->j<k->lt (p.getD i 0) (p.getD j 0)=ag
structure pA (lt:Nat->Nat->Bool):Prop where
 as:∀a b,lt a b=ae->lt b a=ag
 tr:∀a b c,lt b a=ag->lt c b=ag->lt c a=ag
theorem pA.YX(O:pA lt)(x:Nat):lt x x=ag:=by
 cases hb:lt x x with
 |false=>rfl
 |true=>have:=O.as _ _ hb;rw[hb] at this;show this
def iY{p:Array Nat}{i:Nat}:p.getD i 0=(p[i]?).getD 0:=by rw[Array.getD_eq_getD_getElem?]
def jP{p:Array Nat}{i j:Nat}(a:j<=p.size)(k:Nat):(iz p i j).getD k 0=if i<=k/\k<j then p.getD (i+j-1-k) 0 else p.getD k 0:=by unfold iz;rw[iY,getElem?_mirror_all a];split<;>rw[iY]
def z8(p:Array Nat)(i j:Nat):(iz p i j).size=p.size:=mirror_size _ _ _ _
def iZ(p:Array Nat)(i j:Nat):(iz p i j).Perm p:=mirror_perm _ _ _ _
theorem K7(O:pA lt)(p:Array Nat):∀f n,1<=n->Up lt p n->n<=told lt (jf p f n)/\told lt (jf p f n)<=n+f/\Up lt p (told lt (jf p f n))/\(told lt (jf p f n)<n+f->lt (p.getD (told lt (jf p f n)) 0) (p.getD (told lt (jf p f n)-1) 0)=ae)
 |0,n,h1,hu=>⟨bj _,bj _,hu,λh=>Zw h (jb _)⟩
 |f+1,n,h1,hu=>by
  show n<=told lt (if lt (p.getD n 0) (p.getD (n-1) 0)=ae then nj n else jf p f (n+1))/\told lt (if lt (p.getD n 0) (p.getD (n-1) 0)=ae then nj n else jf p f (n+1))<=n+(f+1)/\Up lt p (told lt (if lt (p.getD n 0) (p.getD (n-1) 0)=ae then nj n else jf p f (n+1)))/\(told lt (if lt (p.getD n 0) (p.getD (n-1) 0)=ae then nj n else jf p f (n+1))<n+(f+1)->lt (p.getD (told lt (if lt (p.getD n 0) (p.getD (n-1) 0)=ae then nj n else jf p f (n+1))) 0) (p.getD (told lt (if lt (p.getD n 0) (p.getD (n-1) 0)=ae then nj n else jf p f (n+1))-1) 0)=ae)
  cases hc:lt (p.getD n 0) (p.getD (n-1) 0) with
  |true=>show⟨bj _,by show n<=n+(f+1);lia,hu,λ_=>hc⟩
  |false =>
   rw[Zz bt];have l:Up lt p (n+1):=λi j o q=>by
    by_cases m:j<n
    .exact hu i j o m
    .have:j=n:=by lia
     subst this;by_cases hi:i=j-1
     .subst hi;show hc
     .exact O.tr _ _ _ (hu i (j-1) ∅ ∅) hc
   obtain⟨a,b,c,d⟩:=K7 O p f (n+1) ∅ l;show⟨by lia,by lia,c,λh=>d ∅⟩
def aE4(a:n<=p.size)(h:R1 lt p n):Up lt (iz p 0 n) n:=λi j l d=>by rw[jP a,jP a,Z_ ⟨by lia,d⟩,Z_ ⟨by lia,by lia⟩];show h _ _ ∅ ∅
def Last(lt:Nat->Nat->Bool)(p:Array Nat)(n q:Nat):Prop:=q+1<=n /\∀i j,n-(q+1)<=i->i<n->n-(q+1)<=j->j<n->lt (p.getD i 0) (p.getD j 0)=ag
def rev_last(m:n<=p.size)(h:R1 lt p n)(l:Last lt p n q):R1 lt (iz p (n-(q+1)) n) n:=λi j d a=>by
 have:=l.1;rw[jP m,jP m];by_cases o:n-(q+1)<=i
 .rw [Z_ ⟨o,by lia⟩,Z_ ⟨by lia,a⟩];show l.2 _ _ ∅ ∅ ∅ ∅
 .rw [Zz ∅];by_cases h2:n-(q+1)<=j
  .rw [Z_ ⟨h2,a⟩];show h _ _ ∅ ∅
  .rw [Zz ∅];show h i j d a
def mS(O:pA lt)(o:1<=n)(h:R1 lt p n)(l:lt (p.getD (n-1) 0) (p.getD n 0)=ag):R1 lt p (n+1):=λi j d m=>by
 by_cases a:j<n
 .exact h i j d a
 .have:j=n:=by lia
  subst this;by_cases hi:i=j-1
  .subst hi;show l
  .exact O.tr _ _ _ l (h i (j-1) ∅ ∅)
def XI(a:n<p.size):(iz p (n-(q+1)) n).getD n 0=p.getD n 0:=by rw[jP (ku a),Zz ∅]
theorem kD(O:pA lt):∀f (p:Array Nat) n q,1<=n->n+f<=p.size->R1 lt p n->Last lt p n q ->∀r,r=told lt (pf f p n q)->r.1.Perm p/\r.2.1<=n+f/\n<=r.2.1/\R1 lt r.1 r.2.1/\Last lt r.1 r.2.1 r.2.2
 |0,p,n,q,_,_,h,l,r,m=>by subst m;show⟨ua _,bj _,bj _,h,l⟩
 |f+1,p,n,q,h1,hs,h,l,r,m=>by
  have m:r=told lt (if lt (p.getD n 0) (p.getD (n-1) 0)=ae then(if q>0 then pf f (iz p (n-(q+1)) n) (n+1) 0 else pf f p (n+1) 0) else .ask (p.getD (n-1) 0) (p.getD n 0) λd=>if d=ae then .ret (p,n,q) else pf f p (n+1) (q+1)):=m;have one:∀p:Array Nat,Last lt p (n+1) 0:=λp=>⟨by lia,λi j a b c d=>by
   have F:i=n:=by lia
   have A:j=n:=by lia
   rw[F,A];show O.YX _⟩
  cases hc:lt (p.getD n 0) (p.getD (n-1) 0) with
  |true =>
   rw[hc,Z_ rfl] at m;have o:=O.as _ _ hc;by_cases x:q>0
   .rw [Z_ x] at m;have J:=rev_last ∅ h l;have y:=l.1;have I:R1 lt (iz p (n-(q+1)) n) (n+1):=by show mS O h1 J ?_;rw[XI ∅,jP ∅,Z_ ⟨by lia,by lia⟩];show O.tr _ (p.getD (n-1) 0) _ o (l.2 _ _ ∅ ∅ ∅ ∅)
    obtain⟨a,b,c,d,e⟩:=kD O f (iz p (n-(q+1)) n) (n+1) 0 ∅ (by rw[z8];lia) I (one _) r m;show⟨a.trans (iZ _ _ _),by lia,by lia,d,e⟩
   .rw [Zz x] at m;obtain⟨a,b,c,d,e⟩:=kD O f p (n+1) 0 ∅ ∅ (mS O h1 h o) (one _) r m;show⟨a,by lia,by lia,d,e⟩
  |false =>
   rw[hc,Zz bt] at m;have m:r=told lt (if lt (p.getD (n-1) 0) (p.getD n 0)=ae then nj (p,n,q) else pf f p (n+1) (q+1)):=m
   cases hd:lt (p.getD (n-1) 0) (p.getD n 0) with
   |true =>
    rw[hd,Z_ rfl] at m;subst m;show⟨ua _,by show n<=n+(f+1);lia,bj _,h,l⟩
   |false =>
    rw[hd,Zz bt] at m;have y:=l.1;have z:Last lt p (n+1) (q+1):=⟨by lia,λi j a b c d=>by
     by_cases hi:i<n
     .by_cases v:j<n
      .exact l.2 i j ∅ hi ∅ v
      .have:j=n:=by lia
       subst this;show O.tr _ (p.getD (j-1) 0) _ hd (l.2 i (j-1) ∅ hi ∅ ∅)
     .have:i=n:=by lia
      subst this;by_cases v:j<i
      .exact O.tr _ (p.getD (i-1) 0) _ (l.2 (i-1) j ∅ ∅ ∅ v) hc
      .have:j=i:=by lia
       subst this;show(one p).2 j j ∅ ∅ ∅ ∅⟩
    obtain⟨a,b,c,d,e⟩:=kD O f p (n+1) (q+1) ∅ ∅ (mS O h1 h hd) z r m;show⟨a,by lia,by lia,d,e⟩
def CM{p q:Array Nat}(h:p.Perm q):p.size=q.size:=h.size_eq
def N2(O:pA lt)(j:1<=n)(m:n<=nrem)(l:nrem<=p.size)(h:R1 lt p n)(r:Nat×Array Nat)(d:r=told lt (Hk n nrem p)):r.2.Perm p/\1<=r.1/\r.1<=nrem/\Up lt r.2 r.1:=by unfold Hk at d;rw[kK] at d;obtain⟨a,b,c,_⟩:=K7 O (iz p 0 n) (nrem-n) n j (aE4 ∅ h);subst d;show⟨iZ _ _ _,f_ j a,(by show told lt _<=nrem;lia),c⟩
def vU(O:pA lt){n nrem:Nat}{p:Array Nat}(K:1<=n)(J:n+1<=nrem)(I:nrem<=p.size)(h:R1 lt p (n+1))(r:Nat×Array Nat)(l:r=told lt (zv n nrem p)):r.2.Perm p/\1<=r.1/\r.1<=nrem/\Up lt r.2 r.1:=by
 unfold zv at l;rw[kK] at l;have one:Last lt p (n+1) 0:=⟨by lia,λi j a b c d=>by
  have A:i=n:=by lia
  have y:j=n:=by lia
  rw[A,y];show O.YX _⟩
 obtain⟨a,b,c,d,e⟩:=kD O (nrem-(n+1)) p (n+1) 0 ∅ ∅ h one _ rfl;generalize told lt (pf (nrem-(n+1)) p (n+1) 0)=z at a b c d e l;have F:=CM a;by_cases x:z.2.2>0
 .rw [Z_ x] at l;obtain⟨v,q,o,m⟩:=N2 O (n:=z.2.1) (nrem:=nrem) (p:=iz z.1 (z.2.1-(z.2.2+1)) z.2.1) ∅ ∅ (by rw[z8];lia) (rev_last ∅ d e) r l;show⟨v.trans ((iZ _ _ _).trans a),q,o,m⟩
 .rw [Zz x] at l;obtain⟨v,q,o,m⟩:=N2 O (n:=z.2.1) (nrem:=nrem) (p:=z.1) ∅ ∅ ∅ d r l;show⟨v.trans a,q,o,m⟩
def XJ(O:pA lt)(X:1<=n)(z:n<=p.size)(r:Nat×Array Nat)(h:r=told lt (zw n p)):r.2.Perm p/\1<=r.1/\r.1<=n/\Up lt r.2 r.1:=by
 unfold zw at h;rw[kK] at h;obtain⟨a,b,c,d⟩:=K7 O p (n-1) 1 (bj _) (λi j o v=>by lia);generalize told lt (jf p (n-1) 1)=m at a b c d h;by_cases q:(m == n)=ae
 .rw [Z_ q] at h;subst h;show⟨ua _,a,by show m<=n;lia,c⟩
 .rw [Zz q] at h;have q:m≠n:=λe=>q (by rw[e];simp);have l:=d ∅;by_cases h2:m>1
  .rw [Z_ h2] at h;have h:r=told lt (if lt (p.getD 0 0) (p.getD (m-1) 0)=ae then nj (m,p) else zv m n (iz p 0 m)):=h
   cases hc:lt (p.getD 0 0) (p.getD (m-1) 0) with
   |true =>
    rw[hc,Z_ rfl] at h;subst h;show⟨ua _,a,by show m<=n;lia,c⟩
   |false =>
    rw[hc,Zz bt] at h;have all:∀i j,i<m->j<m->lt (p.getD i 0) (p.getD j 0)=ag:=λi j hi v=>by
     have F:∀i,i<m->lt (p.getD 0 0) (p.getD i 0)=ag:=λi hi=>by
      by_cases I:i=m-1
      .subst I;show hc
      .exact O.tr _ _ _ (c i (m-1) ∅ ∅) hc
     have YX:∀x,lt x x=ag:=λx=>by
      cases hb:lt x x with
      |false=>rfl
      |true=>have:=O.as _ _ hb;rw[hb] at this;show this
     have A:lt (p.getD i 0) (p.getD 0 0)=ag:=by
      by_cases y:i=0
      .subst y;show YX _
      ·-- a later one is not less than the first one
       show c 0 i ∅ hi
     show O.tr _ _ _ (F j v) A
    have dn:R1 lt (iz p 0 m) (m+1):=by
     show mS O a (λi j o v=>?_) ?_
     .rw [jP ∅,jP ∅,Z_ ⟨by lia,by lia⟩,Z_ ⟨by lia,by lia⟩];show all _ _ ∅ ∅
     .rw [jP ∅,jP ∅,Z_ ⟨by lia,by lia⟩,Zz ∅];show O.tr _ (p.getD (m-1) 0) _ (O.as _ _ l) (all _ _ ∅ ∅)
    obtain⟨U,L,K,J⟩:=vU O a ∅ (by rw[z8];show z) dn r h;show⟨U.trans (iZ _ _ _),L,K,J⟩
  .rw [Zz h2] at h;have:m=1:=by lia
   subst this;have dn:R1 lt p (1+1):=mS O (bj _) (λi j o v=>by lia) (O.as _ _ l);show vU O (bj _) ∅ z dn r h
theorem z9(O:pA lt)(p:Array Nat)(k:Nat):∀f l r,l<=r->r<=k->r-l<=f->Up lt p k->(∀i,i<l->lt (p.getD k 0) (p.getD i 0)=ag)->(∀i,r<=i->i<k->lt (p.getD i 0) (p.getD k 0)=ag) ->
  told lt (jm p k f l r)<=k/\(∀i,i<told lt (jm p k f l r)->lt (p.getD k 0) (p.getD i 0)=ag) /\∀i,told lt (jm p k f l r)<=i->i<k->lt (p.getD i 0) (p.getD k 0)=ag
 |0,l,r,hlr,hr,hf,_,h1,h2=>by
  have:l=r:=by lia
  subst this;show⟨hr,h1,h2⟩
 |f+1,l,r,hlr,hr,hf,hu,h1,h2=>by
  unfold jm;by_cases a:l >= r
  .rw [Z_ a];have:l=r:=by lia
   subst this;show⟨hr,h1,h2⟩
  .rw [Zz a];show told lt (if lt (p.getD k 0) (p.getD ((l+r)/2) 0)=ae then jm p k f l ((l+r)/2) else jm p k f ((l+r)/2+1) r)<=k/\(∀i,i<told lt (if lt (p.getD k 0) (p.getD ((l+r)/2) 0)=ae then jm p k f l ((l+r)/2) else jm p k f ((l+r)/2+1) r)->lt (p.getD k 0) (p.getD i 0)=ag) /\∀i,told lt (if lt (p.getD k 0) (p.getD ((l+r)/2) 0)=ae then jm p k f l ((l+r)/2) else jm p k f ((l+r)/2+1) r)<=i->i<k->lt (p.getD i 0) (p.getD k 0)=ag
   cases hc:lt (p.getD k 0) (p.getD ((l+r)/2) 0) with
   |true =>
    rw[Z_ rfl];show z9 O p k f l ((l+r)/2) ∅ ∅ ∅ hu h1 λi hi d=>?_;by_cases h:i=(l+r)/2
    .subst h;show O.as _ _ hc
    .exact O.tr _ _ _ (O.as _ _ hc) (hu _ i ∅ d)
   |false =>
    rw[Zz bt];show z9 O p k f ((l+r)/2+1) r ∅ hr ∅ hu (λi hi=>?_) h2;by_cases h:i=(l+r)/2
    .subst h;show hc
    .exact O.tr _ _ _ (hu i ((l+r)/2) ∅ ∅) hc
def N3{p:Array Nat}{k l:Nat}(d:k<p.size)(h:l<=k)(i:Nat):(bubble p k (k-l)).getD i 0=if i=l then p.getD k 0 else if l<i/\i<=k then p.getD (i-1) 0 else p.getD i 0:=by
 rw[iY,getElem?_bubble d _ ∅,show k-(k-l)=l by lia];by_cases a:i=l
 .rw [Z_ a,Z_ a,iY]
 .rw [Zz a,Zz a];by_cases h2:l<i/\i<=k
  .rw [Z_ h2,Z_ h2,iY]
  .rw [Zz h2,Zz h2,iY]
theorem XM(O:pA lt):∀f (p:Array Nat) k,k+f<=p.size->Up lt p k->(told lt (zx f p k)).Perm p/\Up lt (told lt (zx f p k)) (k+f)
 |0,p,k,_,h=>⟨ua _,h⟩
 |f+1,p,k,hs,h=>by
  unfold zx;rw[kK];obtain⟨a,b,c⟩:=z9 O p k k 0 k ∅ (bj _) ∅ h (λi hi=>by lia) (λi hi x=>by lia);generalize told lt (jm p k k 0 k)=l at a b c;have v:k<p.size:=by lia
  have h2:Up lt (bubble p k (k-l)) (k+1):=λi j q y=>by
   rw[N3 v a,N3 v a];by_cases d:j=l
   .rw [Z_ d,Zz ∅,Zz ∅];show b i ∅
   .rw [Zz d];by_cases m:l<j/\j<=k
    .rw [Z_ m];by_cases n:i=l
     .rw [Z_ n];show c (j-1) ∅ ∅
     .rw [Zz n];by_cases o:l<i/\i<=k
      .rw [Z_ o];show h _ _ ∅ ∅
      .rw [Zz o];show h _ _ ∅ ∅
    .rw [Zz m,Zz ∅,Zz ∅];show h _ _ q ∅
  obtain⟨e,g⟩:=XM O f (bubble p k (k-l)) (k+1) (by rw[bubble_size];lia) h2;show⟨e.trans (a1A _ _ _),by rw[show k+(f+1)=k+1+f by lia];show g⟩
def N4(O:pA lt){n:Nat}(j:1<=n):(told lt (nh n)).Perm (Au (b_ n))/\Up lt (told lt (nh n)) n:=by
 unfold nh;rw[kK];obtain⟨a,b,c,d⟩:=XJ O (n:=n) (p:=Au (b_ n)) j (by simp) _ rfl;generalize told lt (zw n (Au (b_ n)))=r at a b c d;have l:r.2.size=n:=by rw[CM a];simp
 by_cases h:r.1<n
 .rw [Z_ h,show max r.1 1=r.1 by lia];obtain⟨e,g⟩:=XM O (n-r.1) r.2 r.1 ∅ d;show⟨e.trans a,by rw[show r.1+(n-r.1)=n by lia] at g;show g⟩
 .rw [Zz h];have:r.1=n:=by lia
  show⟨a,by rw[<- this];show d⟩
end
def uw(lt:Nat->Nat->Bool)(n:Nat):List Nat:=if n<2 then b_ n else(told lt (nh n)).toList
open Att
section
variable{Ω:bf}{w:ba}{A:bq}{s:ak}{Q:Bool->ak->Prop}
theorem XN:∀(d:Q0f) (vs:Q0f) (as bs:Q0e) (i:Nat) (fin:Bool),(fin=Zv (d.length<vs.length))->jt d as->jt vs bs->Q (fK as bs) s->KatLex Ω w A ae fin Q (d.zip vs) i s:=by
 intro d
 induction d with
 |nil =>
  intro vs as bs i fin j l h q;cases l
  cases h with
  |nil=>subst j;show q
  |cons b t' h=>subst j;simpa[KatLex,fK] using q
 |cons u d ih =>
  intro vs as bs i fin j l h q
  cases l with
  |cons a t l =>
   cases h with
   |nil=>subst j;simpa[KatLex,fK] using q
   |cons b t' h =>
    rename_i as vs bs;show kat_cons (a0n (kat_go (λe=>?_) (λe=>?_)))
    .have e:a=b:=by simpa using e
     show kat_yes (ih _ _ _ (i+1) fin (by rw[j];simp) l h ?_);simpa[fK,e] using q
    .have e:a≠b:=by simpa using e
     have q:Q (Zv (a<b)) s:=by simpa[fK,e] using q
     show kat_no ?_
     cases hc:(ae&&i == 0) with
     |true=>show oneLt_int q
     |false=>show kat_one _ _ (lt_int q)
end
noncomputable def N5(n:Nat){α:Type}:pj α->(α->Prop)->Prop
 |.ret a,Q=>Q a
 |.ask i j k,Q=>i<n/\j<n /\∀b,N5 n (k b) Q
theorem mT{n:Nat}{α d:Type}{f:α->pj d}{Q:d->Prop}:∀(t:pj α),N5 n t (λa=>N5 n (f a) Q)->N5 n (t.bind f) Q
 |.ret a,h=>h
 |.ask i j k,h=>⟨h.1,h.2.1,λb=>mT (k b) (h.2.2 b)⟩
def Rg(n:Nat)(p:Array Nat):Prop:=p.Perm (Au (b_ n))
theorem Rg.lt(h:Rg n p)(a:1<=n)(k:Nat):p.getD k 0<n:=by
 rw[iY]
 cases q:p[k]? with
 |none=>show a
 |some x =>
  have:x∈p:=Array.mem_of_getElem? q;have:=h.mem_iff.mp this;simpa using this
section
variable{n:Nat}
theorem E2(a:1<=n)(h:Rg n p)(q:∀m,Q m):∀f m,N5 n (jf p f m) Q
 |0,m=>q m
 |f+1,m=>⟨h.lt a _,h.lt a _,λb=>by
  cases b with
  |true=>show q m
  |false=>show E2 a h q f (m+1)⟩
theorem tH(a:1<=n)(q:∀r,Rg n r.1->Q r):∀f p m k,Rg n p->N5 n (pf f p m k) Q
 |0,p,m,k,h=>q _ h
 |f+1,p,m,k,h=>⟨h.lt a _,h.lt a _,λb=>by
  cases b with
  |true =>
   show N5 n (if k>0 then _ else _) Q;by_cases j:k>0
   .rw [Z_ j];show tH a q f _ _ _ ((iZ _ _ _).trans h)
   .rw [Zz j];show tH a q f _ _ _ h
  |false=>show⟨h.lt a _,h.lt a _,λd=>by
    cases d with
    |true=>show q _ h
    |false=>show tH a q f _ _ _ h⟩⟩
def HW(d:1<=n){Q:Nat×Array Nat->Prop}(q:∀r,Rg n r.2->Q r){m k:Nat}{p:Array Nat}(h:Rg n p):N5 n (Hk m k p) Q :=
 mT _ (E2 d ((iZ _ _ _).trans h) (λa=>q (a,iz p 0 m) ((iZ _ _ _).trans h)) _ _)
def tI(a:1<=n){Q:Nat×Array Nat->Prop}(q:∀r,Rg n r.2->Q r){m k:Nat}{p:Array Nat}(h:Rg n p):N5 n (zv m k p) Q :=
 mT _ (tH a (λr d=>by
  by_cases j:r.2.2>0
  .rw [Z_ j];show HW a q ((iZ _ _ _).trans d)
  .rw [Zz j];show HW a q d) _ _ _ _ h)
def Q8(a:1<=n){Q:Nat×Array Nat->Prop}(q:∀r,Rg n r.2->Q r){k:Nat}{p:Array Nat}(h:Rg n p):N5 n (zw k p) Q :=
 mT _ (E2 a h (λm=>by
  by_cases e:(m == k)=ae
  .rw [Z_ e];show q _ h
  .rw [Zz e];by_cases d:m>1
   .rw [Z_ d];show⟨h.lt a _,h.lt a _,λc=>by
     cases c with
     |true=>show q _ h
     |false=>show tI a q ((iZ _ _ _).trans h)⟩
   .rw [Zz d];show tI a q h) _ _)
theorem u5(a:1<=n)(h:Rg n p)(q:∀m,Q m)(k:Nat):∀f l r,N5 n (jm p k f l r) Q
 |0,l,r=>q l
 |f+1,l,r=>by
  unfold jm;by_cases e:l >= r
  .rw [Z_ e];show q l
  .rw [Zz e];show⟨h.lt a _,h.lt a _,λc=>by
    cases c with
    |true=>show u5 a h q k f _ _
    |false=>show u5 a h q k f _ _⟩
theorem N6(a:1<=n){Q:Array Nat->Prop}(q:∀p,Q p):∀f p k,Rg n p->N5 n (zx f p k) Q
 |0,p,k,h=>q p
 |f+1,p,k,h=>mT _ (u5 a h (λl=>N6 a q f _ _ ((a1A _ _ _).trans h)) k _ _ _)
def HX(a:1<=n){Q:Array Nat->Prop}(q:∀p,Q p):N5 n (nh n) Q :=
 mT _ (Q8 a (λr d=>by
  by_cases e:r.1<n
  .rw [Z_ e];show N6 a q _ _ _ d
  .rw [Zz e];show q _) (ua _))
variable{X:Cx}
def fZ(a:Q0a)(i:Nat):List Int:=(a[i]?).getD []
theorem E3(h:∀i j (C:Bool->ak->Prop),i<n->j<n->C (lt i j) s->vk Ω w A κ vs i j C s){α:Type}:∀(t:pj α) (Q:α->ak->Prop),N5 n t (λ_=>True)->Q (told lt t) s->t.kasWp (vk Ω w A κ vs) Q s
 |.ret a,Q,_,q=>q
 |.ask i j k,Q,sf,q=>h i j _ sf.1 sf.2.1 (E3 h (k (lt i j)) Q (sf.2.2 _) q)
def K8(K:ao):List V->Hp->VK->Prop:=λxs H Q=>∃(a:ah) (h:List ah) (d:Q0a),xs=[.ref a]/\H a=aa (.lst (h.map V.ref))/\h.length=d.length/\2<=d.length/\d.length<64 /\
 (∀(j:Nat) (p:ah) (t:Q0e),h[j]?=aa p->d[j]?=aa t->fJ K H p (t.map V.int)/\t≠[]) /\
 ∀l:List Nat,l.Perm (b_ d.length)->(∀i j:Nat,i<j->j<d.length->fK (fZ d (l.getD j 0)) (fZ d (l.getD i 0))=ag) ->∀q,H q=af->Q (.ref q) (upd H q (.lst (l.map λi=>V.ref (h.getD i 0))))
theorem u6:∀{a:List ah} {d:Q0f},θ (a.map V.ref) d->d=a.map cz
 |[],_,.nil=>rfl
 |p::a,_,.cons r t=>by rw[u6 t];rw[show _=cz p from r];rfl
theorem dN.live(x:L2.dN P w H h a o):∃u,h.get? a=aa u:=by
 cases o with
 |lst xs=>obtain⟨_,_,_,_,e⟩:=x;show⟨_,e⟩
 |tup xs=>obtain⟨_,_,_,⟨_,e,_⟩,_⟩:=x;show⟨_,e⟩
 |dK χ=>obtain⟨_,_,_,_,o,_,_,e,_⟩:=x;show⟨_,e⟩
 |dT χ=>obtain⟨_,_,_,_,o,_,_,e,_⟩:=x;show⟨_,e⟩
 |dX ob χ=>obtain⟨_,_,e,_⟩:=x;show⟨_,e⟩
 |set S n=>obtain⟨o,_,_,_,e,_⟩:=x;show⟨_,e⟩
 |ins C dx fs=>obtain⟨_,_,_,e,_⟩:=x;show⟨_,e⟩
 |own y=>obtain⟨_,e⟩:=x;show⟨_,e⟩
 |xd fs=>obtain⟨_,⟨_,_,_,e,_⟩,_⟩:=x;show⟨_,e⟩
 |rng lo hi=>obtain⟨_,_,_,e⟩:=x;show⟨_,e⟩
 |w4 ob u=>obtain⟨e,_⟩:=x;show⟨_,e⟩
 |M6 q=>obtain⟨_,e,_⟩:=x;show⟨_,e⟩
 |met f y=>show⟨_,(show h.get? a=aa _ from x)⟩
 |ext φ=>obtain⟨_,⟨_,e⟩,_⟩:=x;show⟨_,e⟩
def E4:gD X (.builtin "sorted") (K8 X.K):=by
 intro π s σ H xs A Q I r h;obtain⟨a,F,J,rfl,ha,hl,h2,ft,ht,q⟩:=h;obtain⟨u,rfl,ru⟩:=vals1 r;cases ru;obtain⟨ι,rv,pl,hz⟩:=I.list (eZ.of ha);have Mc:=u6 rv;subst Mc;obtain⟨m,hns,_⟩:=id I.loc;have hL:=I.lt;have hn:(F.map cz).length=J.length:=by rw[az];show hl
 have tup:∀(j:Nat),j<J.length ->∃(p:ah) (A:Q0f),F[j]?=aa p/\ia s.heap p A.toArray/\jt A (fZ J j)/\fZ J j≠[]/\(F.map cz).getD j jg=.ref p:=λj hj=>by
  obtain⟨q1,q2⟩:=ht j F[j] J[j] (by simp[hl,hj]) (by simp[hj]);obtain⟨A,ru,pt,_⟩:=I.tuple q1;show⟨F[j],A,by simp[hl,hj],pt,?_,?_,by simp[hl,hj]⟩
  .unfold fZ;rw[bx hj];show intsAre_of ru
  .unfold fZ;rw[bx hj];show q2
 show kat_sorted (h₀:=zH s.heap) (L:=X.env.locals) (m:=m) (news:=ledger s.heap X.env.locals s.heap.objs.size) (vs:=F.map cz) (VT hns) (λp hp=>?_) pl.isList ∅ ∅ λD e1 h' F' N' hD=>?_
 .obtain ⟨x,o⟩:=p;obtain⟨n1,_,e⟩:=jM.mp hp;show⟨e,n1,rG _ _⟩
 have U:∀b o,b≠X.env.locals->s.heap.get? b=aa o->h'.get? b=aa o:=λb o Y e =>
  (N' (b,o) (e_ _ (jM.mpr ⟨Y,ee (br e),e⟩))).1
 have E5:∀{p:ah} {A:Array ai},ia s.heap p A->p≠X.env.locals:=λ{p A} ⟨o,e,c,n,d⟩ z=>by subst z;obtain⟨o2,es,ep,e2,d2,_⟩:=hns;rw[e] at e2;cases e2;rw[d] at d2;cases d2
 -- the kind: tuples that begin with ints
 have kt:∀(Z:List ah) (fs:Q0f),Z.length=fs.length->(∀(j:Nat) (p:ah) (f:ai),Z[j]?=aa p->fs[j]?=aa f ->∃A:Array ai,ia h' p A/\A[0]?=aa f)->zz h' (Z.map cz) fs:=by
  intro Z
  induction Z with
  |nil=>intro fs hf _;cases fs;show trivial;simp at hf
  |cons p Z ih =>
   intro fs hf h
   cases fs with
   |nil=>simp at hf
   |cons f fs =>
    obtain⟨A,⟨o,e,c,n,d⟩,u0⟩:=h 0 p f rfl rfl;show a0Q e c d u0 (ih fs (by simpa using hf) λj p' f' h1 h2=>h (j+1) p' f' (by simpa using h1) (by simpa using h2))
 have heads:∃fs:Q0f,fs.length=F.length/\(∀v∈fs,∃i t,v=js i t) /\∀(j:Nat) (p:ah) (f:ai),F[j]?=aa p->fs[j]?=aa f ->∃A:Array ai,ia h' p A/\A[0]?=aa f:=by
  have:∀k,k<=F.length ->∃fs:Q0f,fs.length=k/\(∀v∈fs,∃i t,v=js i t) /\∀(j:Nat) (p:ah) (f:ai),F[j]?=aa p->fs[j]?=aa f ->∃A:Array ai,ia h' p A/\A[0]?=aa f:=by
   intro k
   induction k with
   |zero=>intro _;show⟨[],rfl,λv hv=>(nomatch hv),λj p f _ e=>by simp at e⟩
   |succ k ih =>
    intro hk;obtain⟨fs,f1,f2,f3⟩:=ih ∅;obtain⟨p,A,hp,pt,hi,ne,_⟩:=tup k ∅;obtain⟨i,t,us',rfl⟩:∃i t us',A=js i t::us':=by
     generalize fZ J k=w at hi ne
     cases hi with
     |nil=>show Zw rfl ne
     |cons n t r=>show⟨n,t,_,rfl⟩
    show⟨fs++[js i t],by simp[f1],λv hv=>?_,λj p' f' h1 h2=>?_⟩
    .rcases gn.mp hv with h|h
     .exact f2 v h
     .exact ⟨i,t,cc.mp h⟩
    .by_cases hj:j<k
     .rw [jv ∅] at h2;show f3 j p' f' h1 h2
     .have:j=k:=by have:=(cg.mp h2).1;simp[f1] at this;lia
      subst this;rw[ju ∅,f1,Iq] at h2;rw[hp] at h1;cases h1;have h2:js i t=f':=by simpa using h2
      subst h2;obtain⟨o,e,c⟩:=id pt;show⟨_,⟨o,U p o (E5 pt) e,c⟩,by simp⟩
  show this F.length (bj _)
 obtain⟨fs,f1,f2,f3⟩:=heads;show kat_kind (T:=.type "int") (kt F fs f1.symm f3) ∅ (λv hv=>?_) (by decide) ?_
 .obtain ⟨i,t,rfl⟩:=f2 v hv;show a0P rfl
 have O:pA λi j=>fK (fZ J i) (fZ J j):=⟨λx y a=>CY _ _ a,λx y z a b=>CZ _ _ _ a b⟩;rw[hn];show E3 (n:=J.length) (lt:=λi j=>fK (fZ J i) (fZ J j)) (λi j C hi hj hC=>?_) _ _ (HX ∅ λ_=>trivial) ?_
 .obtain ⟨p,A,hp,pt,hi',_,ep⟩:=tup i hi;obtain⟨p2,us2,hp2,pt2,hi2,_,ep2⟩:=tup j hj;unfold vk;rw[ep,ep2,show(pq "int" !=pq "tuple")=ae from by decide];obtain⟨o,e,c,n,d⟩:=id pt;obtain⟨o2,e2,c2,n2,d2⟩:=id pt2;show kat_lt (s:={s with heap:=h' }) (U p o (E5 pt) e) d (U p2 o2 (E5 pt2) e2) d2 (XN A us2 _ _ 0 _ rfl hi' hi2 hC)
 obtain⟨sp,su⟩:=N4 O (n:=J.length) ∅;generalize told (λi j=>fK (fZ J i) (fZ J j)) (nh J.length)=pp at sp su;show KasFin.intro F' N' (UpdF.head λp hp z=>jb _ (z▸hD p hp)) λh'' c F'' N''=>?_;have nD:D≠X.env.locals:=(N' _ (cb ..)).2.1;have dead:s.heap.get? D=af:=by
  cases e:s.heap.get? D with
  |none=>rfl
  |some o=>show Zw (hD (D,o) (jM.mpr ⟨nD,ee (br e),e⟩)) (jb _)
 have tJ:∀b o,b≠X.env.locals->s.heap.get? b=aa o->h''.get? b=aa o:=λb o Y e =>
  (N'' (b,o) (e_ _ (jM.mpr ⟨Y,ee (br e),e⟩))).1
 have Ln:=(N'' (D,_) (cb ..)).1;have hfr:H D=af:=by
  cases e:H D with
  |none=>rfl
  |some u =>
   obtain⟨o,eo⟩:=dN.live (I.hok D u e);rw[dead] at eo;cases eo
 have neD:∀{b:ah} {o:ax},s.heap.get? b=aa o->b≠D:=λ{b o} e z=>by rw[z,dead] at e;cases e
 have Q9:∀{b:ah} {u:HO},H b=aa u->b≠D:=λ{b u} e z=>by rw[z,hfr] at e;cases e
 have hlp:pp.toList.Perm (b_ J.length):=by simpa using sp.toList
 show⟨.ref D,upd H D (.lst (pp.toList.map λi=>V.ref (F.getD i 0))),?_,rfl,q pp.toList hlp (λi j hij hj=>?_) D hfr⟩
 .show L2.Φ X π σ _ {s with heap:=h'' };show I.step (s:=s) (h':=h'') (g':=s.gens) (t':=s.toks) (d':=s.drawn) (ch:=[]) (λb Y=>nomatch Y) (λb o Y _ _ e _=>tJ b o Y e) (λb o Y _ _ e _=>⟨o.slots,tJ b o Y e⟩) (λb o _ e n=>by rw[bB (neD e)];show n) (λb o _ e=>?_)
   (λb xs e=>by rw[bB (Q9 e)];show e) (λb o u e=>by rw[bB (Q9 e)];show e) (λb F e=>by rw[bB (Q9 e),e]) (λm2 hm2=>?_) ?_ I.bare
  .by_cases Y:b=X.env.locals
   .subst Y;obtain⟨o2,_,_,e2,_⟩:=F''.ns;show⟨o2,e2⟩
   .exact ⟨o,tJ b o Y e⟩
  .have:m2=m:=by
    obtain⟨oa,ea,pa,h1,h2,_,h3⟩:=hm2;obtain⟨ob,eb,pb,k1,k2,_,k3⟩:=hns;rw[h1] at k1;cases k1;rw[h2] at k2;cases k2
    funext x
    rw[<- h3,<- k3]
   subst this;show F''.ns
  .intro b u e;by_cases Y:b=D
   .subst Y;rw[aY] at e;cases e;show⟨?_,pp.toList.map λi=>cz (F.getD i 0),c,?_,Ln.trans ?_⟩
    .rw [az,hlp.length_eq,oi,fg];lia
    .have:∀l:List Nat,θ (l.map λi=>V.ref (F.getD i 0)) (l.map λi=>cz (F.getD i 0)):=λl=>by
      induction l with
      |nil=>show .nil
      |cons a l ih=>show .cons rfl ih
     show this _
    .have:(pp.toList.map λi=>(F.map cz).getD i jg)=pp.toList.map λi=>cz (F.getD i 0):=gk λi hi=>by
      have:i<J.length:=by simpa using hlp.mem_iff.mp hi
      simp[hl,this]
     rw[this]
   .rw [bB Y] at e;show(I.hok b u e).stay (λc v hc ev=>tJ c v (λz=>?_) ev) (λc ec=>by rw[bB (Q9 ec)];show ec) (λc ys ec=>by rw[bB (Q9 ec)];show ec) λc o u ec=>by rw[bB (Q9 ec)];show ec
    subst z;rcases hc with hc|hc
    .rw [<- hc,I.free] at e;cases e
    .rw [I.free] at hc;cases hc
 .have:=su i j hij hj;rw[iY,iY] at this;simpa using this
theorem XQ(ho:s.heap.get? a=aa (seqObj "list" #[v] n))
  (h:P (.done (.ret .none)) {s with heap:=sortedHeap s.heap a [v] #[v]}):av (aw Ω w) A (Builtin.«list.sort» ⟨[.ref a],[]⟩) P E s:=by
 rw[list_sort_plain];have l:=br ho;show aq (Ia ho rfl (aq (rn ho rfl ?_)));have j:=vw ho (λ_=>(#[]:Array ai));show aq (An j rfl (aq (Gr (aq (vi (iy ?_))))));have d:(((s.heap.update a (fm λ_=>(#[]:Array ai))).push (seqObj "tuple" #[v] 0)).push (seqObj "list" #[] 0)).get? a=_:=cm _ (cm _ j);show av (aw Ω w) A _ P E {s with heap:=((s.heap.update a (fm λ_=>(#[]:Array ai))).push (seqObj "tuple" #[v] 0)).push (seqObj "list" #[] 0)};dsimp only;rw[Z_ (show(#[v]:Array ai).size<2 from vz 1),Z_ (show(#[v]:Array ai).size<2 from vz 1)];show aq (a_ ?_);rw[StateT.run_pure];show aq (a_ (aq (An d rfl (aq (rn d rfl ?_ (hsz2:=?_))))))
 .simp only[bne_self_eq_false,qi,if_false];have e:(arrOf (a1G general' ((#[v]:Array ai).zip #[v]) #[] 7 af)).map (·.2)=#[v]:=by show((#[v]:Array ai).zip #[v]).map (·.2)=#[v];simp
  rw[e];show a_ h
 .show (((#[v]:Array ai).zip #[v]).map (·.2)).size<=bc+1;simp
def K9:List V->Hp->VK->Prop:=λxs H Q=>∃(a:ah) (x:V),xs=[.ref a]/\H a=aa (.lst [x]) /\∀q,H q=af->Q (.ref q) (upd H q (.lst [x]))
def E6:gD X (.builtin "sorted") K9:=by
 intro π s σ H xs L Q I r h;obtain⟨a,x,rfl,A,q⟩:=h;obtain⟨u,rfl,y⟩:=vals1 r;cases y;obtain⟨K,p,z,O⟩:=I.list (eZ.of A);obtain⟨v,rfl,l⟩:=vals1 p;show a1n Ib H_ Ie (a1E (.ref a)) (show av _ _ (Builtin.«sorted» _) _ _ _ from ?_);unfold Builtin.«sorted»;show aq (m:=checkCount "sorted" 1 1 _) (a_ (aq (collect_list z.isList (aq (vi ?_)))));have hsz:((s.heap.push (seqObj "list" #[] 0)).update s.heap.objs.size (fm (· ++ [v].toArray))).objs.size=s.heap.objs.size+1:=by rw[Heap.size_update,size_push']
 have d:(((s.heap.push (seqObj "list" #[] 0)).update s.heap.objs.size (fm (· ++ [v].toArray))).push (seqObj "list" [v].toArray 0)).get? (s.heap.objs.size+1)=aa (seqObj "list" #[v] 0):=by rw[<- hsz];show dg _ rfl
 show av _ _ _ _ _ {s with heap:=((s.heap.push (seqObj "list" #[] 0)).update s.heap.objs.size (fm (· ++ [v].toArray))).push (seqObj "list" [v].toArray 0)};rw[hsz];show aq (iy (j_ Hz ⟨_,d,rfl⟩ Ig (XQ d ⟨_,rfl,?_⟩) (a1F _)));show a_ ⟨.ref (s.heap.objs.size+1),rfl,?_⟩;obtain⟨F,j⟩:=a1x s.heap [v] #[v];have J:L2.Φ X π σ (upd H (s.heap.objs.size+1) (.lst [x])) {s with heap:=sortedAll s.heap [v] #[v]} :=
  I.laid (t':=s.toks) (λb o e=>a1w e) (qb _) ⟨by rw[fg];simp,[v],F,.cons l .nil,by simpa[seqObj] using j⟩
 show⟨.ref _,_,J,rfl,q _ (I.hok.fresh (qb _))⟩
theorem E7:gD X (.builtin "sorted") (λxs H Q=>NU xs H Q\/K9 xs H Q\/K8 X.K xs H Q):=by
 intro π s σ H xs a Q I r h;rcases h with h|h|h
 .exact tE π s σ H xs a Q I r h
 .exact E6 π s σ H xs a Q I r h
 .exact E4 π s σ H xs a Q I r h
def XR:F1
 |[.lst ds],Q=>∃a,lU ds=aa a/\a.length<64/\(∀t∈a,t≠[])/\Q (.lst ((mD a).map rO))
 |_,_=>False
def XS(h:R7 d=aa t):d=rO t:=by
 cases d<;>first|cases h;done|skip
 rename_i ds;unfold rO;rw[<- ints_of h]
theorem u7:∀{ds:List D} {a:Q0a},lU ds=aa a->ds=a.map rO
 |[],a,h=>by cases h;rfl
 |d::ds,a,h=>by unfold lU at h;obtain⟨t,l,h⟩:=bnd h;obtain⟨m,j,rfl⟩:=wH h;rw[bo,XS l,u7 j]
def aE5{K:ao}{S:ah->Prop}{H:Hp}{t:Q0e}{v:V}(h:Dn K S H (rO t) v):∃p,v=.ref p/\H p=aa (.tup (t.map V.int)):=by unfold rO at h;symm at h;obtain⟨a,xs,rfl,d,j⟩:=h;rw[bC.ints.mp j] at d;show⟨a,rfl,d⟩
theorem AA{K:ao}{S:ah->Prop}{H:Hp}:∀{d:Q0a} {ys:List V},bC K S H (d.map rO) ys ->∃a:List ah,ys=a.map V.ref/\a.length=d.length /\∀(j:Nat) (p:ah) (t:Q0e),a[j]?=aa p->d[j]?=aa t->H p=aa (.tup (t.map V.int))
 |[],ys,h=>by simp only[oh,bC] at h;show⟨[],h,rfl,λj p t e=>by simp at e⟩
 |t::d,ys,h=>by
  obtain⟨v,r,rfl,z,h2⟩:=bC.bQ h;obtain⟨p,rfl,o⟩:=aE5 z;obtain⟨a,rfl,x,y⟩:=AA h2;show⟨p::a,rfl,by simp[x],λj q u m l=>?_⟩
  cases j with
  |zero=>cases m;cases l;show o
  |succ j=>show y j q u (by simpa using m) (by simpa using l)
def HY(a:Q0a):(b_ a.length).map (fZ a)=a:=by
 show Be λi=>?_;rw[cf];by_cases h:i<a.length
 .rw [tm h];simp[fZ,h]
 .rw [km (by simpa using h),km (by simpa using h)];rfl
theorem XT{K:ao}:C3F K (λxs H Q=>NU xs H Q\/K9 xs H Q\/K8 K xs H Q) XR:=by
 intro S H xs ds Q3 Q fc hd d k
 match ds,d with
 |[.lst es],d =>
  obtain⟨v,r,rfl,h1,h2⟩:=hd.bQ;simp only[bC] at h2;subst h2;symm at h1;obtain⟨a,ys,rfl,Z,sa,da⟩:=h1;obtain⟨L,e,I,h,q⟩:=d;rw[u7 e] at da;obtain⟨A,rfl,m,y⟩:=AA da;have one:∀(p:ah) (t:Q0e) (H':Hp) (S':ah->Prop),ξ H H'->H p=aa (.tup (t.map V.int))->Dn K S' H' (rO t) (.ref p):=λp t H' S' O o=>by unfold rO;symm;show⟨p,_,rfl,O _ _ o,bC.ints.mpr rfl⟩
  match L,m,y,I,h,q with
  |[],m,y,I,h,q =>
   have:A=[]:=qd.mp m;subst this;show .inl ⟨a,[],rfl,Z,by decide,λU o _ p d=>?_⟩;have:U=[]:=List.perm_nil.mp o;subst this;show k p [] _ [] d aY (aQ d) (by simp only[bC]) q
  |[t],m,y,I,h,q =>
   obtain⟨p,rfl⟩:∃p,A=[p]:=by
    match A,m with
    |[p],_=>show⟨p,rfl⟩
   show .inr (.inl ⟨a,.ref p,rfl,Z,λl d=>k l [.ref p] _ [rO t] d aY (aQ d) (bC.one (one p t _ _ (aQ d) (y 0 p t rfl rfl))) q⟩)
  |t1::t2::L,m,y,I,h,q =>
   generalize hT:t1::t2::L=T at *;show .inr (.inr ⟨a,A,T,rfl,Z,m,by rw[<- hT];simp,I,λj p t e1 e2=>⟨fJ.of (y j p t e1 e2),h t (lh e2)⟩,λJ o hu l d=>?_⟩);have hlen:J.length=T.length:=by rw[o.length_eq,oi]
   have es:mD T=J.map (fZ T):=by
    show C4 ((gH T).trans ?_) (rP T) ?_
    .have:=(o.map (fZ T)).symm;rw[HY] at this;show this
    .rw [UpT,si,Aw];intro i j hi hj Y;have:=hu i j Y ∅;simpa[hi,hj] using this
   have dn:∀(H':Hp),ξ H H' ->∀z:List Nat,(∀i∈z,i<T.length)->bC K (λx=>S x/\x≠l) H' (z.map λi=>rO (fZ T i)) (z.map λi=>V.ref (A.getD i 0)):=by
    intro H' O z
    induction z with
    |nil=>intro _;show bC.nil
    |cons i z ih =>
     intro F;have hi:=F i cb;show bC.cons (one _ _ _ _ O ?_) (ih λx hx=>F x (e_ _ hx));show y i _ _ (by simp[m,hi]) (by simp[fZ,hi])
   show k l _ _ (J.map λi=>rO (fZ T i)) d aY (aQ d) (dn _ (aQ d) J λi hi=>by simpa using o.mem_iff.mp hi) ?_;rw[es,dh] at q;show q
def HZ:k7 XR qP:=λds d Q e q=>by
 unfold qP at e;split at e
 .rename_i a;obtain⟨j,m,e⟩:=bnd e;by_cases h:j.length<64/\j.all (λt=>!t.isEmpty)=ae
  .rw [Z_ h] at e;cases e;show⟨j,m,h.1,λt l z=>?_,q⟩;have:=gx.mp h.2 t l;rw[z] at this;cases this
  .rw [Zz h] at e;cases e
 .cases e
def XU(a:X.mg "sorted"=af)(j:uW X [e] t)(d:Gl X "sorted":=by rfl)(h:Zr X e []:=by rfl):kE X (.Call (.Name "sorted" p) [e] [] ν) (cK qP t):=cF (NR E7 XT Ao d a j (by decide) (by decide) h (by rfl)) (z5 HZ)
end
open PySem.SeqAt
def Wx(i:Nat){st:bz}{f:SF}(h:qL X st f):qL X st (yq i f) :=
 jR h λB σ H j=>by obtain⟨H₀,S,w,ρ,G,E,d,st,a,ok⟩:=j;show⟨H₀,S,w,freeze ρ i,G,E,d,st.frozen,a,ok⟩
end L4
namespace L5
open PySem.Spec PyProof.Rows L2 L3 L4
theorem u9(x:dN P w H h a o):∃u,h.get? a=aa u:=by
 cases o with
 |lst xs=>obtain⟨_,_,_,_,e⟩:=x;show⟨_,e⟩
 |tup xs=>obtain⟨_,_,_,⟨u,e,_⟩,_⟩:=x;show⟨_,e⟩
 |dK χ=>obtain⟨_,_,_,_,o,_,_,e,_⟩:=x;show⟨_,e⟩
 |dT χ=>obtain⟨_,_,_,_,o,_,_,e,_⟩:=x;show⟨_,e⟩
 |dX ob χ=>obtain⟨_,_,e,_⟩:=x;show⟨_,e⟩
 |set S n=>obtain⟨o,_,_,_,e,_⟩:=x;show⟨_,e⟩
 |ins C dx fs=>obtain⟨_,_,_,e,_⟩:=x;show⟨_,e⟩
 |own y=>obtain⟨_,e⟩:=x;show⟨_,e⟩
 |xd fs=>obtain⟨_,⟨_,_,_,e,_⟩,_⟩:=x;show⟨_,e⟩
 |rng lo hi=>obtain⟨_,_,_,e⟩:=x;show⟨_,e⟩
 |w4 ob u=>obtain⟨e,_⟩:=x;show⟨_,e⟩
 |M6 q=>obtain⟨_,e,_⟩:=x;show⟨_,e⟩
 |met f y=>show⟨_,(show h.get? a=aa _ from x)⟩
 |ext φ=>obtain⟨_,⟨_,e⟩,_⟩:=x;show⟨_,e⟩
variable{X:Cx}
section
variable{π:Q0b}{σ:L2.St}{H:Hp}{s:ak}{h':ay}{e:ah}{cls a0:ai}{P:List ah}
def flown(I:Φ X π σ H s)(T:rH X π H s e cls a0 P)(J:∀b o,b∉P->b∉frs X.stack->s.heap.get? b=aa o->h'.get? b=aa o)(F:s.heap.UpToSlots h'):Φ X π σ H {s with heap:=h' }:=by
 have frame:∀b∈frs X.stack,∃o,s.heap.get? b=aa o /\∀vs,o.data≠.fields vs:=λb h=>(I.stack.mem h).2;have old:∀b o,X.s₀.heap.get? b=aa o->b∉P:=λb o q h=>by rw[T.new b h] at q;cases q
 have E5:∀b o,X.s₀.heap.get? b=aa o->b≠X.env.locals:=λb o q=>ee (fw (br q) I.ok.above);have cellK:∀c v,s.heap.IsCell c v->h'.IsCell c v:=λc v Wv=>by
  obtain⟨o,ho,hd⟩:=Wv;obtain⟨O,q⟩:=F c o ho λvs z=>by rw[hd] at z;cases z
  show⟨_,q,hd⟩
 obtain⟨m,hn,hl⟩:=id I.loc;show⟨I.ok,I.os,I.bare,⟨λb o a n h A=>?_,λb o a n h A=>?_,I.ω.free,λb o a A=>?_,I.ω.tups,I.ω.vY,I.ω.uP⟩,⟨m,F.ns hn,λi x v h1 h2 h3=>?_⟩,λx c Y=>?_,I.free,I.iH,λp hp=>?_,λb ob a=>?_,I.len⟩
 .exact J b o (old b o a) (λz=>(bh.mp (I.rD b z)).elim (E5 b o a) h) (I.ω.keep b o a n h A)
 .obtain ⟨O,q⟩:=I.ω.slot b o a n h A;obtain⟨_,o2,K,y⟩:=I.ok.rC.mem h;rw[a] at K;obtain rfl:=cx K;obtain⟨L,q2⟩:=F b {o with slots:=O} q y;show⟨L,q2⟩
 .obtain ⟨Z,q⟩:=I.ω.there b o a A;by_cases hf:b∈frs X.stack
  .obtain ⟨o2,K,y⟩:=frame b hf;obtain⟨O,q2⟩:=F b o2 K y;show⟨_,q2⟩
  .exact ⟨Z,J b Z (old b o a) hf q⟩
 .obtain ⟨u,r,l⟩:=hl i x v h1 h2 h3;show⟨u,r,l.imp id λ⟨k,c,Y,U⟩=>⟨k,c,Y,cellK _ _ U⟩⟩
 .obtain ⟨v,U⟩:=I.cell x c Y;show⟨v,cellK _ _ U⟩
 .obtain ⟨q,n,ne,y,d⟩:=I.pin p hp;show⟨J _ _ (λz=>T.pin _ z p hp rfl) (λz=>(bh.mp (I.rD _ z)).elim ne y) q,n,ne,y,d⟩
 .refine (I.hok b ob a).stay (λc u j q=>J c u (λz=>?_) (λz=>?_) q) (λ_ q=>q) λ_ _ q=>q
  .have fr:=T.free c z;rcases j with rfl|j
   .rw [fr] at a;cases a
   .rw [fr] at j;cases j
  .have fr:=I.w9 c z;rcases j with rfl|j
   .rw [fr] at a;cases a
   .rw [fr] at j;cases j
end
def IS(P:bf)(w:ba):J8:=λΓ H s E e s'=>∃(a T:ah) (cls l:ai) (H':Hp) (d j:ax) (vs h:Array ai),e=.ref a/\s'.os=s.os/\kq s'.gens/\Un (frs Γ) [] H H' s.heap s'.heap/\pW P w H' s'.heap /\
 H' a=af/\H' T=af/\s.heap.get? a=af/\s.heap.get? T=af/\T≠a/\s'.heap.get? a=aa d/\(d.cls=cls/\vs[0]?=aa l)/\d.data=.fields vs/\vs[1]?=aa (.ref T)/\s'.heap.get? T=aa j/\j.data=.fields h/\h[3]?=aa .none/\E cls af H'
section
variable{P:bf}{w:ba}{K:ao}{mg:Q0d}{ω:ay}{N:Q0g}{qual:aj}{scope:fj}{f:ah}{cd:ai}{A:bq}{Γ:List de}{s0:ak}{H0:Hp}{E:XK}
theorem XW(I:Φ (lB (IS P w) P w K mg ω N qual scope f cd A Γ s0 H0 E) π σ H s)
  (T:rH (lB (IS P w) P w K mg ω N qual scope f cd A Γ s0 H0 E) π H s e cls a0 Q) (hE:E cls af H):(lB (IS P w) P w K mg ω N qual scope f cd A Γ s0 H0 E).xe (.ref e) s:=by
 generalize j:lB (IS P w) P w K mg ω N qual scope f cd A Γ s0 H0 E=X at I T;have st:X.stack=X.env::Γ:=by rw[<- j];rfl
 have hin:∀env∈X.stack,∀b,env.frame=aa b->b∈Q++frs X.stack:=λenv n b hb=>gp _ (qc.mpr ⟨env,n,hb⟩);have stay:(hideAll s.heap (Q++frs X.stack)).StaysIn s.heap:=λb o q=>Hg _ q;have fns:s.heap.FunFrames (hideAll s.heap (Q++frs X.stack)) X.stack:=a0K I.stack hin;have m:(hideAll s.heap (Q++frs X.stack)).get? e=af:=vm _ (gj _ T.mem);have fin:∀h',Heap.LeftW (hideAll s.heap (Q++frs X.stack)) X.stack e cls a0 s.heap h'->IS P w Γ H0 s0 E (.ref e) {s with heap:=h' }:=λh' Wu=>by
  obtain⟨k1,k2,k3,k4⟩:=Wu;have J:=flown I T (λb o n1 n2 q=>k1 b o (vn _ q λz=>(gn.mp z).elim n1 n2)) k4;obtain⟨O,vs,a,Y,F,n,v,p,x,hnT,Z,U,h,h3⟩:=k3;have d:a∉frs X.stack:=λz=>by obtain⟨_,o,ho,nf⟩:=I.stack.mem z;obtain⟨sl,q⟩:=k4 a o ho nf;rw[U] at q;cases q;show nf F h
  have ui:a∈Q\/s.heap.get? a=af:=by
   by_cases hq:a∈Q
   .exact .inl hq
   .right
    cases q:s.heap.get? a with
    |none=>rfl
    |some o =>
     have:=vn (Q++frs X.stack) q λz=>(gn.mp z).elim hq d;rw[hnT] at this;cases this
  have e1:X.fs=frs Γ:=by rw[<- j];rfl
  have e2:X.ex=[]:=by rw[<- j];rfl
  have e3:X.H₀=H0:=by rw[<- j];rfl
  have y:X.s₀=s0:=by rw[<- j];rfl
  have e5:X.Ω=P:=by rw[<- j];rfl
  have e6:X.w=w:=by rw[<- j];rfl
  have b0:=J.ω;have b1:=J.hok;have b2:=J.os;rw[e1,e2,e3,y] at b0;rw[e5,e6] at b1;rw[y] at b2;show⟨e,a,cls,a0,H,O,Y,vs,F,rfl,b2,J.bare,b0,b1,T.free e T.mem,?_,?_,?_,Z,n,v,p,x,U,h,h3,hE⟩
  .rcases ui with z|z
   .exact T.free _ z
   .cases q:H a with
    |none=>rfl
    |some o =>
     obtain⟨u,eu⟩:=u9 (I.hok _ _ q);rw[z] at eu;cases eu
  .rw [<- y];show T.new e T.mem
  .rcases ui with z|z
   .rw [<- y];show T.new _ z
   .cases q:s0.heap.get? a with
    |none=>rfl
    |some o =>
     have tb:=I.ω.there a o (by rw[y];show q) (by rw[e2];simp);obtain⟨o',eo⟩:=tb;rw[z] at eo;cases eo
 have go:av (aw P w) X.A (leaving X.env (.ref e)) (λ_ l=>IS P w Γ H0 s0 E (.ref e) l) (λe' l=>IS P w Γ H0 s0 E e' l) s:=by
  have d:=I.ok.frames;have hf:X.env.frame=aa X.env.locals:=by rw[<- j];rfl
  rw[st] at d;rw[st] at fns fin m stay;rcases T.tr with⟨O,vs,n,v,p,x,h0⟩|⟨O,vs,a,Y,F,n,v,p,x,hm,Z,U,h,h3⟩
  .subst v;show wpAny_leaving_firstW d fns hf n stay m p x h0 λh' L=>fin h' L
  .refine wpAny_leaving_nextW d fns hf ⟨O,vs,a,Y,F,n,v,p,x,vm _ (gj _ hm),Z,U,h,h3⟩ stay m λh' L=>fin h' L
 rw[<- j] at go ⊢;show go
end
theorem IA(Y:X.ex=[])(I:Φ X π σ H s)(c:IS X.Ω X.w X.stack H s E e s'):
  ∃d cls l H' Q,e=.ref d/\Φ X π σ H' s'/\rH X π H' s' d cls l Q/\E cls af H':=by
 obtain⟨d,T,cls,l,H',n,v,vs,m,rfl,K,bare,un,j,O,L,g1,g2,U,x,hc,y,h1,A,h,h3,hE⟩:=c;have J:Φ X π σ H' s':=I.call' (ch:=[]) K un j bare λb z=>Zw z (by simp);have no:∀q,q∈[d,T]->s.heap.get? q=af:=λq a=>by
  rcases bh.1 a with rfl|a
  .exact g1
  .rw [cc.mp a];show g2
 show⟨d,cls,l,H',[d,T],rfl,J,⟨cb,λq a=>?_,λq a=>?_,λq a=>?_,λq a p Z z=>?_,.inr ⟨n,vs,T,v,m,x,hc,y,h1,by simp,U,A,h,h3⟩⟩,hE⟩
 .rcases bh.1 a with rfl|a
  .exact O
  .rw [cc.mp a];show L
 .cases k:X.s₀.heap.get? q with
  |none=>rfl
  |some o =>
   obtain⟨o',F⟩:=I.ω.there q o k (by rw[Y];simp);rw[no q a] at F;cases F
 .rcases bh.1 a with rfl|a
  .exact ⟨n,vs,x,y⟩
  .rw [cc.mp a];show⟨v,m,A,h⟩
 .have:=(I.pin p Z).1;rw[z,no q a] at this;cases this
def sp5(K:ao)(mg:Q0d)(R:g8):Sp:=λvs H Q E=>∃(S:ah->Prop) (ds:List D),(∀a,H a=af->S a)/\bC K S H ds vs/\match R ds with
 |.ok d=>∀v H',ξ H H'->Dn K S H' d v->Q v H'
 |.ex c=>∃C:ah,mg c=aa (.ref C) /\∀H',ξ H H'->E (.ref C) af H'
 |.no=>False
theorem Mb{P:bf}{w:ba}{K:ao}{mg:Q0d}{ω:ay}{x qual:aj}{st:bz}{f:ah}{fd:fv}{N j:Q0g}{k n J:Nat}{b:SF}(F:YM K x qual st f fd)(S:fE N j (aT st))(hn:N.length=n)(L:j.length=J)
  (m:∀(l:ai) (A:bq) (Γ:List de) (s:ak) (H:Hp) (E:XK),fL k (A.deeper (envOfC qual (aT st) s.heap.objs.size f l)) ->
   lC (lB (IS P w) P w K mg ω N qual (aT st) f l A Γ s H E) (eL st) b):lY P w K mg ω (IS P w) (k+1) f fd j (sp5 K mg (bZ n J b)):=by
 subst hn L;obtain⟨oc,od,kV,doc,pm,an,l,ct,Y,rfl,Z,y⟩:=F.ex;have hlen:∀ds:List D,bZ N.length j.length b ds≠.no->ds.length=j.length:=λds h=>by
  by_cases e:ds.length=j.length
  .exact e
  .exact Zw (show bZ N.length j.length b ds=.no by unfold bZ;rw[Zz e]) h
 show VL Z y S (λvs H Q E h=>?_) λA Γ s H vs Q E hr h=>?_
 .obtain ⟨S',ds,_,dn,a⟩:=h;rw[<- dn.len];show hlen ds λz=>by rw[z] at a;show a
 .obtain ⟨S',ds,fc,dn,a⟩:=h;have hl:ds.length=j.length:=hlen ds λz=>by rw[z] at a;show a
  have hdn:=dn.len;show⟨_,m l A Γ s H E hr,H,S',λ_=>0,jZ N ds,[],{nx:=λ_=>bZ N.length j.length b ds=.ok .non,rt:=λd=>bZ N.length j.length b ds=.ok d,ex:=λc=>bZ N.length j.length b ds=.ex c},?_,zU fc dn,?_,⟨λw' O H' U _ p q=>?_,λv H' d s' d' q=>?_,λ_ _ _ _ _ _ q=>q,λ_ _ _ _ _ _ q=>q,λc H' X q=>?_⟩⟩
  .have L:j.length<=N.length:=by have:=congrArg tj S.pre;rw[kj] at this;lia
   unfold L2.start;show _=N.length;rw[cy,az,ig];lia
  .have e2:jZ N ds=dD N.length ds:=rfl;have o:bZ N.length j.length b ds=(match b (dD N.length ds) with | .rt d=>.ok d | .nx _=>.ok .non | .ex c=>.ex c | .no=>.no):=by unfold bZ;rw[Z_ hl]<;>cases b (dD N.length ds)<;>rfl
   rw[o] at a;unfold wS;rw[e2]
   cases hb:b (dD N.length ds) with
   |rt d'=>rw[hb] at o;show o
   |nx ρ=>rw[hb] at o;show o
   |ex c=>rw[hb] at o;show o
   |no=>rw[hb] at a;show a
  .rw [q] at a;show a .non H' p.sm (by symm)
  .rw [q] at a;show a v H' s' d'
  .rw [q] at a;obtain⟨C,hm,hE⟩:=a;show⟨C,hm,λπ σ s' e a0 P I T=>XW I T (hE H' X)⟩
theorem fd5{P:bf}{w:ba}{K:ao}{mg:Q0d}{ω:ay}{x:aj}{st:bz}{N d:Q0g}{k n j:Nat}{b:SF}(D:Df K mg x st d)
  (h:∀{f:ah} {a:ai} {A:bq} {Γ:List de} {s:ak} {H:Hp} {E:XK},fL k (A.deeper (envOfC x (aT st) s.heap.objs.size f a))->N.Nodup->lC (lB (IS P w) P w K mg ω N x (aT st) f a A Γ s H E) (eL st) b)
  (S:fE N d (aT st):=by show⟨rfl,rfl,rfl,by decide+kernel,rfl,by decide+kernel,by decide+kernel⟩) (p:N.length=n:=by rfl) (o:d.length=j:=by rfl):Cl P w K mg ω (IS P w) (k+1) x d (sp5 K mg (bZ n j b)):=by
 obtain⟨_,F,m,q⟩:=D;show⟨Mb F S p o λ_ _ _ _ _ _ l=>h l S.nd,m,F.kp,q⟩
section
variable{k:Nat}{f:ah}{fd:fv}{ps:Q0g}{R:g8}{x:aj}{p ν:bb}{e:au}{es:List au}{t:AF}
theorem j8(C:Cl X.Ω X.w X.K X.mg X.ω (IS X.Ω X.w) k x ps (sp5 X.K X.mg R))(I:fL k X.A)
  (Z:uW X (e::es) t) (O:Gl X x:=by rfl) (m:Zu x:=by decide) (U:Zr X e es:=by rfl) (l:Q0l X ν es:=by rfl):
  cD X (.Call (.Name x p) (e::es) [] ν) (aF R t):=by
 obtain⟨F,J,L,Y⟩:=C;show imp (pZ (E:=E0) F I O J L Y .nil (λπ σ H s e s' _ c=>by obtain⟨_,_,_,_,_,_,_,_,_,_,_,_,_,_,_,_,_,_,_,_,_,_,_,_,_,_,hE⟩:=c;show hE.elim) Z m U l) λσ H Q Ws=>?_;obtain⟨S,ρ,Q3,o,q,⟨d,a,y⟩,k⟩:=Ws;obtain⟨ds,et,a⟩:=bnd a;show⟨S,ρ,λz=>z=ds,o,q,⟨ds,et,rfl⟩,λvs H1 j n d1 q1=>?_⟩;subst q1;show sp5 X.K X.mg R (vs++[]) H1 Q E0;rw[iu];show⟨S,j,bP o n,d1,?_⟩
 cases h:R j with
 |ok d'=>rw[h] at a;cases a;show λv H' s' d'=>k v H' _ (n.trans s') d' y
 |no=>rw[h] at a;cases a
 |ex c=>rw[h] at a;cases a
def tR(X:Cx)(r:RF):TE:=λσ H _=>∃(S:ah->Prop) (ρ:dZ) (c:aj),(∀a,H a=af->S a)/\Sl X.K S H ρ σ/\r ρ=aa c /\∀H',ξ H H'->XC X c H'
def PR(X:Cx)(e:au)(r:RF):Prop:=PE X e (tR X r)
theorem i5(U:X.ex=[])(C:Cl X.Ω X.w X.K X.mg X.ω (IS X.Ω X.w) k x ps (sp5 X.K X.mg R))(Y:fL k X.A)
  (ha:uW X (e::es) t) (hg:Gl X x:=by rfl) (v:Zu x:=by decide) (he:Zr X e es:=by rfl) (o:Q0l X ν es:=by rfl):
  PR X (.Call (.Name x p) (e::es) [] ν) (c6 R t):=by
 obtain⟨F,Z,hk,hb⟩:=C;show imp (pZ (E:=λcls _ H'=>∃c C,cls=.ref C/\X.mg c=aa (.ref C)/\XC X c H') F Y hg Z hk hb .nil (λπ σ H s e s' I c=>by obtain⟨ea,cls,a0,H',Q,rfl,J,T,c,C,rfl,q,C2,l,xc⟩:=IA U I c;rw[q] at l;cases l;show xc π σ s' ea a0 Q J T) ha v he o) λσ H Q hV=>?_
 obtain⟨S,ρ,c,y,O,ec,k⟩:=hV;obtain⟨ds,et,a⟩:=bnd ec;show⟨S,ρ,λz=>z=ds,y,O,⟨ds,et,rfl⟩,λvs H1 m n d1 q1=>?_⟩;subst q1;rw[iu];show⟨S,m,bP y n,d1,?_⟩
 cases h:R m with
 |ex c' =>
  rw[h] at a;cases a;obtain⟨C,j,_⟩:=k H1 n;show⟨C,j,λH' L=>⟨c,C,rfl,j,k H' (n.trans L)⟩⟩
 |ok d=>rw[h] at a;cases a
 |no=>rw[h] at a;cases a
def LA{e:au}{t u:TE}(a:PE X e t)(h2:PE X e u):PE X e (λσ H Q=>t σ H Q\/u σ H Q):=λπ s σ H Q I h=>h.elim (a π s σ H Q I) (h2 π s σ H Q I)
theorem Wq{e:au}{f:EF}{r:RF}{ν:bb}(h:cD X e f)(m:PR X e r):qL X (.Return (aa e) ν) (fR r (bI f)):=jR (JY (LA m h)) λB σ H n=>by
 obtain⟨H₀,S,w,ρ,G,E,o,st,a,ok⟩:=n;unfold wS fR at a
 cases hc:r (bD ρ) with
 |some c =>
  rw[hc] at a;show .inl ⟨S,bD ρ,c,st.IQ,st.all,hc,λH' j=>ok.ex c H' (st.sm.trans j) a⟩
 |none =>
  rw[hc] at a;dsimp only at a;unfold bI at a
  cases hf:f (bD ρ) with
  |none=>rw[hf] at a;show a.elim
  |some d =>
   rw[hf] at a;show .inr ⟨S,bD ρ,_,st.IQ,st.all,⟨d,hf,a⟩,λv H' d s' d' l=>ok.rt v H' d (st.sm.trans s') d' l⟩
theorem tK{i:Nat}{x:aj}{e:au}{f:EF}{r:RF}{ν pos':bb}(hN:X.N.Nodup)(h:cD X e f)(y:PR X e r)(hi:X.N[i]?=aa x:=by rfl)(o:Loc X.env.scope x:=by walk_at "0")(q:Si X e x pos' ν:=by rfl)(j:Zq X x:=by walk_at "0"):
  qL X (.Assign [.Name x pos'] e ν) (fR r (aO i f)):=jR (nI hN hi o (LA y h) q j) λB σ H z=>by
 obtain⟨H₀,S,w,ρ,G,E,l,st,a,ok⟩:=z;unfold wS fR at a
 cases hc:r (bD ρ) with
 |some c =>
  rw[hc] at a;show .inl ⟨S,bD ρ,c,st.IQ,st.all,hc,λH' m=>ok.ex c H' (st.sm.trans m) a⟩
 |none =>
  rw[hc] at a;dsimp only at a;unfold aO at a
  cases j:f (gF ρ) with
  |none=>rw[j] at a;show a.elim
  |some d =>
   rw[j] at a;show .inr ⟨_,gF ρ,_,st.NO,st.rd,⟨d,j,a⟩,λv H' d s' d' n=>ok.nx w _ H' _ (by rw[dm];show l) ((st.same s').lZ (by rw[l];show jS hi) d') n⟩
theorem E8{e:au}{f:EF}{r:RF}{ν:bb}(h:cD X e f)(n:PR X e r)(m:di e af ν.line X.env=pure ag:=by rfl):qL X (.Expr e ν) (fR r (sX (aX f))):=jR (D0 (LA n h) m) λB σ H q=>by
 obtain⟨H₀,S,w,ρ,G,E,o,st,a,ok⟩:=q;unfold wS fR at a
 cases hc:r (bD ρ) with
 |some c =>
  rw[hc] at a;show .inl ⟨S,bD ρ,c,st.IQ,st.all,hc,λH' j=>ok.ex c H' (st.sm.trans j) a⟩
 |none =>
  rw[hc] at a;dsimp only at a;unfold sX aX at a
  cases hf:f (gF ρ) with
  |none=>rw[hf] at a;show a.elim
  |some d =>
   rw[hf] at a;show .inr ⟨_,gF ρ,_,st.NO,st.rd,⟨d,hf,a⟩,λv H' d s' d' l=>ok.nx w σ H' ρ o (st.same s') l⟩
end
abbrev bmV:List ai:=[.type "ValueError",.type "Exception",.type "BaseException",.type "object"]
structure RA (K:ao) (C:ah):Prop where
 ex:∃nm q N bs bm hdct sn sub ab col dd k0 k1 k2 k3 k5,K.lookup C=aa (excClassObj nm q C N bs bm hdct sn sub ab col dd k0 k1 k2 k3 k5 "ValueError.__new__")/\PySem.W.tailIn K bmV bm=ae/\PySem.W.nsOkIn K N=ae/\Hh K N "__init__"=aa af
theorem vA(hx:X.ex=[])(h:X.calm=ae)(L:X.mg c=aa (.ref C))(hC:RA X.K C)(ha:uW X (e::es) t)(hg:Gl X c:=by rfl)(hd:Zu c:=by decide)
  (O:Zr X e es:=by rfl) (y:Q0l X cpos es:=by rfl):
  qL X (.Raise (aa (.Call (.Name c np) (e::es) [] cpos)) af ν) (g9 t c):=by
 intro π s σ H B I ⟨H₀,S,w,ρ,G,E,hl,st,a,ok⟩;unfold wS g9 at a
 cases et:t (bD ρ) with
 |none=>rw[et] at a;show a.elim
 |some ds =>
  rw[et] at a;dsimp only at a;by_cases x:ds.length<=10
  .rw [Z_ x] at a;obtain⟨nm,q,N,bs,bm,hdct,sn,sub,ab,col,dd,k0,k1,k2,k3,k5,lk,A,no,ni⟩:=hC.ex;show wpAny_Raise_call_subT (C:=C) (nm:=nm) (q:=q) (N:=N) (bs:=bs) (bm:=bm) (hdct:=hdct) (sn:=sn) (sub:=sub) (ab:=ab) (col:=col) (dd:=dd) (k0:=k0) (k1:=k1) (k2:=k2) (k3:=k3) (k5:=k5) (mN:=X.ω.nsMap N)
    PySem.F.excBase_ValueError ((a0G I.w8 A).hasType rfl) (I.ok.hd h) (by rw[O];show(ag||(cu cpos (ar es X.env)).any (·.1))=ag;rw[y];rfl) (PySem.W.nsMap_none_of_in I.ok.mod.kin no ni) (xA I hg L ⟨rfl,?_⟩ hd)
   have hN:X.ω.Ns N (X.ω.nsMap N):=.of_isNs (PySem.W.isNs_of_in I.ok.mod.kin no);have args:=ha cpos π s σ H (λvs l=>vs.length=ds.length/\ξ H l) I ⟨S,bD ρ,λz=>z=ds,st.IQ,st.all,⟨ds,et,rfl⟩,λvs l ds' v d1 q1=>⟨by rw[<- d1.len,q1],v⟩⟩;rw[O] at args ⊢;show a1m (ik args (λZ v ⟨vs,l,j,r,hlen,sm⟩=>?_) λ_ _ z=>z);show⟨rfl,?_,j.w8 _ _ lk,hN.keeps j.bk,a0G j.w8 A,λh' n mk=>?_⟩
   .show Z.length<=bc;rw[<- r.length,hlen];show f_ x (by decide)
   .obtain ⟨C',m,xc⟩:=ok.ex c l (st.sm.trans sm) a;rw[L] at m;cases m;obtain⟨tt,J,_,_⟩:=mk.there;have I2:Φ X π σ l {v with heap:=h' }:=j.kept (t':=v.toks) mk.keeps;show xc π σ _ n (.ref tt) [n] I2 ⟨cb,λq d=>?_,λq d=>?_,λq d=>?_,λq d p hp z=>?_,.inl ⟨_,_,J,rfl,rfl,rfl,rfl⟩⟩
    .rw [cc.1 d]
     cases k:l n with
     |none=>rfl
     |some o =>
      obtain⟨u,U⟩:=u9 (j.hok _ _ k);rw[mk.new] at U;cases U
    .rw [cc.1 d]
     cases k:X.s₀.heap.get? n with
     |none=>rfl
     |some o =>
      obtain⟨o',Y⟩:=j.ω.there n o k (by rw[hx];simp);rw[mk.new] at Y;cases Y
    .rw [cc.1 d];show⟨_,_,J,rfl⟩
    .have:=(j.pin p hp).1;rw[z,cc.mp d,mk.new] at this;cases this
  .rw [Zz x] at a;show a.elim
open PySem.W Builtin.ObjectAttr Builtin.Getset_descriptor
structure AB (K:ao) (C:ah):Prop where
 hc:isClsIn K C=ae
 hm:mroIn K C (.type "object")=aa ae
 hs:subIn K (.ref C) (.type "BaseException")=aa ae
 hga:findIn K (.ref C) "__getattribute__"=aa (aa (.builtin "BaseException.__getattribute__"))
 hgg:findIn K (.ref C) "__getattr__"=aa af
 ha:findIn K (.ref C) "__class__"=aa (aa (.builtin "object.__class__"))
 hn:specialIn K (.builtin "object.__class__") "__get__"=aa (aa (.builtin "getset_descriptor.__get__"))
 ht:takesIn K (.builtin "object.__class__")=aa ae
def Is(a C:ah)(h:ay):Prop:=∃o,h.get? a=aa o/\o.cls=.ref C
section
variable{Ω:bf}{w:ba}{A:bq}{E:Q0c}{s:ak}{K:ao}{a C:ah}
def qA{M:vq}{h:ay}(i:Is a C h):vp M h (typeOf (.ref a)) (.ref C):=by obtain⟨o,d,h2⟩:=i;show h2▸Looks.andThen (Looks.ld d) .now
theorem aAv{d:ai}{R:Aa->ak->Prop}(X:K.In s.heap)(i:Is a C s.heap)(q:AB K C)(h:R (.ok (.ret (.ref C))) s):
  ng (aw Ω w) A (.call (.builtin "getset_descriptor.__get__") ⟨[.builtin "object.__class__",.ref a,d],[]⟩) R s:=by
 obtain⟨l,o,m,n,j⟩:=s;have v:=qA (M:=aw Ω w) i;have p:=looks_mroIn (M:=aw Ω w) X q.hm;show a0A a0R.plain KF.entry_gs ?_;show a0R.check _ _ _ _ _ _ _ _ KF.type_class (KF.args_gs _ _ _) ?_;unfold Builtin.«getset_descriptor.__get__» descrGet;rw[dga_obj];show aq (a_ ?_);unfold descrGetter descrCheckInstance descrNameAndClass isInstance;simp only[KF.owner_class]
 repeat lk
 show wx (Code.quiet_builtin _ (by decide+kernel)) (oz KF.entry_class ?_);unfold Builtin.«object.__class__» shownTypeOf;repeat lk
 show h
def XX{j:h_}{Q:Ae->ak->Prop}(X:K.In s.heap)(i:Is a C s.heap)(q:AB K C)(m:Q (.done (.ret (.ref C))) s):av (aw Ω w) A (Builtin.«object.__getattribute__» ⟨[.ref a,.str "__class__" j],[]⟩) Q E s:=by
 obtain⟨h,g,d,t,l⟩:=s;have p:=qA (M:=aw Ω w) i;have o:vp (aw Ω w) h (a3r (.ref a) (.ref C) "__class__") (.bind (.builtin "getset_descriptor.__get__") (.builtin "object.__class__")) :=
  have n:vp (aw Ω w) h (a3s (aa (.builtin "object.__class__")) (aa (.builtin "getset_descriptor.__get__"))) (aa (.builtin "getset_descriptor.__get__",.builtin "object.__class__")):=(looks_takesIn X q.ht).andThen Looks.now
  (Hi X q.ha).andThen ((looks_specialIn X q.hn).andThen (n.andThen (Looks.tag .now)))
 unfold PySem.Builtin.«object.__getattribute__»;show aq (a_ (aq (a_ (aq (p.at (aq (o.at ?_)))))));show av _ _ (holding [.builtin "object.__class__"] (call (.builtin "getset_descriptor.__get__") [.builtin "object.__class__",.ref a,.ref C]) >>= ret) _ _ _;show aq (iy (zi (aAv (s:=⟨h,g,d,t,l⟩) X i q (a_ m))))
def RB{M:vq}{h:ai}{Q:Unit->ak->Prop}(X:K.In s.heap)(i:Is a C s.heap)(q:AB K C)(j:Q () s):av M A (checkBuiltinCall "BaseException.__getattribute__" ⟨[.ref a,h],[]⟩) Q E s:=by
 obtain⟨l,g,d,t,m⟩:=s;have L:vp M l (isInstance (.ref a) (.type "BaseException")) ae:=(qA (M:=M) i).andThen (looks_subIn X q.hs);have k1:builtinKind "BaseException.__getattribute__"=aa .slot:=by decide+kernel
 have k2:splitId "BaseException.__getattribute__"=aa ("BaseException","__getattribute__"):=by decide+kernel
 simp only[checkBuiltinCall,k1,k2];show aq (L.at ?_);rw[Zz (by decide)];show a0j (F.args_bexc_ga (.ref a) h) j
def aE6{l:h_}{Q:Q0c}(X:K.In s.heap)(i:Is a C s.heap)(q:AB K C)(m:Q (.ref C) s):av (aw Ω w) A (getAttrBy (.ref a) (.str "__class__" l) ag) Q E s:=by
 obtain⟨j,g,d,t,h⟩:=s;have p:=qA (M:=aw Ω w) i;have o:=Hi (M:=aw Ω w) X q.hga;have n:=Hi (M:=aw Ω w) X q.hgg;unfold getAttrBy;show iy (aq (p.at ?_));show aq (o.at ?_);dsimp only;have ne:(a0V "BaseException.__getattribute__" == a0V "object.__getattribute__")=ag:=by decide+kernel
 rw[ne,a2A,Zz bt];unfold getAttrByItsOwn hookBefore;rw[Z_ (show onTheHeap (cz C)=ae from rfl)];show aq (n.at (aq (qu (iy ?_))));unfold callGetattribute;rw[Zz (by simp)];unfold boundAndCalled;show aq (a0j (a1e.ga.bind (.ref a)) ?_);show zi (a0A a1e.ga.plain F.entry_bexc_ga (RB (s:=⟨j,g,d,t,h⟩) X i q (XX (s:=⟨j,g,d,t,h⟩) X i q ?_)));show handed_on rfl m
def XY(X:K.In s.heap)(i:Is a C s.heap)(q:AB K C)(j:Q (aa (.ref C)) {s with toks:=s.toks+1}):av (aw Ω w) A (getAttr? (.ref a) "__class__") Q E s:=by obtain⟨l,g,d,t,h⟩:=s;unfold getAttr? getAttrBy?;show aq (wpAny_mkText (aq (qu ?_)));show aE6 (s:=⟨l,g,d,t+1,h⟩) X i q (a_ j)
theorem XZ(q:AB K C):KitX K (.ref a) (.ref C) (Is a C) where
 ty:=λ_ _ _ i=>qA i
 it:=λ_ _ X _=>by
  have d:(clsIn K C).isSome=ae:=q.hc;unfold clsIn at d;split at d
  .rename_i lk;intro v Q' p s' k h;unfold isType loadHead;show aq (wpAny_loadPart (k _ _ (X _ _ lk)) (a_ h))
  .cases d
 ne:=λh l d0 n o m X j=>by
  have d:(clsIn K C).isSome=ae:=q.hc;show Bool.eq_false_iff.mpr λz=>?_;obtain rfl:C=l:=a2E (beq_iff_eq.mp z);unfold clsIn at d;split at d
  .rename_i lk;cases (X _ _ lk).symm.trans j
  .cases d
 ca:=λX i k=>XY X i q k
variable{X:Cx}
def vB(X:Cx)(e C:ah):Prop:=∃d:ax,(e,d)∈X.pn/\d.cls=.ref C
def vB.is(h:vB X e C)(I:Φ X π σ H s):Is e C s.heap:=by obtain⟨d,j,l⟩:=h;show⟨d,(I.pin _ (gj _ j)).1,l⟩
theorem IB(o:vB X e C)(q:AB X.K C)(n:∀d,Ψ v d->d=u)(p:qv X.K (.ref C) u=aa b):
  gD X (.builtin "isinstance") (λxs H Q=>xs=[.ref e,v]/\Q (.bl b) H):=by
 intro π s σ H xs x Q I r h;obtain⟨rfl,h⟩:=h;obtain⟨u1,u2,rfl,m,l⟩:=vals2 r;cases m;obtain rfl:=n u2 l;show je (XZ q) I.w8 (o.is I) p (λz=>nomatch z) λj=>⟨.bl b,H,I.tok j,rfl,h⟩
theorem uv{i:Nat}{n x c:aj}{e C D:ah}{b:Bool}{p p1 p2 y:bb}(Y:vB X e C)(q:AB X.K C)(Z:X.mg "isinstance"=af)(hD:X.mg x=aa (.ref D))(hb:qv X.K (.ref C) (.ref D)=aa b)
  (hN:X.N[i]?=aa n:=by rfl) (U:vZ X.env.scope n:=by walk_at "1") (hd:Zu n:=by decide) (o:Zt n:=by decide)
  (hg:Gl X "isinstance":=by rfl) (l:Gl X x:=by rfl) (m:Zu x:=by decide)
  (F:ar [.Name n p1,.Name x p2] X.env=(ag,eval (.Name n p1) X.env)::ar [.Name x p2] X.env:=by rfl) (h:ar [.Name x p2] X.env=(ag,eval (.Name x p2) X.env)::ar [] X.env:=by rfl) (j:(cu y (ar [.Name x p2] X.env)).any (·.1)=ag:=by rfl):
  cD X (.Call (.Name "isinstance" p) [.Name n p1,.Name x p2] [] y) (JA c e b i) :=
 imp (mM (IB (v:=.ref D) Y q (λu' r=>by cases r;rfl) hb) hg Z Ii (eK (x4 i hN U hd o) (eK (M8 (v:=.ref D) l hD rfl m) jY h) F) (by decide) (by decide) F j) λσ H Q Wl=>by obtain⟨S,ρ,Q3,fc,J,⟨d,ed,O⟩,k⟩:=Wl;obtain⟨ev,rfl⟩:=LW ed;show⟨S,ρ,λz=>z=.exc c e,fc,J,⟨_,ev,rfl⟩,λv H1 d L I q1=>?_⟩;subst q1;symm at I;subst I;show⟨rfl,k _ H1 _ L (by symm) O⟩
theorem X0(Z:vB X e C)(q:AB X.K C)(hm:X.mg "isinstance"=af)(hD:X.mg x=af)(F:bootBuiltins x=aa (.type T))(hb:qv X.K (.ref C) (.type T)=aa b)
  (hN:X.N[i]?=aa n:=by rfl) (Y:vZ X.env.scope n:=by walk_at "1") (hd:Zu n:=by decide) (y:Zt n:=by decide)
  (hg:Gl X "isinstance":=by rfl) (m:Gl X x:=by rfl) (l:x ≠ "__name__":=by decide) (o:Zu x:=by decide)
  (I:ar [.Name n p1,.Name x p2] X.env=(ag,eval (.Name n p1) X.env)::ar [.Name x p2] X.env:=by rfl) (h:ar [.Name x p2] X.env=(ag,eval (.Name x p2) X.env)::ar [] X.env:=by rfl) (j:(cu ν (ar [.Name x p2] X.env)).any (·.1)=ag:=by rfl):
  cD X (.Call (.Name "isinstance" p) [.Name n p1,.Name x p2] [] ν) (JA c e b i) :=
 imp (mM (IB (v:=.ty T) Z q (λu' r=>r) hb) hg hm Ii (eK (x4 i hN Y hd y) (eK (M9 (v:=.ty T) m hD F rfl l o) jY h) I) (by decide) (by decide) I j) λσ H Q Wk=>by obtain⟨S,ρ,Q3,fc,L,⟨d,ed,U⟩,k⟩:=Wk;obtain⟨ev,rfl⟩:=LW ed;show⟨S,ρ,λz=>z=.exc c e,fc,L,⟨_,ev,rfl⟩,λv H1 d O J q1=>?_⟩;subst q1;symm at J;subst J;show⟨rfl,k _ H1 _ O (by symm) U⟩
end
def hcx(X:Cx)(a:Option ai)(pn:Q0b):Cx:={X with A:=X.A.mark a,calm:=ag,pn:=pn,xe:=λ_ _=>False}
section
variable{π:Q0b}{σ:L2.St}{H:Hp}{s:ak}
def E9{n i:Nat}{v:V}(h:(bp n (af:Option V))[i]?=aa (aa v)):False:=by rw[jc] at h;split at h<;>cases h
theorem Co{j:Option ai}{pn:Q0b}(I:Φ X π σ H s)(a:∀p∈pn,s.heap.get? p.1=aa p.2/\H p.1=af/\p.1≠X.env.locals/\p.1∉X.fs /\∀v,p.2.data≠.cell v):
  Φ (hcx X j pn) [] (bp X.N.length af) H s:=by
 obtain⟨m,d,_⟩:=id I.loc;show⟨⟨I.ok.mod,I.ok.kind,I.ok.glob,I.ok.blt,I.ok.above,I.ok.inj,I.ok.has,I.ok.cab,λz=>(nomatch z),?_,I.ok.stk,I.ok.exf,I.ok.bs,I.ok.RX,I.ok.JW,I.ok.PN,I.ok.rC,I.ok.frf,I.ok.tab⟩,I.os,I.bare,I.ω,⟨m,d,λi x v _ h2 _=>(E9 h2).elim⟩,I.cell,I.free,I.iH,λp h=>?_,I.hok,by show(bp X.N.length af).length=X.N.length;rw[ig]⟩
 .exact I.ok.frames
 .have h:p∈pn++[]:=h;rw[iu] at h;show a p h
def Wj{X:Cx}{π l pn:Q0b}{j:Option ai}{a:L2.St}{H:Hp}{s:ak}(ok:X.Ok)(I:Φ (hcx X j pn) l a H s)(sub:∀p∈X.pn++π,p∈pn):Φ X π (bp X.N.length af) H s:=by obtain⟨m,d,_⟩:=id I.loc;show⟨ok,I.os,I.bare,I.ω,⟨m,d,λi x v _ h2 _=>(E9 h2).elim⟩,I.cell,I.free,I.iH,λp h=>I.pin p (gj _ (sub p h)),I.hok,by rw[ig]⟩
def El{h':ay}{y:Q0d}{t:Nat}(I:Φ X π σ H s)(U:h'.Ns X.env.locals y)(a:nq X.env.locals s.heap h'):Φ X π (bp X.N.length af) H {s with heap:=h',toks:=t}:=by
 have m:∀b o,X.s₀.heap.get? b=aa o->b≠X.env.locals:=λb o q=>ee (fw (br q) I.ok.above);show⟨I.ok,I.os,I.bare,⟨λb o e n l h=>(a.2 b (m b o e)).trans (I.ω.keep b o e n l h),λb o e n l h=>?_,I.ω.free,λb o e h=>?_,I.ω.tups,I.ω.vY,I.ω.uP⟩,⟨y,U,λi x v _ h2 _=>(E9 h2).elim⟩,λx c e=>?_,I.free,I.iH,λp O=>?_,λb F e=>?_,by rw[ig]⟩
 .obtain ⟨A,q⟩:=I.ω.slot b o e n l h;show⟨A,(a.2 b (m b o e)).trans q⟩
 .obtain ⟨J,q⟩:=I.ω.there b o e h;show⟨J,(a.2 b (m b o e)).trans q⟩
 .obtain ⟨v,L⟩:=I.cell x c e;show⟨v,L.sameBut a (I.cne x c e)⟩
 .obtain ⟨q,n,ne,K,d⟩:=I.pin p O;show⟨(a.2 _ ne).trans q,n,ne,K,d⟩
 .refine (I.hok b F e).stay (λc u j q=>(a.2 c λz=>?_).trans q) (λ_ q=>q) λ_ _ q=>q;rcases j with rfl|j
  .rw [z,I.free] at e;cases e
  .rw [z,I.free] at j;cases j
theorem looked{π:Q0b}{σ:L2.St}{H:Hp}{s:ak}{e:ah}{cls F:ai}{P:List ah}{E:Q0c}{Q:ak->Prop}(m:X.stack=X.env::X.Γ)(p:X.env.frame=aa X.env.locals)(I:Φ X π σ H s)(T:rH X π H s e cls F P)
  (k:∀h',Φ X π σ H {s with heap:=h' }->h'.TracedW (hideAll s.heap (P++frs X.stack)) e cls F->(hideAll s.heap (P++frs X.stack)).StaysIn h'->h'.FunFrames (hideAll s.heap (P++frs X.stack)) X.stack->s.heap.UpToSlots h'->Q {s with heap:=h' }):
  av (aw X.Ω X.w) X.A (noteFrame (.ref e) X.env) (λ_ s2=>av (aw X.Ω X.w) X.A (setFlight (.ref e) af) (λ_ s3=>Q s3) E s2) E s:=by
 have n:∀env∈X.stack,∀b,env.frame=aa b->b∈P++frs X.stack:=λenv d b hb=>gp _ (qc.mpr ⟨env,d,hb⟩);have stay:(hideAll s.heap (P++frs X.stack)).StaysIn s.heap:=λb o q=>Hg _ q;have fns:s.heap.FunFrames (hideAll s.heap (P++frs X.stack)) X.stack:=a0K I.stack n;have h:(hideAll s.heap (P++frs X.stack)).get? e=af:=vm _ (gj _ T.mem);generalize U:hideAll s.heap (P++frs X.stack)=B at *;have next:∀h',Heap.NotedW B X.stack e cls F (rawInt X.env.locals) s.heap h'->av (aw X.Ω X.w) X.A (setFlight (.ref e) af) (λ_ s3=>Q s3) E {s with heap:=h' }:=λh' Wi=>by
  obtain⟨k1,k2,k3,k4⟩:=Wi;show a0f (s:={s with heap:=h' }) k1 k2 k3 λh2 O j2 j3 j4=>?_;have J:s.heap.UpToSlots h2:=λb o eb L=>by obtain⟨sl,q⟩:=k4 b o eb L;show⟨sl,j4 b _ q L⟩
  show k h2 (flown I T (λb o n1 n2 q=>O b o ?_) J) j3 O j2 J;rw[<- U];show vn _ q λz=>(gn.mp z).elim n1 n2
 have a:=I.ok.frames;rw[m] at a fns next
 rcases T.tr with⟨K,vs,d,y,j,l,h0⟩|⟨K,vs,Y,oT,ts,d,y,j,l,hm,mz,hT,v,h3⟩
 .subst y;unfold noteFrame;simp only[p];show aq (il (x:=.none) d j l ?_);rw[Zz (by decide)];show wpAny_entryW a fns p d stay h j (Array.getElem?_eq_some_iff.mp l).1 h0 next
 .have Z:B.get? Y=af:=by rw[<- U];show vm _ (gj _ hm)
  show wpAny_noteFrame_onW a fns p ⟨K,vs,Y,oT,ts,d,y,j,l,Z,mz,hT,v,h3⟩ stay h next
theorem RC(j:X.calm=ae):gD X (.builtin "max") (λxs H Q=>∃a b,xs=[.int a,.int b]/\Q (.int (if b>a then b else a)) H):=by
 intro π s σ H xs l Q I r h;obtain⟨a,b,rfl,q⟩:=h;obtain⟨u1,u2,rfl,⟨t1,rfl⟩,⟨t2,rfl⟩⟩:=vals2 r;show max_two_ints (I.ok.hd j) λh' m d=>⟨_,H,I.kept d,?_,q⟩;by_cases z:b>a
 .rw [Z_ z,Z_ z];show⟨_,rfl⟩
 .rw [Zz z,Zz z];show⟨_,rfl⟩
def Ek(g:Int->Int->Int):F1
 |[.int a,.int b],Q=>Q (.int (g a b))
 |_,_=>False
theorem aAx{K:ao}{g:Int->Int->Int}:C3 K (λxs H Q=>∃a b,xs=[.int a,.int b]/\Q (.int (g a b)) H) (Ek g):=by
 intro S H xs ds Q3 Q p m d k
 match ds,d with
 |[.int a,.int b],d =>
  obtain⟨v,r,rfl,l,h2⟩:=m.bQ;obtain⟨n,o,rfl,j,h⟩:=h2.bQ;simp only[bC] at h;subst h;symm at l j;subst l j;show⟨a,b,rfl,k _ H _ (ξ.refl H) (by symm) d⟩
def LB:k7 (Ek λa b=>if b>a then b else a) xQ:=λds d Q e q=>by
 unfold xQ at e;split at e
 .cases e;show q
 .cases e
def Ej(m:X.calm=ae)(h:X.mg "max"=af)(n:uW X [a,b] t)(j:Gl X "max":=by rfl)(l:ar [a,b] X.env=(ag,eval a X.env)::ar [b] X.env:=by rfl)(d:(cu ν (ar [b] X.env)).any (·.1)=ag:=by rfl):cD X (.Call (.Name "max" p) [a,b] [] ν) (cK xQ t) :=
 cE (uS (RC m) aAx Ih j h n (by decide) (by decide) l d) (z5 LB)
def CPB(i j:Int):Prop:=0<=j/\j<=100/\i.natAbs<2^1000
def aAy:j6 X (binaryOp .Pow) (rI CPB λi j=>.int (i^j.toNat)):=opI λ_ _ _ _ _ _ _ d q=>by obtain⟨a,l,h⟩:=d;show a3v a (wo (Bj (?_:_<=(1000:Int)) a) ∅) q;have:=Ic h;lia
def Wh(l:cD X a fa)(d:cD X b fb):cD X (.BinOp a .Pow b ν) (aB BA fa fb):=cE (op3 aAy zQ l d) (jB (k6 λi j h=>by simp only[gy,decide_eq_true_eq] at h;show⟨h.1.1,h.1.2,h.2⟩))
def pB{p:Prop}(h:ag=ae):p:=nomatch h
def ExI(mro:Q0f)(l:List (Option ai))(P:ah->List ai->String->Bool):Prop:=∃C1 bm j y1 h d n a,mro=.ref C1::bm/\l=[j,y1,h,d,aa (.builtin n),a]/\P C1 bm n=ae
theorem RD(h:excIn.match_1 (λ_ _=>Bool) mro sl (λC1 bm _ _ _ _ n _=>P C1 bm n) (λ_ _=>ag)=ae):
  ExI mro sl P:=by
 cases mro with
 |nil=>show pB h
 |cons v bm =>
 cases v with
 |ref C1 =>
  cases sl with
  |nil=>show pB h
  |cons y0 sl =>
  cases sl with
  |nil=>show pB h
  |cons y1 sl =>
  cases sl with
  |nil=>show pB h
  |cons y2 sl =>
  cases sl with
  |nil=>show pB h
  |cons y3 sl =>
  cases sl with
  |nil=>show pB h
  |cons y4 sl =>
  cases y4 with
  |none=>show pB h
  |some w =>
  cases w with
  |builtin n =>
   cases sl with
   |nil=>show pB h
   |cons y5 sl =>
   cases sl with
   |cons z sl=>show pB h
   |nil=>show⟨C1,bm,y0,y1,y2,y3,n,y5,rfl,rfl,h⟩
  |_=>show pB h
 |_=>show pB h
def aAz{K:ao}{C:ah}(h:excIn K C bmV "ValueError.__new__"=ae):RA K C:=by
 unfold excIn at h;split at h
 .rename_i dd cd a lk;obtain⟨C1,bm,p,y1,o,m,n,l,j,d,h⟩:=RD h;obtain⟨U,O,Z,L,J,I,F,A,z,q,Y⟩:=cd;obtain⟨a⟩:=a;dsimp only at j d h;subst j d;simp only[gy,beq_iff_eq,Kc] at h;obtain⟨⟨⟨⟨⟨g1,g2⟩,g3⟩,y⟩,x⟩,v⟩:=h;subst g1 g2 g3;show⟨⟨U,J,L,O,bm,I,F,A,z,q,dd,p,y1,o,m,l,lk,y,x,v⟩⟩
 .cases h
end
variable{K:ao}{C D:ah}
structure FA (K:ao) (C D:ah):Prop where
 ne:(cz C == cz D)=ag
 c:isClsIn K D=ae
 t:typeIn K (.ref D)=aa (.type "type")
 s:subIn K (.ref C) (.ref D)=aa ag
def CN(c:isClsIn K D=ae)(a:typeIn K (.ref D)=aa (.type "type"))(s:subIn K t (.ref D)=aa b):kitCls K t (.ref D)=aa b:=by have c:(clsIn K D).isSome=ae:=c;unfold kitCls;dsimp only;rw[c,a,Z_ (by decide)];show s
def FA.one(n:FA K C D):kitOne K (.ref C) (.ref D)=aa ag:=by unfold kitOne;rw[n.ne,Zz bt];show CN n.c n.t n.s
def AD:kitOne K (.ref C) (.ref C)=aa ae:=by unfold kitOne;rw[Z_ (by simp)]
def FC(k:kitMeta T=ae)(s:subIn K (.ref C) (.type T)=aa b):kitOne K (.ref C) (.type T)=aa b:=by unfold kitOne;rw[Zz (show ¬ (cz C == pq T)=ae from λz=>by cases beq_iff_eq.mp z)];unfold kitCls;dsimp only;rw[Z_ k];show s
def aE7(j:subIn K (.ref D) (.type "BaseException")=aa ae)(h:isClsIn K D=ae)(d:typeIn K (.ref D)=aa (.type "type"))(a:subIn K (.ref C) (.ref D)=aa b):exmOne K (.ref C) (.ref D)=aa b:=by unfold exmOne;rw[j,Z_ (by decide)];show CN h d a
end L5
namespace L5
open PySem.Spec PyProof.Rows L2 L3 L4
variable{X:Cx}
def PRs(X:Cx)(es:List au)(r:RF):Prop:=PA X es (λσ H _=>tR X r σ H λ_ _=>True)
def G4(h:PA X es t)(f:∀σ H Q,t' σ H Q->t σ H Q):PA X es t':=λa π s σ H Q I q=>h a π s σ H Q I (f σ H Q q)
def aE8(p:cD X e f)(o:PRs X es r)(n:Zr X e es:=by rfl):PRs X (e::es) (nW f r) :=
 G4 (eK p o n) λσ H Q x=>by obtain⟨S,ρ,c,l,j,h,k⟩:=x;obtain⟨d,q,h⟩:=bnd h;show⟨S,ρ,λ_=>True,l,j,⟨d,q,trivial⟩,λv z y a _ _=>⟨S,ρ,c,bP l a,Sl.fits (.same a) j,h,λH' m=>k H' (a.trans m)⟩⟩
def aE9(d:PR X e r)(j:uW X es t)(a:Zr X e es:=by rfl):PRs X (e::es) r :=
 G4 (eK d j a) λσ H Q h=>h
open Att
section
variable{π:Q0b}{σ:L2.St}{H:Hp}{s:ak}
theorem aBA{D:ah}{u:HO}{m:Q0d}{h':ay}{t':Nat}(I:Φ X π σ H s)(A:s.heap.Ns X.env.locals m)(l:h'.Ns X.env.locals m)(q:∀b o,b≠X.env.locals->s.heap.get? b=aa o->h'.get? b=aa o)(dead:s.heap.get? D=af)
  (ok:dN X.Ω X.w (upd H D u) h' D u):H D=af/\Φ X π σ (upd H D u) {s with heap:=h',toks:=t' }:=by
 have p:H D=af:=by
  cases e:H D with
  |none=>rfl
  |some u =>
   obtain⟨o,J⟩:=u9 (I.hok D u e);rw[dead] at J;cases J
 have y:∀{b:ah} {o:ax},s.heap.get? b=aa o->b≠D:=λ{b o} e z=>by rw[z,dead] at e;cases e
 have j:∀{b:ah} {u:HO},H b=aa u->b≠D:=λ{b u} e z=>by rw[z,p] at e;cases e
 show⟨p,?_⟩;show L2.Φ X π σ _ {s with heap:=h',toks:=t' };show I.step (s:=s) (h':=h') (g':=s.gens) (t':=t') (d':=s.drawn) (ch:=[]) (λb a=>nomatch a) (λb o a _ _ e _=>q b o a e) (λb o a _ _ e _=>⟨o.slots,q b o a e⟩) (λb o _ e n=>by rw[bB (y e)];show n) (λb o _ e=>?_)
  (λb xs e=>by rw[bB (j e)];show e) (λb o u e=>by rw[bB (j e)];show e) (λb Z e=>by rw[bB (j e),e]) (λK F=>?_) ?_ I.bare
 .by_cases a:b=X.env.locals
  .subst a;obtain⟨o2,_,_,Y,_⟩:=l;show⟨o2,Y⟩
  .exact ⟨o,q b o a e⟩
 .have:K=m:=by
   obtain⟨oa,ea,pa,O,h2,_,L⟩:=F;obtain⟨ob,eb,pb,k1,k2,_,k3⟩:=A;rw[O] at k1;cases k1;rw[h2] at k2;cases k2
   funext x
   rw[<- L,<- k3]
  subst this;show l
 .intro b v e;by_cases a:b=D
  .subst a;rw[aY] at e;cases e;show ok
  .rw [bB a] at e;show(I.hok b v e).stay (λc w h U=>q c w (λz=>?_) U) (λc d=>by rw[bB (j d)];show d) (λc ys d=>by rw[bB (j d)];show d) λc o u d=>by rw[bB (j d)];show d
   subst z;rcases h with h|h
   .rw [<- h,I.free] at e;cases e
   .rw [I.free] at h;cases h
def aEa:V->List V->Hp->VK->Prop:=λx xs H Q=>∃z y,x=.str z/\xs=[.str y]/\z.length+2<=bc/\(y.length == 0)=ag /\∀l,H l=af->Q (.ref l) (upd H l (.lst ((pw z y).map V.str)))
theorem CO:∀l:List (aj×h_),θ ((l.map (·.1)).map V.str) (strValues l)
 |[]=>.nil
 |p::r=>.cons ⟨p.2,rfl⟩ (CO r)
def X1:MtR X "str.split" aEa:=by
 intro π s σ H x xs v Y Q I j r h;obtain⟨z,y,rfl,rfl,d,A,q⟩:=h;obtain⟨u,rfl,ty,rfl⟩:=vals1 r;obtain⟨Z,rfl⟩:=j;obtain⟨m,a,_⟩:=id I.loc;show splitN1 (h₀:=zH s.heap) (L:=X.env.locals) (m:=m) (news:=ledger s.heap X.env.locals s.heap.objs.size) (VT a) (λp J=>?_) A (λl h' k e F N=>?_) d
 .obtain ⟨x,o⟩:=p;obtain⟨n,_,e⟩:=jM.mp J;show⟨e,n,rG _ _⟩
 .have dead:s.heap.get? s.heap.objs.size=af:=a03 (bj _);obtain⟨K,U⟩:=aBA (D:=s.heap.objs.size) (u:=.lst ((pw z y).map V.str)) (t':=k) I a F.ns (λb o O e=>(N (b,o) (e_ _ (jM.mpr ⟨O,ee (br e),e⟩))).1) dead
   ⟨by rw[az];show f_ (a3w z y).2 d,strValues l,0,by rw[<- e];show CO l,(N _ (cb ..)).1⟩
  show⟨.ref s.heap.objs.size,_,U,rfl,q _ K⟩
theorem IC{K:ao}{S:ah->Prop}{H:Hp}:∀l:Q0g,bC K S H (l.map D.str) (l.map V.str)
 |[]=>bC.nil
 |x::r=>bC.cons (by symm) (IC r)
def RE(h:splitM a b=aa d):∃x y,a=.str x/\b=.str y/\(x.length+2<=nU/\(y.length == 0)=ag)/\d=.lst ((pw x y).map D.str):=by
 unfold splitM at h;split at h
 .split at h
  .rename_i z;cases h;show⟨_,_,rfl,rfl,z,rfl⟩
  .cases h
 .cases h
def aEb(ho:cD X o fo)(Z:cD X e fe)(j:attributeBase o "split" X.env (eval o X.env)=eval o X.env:=by rfl)
  (m:Zp X cpos e:=by rfl)
  (h:Q0k apos cpos:=by rfl) (K:Zr X e []:=by rfl) (a:(cu cpos (ar [] X.env)).any (·.1)=ag:=by rfl):
  kE X (.Call (.Attribute o "split" apos) [e] [] cpos) (aB splitM fo fe) :=
 imp (NJ F.plainAttrs_str F.slot_str_split F.type_str_split X1 ho (eK Z jY K) j m h K a) λσ H Q Wf=>by obtain⟨S,ρ,Q3,O,q,⟨d,n,Y⟩,k⟩:=Wf;obtain⟨dx,ex,n⟩:=bnd n;obtain⟨dy,ey,n⟩:=bnd n;obtain⟨x,y,rfl,rfl,J,rfl⟩:=RE n;show⟨S,ρ,λz=>z=.str x,O,q,⟨_,ex,rfl⟩,λv H1 d1 p U q1=>?_⟩;subst q1;symm at U;subst U;show⟨rfl,S,ρ,λz=>z=.str y,bP O p,Sl.fits (.same p) q,⟨_,ey,rfl⟩,λv2 H2 d2 I A q2=>?_⟩;subst q2;symm at A;subst A;show⟨x,y,rfl,rfl,J.1,J.2,λl L=>k l _ _ _ ((p.trans I).free L) aY ((p.trans I).trans (aQ L)) (IC _) Y⟩
def Cn:F2
 |.lst a,.int n,Q=>a.length*n.toNat<=bc /\ -(2^63)<=n/\n<2^63/\Q (.lst (bp n.toNat a).flatten)
 |_,_,_=>False
theorem N7{K:ao}{S:ah->Prop}{H:Hp}{ds:List D}{xs:List V}(h:bC K S H ds xs):∀n:Nat,bC K S H (bp n ds).flatten (bp n xs).flatten
 |0=>bC.nil
 |n+1=>by rw[iq,iq,lp,lp];show h.append (N7 h n)
def rep3(q:dB X a ta)(U:dB X b tb):FI X (.BinOp a .Mult b ν) (iB Cn ta tb):=imp (VF aDk q U) λσ H Q h=>by
 obtain⟨S,ρ,Q3,z,y,O,k⟩:=h;show⟨S,ρ,_,z,y,O,λv H1 d m F q1=>?_⟩;show⟨S,ρ,_,bP z m,Sl.fits (.same m) y,q1,λu H2 Y l j q2=>?_⟩;cases d<;>cases Y<;>try show q2.elim
 rename_i ds n;symm at F j;obtain⟨a,xs,rfl,q,Z,A⟩:=F;subst j;have x:=bC.fits (.same l) _ _ A;obtain⟨K,J,I,L⟩:=q2;show⟨a,n,xs,rfl,rfl,l _ _ q,J,I,by rw[<- A.len];show K,λp o=>k p _ _ _ ((m.trans l).free o) aY ((m.trans l).trans (aQ o)) ?_ L⟩;show bC.fits ((Fits.fresh o).trans (.same (aQ o))) _ _ (N7 x _)
def RG:Tells Cn repLM:=λx y d Q e q=>by
 cases x<;>first|(cases e;done)|skip
 cases y<;>first|(cases e;done)|skip
 rename_i a n;have e:(if a.length*n.toNat<=nU/\n.natAbs<9223372036854775808 then aa (D.lst (bp n.toNat a).flatten) else af)=aa d:=e;by_cases h:a.length*n.toNat<=nU/\n.natAbs<9223372036854775808
 .rw [Z_ h] at e;cases e;show⟨by rw[fg];show h.1,by have:=h.2;lia,by have:=h.2;lia,q⟩
 .rw [Zz h] at e;cases e
def ID(h:cD X a fa)(d:cD X b fb):kE X (.BinOp a .Mult b ν) (aB repLM fa fb):=cF (rep3 h d) (jB RG)
def We(I:NV X e f)(F:PG3 X tg (wG g))(A:swapsWithSole [tg] e ν.line X.env=pure ag:=by rfl)(hw:swappedStores [tg] e X.env=pure af:=by rfl)
  (J:(df [tg] X.env).map (·.2)=[assign tg X.env]:=by rfl):qL X (.Assign [tg] e ν) (R8 f g) :=
 jR (VB I F A hw J) λB σ H O=>by
  obtain⟨H₀,S,w,ρ,G,E,q,st,d,ok⟩:=O;unfold wS R8 at d
  cases e1:(f ρ).bind λp=>g p.2 p.1 with
  |none=>rw[e1] at d;show d.elim
  |some ρ' =>
   rw[e1] at d;obtain⟨p,L,K⟩:=bnd e1;show⟨H₀,S,w,ρ,G,λa x=>a=p.1/\x=p.2,q,st,⟨p,L,rfl,rfl⟩,λo v H' a x m d' z=>?_⟩;obtain⟨rfl,rfl⟩:=z;show⟨H₀,S,o,p.1,G,p.2,_,q,m,d',⟨ρ',K,d⟩,λh U j n l y=>ok.nx o h U j n l y⟩
end
section
section
variable{ls fs:Q0g}{fr:List Nat}{sc:fj}{tg iter elt:au}{ifs:List au}{ν:bb}{i:Nat}{x:aj}{spos pos':bb}
theorem LC{m:WI}{g:GE}{tf:WT}{te:WE}(nd:X.N.Nodup)(L:X.calm=ae)(hi:WK X tg iter m)
  (F:∀a C pn ex s H,(blk X (ls++fs) sc a C pn ex s H).N.Nodup->PG4 (blk X (ls++fs) sc a C pn ex s H) ls.length tg g) (I:∀a C pn ex s H,QL (blk X (ls++fs) sc a C pn ex s H) ifs tf) (J:∀a C pn ex s H,dB (blk X (ls++fs) sc a C pn ex s H) elt te)
  (h:X.N[i]?=aa x:=by rfl) (v:X.env.scope.names.lookup x=aa .local:=by rfl) (j:Rv X elt tg iter ifs sc ν x pos' spos:=by rfl)
  (B:RZ X.env.scope.names sc X.N ls fs fr=ae:=by rfl) (z:Zo X iter:=by intro _;rfl):CH X (.Assign [.Name x pos'] (.ListComp elt [⟨tg,iter,ifs,0⟩] sc ν) spos) (Eu i (HD ls.length fr m g tf te)) :=
 jR (zX (g:=zY X.K ls.length (ls++fs).length g) (tf:=liftT X.K tf) (te:=lift X.K te) nd h v L (nL B) hi (λa C pn ex s H=>F a C pn ex s H (nL B).nd) I J j z) λBd σ H O=>by
 obtain⟨H₀,S,w,ρ,G,E,q,st,y,ok⟩:=O;show uT (n:=(ls++fs).length) (by rw[cy,(nL B).A3]) ⟨_,bD ρ,_,st.IQ,st.all,y,λp xs H' ds A l s' d' o=>ok.nx w _ H' _ (by rw[dm];show q) ((st.same s').lZ (d:=.lst ds) (by rw[q];show jS h) (by symm;show⟨p,xs,rfl,l,st.NO p A,bC.AN o.1 d'⟩)) o.2⟩
variable{it:AF}{g:YR}{t:TF}{e:EF}
def Wb{f:EF}{ρ:dZ}{Q:D->Prop}{o:Out}{d:D}(h:f ρ=aa d)(a:oB d=ae)(q:Q d):wE f ρ λd=>(match d with | .lst ds=>qC ds=ae|_=>False)/\Q d:=by show⟨d,h,?_,q⟩;cases d<;>first|show a|cases a
theorem LD(nd:X.N.Nodup)(z:X.calm=ae)(hi:QT X tg iter it)
  (q:∀a C pn ex s H,(blk X (ls++fs) sc a C pn ex s H).N.Nodup->K4 (blk X (ls++fs) sc a C pn ex s H) ls.length tg g) (v:∀a C pn ex s H,W9 (blk X (ls++fs) sc a C pn ex s H) ifs t) (y:∀a C pn ex s H,cD (blk X (ls++fs) sc a C pn ex s H) elt e)
  (j:X.N[i]?=aa x:=by rfl) (n:X.env.scope.names.lookup x=aa .local:=by rfl) (l:Rv X elt tg iter ifs sc ν x pos' spos:=by rfl)
  (B:RZ X.env.scope.names sc X.N ls fs fr=ae:=by rfl) (p:Zo X iter:=by intro _;rfl):qL X (.Assign [.Name x pos'] (.ListComp elt [⟨tg,iter,ifs,0⟩] sc ν) spos) (nV i (cN ls.length fr it g t e)) :=
 cS (LC nd z hi q v y j n l B p) λE ρ w=>by
  unfold wS nV at w
  cases h:cN ls.length fr it g t e (bD ρ) with
  |none=>rw[h] at w;show w.elim
  |some d =>
   rw[h] at w;dsimp only at w;by_cases m:oB d=ae
   .rw [Z_ m] at w;show K3 _ _ (Wb (o:=.no) (Q:=λd=>E.nx (ρ.set i (.ro d))) h m w)
   .rw [Zz m] at w;show w.elim
end
theorem xG:∀(l:Q0e) (a M:Int),(M=a\/M∈l)->a<=M->(∀b∈l,b<=M)->l.foldl (λm b=>if m<b then b else m) a=M
 |[],a,M,h,_,_=>by
  rcases h with h|h
  .exact h.symm
  .cases h
 |b::l,a,M,h,ha,hb=>by
  have n:=hb b (by simp);rw[mf];by_cases d:a<b
  .rw [Z_ d];show xG l b M ?_ n λc j=>hb c (by simp[j]);rcases h with h|h
   .omega
   .rcases bh.mp h with h|h
    .exact .inl h
    .exact .inr h
  .rw [Zz d];show xG l a M ?_ ha λc j=>hb c (by simp[j]);rcases h with h|h
   .exact .inl h
   .rcases bh.mp h with h|h
    .exact .inl ∅
    .exact .inr h
def Ei(K:ao):List V->Hp->VK->Prop:=λxs H Q=>∃(a:ah) (ns:Q0e),xs=[.ref a]/\fJ K H a (ns.map V.int)/\ns≠[]/\Q (.int (kB ns)) H
theorem RH(hc:X.calm=ae):gD X (.builtin "max") (Ei X.K):=by
 intro π s σ H xs us Q I r h;obtain⟨a,ns,rfl,ha,x,q⟩:=h;obtain⟨u,rfl,ru⟩:=vals1 r;cases ru;obtain⟨ι,rv,p,hz⟩:=I.tuple ha;have hi:=intsAre_of rv;obtain⟨d,U⟩:=hi.allInts.items;have Y:d.toList.map (·.1)=ns:=by rw[<- Ha,<- U];show hi.numsOf
 have sz:d.size=ns.length:=by rw[<- Y,az,t_]
 have n:0<d.size:=by rw[sz];show Jf.mpr x
 have pt:s.heap.IsTuple a (intItems d):=U▸(show s.heap.IsTuple a ι.toArray from p);have y:a<s.heap.objs.size:=by obtain⟨_,e,_⟩:=pt;show br e
 show a0C (ou pt ?_);show⟨_,_,_,_,_,_,_,rfl,Walks.tuple (A:=X.A.in1) (I.ok.hd hc) _ a (ee y) (intItems d),⟨⟨_,dg _ rfl,rfl,rfl⟩,pt.push _⟩,?_,by simpa[intItems] using n,a1l (numAt d) (λ_ _=>zp),λv h' tk O hk=>?_⟩
 .intro b m;show a1M ?_ (ko _ _).symm;have L:b=s.heap.objs.size\/b=a:=by simpa using m
  rcases L with rfl|rfl
  .exact vz _
  .exact qa y
 .have O:(intItems d)[argBest (λi j=>Zv (numAt d i>numAt d j)) (d.size-1)]?=aa v:=by simpa[intItems] using O
  obtain⟨t,rfl⟩:=zp O;obtain⟨b1,Z⟩:=argBest_gt (numAt d) (d.size-1);generalize argBest (λi j=>Zv (numAt d i>numAt d j)) (d.size-1)=J at b1 Z;have z:∀j,j<ns.length->numAt d j=ns.getD j 0:=λj F=>by rw[numAt_eq,Y]
  have mem:numAt d J∈ns:=by rw[z J ∅,jw,bx ∅];show md _
  have top:∀b∈ns,b<=numAt d J:=λb m=>by obtain⟨j,F,ej⟩:=Ba m;subst ej;have:=Z j ∅;rw[z j F,jw,bx F] at this;show this
  have key:kB ns=numAt d J:=by
   cases ns with
   |nil=>show Zw rfl x
   |cons c l=>show xG l c _ (bh.mp mem) (top c (by simp)) λb m=>top b (by simp[m])
  show⟨.int (kB ns),H,I.kept λb o e=>hk b o (λm=>?_) (cm _ e),⟨t,by rw[key]⟩,q⟩;have:b=s.heap.objs.size:=by simpa using m
  show jb _ (this▸br e)
def Eh:F1
 |[.tup ds],Q=>∃ns:Q0e,ds=ns.map D.int/\ns≠[]/\Q (.int (kB ns))
 |_,_=>False
theorem aBB{K:ao}:C3 K (Ei K) Eh:=by
 intro S H xs ds Q3 Q o j h k
 match ds,h with
 |[.tup es],⟨ns,e,ne,q⟩ =>
  subst e;obtain⟨v,r,rfl,d,h2⟩:=j.bQ;simp only[bC] at h2;subst h2;symm at d;obtain⟨a,ys,rfl,l,n⟩:=d;have m:=bC.ints.mp n;subst m;show⟨a,ns,rfl,(fJ.of l),ne,k _ H _ (ξ.refl H) (by symm) q⟩
def LF:k7 Eh FU:=λds d Q e q=>by
 unfold FU at e;split at e
 .obtain ⟨ns,a,e⟩:=bnd e;by_cases ne:ns=[]
  .rw [Z_ ne] at e;cases e
  .rw [Zz ne] at e;cases e;have:=ints_of a;subst this;show⟨ns,rfl,ne,q⟩
 .cases e
def Wa(j:X.calm=ae)(a:X.mg "max"=af)(l:uW X [e] t)(d:Gl X "max":=by rfl)(h:Zr X e []:=by rfl):cD X (.Call (.Name "max" p) [e] [] ν) (cK FU t) :=
 cE (uS (RH j) aBB Ih d a l (by decide) (by decide) h (by rfl)) (z5 LF)
end
theorem Vw(C:Cl X.Ω X.w X.K X.mg X.ω mP k x ps (HP X.K R))(j:fL k X.A)
  (v:PRs X (e::es) r) (n:Gl X x:=by rfl) (d:Zu x:=by decide) (o:Zr X e es:=by rfl) (a:Q0l X ν es:=by rfl):
  PR X (.Call (.Name x p) (e::es) [] ν) r:=by
 obtain⟨F,l,m,q⟩:=C;show imp (pZ F j n l m q .nil NM v d o a) λσ H Q h=>h
def aEc{st:bz}{t:TS}(h:PS X.IP st t):PS X st t:=λπ s σ H D I hw=>ik (h π s σ H D (I.wish λ_ _=>False) hw) (λ_ _ q=>SP.nH q) λ_ _ z=>z.elim
theorem N8{st:bz}{f:SF}(h:qL X.IP st f):qL X st (tX f):=jR (aEc h) λB σ H l=>by
 obtain⟨H₀,S,w,ρ,G,E,m,j,a,ok⟩:=l;show⟨H₀,S,w,ρ,G,{E with ex:=λ_=>False},m,j,?_,⟨ok.nx,ok.rt,ok.bk,ok.ct,λ_ _ _ q=>q.elim⟩⟩;unfold wS tX at a;unfold wS
 cases hf:f ρ with
 |nx ρ1=>rw[hf] at a;show a
 |rt d=>rw[hf] at a;show a
 |no=>rw[hf] at a;show a
 |ex c=>rw[hf] at a;show a.elim
end L5
namespace L6
open PySem.Spec PyProof.Rows
section
variable{Ω:bf}{w:ba}{A:bq}{E:Q0c}{s:ak}
theorem stored(ho:s.heap.get? a=aa o)(d:o.data=.set es ep t):
  (s.heap.update a (a00 es' t')).get? a=aa {o with data:=.set es' (ep+1) t' }:=by
 have q:=Ad (a00 es' t') ho (by rw[putSet_of es' t' d];rfl)
 rwa [putSet_of es' t' d] at q
end
open L2 L3 L4
theorem IE(n:ia s.heap t ι.toArray)(m:ι.length<=bc)
  (h:∀h',s.heap.objs.size<=h'.objs.size->(∀b u,s.heap.get? b=aa u->h'.get? b=aa u)->Q ι {s with heap:=h' }):av (aw Ω w) A (collect (.ref t)) Q E s:=by
 obtain⟨o,a,j,p,d⟩:=id n;unfold collect;apply aq;apply a0i;show oz a1g ?_;rw[rm a1d]
 wp_walk
 show⟨zo Ag _,oz a1h ?_⟩;rw[rm Ag];have l:(s.heap.push {cls:=.type "list",data:=.seq #[]}).get? s.heap.objs.size=aa {cls:=.type "list",data:=.seq #[] 0}:=dg _ rfl;show wpAny_extend_seq (R:=wants _ _) (s:={s with heap:=s.heap.push {cls:=.type "list",data:=.seq #[]} }) s.heap.objs.size t _ 0 (.inr rfl) l (cm _ a) j d ?_ (by simpa using m);have g1:=Ad (fm (· ++ ι.toArray)) l rfl;apply aq;apply Gs g1;have fin:=h ((s.heap.push {cls:=.type "list",data:=.seq #[]}).update s.heap.objs.size (fm (· ++ ι.toArray))) (ku (br g1)) λb u e=>(Ho _ _ (kr (br e))).trans (cm _ e);show a_ ?_;simpa using fin
theorem LG(x:ia s.heap t ι.toArray)(j:jt ι ns)(y:ns.length<64)
  (h:∀h' o l out a e,(∀b u,s.heap.get? b=aa u->h'.get? b=aa u)->s.heap.objs.size<=l->jt out a->a.Perm ns->a.Pairwise (· <= ·)->h'.get? l=aa (seqObj "list" out.toArray e)->Q (.ref l) {s with heap:=h',toks:=o}):
  av (aw Ω w) A (call (.builtin "sorted") [.ref t]) Q E s:=by
 have p:ι.length<64:=by rw[IntsAre.length j];show y
 apply a1n Ib H_ Ie (a1E _);unfold Builtin.«sorted»;show aq (m:=checkCount "sorted" 1 1 _) (a_ (aq (IE (A:=A.in1) x (by rw[fg];lia) λn v keep=>?_)));apply aq;show vi ?_ (by rw[fg];lia);have g1:(n.push (seqObj "list" ι.toArray 0)).get? n.objs.size=aa (seqObj "list" ι.toArray 0):=dg _ rfl;show aq (iy (j_ Hz ⟨_,g1,rfl⟩ Ig (list_sort_tree g1 j p λout a I F z=>⟨_,rfl,?_⟩) (a1F _)));obtain⟨e,g2⟩:=sortedHeap_at (out:=out) g1;show a_ ⟨_,rfl,h _ s.toks _ out.toList a e (λb u q=>?_) v I F z (by simpa using g2)⟩;have d:=br (keep b u q);rw[sortedHeap_old (ee d) (by rw[ko];show qa d)];show cm _ (keep b u q)
variable{X:Cx}
def aEd(K:ao):List V->Hp->VK->Prop:=λxs H Q=>∃(a:ah) (ns:Q0e),xs=[.ref a]/\fJ K H a (ns.map V.int)/\ns.length<64 /\∀d:Q0e,d.Perm ns->d.Pairwise (· <= ·) ->∀p,H p=af->Q (.ref p) (upd H p (.lst (d.map V.int)))
def LH:gD X (.builtin "sorted") (aEd X.K):=by
 intro π s σ H xs U Q I r h;obtain⟨a,ns,rfl,z,A,q⟩:=h;obtain⟨u,rfl,x⟩:=vals1 r;cases x;obtain⟨O,v,y,Y⟩:=I.tuple z;show LG y (intsAre_of v) A λh' p l out d e keep m J n F g=>?_;have j:d.length<=bc:=by rw[n.length_eq,fg];lia
 have L:=I.laid (t':=p) (a:=l) (o:=.lst (d.map V.int)) keep m ⟨by rw[az];show j,out,e,p7 J,by simpa[seqObj] using g⟩;show⟨.ref l,_,L,rfl,q d n F l (I.hok.fresh m)⟩
def AG(J:X.mg "sorted"=af)(O:uW X [e] t)(K:Gl X "sorted":=by rfl)(L:Zr X e []:=by rfl):
  kE X (.Call (.Name "sorted" p) [e] [] ν) (cK kP t) :=
 imp (mM LH K J Ao O (by decide) (by decide) L (by rfl)) λσ H Q Vv=>by
  obtain⟨S,ρ,Q3,U,F,⟨d,h,I⟩,k⟩:=Vv;obtain⟨ds,o,h⟩:=bnd h;show⟨S,ρ,λes=>es=ds,U,F,⟨_,o,rfl⟩,λvs H1 es q z q1=>?_⟩;subst q1;unfold kP at h;split at h
  .rename_i a;obtain⟨ns,Z,h⟩:=bnd h;by_cases n:ns.length<64
   .rw [Z_ n] at h;cases h;rw[ints_of Z] at z;obtain⟨v,r,rfl,y,h2⟩:=z.bQ;simp only[bC] at h2;subst h2;symm at y;obtain⟨t1,xs,rfl,x,dt⟩:=y;rw[bC.ints.mp dt] at x;show⟨t1,ns,rfl,fJ.of x,n,λm pm A l j=>?_⟩;have Y:m=sortI ns:=rK (pm.trans (oY _).symm) A (l6 _);subst Y;show k l _ _ _ (q.free j) aY (q.trans (aQ j)) (bC.ints.mpr rfl) I
   .rw [Zz n] at h;cases h
  .cases h
end L6
namespace L7
open PySem.Spec PyProof.Rows L2 L3 L4 LL
def kI(ns:Q0e):List Key:=ns.map cp
def Vu(ns:Q0e):(kI ns).map kV=ns.map V.int:=by unfold kI;rw[dh];rfl
section
variable(rd:List Int->List (List Int))
abbrev All:ah->Prop:=λ_=>True
end
def At(K:ao)(x:Q0a)(a:Q0e)(p:ah)(σ:L2.St)(H:Hp):Prop :=
 ∃d h,σ[0]?=aa (aa d)/\Dn K All H (aK x) d/\σ[1]?=aa (aa h)/\Dn K All H (τ a) h/\σ[2]?=aa (aa (.ref p))
def At.key{K:ao}{x:Q0a}{a:Q0e}{p:ah}{σ:L2.St}{H:Hp}(h:At K x a p σ H):∃b,σ[1]?=aa (aa (.ref b))/\H b=aa (.tup ((kI a).map kV)):=by obtain⟨n,o,v,h2,l,d,q⟩:=h;unfold τ at d;symm at d;obtain⟨b,ys,rfl,j,m⟩:=d;rw[bC.ints.mp m] at j;show⟨b,l,by rw[Vu];show j⟩
section
variable{K:ao}{rd:List Int->List (List Int)}{x:Q0a}{Ok:List Int->Prop}{a:Q0e}{p:ah}{σ:L2.St}{H:Hp}{χ:List (List Key×V)}
structure Parts (K:ao) (rd:List Int->List (List Int)) (x:Q0a) (a:Q0e) (C1:TT) (T1:TE) (T3:TS):Prop where
 c1:∀p σ H Q,At K x a p σ H->(∀H',ξ H H'->Q (Zv (a.length=x.length)) H')->C1 σ H Q
 t1:∀σ H (Q:VK),(∀H',ξ H H'->Q (.int 1) H')->T1 σ H Q
 t3:∀p (D:Ends) σ H,σ.length=4->At K x a p σ H->a.length<x.length->(∀(σ':L2.St) (H':Hp) (l:ah) (ps:List ah),ξ H H'->At K x a p σ' H'->σ'[3]?=aa (aa (.ref l))->H' l=aa (.lst (ps.map V.ref))->ps.length=(rd a).length ->
  (∀(i:Nat) (q:ah) (b:Q0e),ps[i]?=aa q->(rd a)[i]?=aa b->H' q=aa (.tup (b.map V.int)))->D.nx σ' H')->T3 D σ H
def wst(x:Q0a)(a:Q0e)(p:ah):bT:=[.ro (aK x),.ro (τ a),.ro (.exc "" p),.no]
theorem At.st(h:At K x a p σ H):ST K H All (λ_=>0) σ H (wst x a p) []:=by
 have no:∀(i:Nat) (d:D),(wst x a p)[i]?≠aa (Sv.ow d):=λi d e=>by
  match i,e with
  |0,e=>cases e
  |1,e=>cases e
  |2,e=>cases e
  |3,e=>cases e
  |n+4,e=>simp[wst] at e
 obtain⟨l,o,A,h2,z,y,v⟩:=h;show⟨λ_ _=>trivial,ξ.refl H,λi d e=>Zw e (no i d),λi j d e h=>Zw h (no i d),λi d e=>?_,λg q=>(by cases q),λi _ e=>Zw e (no i _)⟩;have m:∀b,All b->SO All (λ_=>0) (wst x a p) b:=λb _=>⟨trivial,λi d e=>Zw e (no i d)⟩
 match i,e with
 |0,e=>cases e;show⟨l,A,Dn.fits (.mono m) _ _ h2⟩
 |1,e=>cases e;show⟨o,z,Dn.fits (.mono m) _ _ y⟩
 |2,e=>cases e;show⟨_,v,by simp only[Dn]⟩
 |3,e=>cases e
 |n+4,e=>simp[wst] at e
end
end L7
namespace L8
open PySem.Spec PyProof.Rows L2
def i6(χ:List (KX×V×V))(k:KX):Option V:=(χ.find? λp=>Zv (p.1=k)).map (·.2.2)
def f9(χ:List (KX×V×V))(k:KX)(y v:V):List (KX×V×V):=if χ.any (λp=>Zv (p.1=k))=ae then χ.map (λp=>if p.1=k then(p.1,p.2.1,v) else p) else χ++[(k,y,v)]
def KAt(H:Hp):KX->V->Prop
 |.inl k,y=>y=kV k
 |.inr ks,y=>∃b,y=.ref b/\oU H ks b
def tL(χ:List (KX×V×V))(k:KX):Prop:=∀p∈χ,p.1.isLeft=k.isLeft
def IF(χ:List (KX×V×V))(k:KX)(y v:V):(f9 χ k y v).length<=χ.length+1:=by
 unfold f9;split
 .rw [az];lia
 .simp
abbrev PL:List (KX×V×V)->List (Key×ai)->Prop:=i_ λp q=>p.1=.inl q.1/\p.2.1=kV q.1/\Ψ p.2.2 q.2
abbrev PT(H:Hp):List (KX×V×V)->List (N1×ah×ai)->Prop:=i_ λp q=>p.1=.inr q.1/\p.2.1=.ref q.2.1/\oU H q.1 q.2.1/\Ψ p.2.2 q.2.2
theorem PL.val(r:PL χ vs)(k:Key):rB (i6 χ (.inl k)) (valueAt vs k):=by
 induction r with
 |nil=>show jq
 | @cons p q ps qs h t ih =>
  by_cases e:q.1=k
  .have d:p.1=.inl k:=by rw[h.1,e]
   have a:i6 (p::ps) (.inl k)=aa p.2.2:=by unfold i6;rw[ij,Zx d];rfl
   have b:valueAt (q::qs) k=aa q.2:=by unfold valueAt;rw[ij];simp[e]
   rw[a,b];show h.2.2
  .have d:¬ p.1=.inl k:=λz=>e (by rw[h.1] at z;show yw z);have a:i6 (p::ps) (.inl k)=i6 ps (.inl k):=by unfold i6;rw[ij,Zy d]
   have b:valueAt (q::qs) k=valueAt qs k:=by unfold valueAt;rw[ij];simp[e]
   rw[a,b];show ih
theorem PT.val(r:PT H χ xs)(k:N1):rB (i6 χ (.inr k)) ((atKey xs k).map (·.2)):=by
 induction r with
 |nil=>show jq
 | @cons p q ps qs h t ih =>
  by_cases e:q.1=k
  .have d:p.1=.inr k:=by rw[h.1,e]
   have a:i6 (p::ps) (.inr k)=aa p.2.2:=by unfold i6;rw[ij,Zx d];rfl
   have b:atKey (q::qs) k=aa q.2:=by unfold atKey;rw[ij];simp[e]
   rw[a,b];show h.2.2.2
  .have d:¬ p.1=.inr k:=λz=>e (by rw[h.1] at z;show Gj z);have a:i6 (p::ps) (.inr k)=i6 ps (.inr k):=by unfold i6;rw[ij,Zy d]
   have b:atKey (q::qs) k=atKey qs k:=by unfold atKey;rw[ij];simp[e]
   rw[a,b];show ih
theorem X2(χ:List (KX×V×V))(k:KX):χ.any (λp=>Zv (p.1=k))=(i6 χ k).isSome:=by
 unfold i6;rw[Ar]
 induction χ with
 |nil=>rfl
 |cons p ps ih =>
  rw[mh,ij,ih];cases Zv (p.1=k)<;>rfl
def PL.put(r:PL χ vs)(k:Key)(a:Ψ v u):PL (f9 χ (.inl k) (kV k) v) (stored vs k u):=by
 have e:χ.any (λp=>Zv (p.1=.inl k))=vs.any (λd=>d.1=k):=by
  induction r with
  |nil=>rfl
  | @cons p q ps qs h t ih =>
   rw[mh,mh,ih,h.1];congr 1;show decide_eq_decide.2 ⟨λz=>yw z,λz=>by rw[z]⟩
 unfold f9 stored;rw[e];split
 .rename_i hc
  clear hc e
  induction r with
  |nil=>show .nil
  | @cons p q ps qs h t ih =>
   rw[bo,bo];show .cons ?_ ih;by_cases z:q.1=k
   .rw [Z_ z,Z_ (by rw[h.1,z])];show⟨h.1,h.2.1,a⟩
   .rw [Zz z,Zz (λy=>z (by rw[h.1] at y;show yw y))];show h
 .exact Ab r ⟨rfl,rfl,a⟩
def PT.put(r:PT H χ xs)(k:N1)(d:oU H k b)(a:Ψ v u):PT H (f9 χ (.inr k) (.ref b) v) (storedH xs k b u):=by
 have e:χ.any (λp=>Zv (p.1=.inr k))=(atKey xs k).isSome:=by rw[X2];have:=(PT.val r k).p8;rw[Ar] at this;show this
 unfold f9 storedH;rw[e];split
 .rename_i hc
  clear hc e
  induction r with
  |nil=>show .nil
  | @cons p q ps qs h t ih =>
   rw[bo,bo];show .cons ?_ ih;unfold putAt;by_cases z:q.1=k
   .rw [Z_ z,Z_ (by rw[h.1,z])];show⟨h.1,h.2.1,h.2.2.1,a⟩
   .rw [Zz z,Zz (λy=>z (by rw[h.1] at y;show Gj y))];show h
 .exact Ab r ⟨rfl,rfl,d,a⟩
section
variable{P:bf}{w:ba}{H:Hp}{h:ay}{a:ah}{o:ax}{χ:List (KX×V×V)}
def tM(ok:pW P w H h)(n:oU H ks b):(mL P w).is h ks b:=by
 obtain⟨vs,e,r⟩:=n;obtain⟨_,p,j,⟨q,z,h2,m,y⟩,_⟩:=(show dN P w H h b (.tup vs) from ok b _ e);have go:∀{ks:N1} {vs:List V} {d:Q0f},i_ (DU H) ks vs->θ vs d->iX (bO P w) h ks d:=by
  intro ks vs d r
  induction r generalizing d with
  |nil=>intro j;cases j;show .nil
  | @cons k v ks vs i _ ih =>
   intro j
   cases j with
   | @cons _ u _ d l rt =>
    show .cons ?_ (ih rt)
    cases k with
    |inl k =>
     have i:v=kV k:=i;subst i;show vM l
    |inr k =>
     obtain⟨c,rfl,x⟩:=i;have l:u=.ref c:=l;show⟨c,l,EL ok x⟩
 show⟨q,p.toArray,m,z,h2,y,by simpa using go r j⟩
def AH(x:DW P w H o χ)(ho:h.get? a=aa o)(n:∀p∈χ,p.1.isLeft=ae):∃vs,PL χ vs/\h.DictOf (bO P w) a vs:=by
 obtain⟨ex,es,j,l,m⟩:=x;rcases m with⟨vs,r,d,h2,y⟩|⟨xs,r,d,h2⟩
 .exact ⟨vs,r,o,es,j,ho,ex,l,d,h2,y⟩
 .cases r with
  |nil =>
   have A:es.toList=[]:=d;have z:es=#[]:=by simpa using A
   subst z;show⟨[],.nil,o,#[],j,ho,ex,l,(λ_ v=>by simp at v),.nil,sx⟩
  | @cons p q ps qs hq t =>
   have:=n p cb;rw[hq.1] at this;cases this
def FD(ok:pW P w H h)(x:DW P w H o χ)(ho:h.get? a=aa o)(n:∀p∈χ,p.1.isLeft=ag):∃xs,PT H χ xs/\h.DictOfH (mL P w) a xs:=by
 obtain⟨ex,es,l,m,d⟩:=x;rcases d with⟨vs,r,j,h2,z⟩|⟨xs,r,j,h2⟩
 .cases r with
  |nil =>
   have y:es.toList=[]:=Jn (by rw[h2.length];rfl);show⟨[],.nil,o,es,l,ho,ex,m,y,(λ_ v=>by simp at v),sx⟩
  | @cons p q ps qs hq t =>
   have:=n p cb;rw[hq.1] at this;cases this
 .refine ⟨xs,r,o,es,l,ho,ex,m,j,?_,h2⟩;have go:∀{χ:List (KX×V×V)} {xs:List (N1×ah×ai)},PT H χ xs ->∀x∈xs,(mL P w).is h x.1 x.2.1:=by
   intro χ xs r
   induction r with
   |nil=>intro x d;cases d
   |cons hq _ ih =>
    intro x d;rcases bh.1 d with e|d
    .subst e;show tM ok hq.2.2.1
    .exact ih x d
  show go r
variable{X:Cx}{π:Q0b}{σ:L2.St}{s:ak}{y v z:V}{u r:ai}{A:bq}{E:Q0c}{k:KX}
def N9(I:Φ X π σ H s)(e:H a=aa (.dX o χ)):χ.length<=bc/\(a == sysModules)=ag/\s.heap.get? a=aa o/\DW X.Ω X.w H o χ:=I.hok a _ e
def xp{k:Key}(kd:tL χ (.inl k)):∀p∈χ,p.1.isLeft=ae:=kd
def xo{k:N1}(kd:tL χ (.inr k)):∀p∈χ,p.1.isLeft=ag:=kd
theorem RI(F:A.units+2<dj)(I:Φ X π σ H s)(e:H a=aa (.dX o χ))(j:KAt H k y)(kd:tL χ k)(x:i6 χ k=aa v)(n:Ψ y u)(h:∀d s',Φ X π σ H s'->Ψ v d->Q d s'):
  av (aw X.Ω X.w) A (getItem (.ref a) u) Q E s:=by
 obtain⟨z,L,ho,q⟩:=N9 I e
 cases k with
 |inl k =>
  have j:y=kV k:=j;subst j;obtain⟨vs,rel,dd⟩:=AH q ho (xp kd);obtain⟨d,hw,m⟩:=rB.some_of (v:=v) (o:=valueAt vs k) (by rw[<- x];show PL.val rel k);show a0l (vM n) dd.mapOf hw (h d _ (I.tok _) m)
 |inr k =>
  obtain⟨b,rfl,K⟩:=j;obtain rfl:u=cz b:=n;obtain⟨xs,rel,dd⟩:=FD I.hok q ho (xo kd);obtain⟨d,hw,m⟩:=rB.some_of (v:=v) (o:=(atKey xs k).map (·.2)) (by rw[<- x];show PT.val rel k);obtain⟨p,J,l⟩:=ip.mp hw;show a0m (nest_room F) (tM I.hok K) dd J ?_;rw[l];show h d _ (I.tok _) m
theorem Ma(neg:Bool)(n:A.units+2<dj)(I:Φ X π σ H s)(e:H a=aa (.dX o χ))(j:KAt H k y)(kd:tL χ k)(l:Ψ y u)(h:∀s',Φ X π σ H s'->Q (.bool (if neg then !(i6 χ k).isSome else(i6 χ k).isSome)) s'):
  av (aw X.Ω X.w) A (compareOp (if neg then .NotIn else .In) u (.ref a)) Q E s:=by
 obtain⟨z,d,ho,m⟩:=N9 I e
 cases k with
 |inl k =>
  have j:y=kV k:=j;subst j;obtain⟨vs,rel,dd⟩:=AH m ho (xp kd);have ev:(i6 χ (.inl k)).isSome=(valueAt vs k).isSome:=(PL.val rel k).p8;rw[ev] at h
  cases neg with
  |false=>show wpAny_in_of (vM l) d dd.mapOf (h _ (I.tok _))
  |true=>show wpAny_notIn_of (vM l) d dd.mapOf (h _ (I.tok _))
 |inr k =>
  obtain⟨b,rfl,p⟩:=j;obtain rfl:u=cz b:=l;obtain⟨xs,rel,dd⟩:=FD I.hok m ho (xo kd);have ev:=(PT.val rel k).p8;rw[Ar] at ev;rw[ev] at h
  cases neg with
  |false=>show wpAny_in_heap (nest_room n) (tM I.hok p) d dd (h _ (I.tok _))
  |true=>show wpAny_notIn_heap (nest_room n) (tM I.hok p) d dd (h _ (I.tok _))
def X3(I:Φ X π σ H s)(e:H a=aa (.dX o χ)):s.TypeIs (.ref a) "dict":=by obtain⟨z,j,ho,d⟩:=N9 I e;show⟨o,ho,d.1.1⟩
def X4{P:bf}{w:ba}{h':ay}{H':Hp}{χ:List (KX×V×V)}{vs:List (Key×ai)}(rel:PL χ vs)(dd:h'.DictOf (bO P w) a vs):∃d,h'.get? a=aa d/\DW P w H' d χ:=by obtain⟨d,es,q,p,h2,n,m,l,j⟩:=dd;show⟨d,p,h2,es,q,n,.inl ⟨vs,rel,m,l,j⟩⟩
def aBC{P:bf}{w:ba}{h':ay}{H':Hp}{χ:List (KX×V×V)}{xs:List (N1×ah×ai)}(rel:PT H' χ xs)(dd:h'.DictOfH (mL P w) a xs):∃d,h'.get? a=aa d/\DW P w H' d χ:=by obtain⟨d,es,p,n,h2,m,l,_,j⟩:=dd;show⟨d,n,h2,es,p,m,.inr ⟨xs,rel,l,j⟩⟩
def aBD{H:Hp}{a:ah}{o:ax}{χ:List (KX×V×V)}{u:HO}(e:H a=aa (.dX o χ)):∀b ys,H b=aa (.tup ys)->upd H a u b=aa (.tup ys):=λb ys d=>by rw[bB (Fm d e (λz=>nomatch z))];show d
theorem RJ(U:A.units+2<dj)(I:Φ X π σ H s)(e:H a=aa (.dX o χ))(m:KAt H k y)(kd:tL χ k)(Y:χ.length<bc)(x:Ψ y u)(F:Ψ v r)(h:∀d s',Φ X π σ (upd H a (.dX d (f9 χ k y v))) s'->Q () s'):
  av (aw X.Ω X.w) A (setItem (.ref a) u r) Q E s:=by
 obtain⟨z,O,ho,L⟩:=N9 I e;have K:(f9 χ k y v).length<=bc:=by have:=IF χ k y v;lia
 have J:Mut (H a):=by rw[e];show jq
 cases k with
 |inl k =>
  have m:y=kV k:=m;subst m;obtain⟨vs,rel,dd⟩:=AH L ho (xp kd);have q:vs.length<=bc:=by rw[<- qz rel];show z
  show a0d (hsz:=q) (vM x) dd λh' j p=>?_;obtain⟨d,g1,g2⟩:=X4 (H':=upd H a (.dX o (f9 χ (.inl k) (kV k) v))) (PL.put rel k F) j;show h d _ (xC I J p ⟨d,g1⟩ ⟨K,O,g1,g2.stay λb ys n=>by
   by_cases l:b=a
   .subst l;rw[aY] at n;cases n
   .rw [bB l] at n ⊢;show n⟩)
 |inr k =>
  obtain⟨b,rfl,l⟩:=m;obtain rfl:u=cz b:=x;obtain⟨xs,rel,dd⟩:=FD I.hok L ho (xo kd);have q:xs.length<=bc:=by rw[<- qz rel];show z
  show a0e (hsz:=q) (nest_room U) (tM I.hok l) dd λh' j p=>?_;obtain⟨d,g1,g2⟩:=aBC (PT.put rel k l F) j;show h d _ (xC I J p ⟨d,g1⟩ ⟨K,O,g1,g2.stay (aBD e)⟩)
end
open L7
def Eg(h ty:TE):TE:=λσ H Q=>h σ H λx j=>ty σ j λy d=>∃a o χ k v,x=.ref a/\d a=aa (.dX o χ)/\KAt d k y/\tL χ k/\i6 χ k=aa v/\Q v d
def xm(neg:Bool)(ty h:TE):TE:=λσ H Q=>ty σ H λy j=>h σ j λx d=>∃a o χ k,x=.ref a/\d a=aa (.dX o χ)/\KAt d k y/\tL χ k/\Q (.bl (if neg then !(i6 χ k).isSome else(i6 χ k).isSome)) d
def Vt(j ty h:TE):TS:=λD σ H=>h σ H λv n=>j σ n λx m=>ty σ m λy d=>∃a o χ k,x=.ref a/\d a=aa (.dX o χ)/\KAt d k y/\tL χ k/\χ.length<bc /\∀l,D.nx σ (upd d a (.dX l (f9 χ k y v)))
def Vs:TE:=λ_ H Q=>∀p o,H p=af->Q (.ref p) (upd H p (.dX o []))
variable{X:Cx}
section
variable{o i e f value:au}{ν pos':bb}{td ty tv tz:TE}
def OA(q:X.A.units+2<dj)(ho:PE X o td)(hi:PE X i ty)(z:KL i):PE X (.Subscript o i ν) (Eg td ty):=by intro π s σ H Q I h;show NN a1c.lookup z (eR (ho π s σ H _ I h) λu j ⟨x,U,L,m,q1⟩=>?_);show eR (hi π j σ U _ L q1) λiv Z J=>?_;obtain⟨y,O,d,l,a,ob,χ,k,v,ex,e,F,kd,p,q2⟩:=J;subst ex;obtain rfl:u=cz a:=m;show⟨X3 d e,RI q d e F kd p l λY s3 K n=>⟨v,O,K,n,q2⟩⟩
def RK(m:X.A.units+2<dj)(hi:PE X i ty)(ho:PE X o td):PC X .NotIn i o (xm ae ty td):=by intro π s σ H Q I h;show eR (hi π s σ H _ I h) λU d p=>?_;obtain⟨y,K,F,j,q1⟩:=p;show eR (ho π d σ K _ F q1) λu L q=>?_;obtain⟨x,J,z,l,a,O,χ,k,ex,e,n,kd,q2⟩:=q;subst ex;obtain rfl:u=cz a:=l;show Ma ae m z e n kd j λs3 v=>⟨.bl _,J,v,rfl,q2⟩
def aBE(F:X.A.units+2<dj)(ho:PE X o td)(hi:PE X i ty)(z:PE X value tv)(J:di value (aa (.Subscript o i pos')) ν.line X.env=pure ag):PS X (.Assign [.Subscript o i pos'] value ν) (Vt td ty tv):=by intro π s σ H D I h;show a0q (eR (z π s σ H _ I h) λr j ⟨v,H1,I1,n,q1⟩=>?_) J;show eR (ho π j σ H1 _ I1 q1) λu d O=>?_;obtain⟨x,H2,I2,m,q2⟩:=O;show eR (hi π d σ H2 _ I2 q2) λiv s3 U=>?_;obtain⟨y,H3,Z,l,a,ob,χ,k,ex,e,L,kd,K,p⟩:=U;subst ex;obtain rfl:u=cz a:=m;show RJ F Z e L kd K l n λq s4 Y=>⟨σ,_,Y,p q⟩
def X5(h:ay)(d:sysModules<h.objs.size):dN P w H (h.push {cls:=.type "dict",data:=.dict #[]}) h.objs.size (.dX {cls:=.type "dict",data:=.dict #[]} []) :=
 ⟨kh _,beq_eq_false_iff_ne.mpr (d_ (ee d)),dg _ rfl,⟨rfl,rfl,rfl⟩,#[],0,rfl,.inl ⟨[],.nil,(λ_ a=>by simp at a),.nil,sx⟩⟩
def aBF:PE X (.Dict [] [] ν) Vs:=λπ s σ H Q I h =>
 a0p ⟨.ref s.heap.objs.size,_,I.laid (t':=s.toks) (λ_ _ q=>cm _ q) (bj _) (X5 s.heap I.big),rfl,h _ _ (I.hok.fresh (bj _))⟩
end
open L3 L4
section
variable{K:ao}{S:ah->Prop}{H:Hp}
def aBG(h:Dn K S H d v)(e:xO d=aa k):v=kV k:=by cases d<;>simp only[xO] at e<;>cases e<;>symm at h<;>show h
theorem IG:∀{ds:List D} {xs:List V} {ks:List Key},bC K S H ds xs->BC ds=aa ks->xs=ks.map kV
 |[],xs,ks,h,e=>by simp only[bC] at h;cases e;show h
 |d::ds,xs,ks,h,e=>by obtain⟨v,r,rfl,j,h2⟩:=h.bQ;obtain⟨k,l,e⟩:=bnd e;obtain⟨a,m,rfl⟩:=wH e;rw[aBG j l,IG h2 m];rfl
theorem X6(h:Dn K S H d v)(e:R9 d=aa k):DU H k v:=by
 cases d with
 |tup ds =>
  obtain⟨ks,l,rfl⟩:=wH e;symm at h;obtain⟨a,xs,rfl,j,dn⟩:=h;rw[IG dn l] at j;show⟨a,rfl,j⟩
 |int i=>cases e;symm at h;show h
 |str i=>cases e;symm at h;show h
 |_=>cases e
theorem CP:∀{ds:List D} {xs:List V} {ks:N1},bC K S H ds xs->xU ds=aa ks->i_ (DU H) ks xs
 |[],xs,ks,h,e=>by simp only[bC] at h;cases e;subst h;show .nil
 |d::ds,xs,ks,h,e=>by obtain⟨v,r,rfl,j,h2⟩:=h.bQ;obtain⟨k,l,e⟩:=bnd e;obtain⟨a,m,rfl⟩:=wH e;show .cons (X6 j l) (CP h2 m)
theorem xH(h:Dn K S H d v)(e:tY d=aa k):KAt H k v:=by
 cases d with
 |tup ds =>
  obtain⟨ks,l,rfl⟩:=wH e;symm at h;obtain⟨a,xs,rfl,j,dn⟩:=h;show⟨a,rfl,xs,j,CP dn l⟩
 |int i=>cases e;symm at h;show h
 |str i=>cases e;symm at h;show h
 |_=>cases e
theorem AI:∀{χ:List (KX×V×V)} {ds:List D},bC K S H ds (χ.map (·.2.2))->(∀d,bR (χ.map (·.1)) ds k=aa d ->∃v,i6 χ k=aa v/\Dn K S H d v)/\(bR (χ.map (·.1)) ds k=af->i6 χ k=af)
 |[],ds,h=>⟨λd e=>by simp[bR] at e,λ_=>rfl⟩
 |p::χ,ds,h=>by
  cases ds with
  |nil=>show Zw h.len (by simp)
  |cons d0 ds =>
   obtain⟨v,r,j,m,h2⟩:=h.bQ;rw[bo] at j;cases j;have l:=AI (k:=k) (χ:=χ) (ds:=ds) h2;by_cases e:p.1=k
   .have a:bR ((p::χ).map (·.1)) (d0::ds) k=aa d0:=by simp[bR,e]
    have b:i6 (p::χ) k=aa p.2.2:=by simp[i6,e]
    rw[a,b];show⟨λd n=>by cases n;show⟨_,rfl,m⟩,λz=>nomatch z⟩
   .have a:bR ((p::χ).map (·.1)) (d0::ds) k=bR (χ.map (·.1)) ds k:=by simp[bR,e]
    have b:i6 (p::χ) k=i6 χ k:=by simp[i6,e]
    rw[a,b];show l
def FE(h:kindB (χ.map (·.1)) k=ae):tL χ k:=λp a=>by unfold kindB at h;rw[gx] at h;simpa using h p.1 (Jb a)
theorem Vm(j:Dn K S H d v):∀{χ:List (KX×V×V)} {ds:List D},bC K S H ds (χ.map (·.2.2)) ->
  (L8.f9 χ k y v).map (·.1)=(L4.f9 (χ.map (·.1)) ds k d).1/\bC K S H (L4.f9 (χ.map (·.1)) ds k d).2 ((L8.f9 χ k y v).map (·.2.2)):=by
 intro χ ds h;have e:(χ.map (·.1)).any (λq=>Zv (q=k))=χ.any (λp=>Zv (p.1=k)):=by rw[List.any_map];rfl
 unfold L8.f9 L4.f9;rw[e];split
 .refine ⟨?_,?_⟩
  .simp only[dh];show gk λp _=>?_;show(if p.1=k then(p.1,p.2.1,v) else p).1=p.1;split<;>rfl
  .dsimp only;have go:∀{χ:List (KX×V×V)} {ds:List D},bC K S H ds (χ.map (·.2.2))->bC K S H (((χ.map (·.1)).zip ds).map λp=>if p.1=k then d else p.2) ((χ.map λp=>if p.1=k then(p.1,p.2.1,v) else p).map (·.2.2)):=by
    intro χ
    induction χ with
    |nil=>intro ds h;cases ds with
     |nil=>show bC.nil
     |cons d0 ds=>show Zw h.len (by simp)
    |cons p χ ih =>
     intro ds h
     cases ds with
     |nil=>show Zw h.len (by simp)
     |cons d0 ds =>
      obtain⟨u,r,a,l,h2⟩:=h.bQ;rw[bo] at a;cases a;show bC.cons ?_ (ih h2);by_cases z:p.1=k
      .simpa [z] using j
      .simpa [z] using l
   show go h
 .refine ⟨by simp,?_⟩;rw[gq];show h.append (bC.one j)
end
section
theorem L_(I:X.A.units+2<dj)(ho:cD X o fo)(hi:cD X i fi)(J:KL i:=by intro _ _;rfl):cD X (.Subscript o i ν) (aB Eb fo fi):=imp (OA I ho hi J) λσ H Q Vl=>by
 obtain⟨S,ρ,Q3,z,n,⟨d,e,q⟩,k⟩:=Vl;obtain⟨x,ex,e⟩:=bnd e;obtain⟨y,L,e⟩:=bnd e;show⟨S,ρ,λd=>d=x,z,n,⟨x,ex,rfl⟩,λv H1 d1 j h Y=>?_⟩;subst Y;show⟨S,ρ,λd=>d=y,bP z j,Sl.fits (.same j) n,⟨y,L,rfl⟩,λu H2 d2 p F U=>?_⟩;subst U;have h:=Dn.fits (.same p) _ _ h
 cases d1 with
 |dC q0 ks ds =>
  obtain⟨kk,O,e⟩:=bnd e;symm at h;obtain⟨a,o,χ,rfl,K,sa,⟨rfl,_⟩,da⟩:=h;by_cases l:kindB (χ.map (·.1)) kk=ae
  .rw [Z_ l] at e;obtain⟨m,ev,Z⟩:=(AI da).1 d e;show⟨a,o,χ,kk,m,rfl,K,xH F O,FE l,ev,k m H2 d (j.trans p) Z q⟩
  .rw [Zz l] at e;cases e
 |_=>cases e
theorem X7(h:lift X.K (wE (aB (OL neg) fi fo)) σ H Q):xm neg (lift X.K (wE fi)) (lift X.K (wE fo)) σ H Q:=by
 obtain⟨S,ρ,Q3,A,n,⟨d,e,q⟩,k⟩:=h;obtain⟨x,ex,e⟩:=bnd e;obtain⟨y,J,e⟩:=bnd e;show⟨S,ρ,λd=>d=x,A,n,⟨x,ex,rfl⟩,λv H1 d1 j m Y=>?_⟩;subst Y;show⟨S,ρ,λd=>d=y,bP A j,Sl.fits (.same j) n,⟨y,J,rfl⟩,λu H2 Z z p U=>?_⟩;subst U;have m:=Dn.fits (.same z) _ _ m
 cases Z with
 |dC q0 ks ds =>
  obtain⟨kk,L,e⟩:=bnd (o:=tY d1) e;symm at p;obtain⟨a,o,χ,rfl,I,sa,⟨rfl,_⟩,F⟩:=p;by_cases l:kindB (χ.map (·.1)) kk=ae
  .rw [Z_ l] at e;cases e;have ev:(i6 χ kk).isSome=(bR (χ.map (·.1)) ds kk).isSome:=by
    cases hl:bR (χ.map (·.1)) ds kk with
    |none=>rw[(AI F).2 hl];rfl
    |some d3=>obtain⟨v3,O,_⟩:=(AI F).1 d3 hl;rw[O];rfl
   show⟨a,o,χ,kk,rfl,I,xH m L,FE l,?_⟩;rw[ev];show k _ H2 _ (j.trans z) (by symm) q
  .rw [Zz l] at e;cases e
 |_=>cases e
section
variable{o i:au}{ν:bb}{fo fi:EF}
def RL(h:liftT X.K (wT (tV (aB (OL neg) fi fo))) σ H Q):tB (xm neg (lift X.K (wE fi)) (lift X.K (wE fo))) σ H Q:=by
 obtain⟨S,ρ,Q3,n,l,⟨b,e,q⟩,k⟩:=h;obtain⟨d,j,A⟩:=bnd e;have p:d=.bl b:=by
  obtain⟨x,ex,e⟩:=bnd j;obtain⟨y,I,e⟩:=bnd e
  cases y with
  |dC q0 ks ds =>
   obtain⟨kk,J,e⟩:=bnd (o:=tY x) e;by_cases a:kindB ks kk=ae
   .rw [Z_ a] at e;cases e;cases A;rfl
   .rw [Zz a] at e;cases e
  |_=>cases e
 subst p;show X7 ⟨S,ρ,λd=>d=.bl b,n,l,⟨_,j,rfl⟩,λv F d m dn z=>?_⟩;subst z;symm at dn;show⟨b,dn,k b F m q⟩
def aEi(a:X.A.units+2<dj)(hi:cD X i fi)(ho:cD X o fo)(d:behindInMarks .NotIn o=ag:=by with_unfolding_all rfl):xF X (.Compare i [.NotIn] [o] ν) (tV (aB (OL ae) fi fo)):=QF (aDO (RK a hi ho) d) λ_ _ _=>RL
end
end
def Vk(hN:X.N.Nodup)(hi:X.N[i]?=aa x:=by rfl)(j:Loc X.env.scope x:=by walk_at "0")(m:di (.Dict [] [] p) (aa (.Name x pos')) ν.line X.env=pure ag:=by rfl)(n:Zq X x:=by walk_at "0"):
  qL X (.Assign [.Name x pos'] (.Dict [] [] p) ν) (Gf i):=jR (nI hN hi j aBF m n) λB σ H ⟨H₀,S,w,ρ,G,E,h,st,l,ok⟩=>λp o a =>
 ok.nx _ _ _ _ (by rw[dm];show h) (st.EN (d:=.dC i8 [] []) (by rw[h];show jS hi) (aQ a) a ⟨o,[],aY,⟨rfl,trivial⟩,bC.nil⟩) l
def xI(h:OM o=aa p):o=aa (.ow (.dC p.1 p.2.1 p.2.2)):=by
 unfold OM at h;split at h
 .cases h;rfl
 .cases h
theorem Vj(hu:X.A.units+2<dj)(he:NV X e f)(hk:cD X k fk)
  (hN:X.N[i]?=aa x:=by rfl) (hv:vZ X.env.scope x:=by walk_at "1") (hd:Zu x:=by decide) (O:Zt x:=by decide)
  (hs:di e (aa (.Subscript (.Name x p) k pos')) ν.line X.env=pure ag:=by rfl):
  qL X (.Assign [.Subscript (.Name x p) k pos'] e ν) (BD i f fk):=jR (aBE hu (rE hN hv hd O) hk he hs) λB σ H Vi=>by
 obtain⟨H₀,S,w,ρ,G,E,hl,st,q,ok⟩:=Vi;unfold wS BD at q;cases h:((f ρ).bind λp=>(OM p.1[i]?).bind λkd=>(fk (bD p.1)).bind λJ=>(tY J).bind λkk =>
  if kindB kd.2.1 kk=ae/\kd.2.2.length<nU then aa (p.1.set i (.ow (.dC (adr kd.1) (L4.f9 kd.2.1 kd.2.2 kk p.2).1 (L4.f9 kd.2.1 kd.2.2 kk p.2).2))) else af) with
 |none=>rw[h] at q;show q.elim
 |some ρ2 =>
  rw[h] at q;obtain⟨⟨ρ1,d1⟩,eq,h⟩:=bnd h;obtain⟨⟨q0,ks,ds⟩,ed,h⟩:=bnd h;obtain⟨J,ek,h⟩:=bnd h;obtain⟨kk,e2,h⟩:=bnd h;have I:=xI ed;by_cases L:kindB ks kk=ae/\ds.length<nU
  .rw [Z_ L] at h;cases h;show⟨H₀,S,w,ρ,G,λj d=>j=ρ1/\d=d1,hl,st,⟨_,eq,rfl,rfl⟩,λm v H' j d l dv q'=>?_⟩;obtain⟨rfl,rfl⟩:=q';obtain⟨a0,_,_⟩:=l.own i _ I;show⟨_,a0,S,bD j,λy=>y=J,l.IQ,l.all,⟨J,ek,rfl⟩,λy H2 y' U dy ey=>?_⟩;subst ey;have n:=l.same U;obtain⟨a,b,c⟩:=n.own i _ I;obtain⟨o,χ,Z,⟨e5,hq⟩,dn⟩:=c;subst e5;have nS:¬ SO S m j (m i):=λ⟨_,z⟩=>z i _ I rfl;show⟨m i,o,χ,kk,rfl,Z,xH dy e2,FE L.1,?_,λY=>?_⟩
   .have:=dn.len;rw[az] at this;rw[fg,<- this];show L.2
   .have F:Fits X.K (SO S m j) (SO S m j) H2 (upd H2 (m i) (.dX Y (L8.f9 χ kk y v))):=.upd (.inr (.inr ⟨_,_,Z⟩)) nS;obtain⟨p1,p2⟩:=Vm (k:=kk) (y:=y) (Dn.fits (.same U) _ _ dv) dn;show ok.nx m σ _ _ hl (n.write (d':=.dC (adr q0) _ _) I ⟨Y,_,aY,⟨p1,o,hq⟩,bC.fits F _ _ p2⟩) q
  .rw [Zz L] at h;cases h
def RM{K:ao}{H₀ H H':Hp}{S:ah->Prop}{w:Nat->ah}{σ:L2.St}{ρ:bT}{G:List (D×V)}{i:Nat}{d d':D}(h:ST K H₀ S w σ H ρ G)(e:ρ[i]?=aa (Sv.ow d))(v:∀b u,b≠w i->H b=aa u->H' b=aa u)(q:zM K (SO S w ρ) H' d' (w i))(Y:∀xs,d'≠.rws xs:=by intro _ z;cases z):ST K H₀ S w σ H' (ρ.set i (.ow d')) G:=by
 obtain⟨a0,I,c0⟩:=h.own i d e;have wr:=c0.wr;have A:SO S w (ρ.set i (.ow d'))=SO S w ρ:=by
  funext a
  show propext ⟨λ⟨s,n⟩=>⟨s,λj f p=>?_⟩,λ⟨s,n⟩=>⟨s,λj f p=>?_⟩⟩
  .by_cases l:j=i
   .subst l;show n j d' (by rw[kl (cg.1 e).1])
   .exact n j f (by rw[jk (d_ l)];show p)
  .by_cases l:j=i
   .subst l;show n j d e
   .exact n j f (by rw[jk (d_ l)] at p;show p)
 have ne:∀a,SO S w ρ a->a≠w i:=λa z=>z.2 i d e;have O:∀a xs,H a=aa (.tup xs)->a≠w i:=λa xs z y=>by subst y;rcases wr with⟨_,k⟩|⟨_,k⟩|⟨_,_,k⟩<;>rw[z] at k<;>cases k
 have U:∀a o u,H a=aa (.w4 o u)->a≠w i:=λa o u z y=>by subst y;rcases wr with⟨_,k⟩|⟨_,k⟩|⟨_,_,k⟩<;>rw[z] at k<;>cases k
 have F:Fits K (SO S w ρ) (SO S w ρ) H H':=⟨λa xs z=>v _ _ (O a xs z) z,λa ns z=>z.elim (λ⟨o,y⟩=>.inl ⟨o,v _ _ (U a o _ y) y⟩) .inr,λa xs z s=>⟨v _ _ (ne a s) z,s⟩,λa xs z s=>⟨v _ _ (ne a s) z,s⟩,λa o xs z s=>⟨v _ _ (ne a s) z,s⟩⟩;show⟨h.fc,λb u z=>v b u (bY z I) (h.sm b u z),λj f p=>?_,λj k d1 e1 h1 h2 z=>?_,λj f p=>?_,λg hg=>by rw[A];show Dn.fits F _ _ (h.gh g hg),λj xs X=>?_⟩
 rotate_right
 .rcases get_set X with⟨_,z,_⟩|⟨l,z⟩
  .exact Zw (Sv.ow.inj z).symm (Y xs)
  .exact h.rwN z λL x=>v _ _ (λy=>l (h.inj _ _ _ _ z e y)) x
 .rw [A];rcases get_set p with⟨l,z,_⟩|⟨l,z⟩
  .cases z;subst l;show⟨a0,I,q⟩
  .obtain ⟨a,b,c⟩:=h.own j f z;show⟨a,b,c.fits F λL x=>v _ _ (λy=>l (h.inj _ _ _ _ z e y)) x⟩
 .have old:∀{m:Nat} {y:D},(ρ.set i (.ow d'))[m]?=aa (Sv.ow y) ->∃J,ρ[m]?=aa (Sv.ow J):=λ{m y} Z=>by
   rcases get_set Z with⟨l,_,_⟩|⟨_,z⟩
   .subst l;show⟨d,e⟩
   .exact ⟨_,z⟩
  obtain⟨_,g1⟩:=old h1;obtain⟨_,g2⟩:=old h2;show h.inj j k _ _ g1 g2 z
 .rw [A];rcases get_set p with⟨_,z,_⟩|⟨l,z⟩
  .cases z
  .obtain ⟨u,a,b⟩:=h.ro j f z;show⟨u,a,Dn.fits F f u b⟩
def R3(K:ao)(R:YT):Sp:=λvs H Q _=>∃(T:ah->Prop) (ds:List D) (h:List V) (p:ah) (o:ax) (χ:List (KX×V×V)) (xs:List D) (r:D×KD),vs=h++[.ref p]/\(∀a,H a=af->T a)/\¬ T p/\H p=aa (.dX o χ)/\bC K T H ds h/\bC K T H xs (χ.map (·.2.2))/\R ds (χ.map (·.1),xs)=.ok r /\
 ∀v H' j d,(∀b u,b≠p->H b=aa u->H' b=aa u)->H' p=aa (.dX j d)->d.map (·.1)=r.2.1->bC K T H' r.2.2 (d.map (·.2.2))->Dn K T H' r.1 v->Q v H'
def vC(K:ao)(t:AF)(j:Nat):TA:=λσ H Q=>∃(S:ah->Prop) (ρ:dZ) (ds:List D) (p:ah),(∀a,H a=af->S a)/\Sl K S H ρ σ/\t ρ=aa ds/\σ[j]?=aa (aa (.ref p)) /\∀vs H',ξ H H'->bC K S H' ds vs->Q (vs++[.ref p]) H'
def CQ(z:cD X e f)(x:PA X es (vC X.K g j))(q:Zr X e es:=by rfl):PA X (e::es) (vC X.K (aA f g) j) :=
 G4 (eK z x q) λσ H Q L=>by obtain⟨S,ρ,ds,p,n,l,a,F,k⟩:=L;obtain⟨d,I,a⟩:=bnd a;obtain⟨r,A,a⟩:=bnd a;cases a;show⟨S,ρ,λy=>y=d,n,l,⟨d,I,rfl⟩,λv Z Y h U J=>?_⟩;subst J;show⟨S,ρ,r,p,bP n h,Sl.fits (.same h) l,A,F,λvs O m o=>?_⟩;show k (v::vs) O (h.trans m) (bC.cons (Dn.fits (.same m) _ _ U) o)
def Ef(hN:X.N[j]?=aa x:=by rfl)(d:vZ X.env.scope x:=by walk_at "1")(h:Zu x:=by decide)(a:Zt x:=by decide):PA X [.Name x ν] (vC X.K aG j) :=
 G4 (eK (rE hN d h a) jY) λσ H Q n=>by obtain⟨S,ρ,ds,p,q,o,l,m,k⟩:=n;cases l;show⟨_,m,k [] H (ξ.refl H) bC.nil⟩
theorem CS{R:YT}{t:AF}{j:Nat}{H₀ H:Hp}{S:ah->Prop}{w:Nat->ah}{σ:L2.St}{ρ:bT}{G:List (D×V)}{r:(Nat->ax->Prop)×D×KD}{Q:VK}(st:ST X.K H₀ S w σ H ρ G)(h:stepM R t j ρ=aa r)
  (k:∀v H',ST X.K H₀ S w σ H' (ρ.set j (.ow (.dC (adr r.1) r.2.2.1 r.2.2.2))) G->Dn X.K (SO S w ρ) H' r.2.1 v->Q v H'):Fg (R3 X.K R) [] E0 (vC X.K t j) σ H Q:=by
 obtain⟨ds,A,h⟩:=bnd h;obtain⟨⟨q0,ks,xs⟩,F,h⟩:=bnd h;have l:=xI F
 cases hR:R ds (ks,xs) with
 |no=>dsimp only at h;rw[hR] at h;cases h
 |ex c=>dsimp only at h;rw[hR] at h;cases h
 |ok r0 =>
  dsimp only at h;rw[hR] at h;cases h;obtain⟨Y,b0,_⟩:=st.own j _ l;show⟨SO S w ρ,gF ρ,ds,w j,st.NO,st.rd,A,Y,λvs Z n dn=>?_⟩;have a:=st.same n;obtain⟨_,_,⟨o,χ,x,⟨J,q⟩,U⟩⟩:=a.own j _ l;subst J;show R3 X.K R ((vs++[V.ref (w j)])++[]) Z Q E0;rw[iu];show⟨SO S w ρ,ds,vs,w j,o,χ,xs,r0,rfl,a.NO,λz=>z.2 j _ l rfl,x,dn,U,hR,λv H' p d y m I L O=>?_⟩;show k v H' (RM a l y ⟨p,d,m,⟨I,o,q⟩,L⟩) O
theorem aEj(C:Cl X.Ω X.w X.K X.mg X.ω mP k y ps (R3 X.K R))(U:fL k X.A)(hij:i≠j)(hN:X.N.Nodup)
  (ha:PA X (e::es) (vC X.K t j)) (hi:X.N[i]?=aa x:=by rfl) (L:Loc X.env.scope x:=by walk_at "0") (hg:Gl X y:=by rfl) (I:Zu y:=by decide) (he:Zr X e es:=by rfl) (n:Q0l X cpos es:=by rfl)
  (O:di (.Call (.Name y p) (e::es) [] cpos) (aa (.Name x pos')) ν.line X.env=pure ag:=by rfl) (hf:Zq X x:=by walk_at "0"):
  qL X (.Assign [.Name x pos'] (.Call (.Name y p) (e::es) [] cpos) ν) (tZ i R t j):=by
 obtain⟨F,o,Z,hb⟩:=C;show jR (nI hN hi L (pZ F U hg o Z hb .nil NM ha I he n) O hf) λB σ H Vf=>?_;obtain⟨H₀,S,w,ρ,G,E,J,st,d,ok⟩:=Vf;unfold wS tZ at d
 cases h:stepM R t j ρ with
 |none=>rw[h] at d;show d.elim
 |some r =>
  rw[h] at d;show CS st h λv H' l dv=>ok.nx w _ H' _ (by rw[dm];show J) (l.lZ (by rw[J];show jS hi) (Dn.fits (.mono λa z=>?_) _ _ dv)) d;show⟨z.1,λm y o=>?_⟩;rcases get_set o with⟨hj,_,Y⟩|⟨_,q⟩
  .subst hj;obtain⟨_,et,h⟩:=bnd h;obtain⟨⟨q0,ks,xs⟩,eo,h⟩:=bnd h;show z.2 m _ (xI eo)
  .exact z.2 m y q
theorem Lz(C:Cl X.Ω X.w X.K X.mg X.ω mP k y ps (R3 X.K R))(o:fL k X.A)
  (O:PA X (e::es) (vC X.K t j)) (I:Gl X y:=by rfl) (m:Zu y:=by decide) (J:Zr X e es:=by rfl) (l:Q0l X cpos es:=by rfl)
  (n:di (.Call (.Name y p) (e::es) [] cpos) af ν.line X.env=pure ag:=by rfl):
  qL X (.Expr (.Call (.Name y p) (e::es) [] cpos) ν) (YW R t j):=by
 obtain⟨F,q,z,L⟩:=C;show jR (D0 (pZ F o I q z L .nil NM O m J l) n) λB σ H U=>?_;obtain⟨H₀,S,w,ρ,G,E,x,st,a,ok⟩:=U;unfold wS YW at a
 cases h:stepM R t j ρ with
 |none=>rw[h] at a;show a.elim
 |some r =>
  rw[h] at a;show CS st h λv H' d _=>ok.nx w _ H' _ x d a
abbrev OB(K:ao)(j:Nat)(k:EF):TS:=Ds (Eg (vb j) (lift K (wE k)))
def Vd{st:bz}{b:SF}{j:Nat}{x:aj}{i:au}{k:EF}{p d pos':bb}(m:X.A.units+2<dj)(h:qL X st b)(o:cD X i k)(hN:X.N[j]?=aa x:=by rfl)(l:vZ X.env.scope x:=by walk_at "1")(q:Zu x:=by decide)(a:Zt x:=by decide)(n:KL i:=by intro _ _;rfl):
  zC X [st,.Return (aa (.Subscript (.Name x p) i d)) pos'] (JX (sY X.K (XC X) X.N.length (wS b)) (OB X.K j k)):=zD h (NB (JY (OA m (rE hN l q a) o n)))
theorem uD{st:bz}{m:List bz}{f g:SF}{n:TS}(x:qL X st f)(h2:zC X m (JX (sY X.K (XC X) X.N.length (wS g)) n)):zC X (st::m) (JX (sY X.K (XC X) X.N.length (wS (aH f g))) n):=G6 (zD x h2) λB σ H y=>by
 obtain⟨H₀,S,w,ρ,G,E,v,st,a,ok⟩:=y;unfold wS aH at a;show⟨H₀,S,w,ρ,G,{E with nx:=wS g E},v,st,?_,⟨λp o H' h l j q=>⟨H₀,S,p,h,G,E,l,j,q,ok⟩,ok.rt,ok.bk,ok.ct,ok.ex⟩⟩;unfold wS
 cases hf:f ρ with
 |nx h=>rw[hf] at a;show a
 |rt d=>rw[hf] at a;show a
 |ex c=>rw[hf] at a;show a
 |no=>rw[hf] at a;show a
theorem Ly{P:bf}{w:ba}{K:ao}{mg:Q0d}{ω:ay}{x qual:aj}{st:bz}{f:ah}{fd:fv}{N ps:Q0g}{k n np:Nat}{b:SF}{key:EF}(F:YM K x qual st f fd)(S:fE N ps (aT st))(hn:N.length=n)(hp:ps.length=np)
  (X:∀(I:ai) (A:bq) (Γ:List de) (s:ak) (H:Hp) (E:XK),fL k (A.deeper (envOfC qual (aT st) s.heap.objs.size f I)) ->
   ∃xc,zC (lB mP P w K mg ω N qual (aT st) f I A Γ s H E).IP (eL st) (JX (sY K xc N.length (wS b)) (OB K (np-1) key))):lY P w K mg ω mP (k+1) f fd ps (R3 K (runM n np b key)):=by
 subst hn hp;show F.ok S (λvs H Q E h=>?_) λI A Γ s H vs Q E hr h=>?_
 .obtain ⟨T,ds,Z,p,o,χ,xs,r,rfl,fc,np,hp,du,dx,hR,kk⟩:=h;have hb:=LX hR i8;unfold xV at hb;split at hb
  .rename_i hl;rw[cy,<- du.len];show hl
  .cases hb
 .obtain ⟨xc,hb⟩:=X I A Γ s H E hr;obtain⟨T,ds,Z,p,o,χ,xs,r,rfl,fc,nT,hp,du,dx,hR,kk⟩:=h;show⟨_,hb,?_⟩;have j:=LX hR (λa _=>a=p);unfold xV at j;split at j
  case isFalse=>cases j
  rename_i hl;have hlu:=du.len;have hpN:ps.length<=N.length:=by have:=congrArg tj S.pre;rw[kj] at this;lia
  have j0:ps.length-1=ds.length:=by lia
  have sj:(startM N.length ds (λa _=>a=p) (χ.map (·.1),xs))[ds.length]?=aa (Sv.ow (.dC (λa _=>a=p) (χ.map (·.1)) xs)):=by unfold startM;rw[ju (by simp)];simp
  have sv:∀i,i<ds.length->(startM N.length ds (λa _=>a=p) (χ.map (·.1),xs))[i]?=(ds[i]?).map Sv.ro:=λi hi=>by unfold startM;rw[jv (by simpa using hi),cf]
  have sn:∀i,ds.length<i ->∀y,(startM N.length ds (λa _=>a=p) (χ.map (·.1),xs))[i]?=aa y->y=Sv.no:=λi hi y e=>by
   unfold startM at e;rw[ju (by simp;lia)] at e;obtain⟨m,hm⟩:∃m,i-(a17 Sv.ro ds).length=m+1:=⟨i-ds.length-1,by simp;lia⟩;rw[hm,me,jc] at e;split at e
   .cases e;rfl
   .cases e
  have ow:∀(i:Nat) (d:D),(startM N.length ds (λa _=>a=p) (χ.map (·.1),xs))[i]?=aa (Sv.ow d)->i=ds.length/\d=.dC (λa _=>a=p) (χ.map (·.1)) xs:=λi d e=>by
   rcases Nat.lt_trichotomy i ds.length with h|h|h
   .rw [sv i h] at e;obtain⟨y,_,ey⟩:=ip.1 e;cases ey
   .subst h;rw[sj] at e;cases e;show⟨rfl,rfl⟩
   .cases sn i h _ e
  have so:∀a,T a->SO (λa=>T a\/a=p) (λ_=>p) (startM N.length ds (λa _=>a=p) (χ.map (·.1),xs)) a:=λa ta=>⟨.inl ta,λi d e z=>nT (by rw[<- show a=p from z];show ta)⟩;have J:L2.start N (Z++[.ref p])=Z.map aa++aa (.ref p)::bp (N.length-(Z.length+1)) af:=by unfold L2.start;simp
  cases hbs:b (startM N.length ds (λa _=>a=p) (χ.map (·.1),xs)) with
  |no=>rw[hbs] at j;cases j
  |rt d=>rw[hbs] at j;cases j
  |ex c=>rw[hbs] at j;cases j
  |nx ρ1 =>
   rw[hbs] at j;dsimp only at j;show⟨λc=>if c=p then af else H c,λa=>T a\/a=p,λ_=>p,startM N.length ds (λa _=>a=p) (χ.map (·.1),xs),[],{nx:=λρ=>ρ=ρ1,rt:=λ_=>False,bk:=λ_=>False,ct:=λ_=>False,ex:=λ_=>False},?_,?_,?_,?_⟩
   .rw [J];simp;lia
   .refine ⟨λa e=>?_,λc u e=>?_,λi d e=>?_,λi i' d d' h1 h2 _=>(ow i d h1).1.trans (ow i' d' h2).1.symm,λi d e=>?_,λg hg=>(by cases hg),λi xs e=>by have:=(ow i _ e).2;cases this⟩
    .by_cases z:a=p
     .exact .inr z
     .exact .inl (fc a (by simpa[z] using e))
    .by_cases z:c=p
     .simp [z] at e
     .simpa [z] using e
    .obtain ⟨rfl,rfl⟩:=ow i d e;show⟨?_,by simp,o,χ,hp,⟨rfl,rfl⟩,bC.fits (.mono so) _ _ dx⟩;rw[J,ju (by simp;lia)];simp[hlu]
    .by_cases hi:i<ds.length
     .rw [sv i hi] at e;obtain⟨y,e1,ey⟩:=ip.1 e;cases ey;obtain⟨v,ev,dv⟩:=du.get e1;show⟨v,?_,Dn.fits (.mono so) _ _ dv⟩;have hv:i<Z.length:=(cg.1 ev).1;rw[J,jv (by simpa using hv),cf,ev];rfl
     .rcases Nat.lt_or_ge ds.length i with h|h
      .cases sn i h _ e
      .have:i=ds.length:=by lia
       subst this;rw[sj] at e;cases e
   .unfold wS;rw[hbs]
   .refine ⟨λw' σ' H' L hl' l e=>?_,λ_ _ _ _ _ z=>z.elim,λ_ _ _ _ _ _ z=>z.elim,λ_ _ _ _ _ _ z=>z.elim,λ_ _ _ z=>z.elim⟩;subst e;rw[j0] at j ⊢;obtain⟨⟨q',ks',Y⟩,eo,j⟩:=bnd j;obtain⟨kv,ek,j⟩:=bnd j;obtain⟨O,e2,j⟩:=bnd j;have o0:=xI eo;obtain⟨a0,b0,⟨o1,aQD,hp1,⟨e5,hq1⟩,dk1⟩⟩:=l.own ds.length _ o0;split at j
    case isFalse=>cases j
    rename_i hc;obtain⟨d,ed,hq9⟩:=wH j;obtain⟨_,q⟩:=hc.2 _ _ hq1;have q:w' ds.length=p:=q;show⟨_,a0,SO (λa=>T a\/a=p) w' L,gF L,λy=>y=kv,l.NO,l.rd,⟨kv,ek,rfl⟩,λy H2 y' s2 dy ey=>?_⟩;subst ey;have st2:=l.same s2;obtain⟨_,_,⟨o2,X8,U,⟨e6,_⟩,dk2⟩⟩:=st2.own ds.length _ o0;have toT:∀a,SO (λa=>T a\/a=p) w' L a->T a:=λa z=>z.1.elim id λy=>Zw (y.trans q.symm) (z.2 _ _ o0);have e7:X8.map (·.1)=ks':=e6;have hk2:kindB (X8.map (·.1)) O=ae:=by rw[e7];show hc.1
    have ed2:bR (X8.map (·.1)) Y O=aa d:=by rw[e7];show ed
    obtain⟨v3,ev,dv⟩:=(AI dk2).1 d ed2;show⟨w' ds.length,o2,X8,O,v3,rfl,U,xH dy e2,FE hk2,ev,?_⟩;have er:r=(d,ks',Y):=hq9.symm;subst er;rw[q] at U;show kk v3 H2 o2 X8 (λc u ne hc=>s2 _ _ (l.sm c u (by simpa[ne] using hc))) U e7 (bC.fits (.mono toT) _ _ dk2) (Dn.fits (.mono toT) _ _ dv)
theorem fdM{P:bf}{w:ba}{K:ao}{mg:Q0d}{ω:ay}{x:aj}{st:bz}{N d:Q0g}{k n j:Nat}{b:SF}{key:EF}(D:Df K mg x st d)
  (h:∀{f:ah} {a:ai} {A:bq} {Γ:List de} {s:ak} {H:Hp} {E:XK},fL k (A.deeper (envOfC x (aT st) s.heap.objs.size f a))->N.Nodup ->∃xc,zC (lB mP P w K mg ω N x (aT st) f a A Γ s H E).IP (eL st) (JX (sY K xc N.length (wS b)) (OB K (j-1) key)))
  (S:fE N d (aT st):=by show⟨rfl,rfl,rfl,by decide+kernel,rfl,by decide+kernel,by decide+kernel⟩) (p:N.length=n:=by rfl) (o:d.length=j:=by rfl):Cl P w K mg ω mP (k+1) x d (R3 K (runM n j b key)):=by
 obtain⟨_,F,m,q⟩:=D;show⟨Ly F S p o λ_ _ _ _ _ _ l=>h l S.nd,m,F.kp,q⟩
def Vb{P:bf}{w:ba}{K:ao}{mg:Q0d}{ω:ay}{k:Nat}{f:ah}{fd:fv}{a:Q0g}:lY P w K mg ω mP k f fd a (R3 K λ_ _=>.no) :=
 ⟨λ_ _ _ _ h=>(by obtain⟨_,_,_,_,_,_,_,_,_,_,_,_,_,_,e,_⟩:=h;cases e),λ_ _ _ _ _ _ _ _ _ _ _ _ _ h=>(by obtain⟨_,_,_,_,_,_,_,_,_,_,_,_,_,_,e,_⟩:=h;cases e)⟩
def nnM{P:bf}{w:ba}{K:ao}{mg:Q0d}{ω:ay}{k:Nat}{x:aj}{st:bz}{a:Q0g}(D:Df K mg x st a):Cl P w K mg ω mP k x a (R3 K λ_ _=>.no):=by obtain⟨_,F,m,q⟩:=D;show⟨Vb,m,F.kp,q⟩
def Lw(j:X.mg "zip"=af)(m:uW X [a,b] t)(l:Gl X "zip":=by rfl)(h:ar [a,b] X.env=[(ag,eval a X.env),(ag,eval b X.env)]:=by rfl)(d:ar [b] X.env=[(ag,eval b X.env)]:=by rfl):
  QT X (.Tuple es kk tp) (.Call (.Name "zip" p) [a,b] [] ν) (SD t):=cI (Nt j m l h d) λρ Q o=>by
 obtain⟨ds,e,q⟩:=o;obtain⟨as,n,e⟩:=bnd e;show⟨as,n,?_⟩;unfold Ge at e;split at e<;>first|(cases e;show q)|cases e
open L5
end L8
namespace L9
open PySem.Spec PyProof.Rows L2 L3 L4 L5
variable{X:Cx}
section
def Ee(K:ao):List V->Hp->VK->Prop:=λxs H Q=>∃(a:ah) (ns:Q0e),xs=[.ref a]/\eZ K H a (ns.map V.int)/\ns≠[]/\Q (.int (kB ns)) H
theorem RN(hc:X.calm=ae):gD X (.builtin "max") (Ee X.K):=by
 intro π s σ H xs us Q I r h;obtain⟨a,ns,rfl,ha,x,q⟩:=h;obtain⟨u,rfl,ru⟩:=vals1 r;cases ru;obtain⟨ι,rv,p,hz⟩:=I.list ha;have hi:=intsAre_of rv;obtain⟨d,U⟩:=hi.allInts.items;have Y:d.toList.map (·.1)=ns:=by rw[<- Ha,<- U];show hi.numsOf
 have sz:d.size=ns.length:=by rw[<- Y,az,t_]
 have n:0<d.size:=by rw[sz];show Jf.2 x
 have pl:s.heap.IsList a ι.toArray:=p.isList;have pt:s.heap.IsList a (intItems d):=U▸pl;have y:a<s.heap.objs.size:=by obtain⟨_,_,e,_⟩:=p;show br e
 show a0C (Gq pt ?_);show⟨_,_,_,_,_,_,_,rfl,a0F (A:=X.A.in1) (I.ok.hd hc) _ a (ee y) (intItems d),⟨⟨_,dg _ rfl,rfl,rfl⟩,pt.push _⟩,?_,by simpa[intItems] using n,a1l (numAt d) (λ_ _=>zp),λv h' tk O hk=>?_⟩
 .intro b m;show a1M ?_ (ko _ _).symm;have two:b=s.heap.objs.size\/b=a:=by simpa using m
  rcases two with z|z
  .rw [z];show vz _
  .rw [z];show qa y
 .have O:(intItems d)[argBest (λi j=>Zv (numAt d i>numAt d j)) (d.size-1)]?=aa v:=by simpa[intItems] using O
  obtain⟨t,rfl⟩:=zp O;obtain⟨b1,Z⟩:=argBest_gt (numAt d) (d.size-1);generalize argBest (λi j=>Zv (numAt d i>numAt d j)) (d.size-1)=J at b1 Z;have F:∀j,j<ns.length->numAt d j=ns.getD j 0:=λj L=>by rw[numAt_eq,Y]
  have mem:numAt d J∈ns:=by rw[F J ∅,jw,bx ∅];show md _
  have top:∀b∈ns,b<=numAt d J:=λb m=>by obtain⟨j,L,ej⟩:=Ba m;subst ej;have:=Z j ∅;rw[F j L,jw,bx L] at this;show this
  have key:kB ns=numAt d J:=by
   cases ns with
   |nil=>show Zw rfl x
   |cons c l=>show xG l c _ (bh.1 mem) (top c (by simp)) λb m=>top b (by simp[m])
  show⟨.int (kB ns),H,I.kept λb o e=>hk b o (λm=>?_) (cm _ e),⟨t,by rw[key]⟩,q⟩;have:b=s.heap.objs.size:=by simpa using m
  show jb _ (this▸br e)
def Ff:F1
 |[.lst ds],Q=>∃ns:Q0e,ds=ns.map D.int/\ns≠[]/\Q (.int (kB ns))
 |_,_=>False
theorem aBH{K:ao}:C3 K (Ee K) Ff:=by
 intro S H xs ds Q3 Q o j h k
 match ds,h with
 |[.lst es],⟨ns,e,ne,q⟩ =>
  subst e;obtain⟨v,r,rfl,d,h2⟩:=j.bQ;simp only[bC] at h2;subst h2;symm at d;obtain⟨a,ys,rfl,l,_,n⟩:=d;have m:=bC.ints.1 n;subst m;show⟨a,ns,rfl,(eZ.of l),ne,k _ H _ (ξ.refl H) (by symm) q⟩
def LI:k7 Ff BE:=λds d Q e q=>by
 unfold BE at e;split at e
 .obtain ⟨ns,a,e⟩:=bnd e;by_cases ne:ns=[]
  .rw [Z_ ne] at e;cases e
  .rw [Zz ne] at e;cases e;have:=ints_of a;subst this;show⟨ns,rfl,ne,q⟩
 .cases e
def Fe(j:X.calm=ae)(a:X.mg "max"=af)(l:uW X [e] t)(d:Gl X "max":=by rfl)(h:Zr X e []:=by rfl):cD X (.Call (.Name "max" p) [e] [] ν) (cK BE t) :=
 cE (uS (RN j) aBH Ih d a l (by decide) (by decide) h (by rfl)) (z5 LI)
variable{π:Q0b}{σ:L2.St}{H:Hp}{s:ak}
def aEk(ok:X.Ok)(I:Φ (hcx X hd pn) Em σ' H s)(sub:∀p∈X.pn++π,p∈pn):Φ X π σ' H s :=
 ⟨ok,I.os,I.bare,I.ω,I.loc,I.cell,I.free,I.iH,λp h=>I.pin p (gj _ (sub p h)),I.hok,I.len⟩
theorem aEm(I:Φ X π σ H s)(hN:X.N.Nodup)(hi:X.N[i]?=aa n)
  (q:∀(j:Nat) (x:aj) (v:V),X.N[j]?=aa x->σ[j]?=aa (aa v)->vZ X.env.scope x ->∃u,Ψ v u/\Look X.env s.heap m x u)
  (h:h'.Ns X.env.locals (λx=>if x=n then v0 else m x)) (d:nq X.env.locals s.heap h'):Φ X π (σ.set i af) H {s with heap:=h',toks:=t}:=by
 have W:=El (t:=t) I h d;show⟨W.ok,W.os,W.bare,W.ω,⟨_,h,λj x v a h2 y=>?_⟩,W.cell,W.free,W.iH,W.pin,W.hok,by rw[dm];show I.len⟩;rcases get_set h2 with⟨_,z,_⟩|⟨ne,z⟩
 .cases z
 .obtain ⟨u,r,l⟩:=q j x v a z y;show⟨u,r,?_⟩;have o:x≠n:=λe=>by subst e;obtain⟨A,K⟩:=cg.1 a;obtain⟨J,F⟩:=cg.1 hi;show ne ((List.getElem?_inj A hN).1 (a.trans hi.symm))
  rcases l with⟨k,e⟩|⟨k,c,e,p⟩
  .refine .inl ⟨k,?_⟩;show(if x=n then v0 else m x)=aa u;rw[Zz o];show e
  .exact .inr ⟨k,c,e,p.sameBut d (I.cne x c e)⟩
theorem aBI{π:Q0b}{σ:L2.St}{H:Hp}{s:ak}{e C C0:ah}{a0:ai}{P:List ah}{E:Q0c}{R0 n:aj}{i:Nat}{b0:bz}{a:List bz}{np J:bb}{h:ay}{B:Ends}{N1:L2.St->Hp->Prop}(I:Φ X π σ H s)(T:rH X π H s e (.ref C) a0 P)
  (tr:h.TracedW (hideAll s.heap (P++frs X.stack)) e (.ref C) a0) (stay:(hideAll s.heap (P++frs X.stack)).StaysIn h) (fns:h.FunFrames (hideAll s.heap (P++frs X.stack)) X.stack) (us:s.heap.UpToSlots h)
  (hm0:X.mg R0=aa (.ref C0)) (hg0:Gl X R0) (hd0:Zu R0) (hx:zy X.K (.ref C) (.ref C0)=aa ae) (hN:X.N.Nodup) (hi:X.N[i]?=aa n) (Z:X.env.scope.names.lookup n=aa .local)
  (hB:∀F H2,N1 F H2->B.nx (F.set i af) H2)
  (run:∀(j:ax) (s7:ak),j.cls=.ref C->Φ (hcx X (aa (.ref e)) (X.pn++π++[(e,j)])) [] ((bp X.N.length af).set i (aa (.ref e))) H s7 ->
   av (aw X.Ω X.w) (X.A.mark (aa (.ref e))) (execs (b0::a) X.env) (SP (hcx X (aa (.ref e)) (X.pn++π++[(e,j)])) [] {nx:=N1,rt:=B.rt}) (λ_ _=>False) s7):
  av (aw X.Ω X.w) X.A (handleBy (.ref e) X.env [.ExceptHandler (aa (.Name R0 np)) (aa n) (b0::a) J]) (SP X π B) E {s with heap:=h}:=by
 have kp:∀h',(hideAll s.heap (P++frs X.stack)).StaysIn h' ->∀b o,b∉P->b∉frs X.stack->s.heap.get? b=aa o->h'.get? b=aa o:=λh' st b o n1 n2 q=>st b o (vn _ q λz=>(gn.1 z).elim n1 n2);have J5:Φ X π σ H {s with heap:=h}:=flown I T (kp h stay) us;show wpAny_handleBy_cons (codeAny_handlers_test ?_) (by intro q;cases q);have Z5:Φ (hcx X (aa (.ref e)) []) [] _ H {s with heap:=h}:=Co J5 λp d=>nomatch d;show xA (X:=hcx X (aa (.ref e)) []) Z5 hg0 hm0 ?_ hd0;have LT:vp (aw X.Ω X.w) h (typeOf (.ref e)) (.ref C):=by obtain⟨j,_,_,_,_,O,hc,_⟩:=tr;show qA ⟨j,O,hc.1⟩
 show(PySem.W.exm_one (K:=X.K) J5.w8 LT hx).here ?_;show codeAny_handlers_suite_as (n:=n) ?_;show a0f (s:={s with heap:=h}) stay fns tr.at λh7 j1 j2 j3 j4=>?_;have us7:s.heap.UpToSlots h7:=λb o eb Y=>by obtain⟨sl,q⟩:=us b o eb Y;show⟨sl,j4 b _ q Y⟩
 have J7:Φ X π σ H {s with heap:=h7}:=flown I T (kp h7 j1) us7;obtain⟨j,vs,T2,oT,ts,O,⟨hc,_⟩,hd,_⟩:=j3;have Y7:Φ (hcx X (aa (.ref e)) (X.pn++π++[(e,j)])) [] _ H {s with heap:=h7}:=Co J7 λp d=>by
  rcases gn.1 d with d|d
  .exact J7.pin p d
  .rw [cc.1 d];show⟨O,T.free e T.mem,λz=>?_,λz=>?_,λv z=>by rw[hd] at z;cases z⟩
   .obtain ⟨m,⟨o,es,ep,ho,L,_⟩,_⟩:=J7.loc;have z:e=X.env.locals:=z;rw[<- z] at ho;have q:=O.symm.trans ho;cases q;rw[hd] at L;cases L
   .obtain ⟨_,o,ho,Y⟩:=J7.rC.mem z;have q:=O.symm.trans ho;cases q;show Y vs hd
 show zB (X:=hcx X (aa (.ref e)) (X.pn++π++[(e,j)])) Y7 hN hi (.inl Z) (v:=.ref e) rfl (λs8 I8=>?_) (.inr Z);show ik (run j s8 hc I8) (λf s9 h9=>?_) λ_ _ z=>z.elim
 cases f with
 |ret u =>
  obtain⟨v,l,H',I9,rv,q⟩:=h9;have U:Φ X π _ H' s9:=Wj I.ok I9 λp d=>gj _ d;obtain⟨m,hn,_⟩:=id U.loc;show wpAny_nameGoes Z hn (by rw[I.ok.kind];rfl) λh' m' y x=>⟨v,_,H',El U y x,rv,q⟩
 |next =>
  obtain⟨l,H',I9,q⟩:=h9;have U:Φ X π l H' s9:=aEk I.ok I9 λp d=>gj _ d;obtain⟨m,hn,hm⟩:=id U.loc;show wpAny_nameGoes_keeps Z hn (by rw[I.ok.kind];rfl) λh' v0 y x=>⟨l.set i af,H',aEm U hN hi hm y x,hB _ _ q⟩
 |brk=>obtain⟨_,_,_,q⟩:=h9;show q.elim
 |cont=>obtain⟨_,_,_,q⟩:=h9;show q.elim
def ST.aEn{K:ao}{H₀ H:Hp}{S:ah->Prop}{w:Nat->ah}{σ:L2.St}{ρ:bT}{i:Nat}(h:ST K H₀ S w σ H ρ [])(hi:∀d,ρ[i]?≠aa (Sv.ow d)):ST K H₀ S w (σ.set i af) H (ρ.set i .no) []:=by
 have other:∀{j:Nat} {s:Sv},s≠.no->(ρ.set i .no)[j]?=aa s->j≠i/\ρ[j]?=aa s:=λ{j s} m q=>by
  rcases get_set q with⟨_,z,_⟩|z
  .exact Zw z m
  .exact z
 have keep:∀{j:Nat} {v:V},j≠i->σ[j]?=aa (aa v)->(σ.set i af)[j]?=aa (aa v):=λ{j v} ne q=>by rw[jk (d_ ne)];show q
 have l:∀a,SO S w ρ a->SO S w (ρ.set i .no) a:=SO.mono λj d q=>⟨d,(other (by intro z;cases z) q).2⟩;show⟨h.fc,h.sm,λj d q=>?_,λj k d e q1 q2 z=>?_,λj d q=>?_,λg n=>(nomatch n),λj xs q=>h.rw j xs (other (by intro z;cases z) q).2⟩
 .obtain ⟨ne,q⟩:=other (by intro z;cases z) q;obtain⟨a,b,c⟩:=h.own j d q;show⟨keep ne a,b,c.fits (.mono l) λ_ z=>z⟩
 .exact h.inj j k d e (other (by intro z;cases z) q1).2 (other (by intro z;cases z) q2).2 z
 .obtain ⟨ne,q⟩:=other (by intro z;cases z) q;obtain⟨v,a,b⟩:=h.ro j d q;show⟨v,keep ne a,Dn.fits (.mono l) d v b⟩
theorem U_{R0 n:aj}{C0:ah}{i:Nat}{body:List bz}{b0:bz}{y Θ:List bz}{np hpos ν:bb}{fb fr:SF}{fh:aj->Option bT}(hst:X.stack=X.env::X.Γ)(hf:X.env.frame=aa X.env.locals)(hm0:X.mg R0=aa (.ref C0))(hN:X.N.Nodup)
  (hbody:∀pn xe,lC {X with pn:=pn,xe:=xe} body fb) (hrest:lC X Θ fr)
  (hh:∀c ρ1,fh c=aa ρ1 ->∃(C:ah) (g:Nat->SF) (o:Nat->bT),X.mg c=aa (.ref C)/\zy X.K (.ref C) (.ref C0)=aa ae/\(∀e:Nat,g e ((bp X.N.length Sv.no).set i (.ro (.exc c e)))=.nx (o e)/\(o e).set i .no=ρ1 /\∀d,(o e)[i]?≠aa (Sv.ow d)) /\
   ∀(e:ah) (oe:ax) (pn:Q0b),oe.cls=.ref C->lC (hcx X (aa (.ref e)) (pn++[(e,oe)])) (b0::y) (g e))
  (hi:X.N[i]?=aa n:=by rfl) (hl:X.env.scope.names.lookup n=aa .local:=by rfl) (hg0:Gl X R0:=by rfl) (hd0:Zu R0:=by decide):
  lC X (.Try body [.ExceptHandler (aa (.Name R0 np)) (aa n) (b0::y) hpos] [] [] ν::Θ) (xW fb fh fr):=by
 intro π s σ H B I ⟨H₀,S,w,ρ,G,E,hlen,st,l,ok⟩;generalize m_:({B with nx:=λa H'=>sY X.K (XC X) X.N.length (wS fr) B a H' }:Ends)=B2;show Gv (eR (Q:=SP X π B2) ?_ λf s1 q=>?_)
 rotate_left
 .subst m_
  cases f with
  |next =>
   obtain⟨a,H',I',q⟩:=q;show hrest π s1 a H' B I' q
  |ret v=>show q
  |brk=>show q
  |cont=>show q
 show wpAny_Try_except ?_;generalize F:(λ(e:ai) (s1:ak)=>av (aw X.Ω X.w) X.A (noteFrame e X.env) (λ_ O=>av (aw X.Ω X.w) X.A (setFlight e af) (λ_ s3=>av (aw X.Ω X.w) X.A (handleBy e X.env [.ExceptHandler (aa (.Name R0 np)) (aa n) (b0::y) hpos]) (SP X π B2) X.xe s3) X.xe O) X.xe s1)=xe;have I':Φ {X with pn:=X.pn++π,xe:=xe} [] σ H s :=
  ⟨⟨I.ok.mod,I.ok.kind,I.ok.glob,I.ok.blt,I.ok.above,I.ok.inj,I.ok.has,I.ok.cab,I.ok.hd,I.ok.frames,I.ok.stk,I.ok.exf,I.ok.bs,I.ok.RX,I.ok.JW,I.ok.PN,I.ok.rC,I.ok.frf,I.ok.tab⟩,I.os,I.bare,I.ω,I.loc,I.cell,I.free,I.iH,λp hp=>I.pin p (by have hp:p∈(X.pn++π)++[]:=hp;rw[iu] at hp;show hp),I.hok,I.len⟩
 have back:∀{aC2:Q0b} {m:L2.St} {U:Hp} {O:ak},Φ {X with pn:=X.pn++π,xe:=xe} aC2 m U O->Φ X π m U O:=λJ=>⟨I.ok,J.os,J.bare,J.ω,J.loc,J.cell,J.free,J.iH,λp hp=>J.pin p (gj _ hp),J.hok,J.len⟩;have ht':wS fb {E with nx:=λZ=>wS fr E Z,ex:=λc=>∃ρ1 d,fh c=aa ρ1/\fr ρ1=.rt d/\E.rt d} ρ:=by
  unfold wS xW at l;unfold wS
  cases hb:fb ρ with
  |nx Z=>rw[hb] at l;show l
  |rt d=>rw[hb] at l;show l
  |no=>rw[hb] at l;show l
  |ex c =>
   rw[hb] at l;dsimp only at l ⊢
   cases hc:fh c with
   |none=>rw[hc] at l;show l.elim
   |some ρ1 =>
    rw[hc] at l;dsimp only at l
    cases hr:fr ρ1 with
    |rt d=>rw[hr] at l;show⟨ρ1,d,rfl,hr,l⟩
    |nx _=>rw[hr] at l;show l.elim
    |no=>rw[hr] at l;show l.elim
    |ex _=>rw[hr] at l;show l.elim
 have ok':WH X.K (XC {X with pn:=X.pn++π,xe:=xe}) X.N.length H₀ S G {E with nx:=λZ=>wS fr E Z,ex:=λc=>∃ρ1 d,fh c=aa ρ1/\fr ρ1=.rt d/\E.rt d} B2:=⟨λw2 m U x l2 L q=>by
   rw[<- m_];show⟨H₀,S,w2,x,G,E,l2,L,q,ok⟩,λv U d2 O dn z=>by rw[<- m_];show ok.rt v U d2 O dn z,λw2 m U x l2 L z=>by rw[<- m_];show ok.bk w2 m U x l2 L z,λw2 m U x l2 L z=>by rw[<- m_];show ok.ct w2 m U x l2 L z,λc H' sm ⟨ρ1,d,hfd,hfr,q⟩=>by
  obtain⟨C,g,o,hmc,hx,hg,hs⟩:=hh c ρ1 hfd;show⟨C,hmc,λaC2 m O e a0 P I2 T2=>?_⟩;have IX:=back I2;have TX:rH X π H' O e (.ref C) a0 P:=⟨T2.mem,T2.free,T2.new,T2.fld,λq hq p hp=>T2.pin q hq p (gj _ hp),T2.tr⟩;show xe (.ref e) O;rw[<- F];obtain⟨g1,g2,g3⟩:=hg e;show looked hst hf IX TX λh' J tr stay fns us=>aBI (N1:=λY H3=>∃w3,Y.length=X.N.length/\ST X.K H₀ S w3 Y H3 (o e) []) IX TX tr stay fns us hm0 hg0 hd0 hx hN hi hl (λY H3 ⟨w3,l3,st3⟩=>?_) λoe s7 hc I7=>?_
  .rw [<- m_];show⟨H₀,S,w3,(o e).set i .no,[],{nx:=λ_=>False,rt:=E.rt},by rw[dm];show l3,ST.aEn st3 g3,?_,⟨λ_ _ _ _ _ _ z=>z.elim,λv U d2 O dn z=>ok.rt v U d2 O dn z,λ_ _ _ _ _ _ z=>z.elim,λ_ _ _ _ _ _ z=>z.elim,λ_ _ _ z=>z.elim⟩⟩;show wS fr _ _;unfold wS;rw[g2,hfr];show q
  .have hrt:B2.rt=B.rt:=by rw[<- m_]
   rw[hrt];show(hs e oe (X.pn++π) hc) [] s7 _ H' _ I7 ⟨H₀,S,λ_=>0,(bp X.N.length Sv.no).set i (.ro (.exc c e)),[],{nx:=λx=>x=o e,rt:=λ_=>False},?_,⟨st.fc,sm,λj d2 z=>?_,λj k d1 d2 z=>?_,λj d2 z=>?_,λg hg=>(nomatch hg),Sy⟩,?_,⟨λw3 Y H3 ρ3 l3 st3 z=>⟨w3,l3,by rw[<- z];show st3⟩,λ_ _ _ _ _ z=>z.elim,λ_ _ _ _ _ _ z=>z,λ_ _ _ _ _ _ z=>z,λ_ _ _ z=>z.elim⟩⟩
   .show ((bp X.N.length (af:Option V)).set i (aa (.ref e))).length=X.N.length;rw[dm,ig]
   .rcases get_set z with⟨_,z,_⟩|⟨_,z⟩
    .cases z
    .rw [jc] at z;split at z<;>cases z
   .rcases get_set z with⟨_,z,_⟩|⟨_,z⟩
    .cases z
    .rw [jc] at z;split at z<;>cases z
   .rcases get_set z with⟨rfl,z,hj⟩|⟨_,z⟩
    .cases z;show⟨.ref e,kl (by simpa using hj),by simp only[Dn]⟩
    .rw [jc] at z;split at z<;>cases z
   .show wS (g e) _ _;unfold wS;rw[g1]⟩
 have run:=hbody (X.pn++π) xe [] s σ H B2 I' ⟨H₀,S,w,ρ,G,_,hlen,st,ht',ok'⟩;rw[<- F] at run ⊢;show ik run (λf s1 h=>?_) λ_ _ z=>z
 cases f with
 |next =>
  obtain⟨a,H',J,q⟩:=h;rw[F] at J;show NA π s1 a H' B2 (back J) q
 |brk=>obtain⟨a,H',J,q⟩:=h;rw[F] at J;show⟨a,H',back J,q⟩
 |cont=>obtain⟨a,H',J,q⟩:=h;rw[F] at J;show⟨a,H',back J,q⟩
 |ret u=>obtain⟨v,a,H',J,rv,q⟩:=h;rw[F] at J;show⟨v,a,H',back J,rv,q⟩
end
open PySem.SeqAt
section
theorem AJ:∀{bs:List Bool} {a:Q0f},θ (bs.map V.bl) a->a=bs.map kc
 |[],_,.nil=>rfl
 |b::bs,_,.cons r t=>by have e:=AJ t;subst e;cases r;rfl
def Fd{bs:List Bool}{A:bq}{s:ak}:∀y,y∈bs.map kc->Hm A s y (.bool ae) (isBoolOf ae y):=λy a=>by obtain⟨b,_,rfl⟩:=gi.1 a;show a0Z b ae
def X9(b:Bool):isBoolOf ae (.bool b)=b:=by cases b<;>rfl
theorem YA:∀bs:List Bool,(bs.map kc).countP (isBoolOf ae)=(bs.filter id).length
 |[]=>rfl
 |b::bs=>by have a:=YA bs;rw[bo,List.countP_cons,X9,a,we];cases b<;>rfl
def aBJ(K:ao):V->List V->Hp->VK->Prop:=λx xs H Q=>∃(a:ah) (bs:List Bool),x=.ref a/\xs=[.bl ae]/\eZ K H a (bs.map V.bl)/\Q (.int ((bs.filter id).length:Nat)) H
def RP:MtR X "list.count" (aBJ X.K):=by intro π s σ H x xs v Z Q I z r h;obtain⟨a,bs,rfl,rfl,O,q⟩:=h;obtain⟨u,rfl,J⟩:=vals1 r;cases J;cases z;obtain⟨Y,A,p,hz⟩:=I.list O;have U:=AJ A;subst U;obtain⟨o,n,ho,l,j,d⟩:=id p;obtain⟨cls,dd,data,m⟩:=o;simp only at l j d;subst l j d;show o_ a09 ⟨_,ho,rfl⟩ PySem.F.entry_list_count (PySem.F.args_list_count_2 _ _) (list_countAt a (bs.map kc).toArray n af m (.bool ae) (isBoolOf ae)) ⟨ho,λy L=>Fd y (by simpa using L),?_⟩;rw[show(bs.map kc).toArray.toList=bs.map kc from rfl,YA];show⟨.int ((bs.filter id).length:Nat),H,I.kept λ_ _ e=>e,⟨_,rfl⟩,q⟩
def aBK(K:ao):V->List V->Hp->VK->Prop:=λx xs H Q=>∃(a:ah) (bs:List Bool) (i:Nat),x=.ref a/\xs=[.bl ae]/\eZ K H a (bs.map V.bl)/\bs.findIdx? id=aa i/\Q (.int (i:Int)) H
def RQ:MtR X "list.index" (aBK X.K):=by
 intro π s σ H x xs v us Q I U r h;obtain⟨a,bs,i,rfl,rfl,ha,hi,q⟩:=h;obtain⟨u,rfl,Z⟩:=vals1 r;cases Z;cases U;obtain⟨ι,Y,p,z⟩:=I.list ha;have ei:=AJ Y;subst ei;obtain⟨o,n,ho,L,J,A⟩:=id p;obtain⟨cls,dd,data,O⟩:=o;simp only at L J A;subst L J A;obtain⟨l,hit,d⟩:=List.findIdx?_eq_some_iff_getElem.1 hi;have hl:bs.length<=bc:=by rw[az] at z;show z
 have hb:bc<2^62:=by decide
 show o_ a07 ⟨_,ho,rfl⟩ PySem.F.entry_list_index (PySem.F.args_list_index_2 _ _) (list_indexAt a (bs.map kc).toArray n af O (.bool ae) (isBoolOf ae) i (by simpa using l) ∅ ?_ λm hm j=>?_) ⟨ho,λy hy=>Fd y (by simpa using hy),?_⟩
 .simp only[a2b,qe,X9];show hit
 .simp only[a2b,qe,X9];have:=d m j;simpa using this
 .exact ⟨.int (i:Int),H,I.kept λ_ _ e=>e,⟨_,rfl⟩,q⟩
theorem FF{K:ao}{S:ah->Prop}{H:Hp}:∀{ds:List D} {bs:List Bool} {xs:List V},L4.vF ds=aa bs->bC K S H ds xs->xs=bs.map V.bl
 |[],bs,xs,h,hd=>by cases h;simp only[bC] at hd;show hd
 |d::ds,bs,xs,h,hd=>by
  cases d with
  |bl b =>
   obtain⟨l,e,h2⟩:=ip.1 (show(L4.vF ds).map (b :: ·)=aa bs from h);subst h2;obtain⟨v,r,rfl,a,j⟩:=hd.bQ;symm at a;subst a;rw[FF e j];rfl
  |_=>cases h
section
variable{o e:au}{fo fe:EF}{apos cpos:bb}
def aBL(ho:cD X o fo)(U:cD X e fe)(m:attributeBase o "count" X.env (eval o X.env)=eval o X.env:=by rfl)
  (n:Zp X cpos e:=by rfl)
  (l:Q0k apos cpos:=by rfl) (J:Zr X e []:=by rfl) (h:(cu cpos (ar [] X.env)).any (·.1)=ag:=by rfl):
  cD X (.Call (.Attribute o "count" apos) [e] [] cpos) (aB wN fo fe) :=
 imp (NJ Hr a09 F.type_list_count RP ho (eK U jY J) m n l J h) λσ H Q Uz=>by
  obtain⟨S,ρ,Q3,L,y,⟨d,j,O⟩,k⟩:=Uz;obtain⟨dx,ex,j⟩:=bnd j;obtain⟨dy,Y,j⟩:=bnd j;unfold wN at j;split at j
  .rename_i ds _;obtain⟨bs,Z,rfl⟩:=ip.1 j;show⟨S,ρ,λz=>z=.lst ds,L,y,⟨_,ex,rfl⟩,λv H1 d1 q p q1=>?_⟩;subst q1;symm at p;obtain⟨a,xs,rfl,K,hS,p⟩:=p;have x:=FF Z p;subst x;show⟨.inl ⟨rfl,_,eZ.of K⟩,S,ρ,λz=>z=.bl ae,bP L q,Sl.fits (.same q) y,⟨_,Y,rfl⟩,λv2 H2 d2 I A q2=>?_⟩;subst q2;symm at A;subst A;show⟨a,bs,rfl,rfl,eZ.of (I _ _ K),k _ H2 _ (q.trans I) (by symm) O⟩
  .cases j
def aBM(ho:cD X o fo)(U:cD X e fe)(m:attributeBase o "index" X.env (eval o X.env)=eval o X.env:=by rfl)
  (n:Zp X cpos e:=by rfl)
  (l:Q0k apos cpos:=by rfl) (J:Zr X e []:=by rfl) (j:(cu cpos (ar [] X.env)).any (·.1)=ag:=by rfl):
  cD X (.Call (.Attribute o "index" apos) [e] [] cpos) (aB wQ fo fe) :=
 imp (NJ Hr a07 F.type_list_index RQ ho (eK U jY J) m n l J j) λσ H Q V_=>by
  obtain⟨S,ρ,Q3,L,y,⟨d,h,O⟩,k⟩:=V_;obtain⟨dx,ex,h⟩:=bnd h;obtain⟨dy,Y,h⟩:=bnd h;unfold wQ at h;split at h
  .rename_i ds _;obtain⟨bs,eb,h⟩:=bnd h;obtain⟨i,Z,rfl⟩:=ip.1 h;show⟨S,ρ,λz=>z=.lst ds,L,y,⟨_,ex,rfl⟩,λv H1 d1 q p q1=>?_⟩;subst q1;symm at p;obtain⟨a,xs,rfl,K,hS,p⟩:=p;have x:=FF eb p;subst x;show⟨.inl ⟨rfl,_,eZ.of K⟩,S,ρ,λz=>z=.bl ae,bP L q,Sl.fits (.same q) y,⟨_,Y,rfl⟩,λv2 H2 d2 I A q2=>?_⟩;subst q2;symm at A;subst A;show⟨a,bs,i,rfl,rfl,eZ.of (I _ _ K),Z,k _ H2 _ (q.trans I) (by symm) O⟩
  .cases h
end
end
end L9
namespace L4
open PySem.Spec PyProof.Rows L2 L3 PySem.W Att
variable{X:Cx}
section
variable{π:Q0b}{σ:L2.St}{H:Hp}{s:ak}
def Fp(X:Cx)(π:Q0b)(b:ah):Prop :=
 b≠X.env.locals/\b∉X.fs/\(b∈X.ex\/X.s₀.heap.objs.size<=b)/\(∀x c,X.env.cells.lookup x=aa c->c≠b) /\∀p∈X.pn++π,p.1≠b
def LJ(I:Φ X π σ H s)(a:s.heap.objs.size<=b):Fp X π b:=(I.EA (H':=H) a (I.hok.fresh a)).2
def xJ(I:Φ X π σ H s)(f:Fp X π b)(h:H b=af)(e:s.heap.get? b=aa o)(d:∀v,o.data≠.cell v):Φ X (π++[(b,o)]) σ H s:=by
 show I.DZ λp a=>?_;rcases gn.1 a with z|z
 .exact I.pin p (gp _ z)
 .rw [cc.1 z];show⟨e,h,f.1,f.2.1,d⟩
def nO(I:Φ X (π++[(b,o)]) σ H s):s.heap.get? b=aa o/\H b=af:=by obtain⟨e,n,_⟩:=I.pin (b,o) (gp _ (gp _ (cc.2 rfl)));show⟨e,n⟩
theorem tN(I:Φ X (π++[(b,o)]) σ H s)(f:Fp X π b)(k:∀c u,c≠b->s.heap.get? c=aa u->h'.get? c=aa u)(e:h'.get? b=aa o')(d:∀v,o'.data≠.cell v):
  Φ X (π++[(b,o')]) σ H {s with heap:=h',toks:=t' }:=by
 obtain⟨l,m,j,h,a⟩:=id f;show xJ (I.jQ.turned (t':=t') k (nO I).2 l j h a) f (nO I).2 e d
end
def uq(X:Cx)(σ:L2.St)(P:Q0b)(f:ai)(t:V->Hp->VK->Prop):Prop :=
 ∀(π:Q0b) (s:ak) (H:Hp) (v:V) (u:ai) (Q:VK),Φ X π σ H s->(∀p∈P,p∈π)->Ψ v u->t v H Q ->
  av (aw X.Ω X.w) X.A.in1.in1 (call f [u]) (EP X π σ Q) (λ_ _=>False) s
def tO(X:Cx)(n:Nat)(lt:Nat->Nat->Bool)(ks:List V)(H:Hp):Prop :=
 ∀(π:Q0b) (σ:L2.St) (s:ak) (a:Q0f),Φ X π σ H s->θ ks a ->
  ∃κ,(∀Q:SortKind->ak->Prop,Q κ s->av (aw X.Ω X.w) X.A.in1.in1 (keyKind' a.toArray) Q (λ_ _=>False) s) /\
   ∀(i j:Nat) (C:Bool->ak->Prop),i<n->j<n->C (lt i j) s->vk X.Ω X.w X.A.in1.in1 κ a i j C s
theorem CT(r:Ψ k u):∀{ks:List V} {a:Q0f},θ ks a->θ (ks++[k]) (a++[u])
 |_,_,.nil=>.cons r .nil
 |_,_,.cons q h=>.cons q (CT r h)
theorem tP:∀{ks:List V} {a:Q0f},θ ks a->ks.length=a.length
 |_,_,.nil=>rfl
 |_,_,.cons q h=>by rw[cn,cn,tP h]
theorem CU(r:θ xs us):∀a:List Nat,(∀i∈a,i<us.length)->θ (a.map λi=>xs.getD i .non) (a.map λi=>us.getD i jg)
 |[],_=>.nil
 |i::a,h=>by
  have hi:=h i cb;have d:=tP r;obtain⟨u,m,l⟩:=r.get (i:=i) (x:=xs[i]'∅) (by simp[d,hi]);have p:xs.getD i .non=xs[i]'∅:=by simp[d,hi]
  have o:us.getD i jg=u:=by rw[jw,m];rfl
  show .cons ?_ (CU r a λj n=>h j (e_ _ n));show Ψ (xs.getD i .non) (us.getD i jg);rw[p,o];show l
section
variable{π:Q0b}{σ:L2.St}{H:Hp}{s:ak}{P:Q0b}{f:ai}{t:V->Hp->VK->Prop}{xs:List V}{us:Q0f}{a kS:ah}{e1:Nat}{E:Q0c}
 {W:Nat->List V->Hp->Prop}
theorem AK{st:SortSt}{e:Nat}{p:Q0f}{out:Q0f}{Pf:Ae->ak->Prop}(I:Φ X ((π++[(a,seqObj "list" #[] e1)])++[(kS,seqObj "list" p.toArray e)]) σ H s)(U:Fp X π a)(O:Fp X (π++[(a,seqObj "list" #[] e1)]) kS)
  (d:(arrOf st).map (·.2)=out.toArray) (hz:out.length<64) (hk:p.length<64) (L:failedOf st=af)
  (h:∀s' c,Φ X (π++[(a,seqObj "list" out.toArray c)]) σ H s'->Pf (.done (.ret .none)) s'):av (aw X.Ω X.w) X.A.in1.in1 (ksk_tail a ag e1 (.ref kS) st) Pf E s:=by
 have o:=(nO I).1;have F:=q_ s.heap kS (fm λ_=>(#[]:Array ai));obtain⟨x,l⟩:∃x,(s.heap.update kS (fm λ_=>(#[]:Array ai))).get? kS=aa (seqObj "list" #[] x):=⟨_,vw o λ_=>#[]⟩;have Z:=tN (h':=s.heap.update kS (fm λ_=>(#[]:Array ai))) (t':=s.toks) I O (λb u n q=>(F.2 b n).trans q) l (λv z=>by cases z);have y:=Z.jQ;have j:=(nO y).1;obtain⟨K,e2⟩:∃g,s.heap.update kS (fm λ_=>(#[]:Array ai))=g:=⟨_,rfl⟩;have J:=q_ (s.heap.update kS (fm λ_=>(#[]:Array ai))) a (fm λ_=>out.toArray);obtain⟨ca,m⟩:∃ca,((s.heap.update kS (fm λ_=>(#[]:Array ai))).update a (fm λ_=>out.toArray)).get? a=aa (seqObj "list" out.toArray ca):=⟨_,vw j λ_=>out.toArray⟩;have Y:=tN (t':=s.toks) y U (λb u n q=>(J.2 b n).trans q) m (λv z=>by cases z);unfold ksk_tail;dsimp only;rw[d];show aq (rn o rfl ?_ (by rw[bw,fg];lia) (kh _));show aq (vj (aq (An j rfl ?_)));show aq (rn j rfl ?_ (kh _) (by show(if ag=ae then _ else _:Array ai).size<=_;rw[Zz bt,bw,fg];lia));rw[L];simp only[if_false,bne_self_eq_false,qi];show a_ (h _ ca Y)
theorem RR{lt:Nat->Nat->Bool}{ks:List V}{e:Nat}{l:Q0f}{Pf:Ae->ak->Prop}(I:Φ X ((π++[(a,seqObj "list" #[] e1)])++[(kS,seqObj "list" l.toArray e)]) σ H s)(Z:Fp X π a)(Y:Fp X (π++[(a,seqObj "list" #[] e1)]) kS)
  (r:θ ks l) (U:l.length=us.length) (J:us.length<64) (O:pA lt) (ask:2<=us.length->tO X us.length lt ks H)
  (h:∀(m:List Nat) s' c,m.Perm (b_ us.length)->((∀i j:Nat,i<j->j<us.length->lt (m.getD j 0) (m.getD i 0)=ag)/\m=uw lt us.length) ->
   Φ X (π++[(a,seqObj "list" (m.map λi=>us.getD i jg).toArray c)]) σ H s'->Pf (.done (.ret .none)) s'):
  av (aw X.Ω X.w) X.A.in1.in1 (ksk_end a ag us.toArray e1 (.ref kS) l.toArray) Pf E s:=by
 unfold ksk_end;dsimp only;simp only[if_false,qi];by_cases h2:us.length<2
 .have o:us.toArray.size<2:=by rw[bw];show h2
  rw[Z_ o,Z_ o];apply aq;apply a_;apply aq;apply a_;have q:(arrOf (a1G general' (l.toArray.zip us.toArray) #[] 7 af)).map (·.2)=us.toArray:=by show(l.toArray.zip us.toArray).map (·.2)=_;apply Array.toList_inj.mp;rw[Array.toList_map,ksk_zip,List.map_snd_zip (by rw[List.toList_toArray];lia)]
  show AK I Z Y q J ∅ rfl λs' c K=>h (b_ us.length) s' c (a3C _) ⟨λi j v x=>by lia,(Z_ h2).symm⟩ ?_;have:(b_ us.length).map (λi=>us.getD i jg)=us:=by
   show Be λi=>?_;rw[cf];by_cases hi:i<us.length
   .rw [tm hi];simp[hi]
   .rw [km (by simpa using hi),km (by simpa using hi)];rfl
  rw[this];show K
 .have o:¬ us.toArray.size<2:=by rw[bw];show h2
  rw[Zz o,Zz o];obtain⟨κ,kk,ka⟩:=ask ∅ _ _ s l I r;show aq (ik (kk _ ?_) (λ_ _ z=>z) λ_ _ z=>z.elim);show aq (ik (kat_run (κ:=κ) (ks:=l) (vs:=us) (Q:=λd s'=>∃p:Array Nat,p.size=us.length/\arrOf d=p.map (kas_item (l.toArray.zip us.toArray))/\failedOf d=af/\p=told lt (nh us.length)/\s'=s)
   (G:=λp s'=>p=told lt (nh us.length)/\s'=s) U ∅ J (λp d s' a1 a2 a3 a4=>⟨p,a1,a2,a3,a4.1,a4.2⟩) ?_) ?_ λ_ _ z=>z)
  .exact E3 (n:=us.length) (lt:=lt) (λi j C hi x hC=>ka i j C hi x hC) _ _ (HX ∅ λ_=>trivial) ⟨rfl,rfl⟩
  .rintro ⟨⟨⟩,d⟩ s' ⟨p,hp,F,hf,ep,rfl⟩;dsimp only;obtain⟨sp,L⟩:=N4 O (n:=us.length) ∅;rw[<- ep] at sp L;have y:p.toList.Perm (b_ us.length):=by simpa using sp.toList
   show AK I Z Y (kat_snds U F) (by rw[az,t_,hp];show J) ∅ hf λs' c K=>h p.toList s' c y ⟨λi j v x=>?_,by rw[ep];show(Zz h2).symm⟩ K;have:=L i j v x;rw[iY,iY] at this;simpa using this
theorem LK(hK:uq X σ P f t)(hP:∀p∈P,p∈π)(I:Φ X ((π++[(a,seqObj "list" #[] e1)])++[(kS,seqObj "list" #[] 0)]) σ H s)(fa:Fp X π a)(fk:Fp X (π++[(a,seqObj "list" #[] e1)]) kS)
  (r:θ xs us) (ft:us.length<64) (O:pA lt) (w0:W 0 [] H) (ws:∀(i:Nat) (x:V) (ks:List V) (H':Hp),xs[i]?=aa x->W i ks H'->t x H' λk H''=>W (i+1) (ks++[k]) H'')
  (ask:∀ks H',W us.length ks H'->2<=us.length->tO X us.length lt ks H')
  (h:∀(m:List Nat) (ks:List V) (H':Hp) s' c,W us.length ks H'->m.Perm (b_ us.length)->((∀i j:Nat,i<j->j<us.length->lt (m.getD j 0) (m.getD i 0)=ag)/\m=uw lt us.length) ->
   Φ X (π++[(a,seqObj "list" (m.map λi=>us.getD i jg).toArray c)]) σ H' s'->Pf (.done (.ret .none)) s'):
  av (aw X.Ω X.w) X.A.in1.in1 (ksk_rest a f ag us.toArray e1 (.ref kS)) Pf E s:=by
 unfold ksk_rest;show aq (nc ?_);rw[List.forIn_toArray];show aq (ksk_fold (λi s'=>∃(H':Hp) (ks:List V) (l:Q0f) (e:Nat),Φ X ((π++[(a,seqObj "list" #[] e1)])++[(kS,seqObj "list" l.toArray e)]) σ H' s'/\θ ks l/\l.length=i/\W i ks H') us 0 s ⟨H,[],[],0,I,.nil,rfl,w0⟩ ?_ ?_)
 .rintro j u s' hu ⟨H',ks,l,e,U,Y,K,n⟩;rw[ki] at K n ⊢;have hj:j<us.length:=(cg.mp hu).1;have F:=tP r;obtain⟨u',J,ru⟩:=r.get (i:=j) (x:=xs[j]'∅) (by simp[F,hj]);rw[hu] at J;cases J;have q:=hK _ s' H' (xs[j]'∅) u _ U (λp Z=>gj _ (gj _ (hP p Z))) ru (ws j _ ks H' (by simp[F,hj]) n);show aq (qu (ik q (λd y h2=>?_) λ_ _ z=>z.elim));obtain⟨k,H2,L,rk,w2⟩:=h2;dsimp only;have nk:=(nO L).1;have sk:=q_ y.heap kS (fm (·.push d));have ea:l.toArray.push d=(l++[d]).toArray:=by simp
  obtain⟨c2,hc2⟩:∃c2,(y.heap.update kS (fm (·.push d))).get? kS=aa (seqObj "list" (l++[d]).toArray c2):=⟨_,by rw[<- ea];show vw nk (·.push d)⟩;show aq (rn nk rfl ?_ (by rw[bw,fg];lia) (by rw[ea,bw,cy,A_,fg];lia));show a_ ⟨rfl,H2,ks++[k],l++[d],c2,?_,CT rk Y,by rw[cy,A_,K],w2⟩;show tN (t':=y.toks) L fk (λb o hb q=>(sk.2 b hb).trans q) hc2 (λv z=>by cases z)
 .rintro s' ⟨H',ks,l,e,U,Y,K,n⟩;rw[ki] at K n;show aq (Ia (nO U).1 rfl ?_);show RR U fa fk Y K ft O (ask ks H' n) λm y c Z hs L=>h m ks H' y c n Z hs L
theorem LM(hK:uq X σ P f t)(hP:∀p∈P,p∈π)(I:Φ X π σ H s)(o:Fp X π a)(Y:H a=af)(ho:s.heap.get? a=aa (seqObj "list" us.toArray n))
  (r:θ xs us) (ft:us.length<64) (O:pA lt) (L:W 0 [] H) (K:∀(i:Nat) (x:V) (ks:List V) (H':Hp),xs[i]?=aa x->W i ks H'->t x H' λk F=>W (i+1) (ks++[k]) F)
  (ask:∀ks H',W us.length ks H'->2<=us.length->tO X us.length lt ks H')
  (h:∀(l:List Nat) (ks:List V) (H':Hp) s' c,W us.length ks H'->l.Perm (b_ us.length)->((∀i j:Nat,i<j->j<us.length->lt (l.getD j 0) (l.getD i 0)=ag)/\l=uw lt us.length) ->
   Φ X (π++[(a,seqObj "list" (l.map λi=>us.getD i jg).toArray c)]) σ H' s'->Pf (.done (.ret .none)) s'):
  av (aw X.Ω X.w) X.A.in1.in1 (ksk_tree a f ag) Pf E s:=by
 have U:=q_ s.heap a (fm λ_=>(#[]:Array ai));obtain⟨d,m⟩:∃d,(s.heap.update a (fm λ_=>(#[]:Array ai))).get? a=aa (seqObj "list" #[] d):=⟨_,vw ho λ_=>#[]⟩;have I0:=xJ I o Y ho (λv z=>by cases z);have I1:=tN (h':=s.heap.update a (fm λ_=>(#[]:Array ai))) (t':=s.toks) I0 o (λb u Z q=>(U.2 b Z).trans q) m (λv z=>by cases z);unfold ksk_tree;apply aq;show Ia ho rfl ?_;apply aq;show rn ho rfl ?_ (by rw[bw,fg];lia) (kh _);apply aq;show An m rfl ?_;show aq (Gr ?_ (by show us.length<=_;rw[fg];lia));apply aq;show vi ?_ (kh _);show iy ?_;have y:=I1.kept (t':=s.toks) (h':=((s.heap.update a (fm λ_=>(#[]:Array ai))).push (seqObj "tuple" us.toArray 0))) λb u q=>cm _ q;have I3:=y.kept (t':=s.toks) (h':=((s.heap.update a (fm λ_=>(#[]:Array ai))).push (seqObj "tuple" us.toArray 0)).push (seqObj "list" #[] 0)) λb u q=>cm _ q;have J:Fp X (π++[(a,seqObj "list" #[] d)]) ((s.heap.update a (fm λ_=>(#[]:Array ai))).push (seqObj "tuple" us.toArray 0)).objs.size:=LJ y (bj _);have I4:=xJ I3 J (y.hok.fresh (bj _)) (dg _ rfl) (λv z=>by cases z);show LK hK hP I4 o J r ft O L K ask h
end
abbrev LN(q:aj)(sc:fj)(a:List (aj×ah))(L f:ah)(cd:ai):de:=envX q sc L f cd a
def IH(X:Cx)(N:Q0g)(q:aj)(sc:fj)(a:List (aj×ah))(L f:ah)(cd:ai)(s₀:ak)(H₀:Hp):Cx :=
 {X with N:=N,s₀:=s₀,H₀:=H₀,env:=LN q sc a L f cd,A:=X.A.in1.in1.deeper (LN q sc a L f cd),Γ:=X.stack,stack:=LN q sc a L f cd::X.stack,ex:=[],fn:=λ_=>ag,calm:=ae,pn:=[],xe:=λ_ _=>False}
structure II (X:Cx) (x:aj) (fs:Q0g) (fr:List Nat) (sc:fj):Prop where
 kind:sc.kind=.function
 co:sc.isCoroutine=ag
 gen:sc.isGenerator=ag
 par:sc.names.lookup x=aa .local
 YB:∀y∈sc.names,y.2≠.cell
 free:∀y∈sc.names,y.2=.free->X.env.kindOf y.1=aa .cell\/X.env.kindOf y.1=aa .free
 slot:∀(k:Nat) (y:aj),fs[k]?=aa y ->∃j,fr[k]?=aa j/\X.N[j]?=aa y/\(y,jh)∈sc.names/\sc.names.lookup y=aa .free
 A3:fr.length=fs.length
def iN(v:V)(fr:List Nat)(σ:L2.St):L2.St:=aa v::fr.map λj=>(σ[j]?).join
section
variable{π:Q0b}{σ:L2.St}{H:Hp}{s:ak}
theorem aBO(hc:X.calm=ae)(B:II X x fs fr sc)(I:Φ X π σ H s)
  (K:∀y∈sc.names,y.2=.free->cl.lookup y.1=X.env.cells.lookup y.1) (L:∀y c,cl.lookup y=aa c->X.env.cells.lookup y=aa c) (r:Ψ v u)
  (hn:U.Ns s.heap.objs.size λy=>[(x,u)].reverse.lookup y) (O:∀b o,s.heap.get? b=aa o->U.get? b=aa o):
  Φ (IH X (x::fs) q sc cl s.heap.objs.size f cd s H) [] (iN v fr σ) H {s with heap:=U,toks:=t' }:=by
 have ok:(IH X (x::fs) q sc cl s.heap.objs.size f cd s H).Ok:=by
  show⟨I.ok.mod,B.kind,rfl,rfl,bj _,λy z c U h2=>I.ok.inj y z c (L y c U) (L z c h2),λy a=>?_,(λy c h=>by cases h),λ_=>I.ok.hd hc,a1s (A:=X.A.in1.in1) I.ok.frames,.inr ⟨rfl,rfl⟩,(λb z=>by cases z),λb o e=>I.bs b o e,f_ I.ok.RX I.sz,(λb o _ z=>by cases z),(λb z=>by cases z),I.stack,I.w9,I.tab⟩;have a:sc.names.lookup y=aa .cell\/sc.names.lookup y=aa .free:=a;rcases a with a|a
  .exact Zw rfl (B.YB _ (jr a))
  .have F:=jr a;obtain⟨c,e⟩:=I.ok.has y (B.free _ F rfl);show⟨c,(K _ F rfl).trans e⟩
 show⟨ok,rfl,I.bare,Un.kept O,⟨_,hn,λi y w n m e3=>?_⟩,λy c e=>?_,I.hok.fresh (bj _),λy c e=>I.iH y c (L y c e),(λp hp=>by cases hp),I.hok.kept O,?_⟩
 .cases i with
  |zero =>
   have n:x=y:=cx n;have m:v=w:=cx (cx m);subst n m;show⟨u,r,.inl ⟨B.par,by simp⟩⟩
  |succ i =>
   have n:fs[i]?=aa y:=n;obtain⟨j,ej,eN,F,hlk⟩:=B.slot i y n;have Y:(σ[j]?).join=aa w:=by have m:(fr.map λj=>(σ[j]?).join)[i]?=aa (aa w):=m;rw[cf,ej] at m;show cx m
   have e5:σ[j]?=aa (aa w):=by
    cases q:σ[j]? with
    |none=>rw[q] at Y;cases Y
    |some o=>rw[q] at Y;rw[show o=aa w from Y]
   have J:=B.free _ F rfl;obtain⟨mm,_,hl⟩:=I.loc;obtain⟨z,rz,l⟩:=hl j y w eN e5 (.inr J);show⟨z,rz,?_⟩;rcases l with⟨k1,_⟩|⟨k1,c,ec,zc⟩
   .rcases J with y1|y1<;>rw[k1] at y1<;>cases y1
   .obtain ⟨Z,d,hd⟩:=zc;show .inr ⟨.inr hlk,c,(K _ F rfl).trans ec,Z,O _ _ d,hd⟩
 .obtain ⟨w,Z,d,hd⟩:=I.cell y c (L y c e);show⟨w,Z,O _ _ d,hd⟩
 .show (iN v fr σ).length=(x::fs).length;unfold iN;rw[cn,az,B.A3,cn]
def vV(H:Hp)(c:ah)(q:aj):Prop:=∃a vs t,H c=aa (DY a)/\a.data=.fields vs/\vs[1]?=aa (.str q t)
def vV.rec(x:vV H c q)(ok:pW P w H h):h.CodeRec (.ref c) q:=by obtain⟨a,vs,t,e,d,v⟩:=x;show⟨c,a,vs,t,rfl,(ok c _ e).1,d,v⟩
def vV.same(x:vV H c q)(a:ξ H H'):vV H' c q:=by obtain⟨h,vs,t,e,d,v⟩:=x;show⟨h,vs,t,a _ _ e,d,v⟩
theorem aBP(hc:X.calm=ae)(B:II X x fs fr sc)(a:X.A.depth<recursionLimit)
  (m:∀y∈sc.names,y.2=.free->cl.lookup y.1=X.env.cells.lookup y.1) (F:∀y c,cl.lookup y=aa c->X.env.cells.lookup y=aa c)
  (hb:∀u,bindArgs (zu "<lambda>" q params body sc cl pm (.ref c) ct) ⟨[u],[]⟩=pure [(x,u)]) (Z:∀L s H,PE (IH X (x::fs) q sc cl L f (.ref c) s H) body te):
  uq X σ [(f,zt "<lambda>" q params body sc cl pm c ct)] (.ref f) (λv H Q=>vV H c q/\te (iN v fr σ) H Q):=by
 intro π s H v u Q I U r ⟨cq,O⟩;have ef:=(I.pin _ (gp _ (U _ cb))).1;show zi (kla_callFunE (fd:=zu "<lambda>" q params body sc cl pm (.ref c) ct) a ef rfl B.co B.gen rfl (cq.rec I.hok) ?_);rw[hb u];show a_ (wpAny_newFunctionEnv B.YB (λy K=>?_) (λh1 l d=>⟨I.nolimit.fresh _ d,?_⟩) B.kind)
 .rw [cc.1 K];show B.par
 .have Y:∀b o,s.heap.get? b=aa o->h1.get? b=aa o:=λb o e=>d.extBut b o (ee (br e)) (cm _ e);have J:=aBO (q:=q) (f:=f) (cd:=.ref c) (t':=s.toks+1) hc B I m F r l Y;show kla_codeExpr ?_;show ik (Z s.heap.objs.size s H [] _ (iN v fr σ) H Q J O) (λw s' h=>?_) λ_ _ z=>z.elim;obtain⟨y,H',j,n,p⟩:=h;show⟨y,H',I.call' (s':=s') (ch:=[]) j.os j.ω j.hok j.bare (λb z=>by cases z),n,p⟩
theorem AL{m p2:bb}{c j:ai}:∀(l:Q0f),TriplesOk l->codeAmong p2 (l++[rawInt m.line,rawInt m.col,c])=aa j->codeAmong p2 l=aa j\/j=c
 |[],_,h=>by
  simp only[la,codeAmong,rawInt] at h;split at h
  .exact .inr (cx h).symm
  .cases h
 |.int a t::.int b u::d::r,hT,h=>by
  simp only[Bf,codeAmong] at h ⊢;split at h
  .rename_i hp;rw[Z_ hp];show .inl h
  .rename_i hn;rw[Zz hn];show AL r hT h
theorem YC(I:Φ X π σ H s)(hx:(x0,c,P)∈eJ X.K)(hq:X.env.qual++"<lambda>"=oV x0)
  (j:X.env.code=.ref c) (B:II X x fs fr sc) (hdef:defaultsOf params X.env=([],[]))
  (h:∀(f a:ah) (ct:ai) (O:List (aj×ah)) (H':Hp) (s':ak),ξ H H'->vV H' a (oV x0)->(∀y∈sc.names,y.2=.free->O.lookup y.1=X.env.cells.lookup y.1)->(∀y c,O.lookup y=aa c->X.env.cells.lookup y=aa c) ->
   Φ X (π++[(f,zt "<lambda>" (oV x0) params body sc O ((X.mg "__name__").getD .none) a ct)]) σ H' s'->Q (.ref f) s'):
  av (aw X.Ω X.w) X.A (eval (.Lambda params body sc ν) X.env) Q E s:=by
 obtain⟨hC,hP⟩:=I.tab _ hx;dsimp only at hC hP;obtain⟨ps,eP,hT,hA⟩:=I.hok P _ hP;have C:=hC.keeps I.bk;obtain⟨bm,ob,b1,b2,b3,b4,b5,b6⟩:=I.mod.bm;have F:=I.mod.glob.keeps I.bk;have hgP:g_≠P:=λz=>by obtain⟨o,es,ep,eo,U,_⟩:=F;rw[z,eP] at eo;cases eo;cases U
 have l:=I.bk _ _ b3;have J:bm≠P:=λz=>by rw[z,eP] at l;cases l;cases b4
 have hbG:bm≠g_:=λz=>by obtain⟨o,es,ep,eo,U,_⟩:=F;rw[z,eo] at l;cases l;rw[U] at b6;cases b6
 have Cc:s.heap.BuiltinsAt X.mg P:=⟨bm,ob,b1,b2,hbG,J,l,b4,b5,b6⟩;obtain⟨O,ecl,hcl,mQ⟩:=zV (scope:=sc) (env:=X.env) λy hy hf=>I.ok.has _ (B.free y hy hf);show kla_eval hdef ?_;rw[hq]
 -- behind the making: the function object is laid and pinned
 have fin:∀(a:ah) (ct:ai) (H':Hp) (h':ay) (p:h_),ξ H H'->vV H' a (oV x0)->Φ X π σ H' {s with heap:=h',toks:=p} ->
   Q (.ref h'.objs.size) {s with heap:=h'.push (zt "<lambda>" (oV x0) params body sc O ((X.mg "__name__").getD .none) a ct),toks:=p}:=λa ct H' h' p m cq I'=>by
  have I2:=I'.kept (t':=p) (h':=h'.push (zt "<lambda>" (oV x0) params body sc O ((X.mg "__name__").getD .none) a ct)) λb u e=>cm _ e;show h _ a ct O H' _ m cq hcl mQ (xJ I2 (LJ I' (bj _)) (I'.hok.fresh (bj _)) (dg _ rfl) (λv z=>by cases z))
 cases hf:codeAmong ν ps.toList with
 |some cv =>
  obtain⟨a,L,vs,t,rfl,e1,e2,e3⟩:=hA ν cv hf;show kla_makeFunctionHit (mg:=X.mg) ecl I.ok.glob F j C eP hT hf Cc λct h' p hk hsz=>?_;show fin a ct H h' p (λ_ _ e=>e) ⟨L,vs,t,e1,e2,e3⟩ (I.kept hk)
 |none =>
  show kla_makeFunction (mg:=X.mg) ecl I.ok.glob F j C eP hT hf hgP Cc λa ct h' p hX hge hlt Z Y=>?_;obtain⟨c2,L,vs,t,e2,hoc,U,hv⟩:=Z;cases e2;have hfr:H a=af:=I.hok.fresh hge;have nC:∀{b:ah} {o:HO},H b=aa o->b≠a:=λe=>bY e hfr;have nP:∀{b:ah},H b=af->b≠P:=λe z=>by rw[z,hP] at e;cases e
  have m:ξ H (upd H a (DY L)):=λb o e=>by rw[bB (nC e)];show e
  show fin a ct (upd H a (DY L)) h' p m ⟨L,vs,t,aY,U,hv⟩ (I.un (t':=p) ⟨λb o e n _ _=>hX b o (nP n) e,λb o e n _ _=>⟨o.slots,hX b o (nP n) e⟩,λb o e n _=>?_,λb o e _=>?_,λb xs e=>m _ _ e,λb o u e=>m _ _ e,λb q e=>m _ _ e⟩ λb u e=>?_)
  .rw [bB (ee (fw (br e) hge))];show n
  .by_cases hb:b=P
   .exact ⟨_,hb▸Y⟩
   .exact ⟨o,hX b o hb e⟩
  .by_cases hb:b=a
   .subst hb;rw[aY] at e;cases e;show⟨hoc,trivial,⟨L,hoc⟩,λ_ _ _ _=>trivial⟩
   .rw [bB hb] at e;by_cases J:b=P
    .subst J;rw[hP] at e;cases e;show⟨_,Y,?_,λp2 cv e=>?_⟩
     .rw [a2B];show TriplesOk_snoc _ _ _ _ hT
     .rw [a2B] at e;rcases AL _ hT e with z|z
      .obtain ⟨c3,oc3,vs3,t3,y1,y2,y3⟩:=hA p2 cv z;show⟨c3,oc3,vs3,t3,y1,m _ _ y2,y3⟩
      .exact ⟨a,L,vs,t,z,aY,U,hv⟩
    .refine (I.hok b u e).stay (λd w hc q=>hX d w ?_ q) (λd q=>m _ _ q) (λd xs q=>m _ _ q) λd o u q=>m _ _ q;rcases hc with z|z
     .rw [z];show J
     .intro y;rw[y,hP] at z;cases z
def track(I:Φ X (π++[(b,o)]) σ H s)(f:Fp X π b)(new:dN X.Ω X.w (upd H b u) s.heap b u):Φ X π σ (upd H b u) s:=by
 obtain⟨y,A,x,v,p⟩:=f;have j:=(nO I).2;have J:=I.jQ;have a:∀{d:ah} {w:HO},H d=aa w->upd H b u d=aa w:=λ{d w} e=>by rw[bB (bY e j)];show e
 have q:=J.step (s:=s) (H':=upd H b u) (h':=s.heap) (g':=s.gens) (t':=s.toks) (d':=s.drawn) (ch:=[b]) (λd h=>?_) (λd w _ _ _ e _=>e) (λd w _ _ _ e _=>⟨w.slots,e⟩) (λd w h e n=>?_) (λd w _ e=>⟨w,e⟩) (λd xs e=>a e) (λd o u e=>a e) (λd q e=>a e) (λm l=>l) (λd w e=>?_) J.bare
 .exact q
 .rw [cc.1 h];show⟨x,y,v,p⟩
 .rw [bB λz=>h (cc.2 z)];show n
 .by_cases h:d=b
  .subst h;rw[aY] at e;cases e;show new
  .rw [bB h] at e;show(J.hok d w e).stay (λ_ _ _ q=>q) (λ_ q=>a q) (λ_ _ q=>a q) λ_ _ _ q=>a q
theorem YD{H:Hp}{m:List ah}{d:Q0a}(hl:m.length=d.length)(hh:∀(j:Nat) (p:ah) (t:Q0e),m[j]?=aa p->d[j]?=aa t->H p=aa (.tup (t.map V.int)))(L:∀t∈d,t≠[])(h2:2<=d.length):
  tO X d.length (λi j=>fK (fZ d i) (fZ d j)) (m.map V.ref) H:=by
 intro π σ s us I r;have Z:=u6 r;subst Z;have tup:∀j,j<d.length ->∃(p:ah) (l:Q0f),m[j]?=aa p/\ia s.heap p l.toArray/\jt l (fZ d j)/\fZ d j≠[]/\(m.map cz).getD j jg=.ref p:=λj F=>by
  have A:m[j]?=aa (m[j]'∅):=bx ∅;have ht:d[j]?=aa d[j]:=bx F;obtain⟨l,GZ,pt,_⟩:=I.tuple (fJ.of (hh j _ _ A ht));have et:fZ d j=d[j]:=by unfold fZ;rw[ht];rfl
  show⟨_,l,A,pt,by rw[et];show intsAre_of GZ,by rw[et];show L _ (md F),by simp[hl,F]⟩
 -- the first items
 have go:∀k,k<=d.length ->∃fs:Q0f,fs.length=k/\(∀v∈fs,∃i t,v=js i t)/\zz s.heap ((m.take k).map cz) fs:=by
  intro k
  induction k with
  |zero=>intro _;show⟨[],rfl,(λv y=>by cases y),trivial⟩
  |succ k ih =>
   intro hk;obtain⟨fs,f1,Y,J⟩:=ih ∅;obtain⟨p,l,A,⟨o,eo,co,n,dn⟩,hi,ne,_⟩:=tup k ∅;obtain⟨i,t,x,rfl⟩:∃i t x,l=js i t::x:=by
    generalize fZ d k=w at hi ne
    cases hi with
    |nil=>show Zw rfl ne
    |cons n t r=>show⟨n,t,_,rfl⟩
   have snoc:∀(as:Q0f) (gs:Q0f),zz s.heap as gs->zz s.heap (as++[.ref p]) (gs++[.int i t]):=by
    intro as
    induction as with
    |nil =>
     intro gs h
     cases gs with
     |nil=>show a0Q eo co dn (by simp) .nil
     |cons g gs=>show h.elim
    |cons a as ih2 =>
     intro gs h
     cases gs with
     |nil=>show h.elim
     |cons g gs=>show⟨h.1,ih2 gs h.2⟩
   show⟨fs++[.int i t],by simp[f1],λv y=>?_,?_⟩
   .rcases gn.1 y with z|z
    .exact Y v z
    .exact ⟨i,t,cc.1 z⟩
   .rw [Ir,A,gq];show snoc _ _ J
 obtain⟨fs,f1,Y,J⟩:=go d.length (bj _);rw[r_ ∅] at J;show⟨tuples' ae,λQ q=>kat_kind (T:=.type "int") J ∅ (λv y=>?_) (by decide) q,λi j C hi F hC=>?_⟩
 .obtain ⟨i,t,rfl⟩:=Y v y;show a0P rfl
 .obtain ⟨p,l,A,⟨o,eo,co,n,dn⟩,U,_,ep⟩:=tup i hi;obtain⟨p2,K,hp2,⟨o2,eo2,co2,n2,sZ⟩,O,_,ep2⟩:=tup j F;unfold vk;rw[ep,ep2];show kat_lt eo dn eo2 sZ (XN l K _ _ 0 _ rfl U O hC)
def aBQ(d:Q0a):pA λi j=>fK (fZ d i) (fZ d j):=⟨λx y a=>CY _ _ a,λx y z a b=>CZ _ _ _ a b⟩
def RS{a:Q0a}(nd:a.Nodup){d:List Nat}(h:d.Perm (b_ a.length))(m:∀i j:Nat,i<j->j<a.length->fK (fZ a (d.getD j 0)) (fZ a (d.getD i 0))=ag):pI a=d.map λi:Nat=>(i:Int):=by
 have hlen:d.length=a.length:=by rw[h.length_eq,oi]
 have es:mD a=d.map (fZ a):=by
  show C4 ((gH a).trans ?_) (rP a) ?_
  .have:=(h.map (fZ a)).symm;rw[HY] at this;show this
  .rw [UpT,si,Aw];intro i j hi n l;have:=m i j l ∅;simpa[hi,n] using this
 unfold pI;rw[es,dh];show gk λi hi=>?_;have hi:i<a.length:=by simpa using h.mem_iff.mp hi
 show((a.idxOf (fZ a i):Nat):Int)=i;have:fZ a i=a[i]:=by unfold fZ;rw[bx hi];rfl
 rw[this,Jr nd i hi]
theorem LO{π:Q0b}{σ:L2.St}{H:Hp}{s:ak}{P:Q0b}{r f:ah}{t:V->Hp->VK->Prop}{W:Nat->List V->Hp->Prop}{lt:Nat->Nat->Bool}{xs:List V}{Q:VK}(I:Φ X π σ H s)
  (hK:uq X σ P (.ref f) t) (hP:∀p∈P,p∈π) (Y:xs.length<64) (O:pA lt)
  (Lv:∀Qc:List ai->ak->Prop,(∀(d:Q0f) (h':ay) (v:Nat),(∀b o,s.heap.get? b=aa o->h'.get? b=aa o)->θ xs d->Qc d {s with heap:=h',toks:=v})->av (aw X.Ω X.w) X.A.in1 (collect (.ref r)) Qc X.xe s)
  (w0:W 0 [] H) (ws:∀(i:Nat) (x:V) (ks:List V) (H':Hp),xs[i]?=aa x->W i ks H'->t x H' λk L=>W (i+1) (ks++[k]) L)
  (ask:∀ks H',W xs.length ks H'->2<=xs.length->tO X xs.length lt ks H')
  (h:∀(a:List Nat) (ks:List V) (H':Hp) (D:ah),W xs.length ks H'->a.Perm (b_ xs.length)->((∀i j:Nat,i<j->j<xs.length->lt (a.getD j 0) (a.getD i 0)=ag)/\a=uw lt xs.length)->H D=af->H' D=af ->
   Q (.ref D) (upd H' D (.lst (a.map λi=>xs.getD i .non)))):
  av (aw X.Ω X.w) X.A (call (.builtin "sorted") [.ref r] [(pz "key",.ref f)]) (EP X π σ Q) X.xe s:=by
 show call_function_entry_kw Ib H_ Ie (ksk_s1 _ _) ?_;unfold Builtin.«sorted»;apply aq (m:=checkCount "sorted" 1 1 _);apply a_;show aq (Lv _ λd h' v kp y=>?_);have U:=tP y;have J:=I.kept (t':=v) kp;apply aq;show vi ?_ (by rw[fg];lia);have I2:=J.kept (t':=v) (h':=h'.push (seqObj "list" d.toArray 0)) λb u q=>cm _ q;have l:(h'.push (seqObj "list" d.toArray 0)).get? h'.objs.size=aa (seqObj "list" d.toArray 0):=dg _ rfl;have n:H h'.objs.size=af:=J.hok.fresh (bj _);have Z:Fp X π h'.objs.size:=LJ J (bj _);show aq (iy (wpAny_call_entry_kw Hz ⟨_,l,rfl⟩ Ig ?_ (ksk_l1 _ _)));show av (aw X.Ω X.w) X.A.in1.in1 (Builtin.«list.sort» ⟨[.ref h'.objs.size],[(pz "key",.ref f)]⟩) _ _ _;rw[ksk_t1];rw[U] at Y;rw[U] at ask h;show LM hK hP I2 Z n l y Y O w0 ws ask λa ks H' s' c w' z hs K=>?_;have F:=(nO K).2;show⟨_,rfl,a_ ⟨_,rfl,.ref h'.objs.size,upd H' h'.objs.size (.lst (a.map λi=>xs.getD i .non)),track K Z ?_,rfl,h a ks H' _ w' z hs n F⟩⟩;show⟨?_,a.map λi=>d.getD i jg,c,CU y a λi hi=>by simpa using z.mem_iff.mp hi,(nO K).1⟩;rw[az,z.length_eq,oi,fg];lia
theorem aEp{K:ao}{S:ah->Prop}{H H':Hp}{ρ:dZ}{σ:L2.St}{fr:List Nat}{d:D}{v:V}(h:Sl K S H ρ σ)(a:ξ H H')(p:Dn K S H' d v):Sl K S H' ((benv 1 fr ρ).set 0 (aa d)) (iN v fr σ):=by
 intro i e hi
 cases i with
 |zero=>cases hi;show⟨v,rfl,p⟩
 |succ i =>
  have hi:(fr.map λj=>(ρ[j]?).join)[i]?=aa (aa e):=hi;rw[cf] at hi
  cases ej:fr[i]? with
  |none=>rw[ej] at hi;cases hi
  |some j =>
   rw[ej] at hi;have hi:(ρ[j]?).join=aa e:=cx hi;have m:ρ[j]?=aa (aa e):=by
    cases q:ρ[j]? with
    |none=>rw[q] at hi;cases hi
    |some o=>rw[q] at hi;rw[show o=aa e from hi]
   obtain⟨w,l,n⟩:=h j e m;show⟨w,?_,Dn.fits (Fits.same a) e w n⟩;show(fr.map λj=>(σ[j]?).join)[i]?=aa (aa w);rw[cf,ej,nu,l];rfl
theorem aBR{x0 x:aj}{fs:Q0g}{fr:List Nat}{c Pt:ah}{a body:au}{fa fk:EF}{params:Hy}{sc:fj}{p ν p2 o Cm kp:bb}{k:Nat}(hc:X.calm=ae)(hr:fL k X.A)(hm:X.mg "sorted"=af)(hmr:X.mg "range"=af)(ha:cD X a fa)
  (hx:(x0,c,Pt)∈eJ X.K) (Y:X.env.code=.ref c) (B:II X x fs fr sc) (hk:∀Z L f cd s H,cD (IH X (x::fs) (oV x0) sc Z L f cd s H) body fk)
  (hb:∀(Z:List (aj×ah)) (pm cd ct u:ai),bindArgs (zu "<lambda>" (oV x0) params body sc Z pm cd ct) ⟨[u],[]⟩=pure [(x,u)])
  (hq:X.env.qual++"<lambda>"=oV x0:=by rfl) (hdef:defaultsOf params X.env=([],[]):=by rfl)
  (hg:Gl X "sorted":=by rfl) (hgr:Gl X "range":=by rfl) (hs:ar [a] X.env=[(ag,eval a X.env)]:=by rfl)
  (he:ar [.Call (.Name "range" p2) [a] [] o] X.env=(ag,eval (.Call (.Name "range" p2) [a] [] o) X.env)::ar [] X.env:=by rfl):
  kE X (.Call (.Name "sorted" p) [.Call (.Name "range" p2) [a] [] o] [⟨aa "key",.Lambda params body sc Cm,kp⟩] ν) (C6 fr fa fk):=by
 intro π s σ H Q I ⟨S,ρ,Q3,fc,sl,⟨d,l,q3⟩,kk⟩;obtain⟨da,e1,edA⟩:=bnd l;obtain⟨j,e2,edB⟩:=bnd edA;obtain rfl:da=.int j:=by
  cases da<;>first|cases e2;done|skip
  cases e2;rfl
 clear l edA
 have l:=edB
 clear edB
 by_cases hj:0<=j/\j<64
 case neg=>rw[Zz hj] at l;cases l
 rw[Z_ hj] at l;obtain⟨kd,e3,l⟩:=bnd l;obtain⟨O,e4,l⟩:=bnd l;by_cases ht:O.length<64/\O.all (λt=>!t.isEmpty)=ae/\O.Nodup
 case neg=>rw[Zz ht] at l;cases l
 rw[Z_ ht] at l;cases l;have ekd:=u7 e4;have hne:∀t∈O,t≠[]:=λt h z=>by have:=gx.mp ht.2.1 t h;rw[z] at this;cases this
 have lkd:=BF e3;rw[az,show(bE 0 j.toNat).length=j.toNat by simp[bE]] at lkd;have lts:O.length=j.toNat:=by rw[<- lkd,ekd,az]
 have hA:PA X [.Call (.Name "range" p2) [a] [] o] _:=eK (uV hgr hmr (aC ha aZ hs) hs) jY he;show zj (nG I hg hm Ao ?_);show callWith_kw (eR (hA ν π s σ H (λvs H1=>∃r,vs=[.ref r]/\ξ H H1/\H1 r=aa (.rng 0 j)) I ⟨S,ρ,λds=>ds=[.int j],fc,sl,⟨[.int j],(by show((fa ρ).bind λd=>(aa ([]:List D)).bind λds=>aa (d::ds))=_;rw[e1];rfl),rfl⟩,λvs H1 ds s1 d1 q1=>?_⟩) λus s1 ⟨vs,H1,I1,r1,q1⟩=>?_) he
 .subst q1;have:=bC.ints (ns:=[j]) |>.mp d1;show⟨j,this,λb hb=>⟨b,rfl,s1.trans (aQ hb),aY⟩⟩
 obtain⟨r,rfl,sm1,hr1⟩:=q1;obtain⟨u,rfl,ru⟩:=vals1 r1;cases ru;show kws_cons (YC I1 hx hq Y B hdef λf c' ct Z H2 s2 sm2 cq hcl mQ I2=>kws_nil ?_);show av (aw X.Ω X.w) X.A (call (.builtin "sorted") [.ref r] [(pz "key",.ref f)]) _ _ s2;have sm:=sm1.trans sm2;obtain⟨t0,u0,v0,er⟩:=I2.hok r _ (sm2 _ _ hr1);have hsz:p0 0 j 1=(j.toNat:Int):=by rw[zm];split<;>lia
 have U:((kX 0 j.toNat).map V.int).length=O.length:=by rw[az,lP,lts]
 have key:=aBP (te:=lift X.K (wE fk)) (σ:=σ) (q:=oV x0) (params:=params) (f:=f) (c:=c') (pm:=(X.mg "__name__").getD .none) (ct:=ct) hc B (by have:=hr.dp;lia) hcl mQ (λu=>hb Z _ _ _ u) λL s H=>hk Z L f (.ref c') s H;have main:=LO (Q:=Q) (W:=λi ks H'=>ξ H2 H'/\bC X.K S H' (kd.take i) ks) (lt:=λi j=>fK (fZ O i) (fZ O j)) (xs:=(kX 0 j.toNat).map V.int) (r:=r) I2 key (λp hp=>gp _ hp) (by rw[U];show ht.1) (aBQ O)
  (λQc q=>vT (A:=X.A.in1) (a:=0) (b:=j) (c:=1) (n:=j.toNat) (I.ok.hd hc) er (zk ∅ ∅ ∅ ∅) hsz ∅ λh' tk ψ hle kp hit=>q _ h' tk kp (zZ hit))
  ⟨ξ.refl _,by rw[a1W];show bC.nil⟩ (λi x ks H' F ⟨m,dk⟩=>?_) (λks H' ⟨m,dk⟩ h2=>?_) λix ks H' Dd ⟨m,dk⟩ hp hs hD hD'=>?_
 .exact eR main λv s' ⟨y,H',J,ry,qy⟩=>⟨y,H',J.jQ,ry,qy⟩
 .rw [cf] at F;obtain⟨z,ez,rfl⟩:∃z,(kX 0 j.toNat)[i]?=aa z/\V.int z=x:=by
   cases e:(kX 0 j.toNat)[i]? with
   |none=>rw[e] at F;cases F
   |some z=>rw[e] at F;show⟨z,rfl,cx F⟩
  obtain⟨kv,ek,ek2⟩:=BG e3 (show((bE 0 j.toNat).map D.int)[i]?=aa (.int z) by rw[cf,show(bE 0 j.toNat)[i]?=aa z from ez];rfl);show⟨cq.same m,S,_,λd=>d=kv,bP fc (sm.trans m),aEp (d:=.int z) sl (sm.trans m) (by symm),⟨kv,ek2,rfl⟩,λv H'' d s3 dv l=>?_⟩;subst l;show⟨m.trans s3,?_⟩;rw[Ir,ek];show bC.append (bC.fits (Fits.same s3) _ _ dk) (bC.one dv)
 .rw [U,r_ ∅,ekd] at dk;obtain⟨ps,rfl,hl,hh⟩:=AA dk;rw[U] at h2 ⊢;show YD hl hh hne h2
 .rw [U] at hp hs;have hpl:=RS ht.2.2 hp hs.1;have hH:H Dd=af:=sm.free hD;show kk Dd _ _ ((pI O).map D.int) hH aY ((sm.trans m).trans (aQ hD')) ?_ q3;rw[hpl];show bC.ints.mpr ?_;rw[dh];show gk λi hi=>?_;have hi:i<j.toNat:=by rw[<- lts];simpa using hp.mem_iff.mp hi
  show((kX 0 j.toNat).map V.int).getD i .non=V.int (i:Int);have:((kX 0 j.toNat).map V.int)[i]?=aa (V.int (i:Int)):=by rw[cf];unfold kX;rw[cf,tm hi];simp
  rw[jw,this];rfl
end
def xl(Γ:List (aj×ja))(sc:fj)(N:Q0g)(x:aj)(fs:Q0g)(fr:List Nat):Bool :=
 (sc.kind == .function) && !sc.isCoroutine && !sc.isGenerator&&Zv (sc.names.lookup x=aa .local)&&sc.names.all (λy=>Zv (y.2≠.cell)) &&
 sc.names.all (λy=>Zv (y.2=.free->(Γ.lookup y.1=aa .cell\/Γ.lookup y.1=aa .free)))&&Zv (fr.length=fs.length) &&
 (fs.zip fr).all (λy=>Zv (N[y.2]?=aa y.1)&&sc.names.contains (y.1,jh)&&Zv (sc.names.lookup y.1=aa .free))
def aBS(h:xl X.env.scope.names sc X.N x fs fr=ae):II X x fs fr sc:=by
 unfold xl at h;simp only[gy,gx,decide_eq_true_eq,Kc] at h;obtain⟨⟨⟨⟨⟨⟨⟨q,h2⟩,p⟩,o⟩,n⟩,m⟩,l⟩,j⟩:=h;show⟨eq_of_beq q,h2,p,o,n,m,λk y e=>?_,l⟩;have v:k<fs.length:=(cg.mp e).1;have d:(y,fr[k]'∅)∈fs.zip fr:=by
  have:(fs.zip fr)[k]?=aa (y,fr[k]'∅):=by rw[Bb];show⟨e,by simp⟩
  show lh this
 obtain⟨⟨a,b⟩,c⟩:=j _ d;show⟨fr[k]'∅,by simp,a,by simpa using b,c⟩
theorem aEr(J:X.calm=ae)(q:fL k X.A)(y:X.mg "sorted"=af)(j:X.mg "range"=af)
  (n:(x0,c,Pt)∈eJ X.K) (d:X.env.code=.ref c) (U:cD X a fa) (z:∀m L f cd s H,cD (IH X (x::fs) (oV x0) sc m L f cd s H) body fk) (B:xl X.env.scope.names sc X.N x fs fr=ae:=by rfl)
  (O:∀(m:List (aj×ah)) (pm cd ct u:ai),bindArgs (zu "<lambda>" (oV x0) params body sc m pm cd ct) ⟨[u],[]⟩=pure [(x,u)]:=by intro _ _ _ _ _;rfl)
  (v:X.env.qual++"<lambda>"=oV x0:=by rfl) (h:defaultsOf params X.env=([],[]):=by rfl)
  (F:Gl X "sorted":=by rfl) (l:Gl X "range":=by rfl) (o:ar [a] X.env=[(ag,eval a X.env)]:=by rfl)
  (I:ar [.Call (.Name "range" p2) [a] [] pos2] X.env=(ag,eval (.Call (.Name "range" p2) [a] [] pos2) X.env)::ar [] X.env:=by rfl):
  kE X (.Call (.Name "sorted" p) [.Call (.Name "range" p2) [a] [] pos2] [⟨aa "key",.Lambda params body sc Cm,kp⟩] ν) (C6 fr fa fk):=aBR J q y j U n d (aBS B) z O v h F l o I
def YE{K:ao}{x0:aj}{f c n:ah}{j:ai}{h:Option ah}{fd:fv}{d:Array (Option ai)}(l:nsIn K g_ x0=aa (aa (.ref f)))(m:K.lookup f=aa ⟨j,h,.func fd,d⟩)(a:tabIn K x0=aa (c,n)):fd.code=.ref c:=by
 unfold tabIn at a;rw[l] at a;dsimp only at a;rw[m] at a;dsimp only at a;split at a
 .rename_i c2 hc;split at a
  .split at a
   .cases a;show hc
   .cases a
  .cases a
 .cases a
def aEs{K:ao}{x0:aj}{c a:ah}(d:x0∈GU)(h:tabIn K x0=aa (c,a)):(x0,c,a)∈eJ K:=qc.2 ⟨x0,d,by rw[h];rfl⟩
theorem Vz{P:bf}{w:ba}{K:ao}{mg:Q0d}{ω:ay}{x qual:aj}{st:bz}{f c Pt:ah}{fd:fv}{N j:Q0g}{k n y:Nat}{b:SF}(F:YM K x qual st f fd)(X:nsIn K g_ x=aa (aa (.ref f)))(Y:tabIn K x=aa (c,Pt))(S:fE N j (aT st))(hn:N.length=n)(I:j.length=y)
  (a:∀(A:bq) (Γ:List de) (s:ak) (H:Hp) (E:XK),fL k (A.deeper (envOfC qual (aT st) s.heap.objs.size f (.ref c))) ->
   lC (lB mP P w K mg ω N qual (aT st) f (.ref c) A Γ s H E).IP (eL st) b):lY P w K mg ω mP (k+1) f fd j (HP K (bZ n y b)):=by
 subst hn I;obtain⟨oc,od,kV,doc,pm,an,p,ct,U,rfl,z,o⟩:=F.ex;have ec:p=.ref c:=YE X z Y;subst ec;show VL z o S (λvs H Q E h=>?_) λA Γ s H vs Q E Z h=>?_
 .obtain ⟨S',ds,Q3,J,dn,⟨d,e,q⟩,_⟩:=h;rw[<- dn.len];unfold bZ at e;by_cases h:ds.length=j.length
  .exact h
  .rw [Zz h] at e;cases e
 .obtain ⟨S',ds,Q3,J,dn,⟨d,e,q⟩,kk⟩:=h;have l:=a A Γ s H E Z;unfold bZ at e;by_cases h:ds.length=j.length
  case neg=>rw[Zz h] at e;cases e
  rw[Z_ h] at e;show⟨_,L2.zC.IP l,H,S',λ_=>0,jZ N ds,[],{nx:=λ_=>Q3 .non,rt:=Q3},?_,zU J dn,?_,⟨λw' L H' O _ m q=>?_,λv H' d s' d' q=>kk v H' d s' d' q,λ_ _ _ _ _ _ q=>q,λ_ _ _ _ _ _ q=>q,λ_ _ _ q=>q.elim⟩⟩
  .have hl2:=dn.len;have I:j.length<=N.length:=by have:=congrArg tj S.pre;rw[kj] at this;lia
   unfold L2.start;show _=N.length;rw[cy,az,ig];lia
  .have e2:jZ N ds=dD N.length ds:=rfl;unfold wS;rw[e2]
   cases l:b (dD N.length ds) with
   |rt d'=>rw[l] at e;cases e;show q
   |nx ρ=>rw[l] at e;cases e;show q
   |no=>rw[l] at e;cases e
   |ex c=>rw[l] at e;cases e
  .exact kk .non H' .non m.sm (by symm) q
theorem aBT:∀(d:Q0f),d.length=1 ->∃a,d=[a]
 |[a],_=>⟨a,rfl⟩
theorem aBU:∀(h:Q0f),h.length=2 ->∃d a,h=[d,a]
 |[d,a],_=>⟨d,a,rfl⟩
theorem aBV:∀(j:Q0f),j.length=3 ->∃h d a,j=[h,d,a]
 |[h,d,a],_=>⟨h,d,a,rfl⟩
theorem aBW:∀(l:Q0f),l.length=4 ->∃j h d a,l=[j,h,d,a]
 |[j,h,d,a],_=>⟨j,h,d,a,rfl⟩
theorem aBX:∀(m:Q0f),m.length=5 ->∃l j h d a,m=[l,j,h,d,a]
 |[l,j,h,d,a],_=>⟨l,j,h,d,a,rfl⟩
theorem Lu{P:bf}{w:ba}{K:ao}{mg:Q0d}{ω:ay}{x:aj}{st:bz}{c y:ah}{N d:Q0g}{k n j:Nat}{b:SF}(D:Df K mg x st d)(l:tabIn K x=aa (c,y))
  (h:∀{f:ah} {A:bq} {Γ:List de} {s:ak} {H:Hp} {E:XK},fL k (A.deeper (envOfC x (aT st) s.heap.objs.size f (.ref c)))->N.Nodup->lC (lB mP P w K mg ω N x (aT st) f (.ref c) A Γ s H E).IP (eL st) b)
  (S:fE N d (aT st):=by show⟨rfl,rfl,rfl,by decide+kernel,rfl,by decide+kernel,by decide+kernel⟩) (v:N.length=n:=by rfl) (p:d.length=j:=by rfl):Cl P w K mg ω mP (k+1) x d (HP K (bZ n j b)):=by
 obtain⟨a,F,m,q⟩:=D;show⟨Vz F a l S v p λ_ _ _ _ _ o=>h o S.nd,m,F.kp,q⟩
def tQ{K:ao}{x:aj}(h:nsIn K g_ x=aa af):tabIn K x=af:=by unfold tabIn;rw[h]
theorem IJ{K:ao}{x:aj}{f c j:ah}{n h:ai}{m d:Option ah}{fd:fv}{vs:Array ai}{l a:Array (Option ai)}(v:nsIn K g_ x=aa (aa (.ref f)))(h2:K.lookup f=aa ⟨n,m,.func fd,l⟩)(q:fd.code=.ref c)
  (p:K.lookup c=aa ⟨h,d,.fields vs,a⟩) (o:vs[11]?=aa (.ref j)):tabIn K x=aa (c,j):=by
 unfold tabIn;rw[v];dsimp only;rw[h2];dsimp only;rw[q];dsimp only;rw[p];dsimp only;rw[o]
theorem RT{K:ao}{l j h d a:Option (ah×ah)}(q:tabIn K "going_of"=l)(h2:tabIn K "count_of_chain"=j)(o:tabIn K "cut_paper"=h)(n:tabIn K "downsets"=d)(m:tabIn K "strictest_chains"=a):
  eJ K=([("going_of",l),("count_of_chain",j),("cut_paper",h),("downsets",d),("strictest_chains",a)]:List (aj×Option (ah×ah))).filterMap λp=>p.2.map λt=>(p.1,t.1,t.2):=by
 subst q h2 o n m;rfl
def tabs_ok{K:ao}{q:bf}{L:List (aj×ah×ah)}(h:eJ K=L)(nd:(L.map (·.2.2)).Nodup)(rc:∀t∈L,∃e,(recsOf q).find? (λe=>e.name == t.1)=aa e):TabsOk K q:=⟨by rw[h];show nd,by rw[h];show rc⟩
section
variable{Ω:bf}{w:ba}{A:bq}{E:Q0c}{s:ak}{z TI TO i1 i2:ah}{f1 f2:List ah}{n1 n2 k:Nat}{P1 P2:Nat->ai->Prop}{S1 S2:Nat->ay->Prop}{a b:ai}
structure OC (z TI TO i1 i2:ah) (f1 f2:List ah):Prop where
 zO:z≠TO
 zI:z≠TI
 OI:TO≠TI
 m1:i1∈f1
 m2:i2∈f2
 z1:z∉f1
 z2:z∉f2
 o1:TO∉f1
 o2:TO∉f2
 c1:i1∉f2
 c2:i2∉f1
 I1:TI≠i1
 I2:TI≠i2
def OC.q1(p:OC z TI TO i1 i2 f1 f2):z≠i1:=λe=>p.z1 (e▸p.m1)
def OC.q2(p:OC z TI TO i1 i2 f1 f2):z≠i2:=λe=>p.z2 (e▸p.m2)
def OC.p1(p:OC z TI TO i1 i2 f1 f2):TO≠i1:=λe=>p.o1 (e▸p.m1)
def OC.p2(p:OC z TI TO i1 i2 f1 f2):TO≠i2:=λe=>p.o2 (e▸p.m2)
def fT{it c:ah}{j:List ah}{n:Nat}{P:Nat->ai->Prop}{S:Nat->ay->Prop}{h h':ay}(D:ji Ω w A it j n P S)(x:S k h)(m:c∉j)(e:a04 c h h'):S k h' :=
 D.frame k h h' x λd l o q=>e d o (λy=>m (y▸l)) q
theorem OD{Q:Q0c}(n:ji Ω w A i1 f1 n1 P1 S1)(m:ji Ω w A i2 f2 n2 P2 S2)(p:OC z TI TO i1 i2 f1 f2)(J:gw s.heap z TI TO .none)(hI:dq s.heap TI (.ref i1) (.ref i2))(hO:dq s.heap TO a b)
  (x1:S1 k s.heap) (x2:S2 k s.heap) (k1:k<n1) (k2:k<n2)
  (q:∀x y h' tk,P1 k x->P2 k y->gw h' z TI TO (rawInt s.heap.objs.size)->dq h' TO x y->S1 (k+1) h'->S2 (k+1) h'->dq h' s.heap.objs.size x y ->
   (∀c o,c≠z->c≠TO->c≠i1->c≠i2->s.heap.get? c=aa o->h'.get? c=aa o)->Q (.ref s.heap.objs.size) {s with heap:=h',toks:=tk}):
  av (aw Ω w) A (Builtin.«zip.__next__» ⟨[.ref z],[]⟩) (λfi s2=>∃v,fi=.done (.ret v)/\Q v s2) E s:=by
 unfold Builtin.«zip.__next__»;apply aq;apply a_;apply aq;show il J rfl rfl ?_;apply aq;show il J rfl rfl ?_;apply aq;show ma hI rfl ?_;show av (aw Ω w) A (Ak (.ref z) >>= _) _ E s;apply aq
 (unfold Ak)
 apply aq;show il J rfl rfl (a_ ?_);rw[Z_ (by first|rfl|simp)];apply aq;apply nc;apply aq;show il J rfl rfl ?_
 try dsimp only
 apply aq;show qt J (by simp) λga Y I=>?_
 replace Y:gw ga z TI TO .ellipsis:=Y
 apply aq;rw[show(#[cz i1,cz i2]:Array ai).toList.zipIdx=[(.ref i1,0),(.ref i2,1)] from rfl,ll];apply aq;apply aq;apply yz;show av _ _ (do let v <- rh (.ref i1);pure (aa v)) _ _ _;apply aq;show n.item k {s with heap:=ga} _ _ k1 (fT n x1 p.z1 I.extBut) λx gb tb px y1 l=>a_ ?_
 try dsimp only at gb l ⊢
 have ob:dq gb TO a b:=l.extBut _ _ p.p1 (I.extBut _ _ p.zO.symm hO);apply aq;show ma ob rfl ?_
 try dsimp only
 apply aq;show Gk ob λgc Z sc=>?_
 replace Z:dq gc TO x b:=Z
 apply aq;show vj (a_ ?_)
 try dsimp only
 rw[ll];apply aq;apply aq;apply yz;show av _ _ (do let v <- rh (.ref i2);pure (aa v)) _ _ _;apply aq;have y2:S2 k gc:=fT m (fT m (fT m x2 p.z2 I.extBut) p.c1 l.extBut) p.o2 sc.extBut;show m.item k {s with heap:=gc,toks:=tb} _ _ k2 y2 λy gd td py z2 j=>a_ ?_
 try dsimp only at gd j ⊢
 have od:dq gd TO x b:=j.extBut _ _ p.p2 Z;apply aq;show ma od rfl ?_
 try dsimp only
 apply aq;show Gk od λd L F=>?_
 replace L:dq d TO x y:=L
 apply aq;show vj (a_ ?_)
 try dsimp only
 rw[wc];show a_ ?_
 try dsimp only
 apply aq;show ma L rfl ?_
 try dsimp only
 apply aq;show Gr ?_;have ze:gw d z TI TO .ellipsis:=F.extBut _ _ p.zO (j.extBut _ _ p.q2 (sc.extBut _ _ p.zO (l.extBut _ _ p.q1 Y)));have len:d.objs.size=s.heap.objs.size:=by rw[F.1,j.1,sc.1,l.1,I.1]
 have ke:∀c o,c≠z->c≠TO->c≠i1->c≠i2->s.heap.get? c=aa o->d.get? c=aa o:=λc o h U c3 c4 e=>F.extBut _ _ U (j.extBut _ _ c4 (sc.extBut _ _ U (l.extBut _ _ c3 (I.extBut _ _ h e))));have w1:S1 (k+1) d:=fT n (fT n (fT n y1 p.o1 sc.extBut) p.c2 j.extBut) p.o1 F.extBut;have w2:S2 (k+1) d:=fT m z2 p.o2 F.extBut;have zl:z≠d.objs.size:=ee (br ze);apply aq
 (unfold a3o)
 have zf:gw (d.push {cls:=.type "tuple",data:=.seq #[x,y]}) z TI TO .ellipsis:=cm _ ze;apply aq;show qt zf (by simp) λgg X sg=>?_
 replace X:gw gg z TI TO (rawInt d.objs.size):=X
 show qt X (by simp) λO K sh=>?_
 replace K:gw O z TI TO (rawInt d.objs.size):=K
 have up:∀c o,c≠z->d.get? c=aa o->O.get? c=aa o:=λc o h e=>sh.extBut _ _ h (sg.extBut _ _ h (cm _ e));have pr:dq O d.objs.size x y:=sh.extBut _ _ zl.symm (sg.extBut _ _ zl.symm (dg _ rfl));apply a_;show⟨_,rfl,?_⟩;rw[len] at K pr;show Q (.ref d.objs.size) _;rw[len];show q x y O td px py K (up _ _ p.zO.symm L) (n.frame _ _ _ w1 λc hc o e=>up c o (λy=>p.z1 (y▸hc)) e) (m.frame _ _ _ w2 λc hc o e=>up c o (λy=>p.z2 (y▸hc)) e) pr λc o h U c3 c4 e=>up c o h (ke c o h U c3 c4 e)
theorem aEt{Q:Ae->ak->Prop}(L:ji Ω w A i1 f1 n1 P1 S1)(K:ji Ω w A i2 f2 n2 P2 S2)(p:OC z TI TO i1 i2 f1 f2)(l:gw s.heap z TI TO .none)(hI:dq s.heap TI (.ref i1) (.ref i2))(hO:dq s.heap TO a b)
  (x1:S1 k s.heap) (x2:S2 k s.heap) (U:k=n1\/(k<n1/\k=n2))
  (q:∀h' e tk,(∀c o,c≠z->c≠TO->c≠i1->c≠i2->s.heap.get? c=aa o->h'.get? c=aa o)->(∃o,h'.get? e=aa o/\o.cls=.type "StopIteration")->E (.ref e) {s with heap:=h',toks:=tk}):
  av (aw Ω w) A (Builtin.«zip.__next__» (⟨[.ref z],[]⟩:Args)) Q E s:=by
 unfold Builtin.«zip.__next__»;apply aq;apply a_;apply aq;show il l rfl rfl ?_;apply aq;show il l rfl rfl ?_;apply aq;show ma hI rfl ?_;show av (aw Ω w) A (Ak (.ref z) >>= _) _ E s;apply aq
 (unfold Ak)
 apply aq;show il l rfl rfl (a_ ?_);rw[Z_ (by first|rfl|simp)];apply aq;apply nc;apply aq;show il l rfl rfl ?_
 try dsimp only
 apply aq;show qt l (by simp) λY F j=>?_
 replace F:gw Y z TI TO .ellipsis:=F
 apply aq;rw[show(#[cz i1,cz i2]:Array ai).toList.zipIdx=[(.ref i1,0),(.ref i2,1)] from rfl,ll];apply aq;apply aq;apply yz;show av _ _ (do let v <- rh (.ref i1);pure (aa v)) _ _ _;apply aq;rcases U with rfl|⟨U,rfl⟩
 .refine L.done {s with heap:=Y} _ _ (fT L x1 p.z1 j.extBut) λJ e d X=>?_;obtain⟨O,h,m⟩:=X;have zb:gw J z TI TO .ellipsis:=d _ _ p.q1 F;have ne:e≠z:=λy=>by rw[y,zb] at h;cases h;simp at m
  show qt zb (by simp) λI _ sc=>?_;show q I e s.toks (λc o n _ Z _ y=>sc.extBut _ _ n (d _ _ Z (j.extBut _ _ n y))) ⟨O,sc.extBut _ _ ne h,m⟩
 .refine L.item k {s with heap:=Y} _ _ U (fT L x1 p.z1 j.extBut) λx J tb px y1 d=>a_ ?_
  try dsimp only at J d ⊢
  have ob:dq J TO a b:=d.extBut _ _ p.p1 (j.extBut _ _ p.zO.symm hO);apply aq;show ma ob rfl ?_
  try dsimp only
  apply aq;show Gk ob λI oc sc=>?_;apply aq;show vj (a_ ?_)
  try dsimp only
  rw[ll];apply aq;apply aq;apply yz;show av _ _ (do let v <- rh (.ref i2);pure (aa v)) _ _ _;apply aq;have y2:S2 k I:=fT K (fT K (fT K x2 p.z2 j.extBut) p.c1 d.extBut) p.o2 sc.extBut;show K.done {s with heap:=I,toks:=tb} _ _ y2 λgd e sd X=>?_;obtain⟨O,h,m⟩:=X;have zd:gw gd z TI TO .ellipsis:=sd _ _ p.q2 (sc.extBut _ _ p.zO (d.extBut _ _ p.q1 F));have ne:e≠z:=λy=>by rw[y,zd] at h;cases h;simp at m
  show qt zd (by simp) λgf _ sf=>?_;show q gf e tb (λc o n c2 Z c4 y=>sf.extBut _ _ n (sd _ _ c4 (sc.extBut _ _ c2 (d.extBut _ _ Z (j.extBut _ _ n y))))) ⟨O,sf.extBut _ _ ne h,m⟩
theorem LP(K:ji Ω w A.in1 i1 f1 n1 P1 S1)(J:ji Ω w A.in1 i2 f2 n2 P2 S2)(p:OC z TI TO i1 i2 f1 f2):
  WalksT Ω w A z (z::TI::TO::(f1++f2)) [z,TO,i1,i2] (min n1 n2) (λi vals=>∃x y,P1 i x/\P2 i y/\vals=#[x,y])
   (λi h=>gw h z TI TO .none/\dq h TI (.ref i1) (.ref i2)/\(∃a b,dq h TO a b)/\S1 i h/\S2 i h)
   (λi T h=>(gw h z TI TO (rawInt T)/\dq h TI (.ref i1) (.ref i2)/\(∃a b,dq h TO a b)/\S1 (i+1) h/\S2 (i+1) h)/\T≠z/\T≠TO/\T≠i1/\T≠i2) where
 sub:=λc d=>by
  have m1:=p.m1;have m2:=p.m2;simp only[bh,gn,ie,or_false] at d ⊢;rcases d with rfl|rfl|rfl|rfl
  .exact .inl rfl
  .exact .inr (.inr (.inl rfl))
  .exact .inr (.inr (.inr (.inl m1)))
  .exact .inr (.inr (.inr (.inr m2)))
 frame:=λi h h' ⟨l,I,⟨x,y,F⟩,n,m⟩ k=>by
  show⟨k _ (by simp) _ l,k _ (by simp) _ I,⟨x,y,k _ (by simp) _ F⟩,K.frame _ _ _ n λc d o e=>k c ?_ o e,J.frame _ _ _ m λc d o e=>k c ?_ o e⟩
  .exact .tail _ (.tail _ (.tail _ (gj _ d)))
  .exact .tail _ (.tail _ (.tail _ (gp _ d)))
 item:=λi s Q E hi ⟨l,I,⟨x,y,F⟩,n,m⟩ q=>by have ty:s.TypeIs (.ref z) "zip":=⟨_,l,rfl⟩;unfold pyNext;show aq (qu (oy (name:=pz "__next__") ty rf (j_ rf ty Hs ?_ (Hu _))));show OD K J p l I F n m ∅ ∅ λu v h' O Z Y b1 b2 b3 b4 b5 L=>a_ ?_;have fresh:∀{c:ah} {o:ax},s.heap.get? c=aa o->s.heap.objs.size≠c:=λe=>kr (br e);obtain⟨o1,e1⟩:=K.live _ _ n;obtain⟨o2,e2⟩:=J.live _ _ m;show q s.heap.objs.size #[u,v] h' O ⟨u,v,Z,Y,rfl⟩ (bj _) ⟨_,b5,rfl,_,rfl⟩ ⟨⟨b1,L _ _ p.zI.symm p.OI.symm p.I1 p.I2 I,⟨_,_,b2⟩,b3,b4⟩,fresh l,fresh F,fresh e1,fresh e2⟩ λc o d e=>?_;simp only[bh,ie,or_false,not_or] at d;show L c o d.1 d.2.1 d.2.2.1 d.2.2.2 e
 go:=λelts k ν i T s Q E ⟨⟨l,I,⟨x,y,F⟩,n,m⟩,_⟩ q=>by show wpAny_letOwnedTupleGo_zip l λh' U j=>q h' ⟨U,j.extBut _ _ p.zI.symm I,⟨x,y,j.extBut _ _ p.zO.symm F⟩,fT K n p.z1 j.extBut,fT J m p.z2 j.extBut⟩ λc o d e=>?_;simp only[bh,ie,or_false,not_or] at d;show j.extBut _ _ d.1 e
 apart:=λi T h ⟨_,t1,t2,t3,t4⟩ X=>by
  simp only[bh,ie,or_false] at X;rcases X with e|e|e|e
  .exact t1 e
  .exact t2 e
  .exact t3 e
  .exact t4 e
 done:=λs Q E ⟨l,I,⟨x,y,F⟩,n,m⟩ q=>by have ty:s.TypeIs (.ref z) "zip":=⟨_,l,rfl⟩;unfold pyNext;show aq (qu (oy (name:=pz "__next__") ty rf (j_ rf ty Hs ?_ (Hu _))));show aEt K J p l I F n m ∅ λh' e O L he=>?_;obtain⟨oe,ge,ce⟩:=he;show aq (Gu (T:="StopIteration") (b:=ae) ⟨oe,ge,ce⟩ isSubtype_stop (a_ (q h' O λc o d e=>?_)));simp only[bh,ie,or_false,not_or] at d;show L c o d.1 d.2.1 d.2.2.1 d.2.2.2 e
 self:=λi s Q E st q=>vg st.1 q
theorem LQ(L:ji Ω w A.in1 i1 f1 n1 P1 S1)(K:ji Ω w A.in1 i2 f2 n2 P2 S2)(p:OC z TI TO i1 i2 f1 f2):
  HF Ω w A z [z,TO,i1,i2] (min n1 n2) (λi vals=>∃x y,P1 i x/\P2 i y/\vals=#[x,y])
   (λi h=>gw h z TI TO .none/\dq h TI (.ref i1) (.ref i2)/\(∃a b,dq h TO a b)/\S1 i h/\S2 i h)
   (λi T h=>(gw h z TI TO (rawInt T)/\dq h TI (.ref i1) (.ref i2)/\(∃a b,dq h TO a b)/\S1 (i+1) h/\S2 (i+1) h)/\T≠z/\T≠TO/\T≠i1/\T≠i2):=by
 intro i s Q E hi ⟨j,J,⟨x,y,I⟩,F,n⟩ q;have ty:s.TypeIs (.ref z) "zip":=⟨_,j,rfl⟩;unfold pyNext;show aq (qu (oy (name:=pz "__next__") ty rf (j_ rf ty Hs ?_ (Hu _))));show OD L K p j J I F n ∅ ∅ λu v h' O X U b1 b2 b3 b4 m l=>a_ ?_;have fresh:∀{c:ah} {o:ax},s.heap.get? c=aa o->s.heap.objs.size≠c:=λe=>kr (br e);obtain⟨o1,Z⟩:=L.live _ _ F;obtain⟨o2,Y⟩:=K.live _ _ n;show q s.heap.objs.size #[u,v] h' O ⟨u,v,X,U,rfl⟩ (bj _) ⟨_,m,rfl,_,rfl⟩ (DX.is m rfl) ⟨⟨b1,l _ _ p.zI.symm p.OI.symm p.I1 p.I2 J,⟨_,_,b2⟩,b3,b4⟩,fresh j,fresh I,fresh Z,fresh Y⟩ λc o d e=>?_;simp only[bh,ie,or_false,not_or] at d;show l c o d.1 d.2.1 d.2.2.1 d.2.2.2 e
abbrev zt1(h:ay)(t:ah):ay:=h.push {cls:=.type "tuple_iterator",data:=.fields #[.ref t,.int 0 0]}
abbrev zt2(h:ay)(t u:ah):ay:=zt1 (zt1 h t) u
abbrev zt3(h:ay)(t u:ah):ay:=(zt2 h t u).push {cls:=.type "tuple",data:=.seq #[.ref h.objs.size,.ref (zt1 h t).objs.size]}
abbrev zt4(h:ay)(t u:ah):ay:=(zt3 h t u).push {cls:=.type "tuple",data:=.seq #[.none,.none]}
abbrev zt5(h:ay)(t u:ah):ay:=(zt4 h t u).push {cls:=.type "zip",data:=.fields #[.none,.bool ag,.bool ag,.ref (zt2 h t u).objs.size,.ref (zt3 h t u).objs.size]}
def RU(t u:ah)(xs ys:Array ai):Meets (Builtin.«zip.__new__» ⟨[.type "zip",.ref t,.ref u],[]⟩) (λ_ R s=>s.heap.IsTuple t xs/\s.heap.IsTuple u ys/\R (.ok (.ret (.ref (zt4 s.heap t u).objs.size))) {s with heap:=zt5 s.heap t u}):=by
 show .of_wp λp0 y I F s h=>?_;obtain⟨v,q,h⟩:=h;obtain⟨m,x,n,d,j⟩:=s;have p:=sub_zip;have l:Heap.IsTuple (Shared.heap ⟨zt1 m t,x,n,d,j⟩) u ys:=by obtain⟨o,e,r⟩:=q;show⟨o,cm _ e,r⟩
 wp_walk using ou v,ou l
 show⟨_,rfl,h⟩
theorem RV(K:s.heap.IsTuple t xs)(J:s.heap.IsTuple u ys)
  (h:∀d:ay,gw d (s.heap.objs.size+4) (s.heap.objs.size+2) (s.heap.objs.size+3) .none->dq d (s.heap.objs.size+2) (.ref s.heap.objs.size) (.ref (s.heap.objs.size+1)) ->
   dq d (s.heap.objs.size+3) .none .none->d.IsTupleIter s.heap.objs.size t 0->d.IsTupleIter (s.heap.objs.size+1) u 0 ->
   (∀c o,s.heap.get? c=aa o->d.get? c=aa o)->Q (.ref (s.heap.objs.size+4)) {s with heap:=d}):
  av (aw Ω w) A (call (.type "zip") [.ref t,.ref u]) Q E s:=by
 show He F.called_zip (by decide) (F.typeCall_zip_2 _ _) (F.newCall_zip_2 _ _) (λobj=>F.args_object_init_3 obj _ _) F.entry_zip_new (RU t u xs ys) ⟨K,J,?_⟩;have n:(zt1 s.heap t).objs.size=s.heap.objs.size+1:=ko ..;have m:(zt2 s.heap t u).objs.size=s.heap.objs.size+2:=(ko ..).trans (by rw[n]);have l:(zt3 s.heap t u).objs.size=s.heap.objs.size+3:=(ko ..).trans (by rw[m]);have j:(zt4 s.heap t u).objs.size=s.heap.objs.size+4:=(ko ..).trans (by rw[l]);have keep:∀{q:ay} {o:ax} (b:ah) (x:ax),q.get? b=aa x->(q.push o).get? b=aa x:=λ_ _ e=>cm _ e;have p:(zt5 s.heap t u).get? (zt4 s.heap t u).objs.size=aa {cls:=.type "zip",data:=.fields #[.none,.bool ag,.bool ag,.ref (zt2 s.heap t u).objs.size,.ref (zt3 s.heap t u).objs.size]}:=dg _ rfl;have v:(zt5 s.heap t u).get? (zt3 s.heap t u).objs.size=aa {cls:=.type "tuple",data:=.seq #[.none,.none]}:=keep _ _ (dg _ rfl);have y:(zt5 s.heap t u).get? (zt2 s.heap t u).objs.size=aa {cls:=.type "tuple",data:=.seq #[.ref s.heap.objs.size,.ref (zt1 s.heap t).objs.size]}:=keep _ _ (keep _ _ (dg _ rfl));have I:(zt5 s.heap t u).get? (zt1 s.heap t).objs.size=aa {cls:=.type "tuple_iterator",data:=.fields #[.ref u,.int 0 0]}:=keep _ _ (keep _ _ (keep _ _ (dg _ rfl)));have L:(zt5 s.heap t u).get? s.heap.objs.size=aa {cls:=.type "tuple_iterator",data:=.fields #[.ref t,.int 0 0]}:=keep _ _ (keep _ _ (keep _ _ (keep _ _ (dg _ rfl))));rw[j,m,l] at p;rw[l] at v;rw[m,n] at y;rw[n] at I;show⟨⟨_,by rw[j];show p,rfl⟩,?_⟩;show Q (.ref (zt4 s.heap t u).objs.size) _;rw[j];show h _ p y v ⟨_,L,rfl,rfl⟩ ⟨_,I,rfl,rfl⟩ λc o x=>keep _ _ (keep _ _ (keep _ _ (keep _ _ (keep _ _ x))))
end
def Izt(K:ao)(l m:ah):It:=Itp (λi H=>∃xs ys v u,fJ K H l xs/\fJ K H m ys/\xs[i]?=aa v/\ys[i]?=aa u) (λi H vs=>∃v u,vs=[v,u]/\(∀xs,fJ K H l xs->xs[i]?=aa v) /\∀ys,fJ K H m ys->ys[i]?=aa u)
 (λi H=>∃xs ys,fJ K H l xs/\fJ K H m ys/\min xs.length ys.length=i)
theorem RW{P:bf}{w:ba}{K:ao}{es:List au}{kk:Nat}{tp:bb}{z TI TO n j l m:ah}(p:OC z TI TO n j [n,l] [j,m]):
  Turn P w K (.Tuple es kk tp) (Izt K l m) [z,TI,TO,n,j] z (λi h=>gw h z TI TO .none/\dq h TI (.ref n) (.ref j)/\(∃a b,dq h TO a b)/\h.IsTupleIter n l i/\h.IsTupleIter j m i):=by
 show nM (by simp) (λi h st b U=>?_) (λi h h2 st k=>?_) (λX hP hw hK hc i π s σ H I st hg=>?_) (λA i s Q E st q=>?_)
 .obtain ⟨Z,Y,⟨x,y,a3⟩,⟨o4,c4,_,d4⟩,o5,c5,_,d5⟩:=st;simp only[bh,or_false,ie] at U;rcases U with e|e|e|e|e<;>subst e
  .exact ⟨_,Z,λv y=>nomatch y⟩
  .exact ⟨_,Y,λv y=>nomatch y⟩
  .exact ⟨_,a3,λv y=>nomatch y⟩
  .exact ⟨o4,c4,λv y=>by rw[d4] at y;cases y⟩
  .exact ⟨o5,c5,λv y=>by rw[d5] at y;cases y⟩
 .obtain ⟨Z,Y,⟨x,y,a3⟩,⟨o4,c4,r4⟩,o5,c5,r5⟩:=st;show⟨k _ (by simp) _ Z,k _ (by simp) _ Y,⟨x,y,k _ (by simp) _ a3⟩,⟨o4,k n (by simp) _ c4,r4⟩,o5,k j (by simp) _ c5,r5⟩
 .subst hP hw hK;obtain⟨xs,ys,q1,q2⟩:∃xs ys,fJ X.K H l xs/\fJ X.K H m ys:=by
   rcases hg with⟨xs,ys,_,_,a,b,_⟩|⟨xs,ys,a,b,_⟩
   .exact ⟨xs,ys,a,b⟩
   .exact ⟨xs,ys,a,b⟩
  obtain⟨O,r1,t1,_⟩:=I.tuple q1;obtain⟨vs,r2,t2,_⟩:=I.tuple q2;have n1:=r1.length;have n2:=r2.length;have nl:l≠n:=λe=>by obtain⟨_,_,_,⟨o,c,d,_⟩,_⟩:=st;obtain⟨o2,J,L,_⟩:=t1;rw[e] at J;rw[c] at J;cases J;rw[d] at L;simp at L
  have nm:m≠j:=λe=>by obtain⟨_,_,_,_,o,c,d,_⟩:=st;obtain⟨o2,J,L,_⟩:=t2;rw[e] at J;rw[c] at J;cases J;rw[d] at L;simp at L
  have D1:ji X.Ω X.w X.A.in1 n [n,l] O.toArray.size (λi v=>O.toArray[i]?=aa v) (λi h=>h.IsTupleIter n l i/\h.IsTuple l O.toArray):=KS (show X.A.in1.handled=af from I.ok.hd hc) n l nl O.toArray;have D2:ji X.Ω X.w X.A.in1 j [j,m] vs.toArray.size (λi v=>vs.toArray[i]?=aa v) (λi h=>h.IsTupleIter j m i/\h.IsTuple m vs.toArray):=KS (show X.A.in1.handled=af from I.ok.hd hc) j m nm vs.toArray;show⟨_,_,_,_,_,_,⟨LP D1 D2 p,LQ D1 D2 p⟩,⟨st.1,st.2.1,st.2.2.1,⟨st.2.2.2.1,t1⟩,st.2.2.2.2,t2⟩,λb U=>?_,λh q=>⟨q.1,q.2.1,q.2.2.1,q.2.2.2.1.1,q.2.2.2.2.1⟩,λg=>?_,λg=>?_⟩
  .simp only[bh,ie,or_false] at U ⊢;rcases U with e|e|e|e
   .exact .inl e
   .exact .inr (.inr (.inl e))
   .exact .inr (.inr (.inr (.inl e)))
   .exact .inr (.inr (.inr (.inr e)))
  .obtain ⟨x',y',v,u,h1,h2,hv,hu⟩:=g;obtain rfl:=I.f7 h1 q1;obtain rfl:=I.f7 h2 q2;obtain⟨Z,ea1,ra1⟩:=r1.get hv;obtain⟨Y,ea2,ra2⟩:=r2.get hu;have b1:i<x'.length:=(cg.mp hv).1;have b2:i<y'.length:=(cg.mp hu).1;show⟨by rw[bw,bw];lia,λvals q=>?_⟩;obtain⟨c1,L,d1,d2,rfl⟩:=q;have f1:O[i]?=aa c1:=by simpa using d1
   have f2:vs[i]?=aa L:=by simpa using d2
   rw[ea1] at f1;rw[ea2] at f2;cases f1;cases f2;show⟨[v,u],tF,.cons ra1 (.cons ra2 .nil),v,u,rfl,λws F=>by rw[I.f7 F q1];show hv,λws F=>by rw[I.f7 F q2];show hu⟩
  .obtain ⟨x',y',h1,h2,e⟩:=g;obtain rfl:=I.f7 h1 q1;obtain rfl:=I.f7 h2 q2;rw[bw,bw,<- n1,<- n2,e]
 .exact vg st.1 q
section
variable{es:List au}{kk:Nat}{tp:bb}
def aBY{a b:au}{U:TA}{p O:bb}(hg:Gl X "zip")(L:X.mg "zip"=af)(ha:PA X [a,b] U)(hs:ar [a,b] X.env=[(ag,eval a X.env),(ag,eval b X.env)]:=by rfl)(z:ar [b] X.env=[(ag,eval b X.env)]:=by rfl):
  PI X (.Tuple es kk tp) (.Call (.Name "zip" p) [a,b] [] O) (λσ H R=>U σ H λvs F=>∃l m xs ys,vs=[.ref l,.ref m]/\fJ X.K F l xs/\fJ X.K F m ys/\R (Izt X.K l m) F):=by
 intro π s σ H R I h;show vy (nG I hg L boot_zip (r6 (eR (ha O π s σ H _ I h) λus n ⟨vs,F,A,r1,q1⟩=>?_) (by rw[hs,z]) (by rw[z];rfl)));obtain⟨l,m,xs,ys,rfl,q1,q2,q⟩:=q1;obtain⟨u,u2,rfl,ru,J⟩:=vals2 r1;cases ru;cases J;obtain⟨ι,_,t1,_⟩:=A.tuple q1;obtain⟨v,_,t2,_⟩:=A.tuple q2;have b1:l<n.heap.objs.size:=t1.lt;have b2:m<n.heap.objs.size:=t2.lt;show RV (xs:=ι.toArray) (ys:=v.toArray) t1 t2 λh' Z hI hO j1 j2 hk=>vg Z ?_;generalize hN:n.heap.objs.size=N at *;have apart:OC (N+4) (N+2) (N+3) N (N+1) [N,l] [N+1,m]:=by
  have nl:∀j,N+j≠l:=λj e=>by have:N+j<N:=(by rw[e];show b1);lia
  have nm:∀j,N+j≠m:=λj e=>by have:N+j<N:=(by rw[e];show b2);lia
  have ne:∀{i j:Nat},i≠j->N+i≠N+j:=λh e=>h (a1Q e);have o:∀{i:Nat},i≠0->N+i≠N:=λh e=>h (a1Q (k:=0) e);have d:∀{x y t:ah},x≠y->x≠t->x∉[y,t]:=λh1 h2 L=>by
   rcases bh.1 L with e|e
   .exact h1 e
   .exact h2 (cc.1 e)
  show⟨ne (by decide),ne (by decide),ne (by decide),cb,cb,d (o (by decide)) (nl 4),d (ne (by decide)) (nm 4),d (o (by decide)) (nl 3),d (ne (by decide)) (nm 3),d (d_ (o (by decide))) (nm 0),d (o (by decide)) (nl 1),o (by decide),ne (by decide)⟩
 show⟨N+4,_,_,_,F,rfl,A.kept (t':=n.toks) hk,RW apart,⟨Z,hI,⟨_,_,hO⟩,j1,j2⟩,λb Y=>?_,q⟩;have hle:n.heap.objs.size<=b:=by
  rw[hN];simp only[bh,or_false,ie] at Y;rcases Y with e|e|e|e|e<;>rw[e]
  .exact kz _ 4
  .exact kz _ 2
  .exact kz _ 3
  .exact bj _
  .exact kz _ 1
 show A.EA hle (A.hok.fresh hle)
end
theorem YF{K:ao}{a c:ah}{ds es:List D}:Wlk K (Izt K a c) (KY ds es) [(.tup ds,.ref a),(.tup es,.ref c)] where
 go:=λS H fc n i d e=>by have h:=n (.tup ds,.ref a) (by simp);have h2:=n (.tup es,.ref c) (by simp);symm at h h2;obtain⟨b,xs,l,p,dn⟩:=h;obtain⟨U,ys,m,j,q⟩:=h2;injection l with l;injection m with m;subst l m;obtain⟨x0,X,J,I,rfl⟩:=HI e;obtain⟨v,ev,L⟩:=dn.get J;obtain⟨u,A,O⟩:=q.get I;show⟨⟨xs,ys,v,u,fJ.of p,fJ.of j,ev,A⟩,λx H' y=>?_⟩;obtain⟨T,vs,rfl,fr,rfl,Y,Z,rfl,F,z⟩:=y;have ex:=F xs (fJ.of p);have o:=z ys (fJ.of j);rw[ev] at ex;rw[A] at o;cases ex;cases o;show⟨aQ fr,xE fr L O⟩
 stop:=λS H n i hi=>by have h:=n (.tup ds,.ref a) (by simp);have h2:=n (.tup es,.ref c) (by simp);symm at h h2;obtain⟨b,xs,l,p,dn⟩:=h;obtain⟨U,ys,m,j,q⟩:=h2;injection l with l;injection m with m;subst l m;show⟨xs,ys,fJ.of p,fJ.of j,by rw[<- dn.len,<- q.len,<- hi];simp[KY]⟩
section
variable{es:List au}{kk:Nat}{tp:bb}
def Vy{a b:au}{t:AF}{p A:bb}(K:X.mg "zip"=af)(O:uW X [a,b] t)(d:Gl X "zip":=by rfl)(J:ar [a,b] X.env=[(ag,eval a X.env),(ag,eval b X.env)]:=by rfl)(h:ar [b] X.env=[(ag,eval b X.env)]:=by rfl):
  QT X (.Tuple es kk tp) (.Call (.Name "zip" p) [a,b] [] A) (LZ t) :=
 QH (aBY d K O J h) λσ H R Vx=>by
  obtain⟨S,ρ,Q3,U,F,⟨ds0,e,q⟩,k⟩:=Vx;obtain⟨as,Y,e⟩:=bnd e;show⟨S,ρ,λds=>ds=as,U,F,⟨as,Y,rfl⟩,λvs H1 ds I d1 q1=>?_⟩;subst q1;unfold LY at e;split at e
  .cases e;obtain⟨v,r,rfl,y,h2⟩:=d1.bQ;obtain⟨v2,r2,rfl,o,z⟩:=h2.bQ;simp only[bC] at z;subst z;have x:=y;have n:=o;symm at y o;obtain⟨l,xs,rfl,L,da⟩:=y;obtain⟨m,ys,rfl,j,Z⟩:=o;show⟨l,m,xs,ys,rfl,fJ.of L,fJ.of j,k _ H1 _ [(_,.ref l),(_,.ref m)] I (λg d=>?_) YF q⟩;rcases bh.1 d with rfl|d
   .exact x
   .cases cc.1 d;show n
  .cases e
end
open PySem.SeqAt
end L4
namespace L9
open PySem.Spec PyProof.Rows L2 L3 L4 L5 L8
def NSs(K:ao)(C:ah):List ah->Prop
 |[]=>True
 |D::ds=>FA K C D/\NSs K C ds
theorem NSs.at{K:ao}{C D:ah}:∀{ds:List ah},NSs K C ds->D∈ds->FA K C D
 |[],_,h=>by cases h
 |_::_,n,h=>by
  rcases bh.1 h with rfl|h
  .exact n.1
  .exact n.2.at h
structure RO (K:ao) (R:ah):Prop where
 a:zr K (.ref R) (.type "BaseException")=aa ae
 b:PySem.W.isClsIn K R=ae
 c:PySem.W.typeIn K (.ref R)=aa (.type "type")
structure XO (K:ao) (R C:ah) (ds:List ah):Prop where
 q:AB K C
 v:zr K (.ref C) (.type "ValueError")=aa ae
 r:zr K (.ref C) (.ref R)=aa ae
 d:NSs K C ds
def XO.exm{K:ao}{R C:ah}{ds:List ah}(z:XO K R C ds)(o:RO K R):zy K (.ref C) (.ref R)=aa ae:=aE7 o.a o.b o.c z.r
structure HO6 (X:Cx) (e C:ah) (ds:List ah):Prop where
 g:vB X e C
 q:AB X.K C
 v:zr X.K (.ref C) (.type "ValueError")=aa ae
 d:NSs X.K C ds
 i:X.mg "isinstance"=af
 w:X.mg "ValueError"=af
def XO.ho(z:XO X.K R C ds)(h:oe.cls=.ref C)(i:X.mg "isinstance"=af)(w:X.mg "ValueError"=af):HO6 (hcx X (aa (.ref e)) (pn++[(e,oe)])) e C ds :=
 ⟨⟨oe,gp _ cb,h⟩,z.q,z.v,z.d,i,w⟩
variable{X:Cx}
section
variable{i:Nat}{n x c:aj}{e C D:ah}{ds:List ah}{p p1 p2 ν:bb}
def gE(z:HO6 X e C ds)(I:X.mg x=aa (.ref D))(y:D∈ds:=by simp)(hN:X.N[i]?=aa n:=by rfl)(o:vZ X.env.scope n:=by walk_at "1")(F:Zu n:=by decide)(m:Zt n:=by decide)
  (A:Gl X "isinstance":=by rfl) (j:Gl X x:=by rfl) (l:Zu x:=by decide)
  (v:ar [.Name n p1,.Name x p2] X.env=(ag,eval (.Name n p1) X.env)::ar [.Name x p2] X.env:=by rfl) (a:ar [.Name x p2] X.env=(ag,eval (.Name x p2) X.env)::ar [] X.env:=by rfl) (h:(cu ν (ar [.Name x p2] X.env)).any (·.1)=ag:=by rfl):
  cD X (.Call (.Name "isinstance" p) [.Name n p1,.Name x p2] [] ν) (JA c e ag i):=uv z.g z.q z.i I (z.d.at y).one hN o F m A j l v a h
end
def isA(c:aj)(e i:Nat):List D->AF
 |[]=>aG
 |.bl b::l=>aA (JA c e b i) (isA c e i l)
 |_::_=>λ_=>af
noncomputable def uo:List D->Bool
 |[]=>ae
 |.bl _::l=>uo l
 |_::_=>ag
theorem YG(h:aS i ρ=aa (.exc c e)):∀l:List D,uo l=ae->isA c e i l ρ=aa l
 |[],_=>rfl
 |d::l,b=>by
  cases d with
  |bl x =>
   have a:=YG h l b;unfold isA aA JA;rw[a,h];simp
  |_=>cases b
def aEv(hi:i<n)(b:uo l=ae)(z:l.length<=nU):aO k (eU (isA c e i l)) ((bp n Sv.no).set i (.ro (.exc c e)))=.nx (((bp n Sv.no).set i (.ro (.exc c e))).set k (.ro (.lst l))):=by
 have h:aS i (gF ((bp n Sv.no).set i (.ro (.exc c e))))=aa (.exc c e):=by unfold aS gF;rw[Jd,kl (by simpa using hi)];rfl
 unfold aO eU;rw[YG h l b];simp only[c_,Z_ z]
theorem xh(y:X.mg c=aa (.ref C))(z:XO X.K C0 C ds)(o:RO X.K C0)(v:X.mg "isinstance"=af)(q:X.mg "ValueError"=af)
  (n:ρ1=(bp X.N.length Sv.no).set k (.ro (.lst l))) (hi:i<X.N.length) (p:k≠i) (b:uo l=ae) (sz:l.length<=nU)
  (x:∀{e m pn},HO6 (hcx X (aa (.ref e)) (pn++[(e,m)])) e C ds->lC (hcx X (aa (.ref e)) (pn++[(e,m)])) (A::suite) (aO k (eU (isA c e i l)))):
  ∃(C:ah) (g:Nat->SF) (a:Nat->bT),X.mg c=aa (.ref C)/\zy X.K (.ref C) (.ref C0)=aa ae/\(∀e:Nat,g e ((bp X.N.length Sv.no).set i (.ro (.exc c e)))=.nx (a e)/\(a e).set i .no=ρ1 /\∀d,(a e)[i]?≠aa (Sv.ow d)) /\
   ∀(e:ah) (m:ax) (pn:Q0b),m.cls=.ref C->lC (hcx X (aa (.ref e)) (pn++[(e,m)])) (A::suite) (g e):=by
 show⟨C,λe=>aO k (eU (isA c e i l)),λe=>((bp X.N.length Sv.no).set i (.ro (.exc c e))).set k (.ro (.lst l)),y,z.exm o,λe=>⟨aEv hi b sz,?_,λd=>?_⟩,λe m pn h=>x (z.ho h v q)⟩
 .rw [n];apply Be;intro j;simp only[a2d,jc,dm,ig];split
  .subst_vars
   simp[p,hi]
  .split
   .simp_all
   .simp_all
 .rw [jk p,kl (by simpa using hi)];intro h;cases h
inductive Ph (P:bf) (w:ba) (ω:ay):Prop
 |mk:Ph P w ω
section
variable{P:bf}{w:ba}{K:ao}{mg:Q0d}{ω:ay}{x:aj}{st:bz}{ps:Q0g}{n np:Nat}{b:SF}{key:EF}
def uu(c:Cl P w K mg ω CX j x ps sp)(k n:Nat)(h:j<=k:=by decide):Cl P w K mg ω CX (k+n) x ps sp:=c.up (f_ h (kz k n))
theorem nQ(l:Ph P w ω)(k:Nat)(F:g8)(e:F=bZ n np b)(N:Q0g)(D:Df K mg x st ps)
  (h:∀{f:ah} {a:ai} {A:bq} {Γ:List de} {s:ak} {H:Hp} {E:XK},fL k (A.deeper (envOfC x (aT st) s.heap.objs.size f a))->N.Nodup->lC (lB mP P w K mg ω N x (aT st) f a A Γ s H E).IP (eL st) b)
  (S:fE N ps (aT st):=by show⟨rfl,rfl,rfl,by decide+kernel,rfl,by decide+kernel,by decide+kernel⟩) (j:N.length=n:=by rfl) (d:ps.length=np:=by rfl):Cl P w K mg ω mP (k+1) x ps (HP K F):=e▸fd4 D h S j d
theorem fq5(l:Ph P w ω)(k:Nat)(F:g8)(e:F=bZ n np b)(N:Q0g)(D:Df K mg x st ps)
  (h:∀{f:ah} {a:ai} {A:bq} {Γ:List de} {s:ak} {H:Hp} {E:XK},fL k (A.deeper (envOfC x (aT st) s.heap.objs.size f a))->N.Nodup->lC (lB (IS P w) P w K mg ω N x (aT st) f a A Γ s H E) (eL st) b)
  (S:fE N ps (aT st):=by show⟨rfl,rfl,rfl,by decide+kernel,rfl,by decide+kernel,by decide+kernel⟩) (j:N.length=n:=by rfl) (d:ps.length=np:=by rfl):Cl P w K mg ω (IS P w) (k+1) x ps (sp5 K mg F):=e▸fd5 D h S j d
theorem fqM(l:Ph P w ω)(k:Nat)(F:YT)(e:F=runM n np b key)(N:Q0g)(D:Df K mg x st ps)
  (h:∀{f:ah} {a:ai} {A:bq} {Γ:List de} {s:ak} {H:Hp} {E:XK},fL k (A.deeper (envOfC x (aT st) s.heap.objs.size f a))->N.Nodup ->∃xc,zC (lB mP P w K mg ω N x (aT st) f a A Γ s H E).IP (eL st) (JX (sY K xc N.length (wS b)) (OB K (np-1) key)))
  (S:fE N ps (aT st):=by show⟨rfl,rfl,rfl,by decide+kernel,rfl,by decide+kernel,by decide+kernel⟩) (j:N.length=n:=by rfl) (d:ps.length=np:=by rfl):Cl P w K mg ω mP (k+1) x ps (R3 K F):=e▸fdM D h S j d
theorem rc4(a:Ph P w ω)(k:Nat)(F:Nat->g8)(D:Df K mg x st ps)(h:∀n,Cl P w K mg ω mP (k+n) x ps (HP K (F n))->Cl P w K mg ω mP (k+n+1) x ps (HP K (F (n+1))))(e:F 0=(λ_=>.no):=by rfl):∀n,Cl P w K mg ω mP (k+n) x ps (HP K (F n))
 |0=>e▸nn4 D
 |n+1=>h n (rc4 a k F D h e n)
theorem rcM(a:Ph P w ω)(k:Nat)(F:Nat->YT)(D:Df K mg x st ps)(h:∀n,Cl P w K mg ω mP (k+n) x ps (R3 K (F n))->Cl P w K mg ω mP (k+n+1) x ps (R3 K (F (n+1))))(e:F 0=(λ_ _=>.no):=by rfl):∀n,Cl P w K mg ω mP (k+n) x ps (R3 K (F n))
 |0=>e▸nnM D
 |n+1=>h n (rcM a k F D h e n)
variable{X:Cx}{i:Nat}{ν:bb}
def xv(hN:X.N[i]?=aa x:=by rfl)(d:vZ X.env.scope x:=by walk_at "1")(h:Zu x:=by decide)
  (a:Zt x:=by decide):cD X (.Name x ν) (aS i):=x4 i hN d h a
def y1(hN:X.N[i]?=aa x:=by rfl)(d:vZ X.env.scope x:=by walk_at "1")(h:Zu x:=by decide)
  (a:Zt x:=by decide):uW X [.Name x ν] (aV i):=aC (x4 i hN d h a) aZ
end
section
variable{l m:aj}{fr:List Nat}{sc:fj}{iter elt c:au}{ν pt p1 p2:bb}{kk:Nat}{it:AF}{t:TF}{e:EF}
abbrev mU(X:Cx)(fr:List Nat):List aj:=fr.map λi=>X.N.getD i ""
def OE(hi:QT X (.Name l pt) iter it)(j:∀{cl C pn ex s H},cD (blk X ([l]++mU X fr) sc cl C pn ex s H) elt e)(n:X.calm=ae:=by rfl)
  (d:∀{cl C pn ex s H},Loc (blk X ([l]++mU X fr) sc cl C pn ex s H).env.scope l:=by walk_at "0") (a:∀{cl C pn ex s H},(blk X ([l]++mU X fr) sc cl C pn ex s H).fn l=ae\/(blk X ([l]++mU X fr) sc cl C pn ex s H).env.scope.names.lookup l=aa .local:=by walk_at "2")
  (B:RZ X.env.scope.names sc X.N [l] (mU X fr) fr=ae:=by rfl) (h:Zo X iter:=by intro _;rfl):cD X (.ListComp elt [⟨.Name l pt,iter,[],0⟩] sc ν) (cN 1 fr it (g1 0) dM e) :=
 kE.pe (NZ (ls:=[l]) n hi (λ_ _ _ _ _ _ nd=>uZ (i:=0) nd a1K rfl d a) (λ_ _ _ _ _ _=>Eo) (λ_ _ _ _ _ _=>j) B h)
def ur(hi:QT X (.Name l pt) iter it)(j:∀{cl C pn ex s H},xF (blk X ([l]++mU X fr) sc cl C pn ex s H) c t)(n:∀{cl C pn ex s H},cD (blk X ([l]++mU X fr) sc cl C pn ex s H) elt e)(o:X.calm=ae:=by rfl)
  (d:∀{cl C pn ex s H},Loc (blk X ([l]++mU X fr) sc cl C pn ex s H).env.scope l:=by walk_at "0") (a:∀{cl C pn ex s H},(blk X ([l]++mU X fr) sc cl C pn ex s H).fn l=ae\/(blk X ([l]++mU X fr) sc cl C pn ex s H).env.scope.names.lookup l=aa .local:=by walk_at "2")
  (B:RZ X.env.scope.names sc X.N [l] (mU X fr) fr=ae:=by rfl) (h:Zo X iter:=by intro _;rfl):cD X (.ListComp elt [⟨.Name l pt,iter,[c],0⟩] sc ν) (cN 1 fr it (g1 0) t e) :=
 kE.pe (NZ (ls:=[l]) o hi (λ_ _ _ _ _ _ nd=>uZ (i:=0) nd a1K rfl d a) (λ_ _ _ _ _ _=>u3 j) (λ_ _ _ _ _ _=>n) B h)
def cp4(hi:QT X (.Tuple [.Name l p1,.Name m p2] kk pt) iter it)(h:∀{cl C pn ex s H},cD (blk X ([l,m]++mU X fr) sc cl C pn ex s H) elt e)(n:X.calm=ae:=by rfl)
  (d:∀{cl C pn ex s H},(blk X ([l,m]++mU X fr) sc cl C pn ex s H).N.Nodup->K4 (blk X ([l,m]++mU X fr) sc cl C pn ex s H) 2 (.Tuple [.Name l p1,.Name m p2] kk pt) (g2 0 1):=by show λnd=>XA (i:=0) (j:=1) rfl nd (by decide) (by decide))
  (B:RZ X.env.scope.names sc X.N [l,m] (mU X fr) fr=ae:=by rfl) (a:Zo X iter:=by intro _;rfl):cD X (.ListComp elt [⟨.Tuple [.Name l p1,.Name m p2] kk pt,iter,[],0⟩] sc ν) (cN 2 fr it (g2 0 1) dM e) :=
 kE.pe (NZ (ls:=[l,m]) n hi (λ_ _ _ _ _ _ nd=>d nd) (λ_ _ _ _ _ _=>Eo) (λ_ _ _ _ _ _=>h) B a)
def Ls(hi:QT X (.Tuple [.Name l p1,.Name m p2] kk pt) iter it)(h:∀{cl C pn ex s H},xF (blk X ([l,m]++mU X fr) sc cl C pn ex s H) c t)(n:∀{cl C pn ex s H},cD (blk X ([l,m]++mU X fr) sc cl C pn ex s H) elt e)(o:X.calm=ae:=by rfl)
  (d:∀{cl C pn ex s H},(blk X ([l,m]++mU X fr) sc cl C pn ex s H).N.Nodup->K4 (blk X ([l,m]++mU X fr) sc cl C pn ex s H) 2 (.Tuple [.Name l p1,.Name m p2] kk pt) (g2 0 1):=by show λnd=>XA (i:=0) (j:=1) rfl nd (by decide) (by decide))
  (B:RZ X.env.scope.names sc X.N [l,m] (mU X fr) fr=ae:=by rfl) (a:Zo X iter:=by intro _;rfl):cD X (.ListComp elt [⟨.Tuple [.Name l p1,.Name m p2] kk pt,iter,[c],0⟩] sc ν) (cN 2 fr it (g2 0 1) t e) :=
 kE.pe (NZ (ls:=[l,m]) o hi (λ_ _ _ _ _ _ nd=>d nd) (λ_ _ _ _ _ _=>u3 h) (λ_ _ _ _ _ _=>n) B a)
end
end L9
namespace K18
open L2 L3 L4 L6 L7 L8 L9 L5
def top(i : Nat):bz:=PySem.Challenge.pw_risecount_k18_numbers_refused.main.body.getD i (.Pass ⟨0,0,0,0⟩)
structure Zs (K:ao) (mg:Q0d) (g7:h_) (jU eW iJ jV jW fU iK kF iL iM fO gQ eX fV:ah) (YH YI:ah):Prop where
 pC:mg "Looped"=aa (.ref jU)
 gR:mg "NoFilling"=aa (.ref eW)
 mV:mg "NoGoing"=aa (.ref iJ)
 pD:mg "NoLine"=aa (.ref jV)
 pE:mg "NoName"=aa (.ref jW)
 fW:mg "NoNumber"=aa (.ref fU)
 mW:mg "NoOrder"=aa (.ref iK)
 qB:mg "NoRow"=aa (.ref kF)
 mX:mg "NoShape"=aa (.ref iL)
 mY:mg "NoThing"=aa (.ref iM)
 jX:mg "NotForest"=aa (.ref fO)
 k8:mg "NotLoose"=aa (.ref gQ)
 pF:mg "RiseError"=aa (.ref eX)
 iD:mg "TooGreat"=aa (.ref fV)
 pG:RA K eW
 k9:RA K fU
 FG:RA K kF
 rL:RA K fV
 rr:RO K eX
 pH:XO K eX eW [jU,iJ,jV,jW,fU,iK,kF,iL,iM,fO,gQ,fV]
 rM:XO K eX fU [jU,eW,iJ,jV,jW,iK,kF,iL,iM,fO,gQ,fV]
 rN:XO K eX fV [jU,eW,iJ,jV,jW,fU,iK,kF,iL,iM,fO,gQ]
 Gi:zq K "going_of"=aa (YH,YI)
 l7:mg "MOST_LISTED"=aa (.int 200 g7)
 D1:Df K mg "ties_of" (top 16) ["order"]
 D2:Df K mg "ready_things" (top 19) ["order","ahead"]
 D3:Df K mg "one_step_on" (top 18) ["order","begun"]
 D4:Df K mg "joined" (top 20) ["ahead","thing"]
 D5:Df K mg "descents_of" (top 21) ["going"]
 D6:Df K mg "added" (top 25) ["one","other"]
 D7:Df K mg "one_descent_more" (top 24) ["shares"]
 D8:Df K mg "find_shares" (top 23) ["order","ahead","last","shares"]
 D9:Df K mg "shares_on" (top 22) ["order"]
 D10:Df K mg "chosen" (top 27) ["x","m"]
 D11:Df K mg "tie_rises" (top 30) ["filling","a","b"]
 D12:Df K mg "rises" (top 29) ["order","filling","k"]
 D13:Df K mg "refuse_below_0" (top 31) ["k"]
 D14:Df K mg "top_of" (top 34) ["going","k"]
 D15:Df K mg "rows_many" (top 33) ["going","k"]
 D16:Df K mg "rises_ahead" (top 35) ["going","place"]
 D17:Df K mg "greatest_below" (top 37) ["bound","m","most"]
 D18:Df K mg "row_at" (top 36) ["going","k","number"]
 D19:Df K mg "step_rises" (top 40) ["row","place","strictly"]
 D20:Df K mg "is_row_of" (top 39) ["going","k","row"]
 D21:Df K mg "row_number" (top 38) ["going","k","row"]
 D22:Df K mg "going_of" (top 42) ["filling"]
 D23:Df K mg "row_of" (top 43) ["filling"]
 D24:Df K mg "filling_of" (top 44) ["going","row"]
 D25:Df K mg "rows_by_descents" (top 47) ["n","k"]
 D26:Df K mg "begun_many" (top 48) ["table","many_rows","begun"]
 D27:Df K mg "many_ahead_of" (top 49) ["order","table","many_rows","begun","thing"]
 D28:Df K mg "thing_on" (top 51) ["order","table","many_rows","begun","rest"]
 D29:Df K mg "filling_at" (top 50) ["order","k","number"]
 D30:Df K mg "filling_number" (top 52) ["order","k","filling"]
 D31:Df K mg "filled_goings" (top 54) ["order","table","many_rows"]
 D32:Df K mg "fillings_listed" (top 53) ["order","k"]
 D33:Df K mg "_law_cell" (top 56) ["_law_script","_law_k"]
 D34:Df K mg "_law_mixed" (top 57) ["_law_cell_here","_law_k","_law_salt"]
 D35:Df K mg "_law_draws" (top 58) ["_law_cell_here","_law_many","_law_salt"]
 D36:Df K mg "_law_great" (top 59) ["_law_cell_here","_law_most","_law_salt"]
 D37:Df K mg "_law_same" (top 60) ["_law_found","_law_due"]
 D38:Df K mg "_law_order" (top 61) ["_law_draws_here","_law_n","_law_thick"]
 D39:Df K mg "_law_drawn" (top 62) ["_law_script","_law_k","_law_most","_law_salt"]
 D40:Df K mg "_law_rises" (top 63) ["_law_order_here","_law_filling"]
 D41:Df K mg "_law_word" (top 64) ["_law_order_here","_law_draws_here"]
 D42:Df K mg "_law_extra" (top 65) ["_law_script","_law_k","_law_salt"]
 D43:Df K mg "_law_filled" (top 66) ["_law_script","_law_k","_law_order_here","_law_word_here","_law_salt"]
 D44:Df K mg "_law_is_filling" (top 67) ["_law_order_here","_law_k","_law_found"]
 D45:Df K mg "_law_refusal" (top 68) ["_law_kinds"]
 D46:Df K mg "_law_ask" (top 69) ["_law_word_here","_law_order_here","_law_k","_law_number","_law_numbers"]
 D47:Df K mg "_law_spoilt" (top 70) ["_law_filling","_law_k","_law_draws_here"]
 D48:Df K mg "_law_below" (top 71) ["_law_script","_law_order_here","_law_draws_here"]
 D49:Df K mg "law" (top 72) ["_law_script"]
 mZ:mg "sorted"=af
 dP:mg "tuple"=af
 lT:mg "enumerate"=af
 AM:mg "all"=af
 cP:mg "len"=af
 dG:mg "range"=af
 Fc:mg "zip"=af
 IK:mg "max"=af
 Fb:mg "sum"=af
 cM:mg "isinstance"=af
 Uy:mg "str"=af
 OG:mg "int"=af
 FH:mg "bool"=af
 YJ:mg "list"=af
 nR:mg "ValueError"=af
section
variable{P:bf}{w:ba}{ω:ay}{K:ao}{mg:Q0d}{g7:h_}{jU eW iJ jV jW fU iK kF iL iM fO gQ eX fV:ah}{YH YI:ah}(p:Ph P w ω)(Z:Zs K mg g7 jU eW iJ jV jW fU iK kF iL iM fO gQ eX fV YH YI)
include p Z
def o1:=nQ p 3 LL.kG rfl ["order","ties","b","row"] Z.D1 λa nd=>(aM (wK nd (jT aZ))
  (aM (lE rfl gm (nN Z.lT y1) (HQ rfl nd)
   (aI (vS (EY (oZ (OE (gZ xv) (i9 (aC xv y1))))))))
  (aI (cL (gP Z.dP (aC (kE.pe (XU Z.mZ y1)) aZ))))))
def o2:=nQ p 3 LL.dU rfl ["order","ahead","others"] Z.D2 λa nd=>(aM (u4 (ls:=["thing"]) (fs:=["ahead"]) (fr:=[1]) nd rfl (d7 Z.dG (eE Z.cP y1)) (λ_ _ _ _ _ _ nd=>uZ (i:=0) nd (by decide)) (λ_ _ _ _ _ _=>u3 (W4 xv xv)) (λ_ _ _ _ _ _=>xv))
  (aI (cL (ur (gZ xv) (mR (K6 rfl Z.AM (aC (OE (gZ (iI xv xv)) (in4 xv xv)) aZ))) xv))))
def o3:=nQ p 4 qK rfl ["order","begun","longer","ahead"] Z.D3 λa nd=>(aM (wK nd (jT aZ))
  (aM (lE rfl gm (gZ xv) (jC nd)
   (aI (vS (EY (oZ (OE (gZ (aU (o2 p Z).up a (aC xv y1))) (dY xv (i9 y1))))))))
  (aI (cL xv))))
def o4:=nQ p 3 LL.iT rfl ["ahead","thing"] Z.D4 λa nd=>(aI (cL (gP Z.dP (aC (kE.pe (AG Z.mZ (aC (dY xv (i9 y1)) aZ))) aZ))))
def o5:=nQ p 3 bH.fB rfl ["going"] Z.D5 λa nd=>(aI (cL (gP Z.dP (aC (ur (d7 Z.dG (iC (eE Z.cP y1) i4)) (wJ (iI xv xv) (iI xv (dY xv i4))) xv) aZ))))
def o6:=nQ p 3 LL.pQ rfl ["one","other"] Z.D6 λa nd=>(aI (cL (cp4 (Lw Z.Fc (aC xv y1)) (dY xv xv))))
def o7:=nQ p 3 LL.c9 rfl ["shares"] Z.D7 λa nd=>(aI (cL (dY (kE.pe (jT (aC i4 aZ))) (XE xv XB (XD (EV i4))))))
def o8:=rcM p 4 LL.cB Z.D8 (λn d=>fqM p (4+n) _ rfl ["order","ahead","last","shares","state","some","thing","further"] Z.D8 λa nd=>⟨_,(uD (cJ nd (i9 (aC xv y1)))
  (Vd (j:=3) (u2 a) (dJ (aEi (u2 a) xv xv)
   (aM (wK nd (ID (kE.pe (jT (aC i4 aZ))) (Ej rfl Z.IK (aC (eE Z.cP y1) (aC i4 aZ)))))
   (aM (dJ (lD (eE Z.cP y1) (eE Z.cP y1))
    (aI (EZ (oZ i4) i4))
    fI)
   (aM (Wx 5 (lE rfl gm (gZ (aU (uu (o2 p Z) 4 n) a (aC xv y1))) (jC nd)
    (aM (aEj (i:=7) (j:=3) d a (by decide) nd (CQ xv (CQ (aU (uu (o4 p Z) 4 n) a (aC xv y1)) (CQ xv (Ef (j:=3))))))
    (aI (cJ nd (aU (uu (o6 p Z) 4 n) a (aC xv (aC (if4 (wJ xv xv) (aU (uu (o7 p Z) 4 n) a y1) xv) aZ))))))))
   (aI (Vj (i:=3) (u2 a) (oZ xv) xv)))))
   fI) xv))⟩) rfl 11
def o9:=nQ p 15 LL.fN rfl ["order","shares"] Z.D9 λa nd=>(aM (Vk nd)
  (aM (Lz (j:=1) (o8 p Z).up a (CQ xv (CQ (i9 aZ) (CQ i4 (Ef (j:=1))))))
  (aI (cL xv))))
def qp:=nQ p 3 LL.fY rfl ["x","m","many","step"] Z.D10 λa nd=>(aM (cJ nd i4)
  (aM (lE rfl gm (d7 Z.dG xv) (jC nd)
   (aI (cJ nd (ET (uX xv (iC xv xv)) (dY xv i4)))))
  (aI (cL xv))))
def Ld:=nQ p 3 LL.lL rfl ["filling","a","b"] Z.D11 λd nd=>(aM (dJ (wJ xv xv)
   (aI (cL (lt4 (iI xv xv) (iI xv xv))))
   fI)
  (aI (cL (le4 (iI xv xv) (iI xv xv)))))
def Lc:=nQ p 4 LL.lM rfl ["order","filling","k"] Z.D12 λa nd=>(aM (dJ (FK.pt (A5 (QW xv i4) (HM (HL (eE Z.cP y1) (eE Z.cP y1)))))
   (aI (cL b4))
   fI)
  (aM (dJ (lR (mR (K6 rfl Z.AM (aC (OE (gZ xv) (W5 vJ vJ CJ CJ i4 xv xv)) aZ))))
   (aI (cL b4))
   fI)
  (aI (cL (K6 rfl Z.AM (aC (cp4 (gZ (aU (o1 p Z).up a y1)) (aU (Ld p Z).up a (aC xv (aC xv y1)))) aZ))))))
def lz:=fq5 p 3 bH.aR rfl ["k"] Z.D13 λa nd=>(aI (dJ (QW xv i4)
   (aI (vA rfl rfl Z.fW Z.k9 (aC s4 aZ)))
   fI))
def xg:=nQ p 4 bH.iV rfl ["going","k"] Z.D14 λa nd=>(aI (cL (iC (iC (dY xv (eE Z.cP y1)) i4) (eE Z.cP (aC (aU (o5 p Z).up a y1) aZ)))))
def my:=fq5 p 5 bL rfl ["going","k"] Z.D15 λa nd=>(aM (E8 (j8 (lz p Z).up a y1) (i5 rfl (lz p Z).up a y1))
  (aI (cL (aU (qp p Z).up a (aC (aU (xg p Z).up a (aC xv y1)) (aC (eE Z.cP y1) aZ))))))
def Bw:=nQ p 4 bH.fC rfl ["going","place"] Z.D16 λa nd=>(aI (cL (iC xv (eE Z.cP (aC (aU (o5 p Z).up a (aC (XE xv XB (XD (dY xv i4))) aZ)) aZ)))))
def Lb:=nQ p 4 bH.fG rfl ["bound","m","most","low","high","middle"] Z.D17 λa nd=>(aM (cJ nd (iC xv i4))
  (aM (cJ nd xv)
  (aM (aE1 gm (wJ (iC xv xv) i4)
   (aM (cJ nd (ET (dY xv xv) i4))
   (aI (dJ (Cs (aU (qp p Z).up a (aC xv y1)) xv)
    (aI (cJ nd xv))
    (aI (cJ nd xv))))))
  (aI (cL xv)))))
def qo:=fq5 p 6 aP rfl ["going","k","number","many","top","behind","left","row","place"] Z.D18 λa nd=>(aM (tK nd (j8 (my p Z).up a (aC xv y1)) (i5 rfl (my p Z).up a (aC xv y1)))
  (aM (dJ (lR (NX vJ NF CJ Es i4 xv xv))
   (aI (vA rfl rfl Z.fW Z.k9 (aC s4 aZ)))
   fI)
  (aM (cJ nd (aU (xg p Z).up a (aC xv y1)))
  (aM (cJ nd (iC (iC xv i4) xv))
  (aM (cJ nd xv)
  (aM (wK nd (jT aZ))
  (aM (N8 (lE rfl gm (d7 Z.dG (eE Z.cP y1)) (jC nd)
   (aM (cJ nd (aU (Lb p Z).up a (aC xv (aC (iC (eE Z.cP y1) xv) y1))))
   (aM (cJ nd (iC xv (aU (qp p Z).up a (aC xv (aC (iC (eE Z.cP y1) xv) aZ)))))
   (aI (vS (XG (i:=7) (oZ (iC (iC xv xv) (aU (Bw p Z).up a (aC xv y1)))))))))))
  (aI (cL (gP Z.dP y1))))))))))
def La:=nQ p 3 bH.iW rfl ["row","place","strictly"] Z.D19 λa nd=>(aM (dJ (mR xv)
   (aI (cL (lt4 (iI xv xv) (iI xv (dY xv i4)))))
   fI)
  (aI (cL (le4 (iI xv xv) (iI xv (dY xv i4))))))
def K_:=nQ p 4 bH.iG rfl ["going","k","row","descents"] Z.D20 λa nd=>(aM (dJ (FK.pt (A5 (HL (eE Z.cP y1) (eE Z.cP y1)) (HM (lR (mR (K6 rfl Z.AM (aC (OE (gZ xv) (W5 vJ vJ CJ CJ i4 xv xv)) aZ)))))))
   (aI (cL b4))
   fI)
  (aM (cJ nd (aU (o5 p Z).up a y1))
  (aI (cL (K6 rfl Z.AM (aC (OE (d7 Z.dG (iC (eE Z.cP y1) i4)) (aU (La p Z).up a (aC xv (aC xv (aC (in4 xv xv) aZ))))) aZ))))))
def ug:=fq5 p 6 bM rfl ["going","k","row","many","top","behind","place","number"] Z.D21 λa nd=>(aM (tK nd (j8 (my p Z).up a (aC xv y1)) (i5 rfl (my p Z).up a (aC xv y1)))
  (aM (dJ (lR (mR (aU (K_ p Z).up a (aC xv (aC xv y1)))))
   (aI (vA rfl rfl Z.qB Z.FG (aC s4 aZ)))
   fI)
  (aM (cJ nd (aU (xg p Z).up a (aC xv y1)))
  (aM (cJ nd i4)
  (aM (N8 (lE rfl gm (nN Z.lT y1) (HQ rfl nd)
   (aI (cJ nd (dY xv (aU (qp p Z).up a (aC (iC (iC xv xv) (aU (Bw p Z).up a (aC xv y1))) (aC (iC (eE Z.cP y1) xv) aZ))))))))
  (aI (cL (iC (iC xv i4) xv))))))))
def Kz:Cl P w K mg ω mP 4 "going_of" ["filling"] (HP K LL.kT):=have _:=p;Lu (N:=["filling"]) Z.D22 Z.Gi λa nd=>(aI (cL (gP Z.dP (aC (kE.pe (aEr (x:="place") (fs:=["filling"]) (fr:=[0]) (x0:="going_of") rfl a Z.mZ Z.dG (aEs (by decide) Z.Gi) rfl (eE Z.cP y1) (λ_ _ _ _ _ _=>(i9 (aC (iI xv xv) y1))))) aZ))))
def Bv:=nQ p 3 LL.mI rfl ["filling"] Z.D23 λa nd=>(aI (cL (gP Z.dP (aC (kE.pe (AG Z.mZ y1)) aZ))))
def xf:=nQ p 3 LL.dF rfl ["going","row","filling","thing","number"] Z.D24 λa nd=>(aM (wK nd (ID (kE.pe (jT (aC i4 aZ))) (eE Z.cP y1)))
  (aM (lE rfl gm (Vy Z.Fc (aC xv y1)) (HQ rfl nd)
   (aI (EZ (oZ xv) xv)))
  (aI (cL (gP Z.dP y1)))))
def xb:=nQ p 4 gC.cU rfl ["n","k"] Z.D25 λa nd=>(aI (cL (OE (d7 Z.dG (Ej rfl Z.IK (aC xv (aC i4 aZ)))) (aU (qp p Z).up a (aC (iC (iC (dY xv xv) i4) xv) y1)))))
def uf:=nQ p 4 gC.eV rfl ["table","many_rows","begun","last","shares","passed"] Z.D26 λa nd=>(aM (cJ nd (if4 (mR xv) (iI xv (EV i4)) i4))
  (aM (cJ nd (L_ (u2 a) xv (i9 (aC (gP Z.dP (aC (kE.pe (AG Z.mZ y1)) aZ)) y1))))
  (aM (cJ nd (eE Z.cP (aC (aU (o5 p Z).up a y1) aZ)))
  (aI (cL (Cp rfl Z.Fb (aC (Ls (nN Z.lT y1) (wJ xv i4) (uX xv (iI xv (dY xv xv)))) aZ)))))))
def xa:=nQ p 5 gC.cH rfl ["order","table","many_rows","begun","thing","lesser"] Z.D27 λa nd=>(aM (u4 (ls:=["other"]) (fs:=["thing"]) (fr:=[4]) nd rfl (gZ (aU (o2 p Z).up a (aC xv y1))) (λ_ _ _ _ _ _ nd=>uZ (i:=0) nd (by decide)) (λ_ _ _ _ _ _=>u3 (QW xv xv)) (λ_ _ _ _ _ _=>xv))
  (aI (cL (Cp rfl Z.Fb (aC (OE (gZ xv) (aU (uf p Z).up a (aC xv (aC xv (aC (dY xv (i9 y1)) aZ))))) aZ)))))
def Ky:=nQ p 6 gC.jJ rfl ["order","table","many_rows","begun","rest","ready"] Z.D28 λa nd=>(aM (cJ nd (aU (o2 p Z).up a (aC xv y1)))
  (aI (cL (Fe rfl Z.IK (aC (ur (gZ xv) (Cs (aU (xa p Z).up a (aC xv (aC xv (aC xv (aC xv y1))))) xv) xv) aZ)))))
def Bu:=fq5 p 16 bK rfl ["order","k","number","table","many_rows","going","rest","step","thing"] Z.D29 λa nd=>(aM (E8 (j8 (lz p Z).up a y1) (i5 rfl (lz p Z).up a y1))
  (aM (cJ nd (aU (o9 p Z).up a y1))
  (aM (cJ nd (aU (xb p Z).up a (aC (eE Z.cP y1) y1)))
  (aM (dJ (lR (NX vJ NF CJ Es i4 xv (aU (uf p Z).up a (aC xv (aC xv (aC (i9 aZ) aZ))))))
   (aI (vA rfl rfl Z.fW Z.k9 (aC s4 aZ)))
   fI)
  (aM (cJ nd (i9 aZ))
  (aM (cJ nd xv)
  (aM (N8 (lE rfl gm (d7 Z.dG (eE Z.cP y1)) (jC nd)
   (aM (cJ nd (aU (Ky p Z).up a (aC xv (aC xv (aC xv (aC xv y1))))))
   (aM (cJ nd (iC xv (aU (xa p Z).up a (aC xv (aC xv (aC xv (aC xv y1)))))))
   (aI (cJ nd (dY xv (i9 y1))))))))
  (aI (Wq (aU (xf p Z).up a (aC xv (aC (j8 (qo p Z).up a (aC xv (aC xv y1))) aZ))) (Vw (xf p Z).up a (aE8 xv (aE9 (i5 rfl (qo p Z).up a (aC xv (aC xv y1))) aZ))))))))))))
def Bt:=fq5 p 16 aW rfl ["order","k","filling","table","many_rows","going","number","place","thing"] Z.D30 λa nd=>(aM (E8 (j8 (lz p Z).up a y1) (i5 rfl (lz p Z).up a y1))
  (aM (dJ (lR (mR (aU (Lc p Z).up a (aC xv (aC xv y1)))))
   (aI (vA rfl rfl Z.gR Z.pG (aC s4 aZ)))
   fI)
  (aM (cJ nd (aU (o9 p Z).up a y1))
  (aM (cJ nd (aU (xb p Z).up a (aC (eE Z.cP y1) y1)))
  (aM (cJ nd (aU (Kz p Z).up a y1))
  (aM (tK nd (j8 (ug p Z).up a (aC xv (aC xv (aC (aU (Bv p Z).up a y1) aZ)))) (i5 rfl (ug p Z).up a (aC xv (aC xv (aC (aU (Bv p Z).up a y1) aZ)))))
  (aM (N8 (lE rfl gm (nN Z.lT y1) (HQ rfl nd)
   (aI (cJ nd (dY xv (aU (xa p Z).up a (aC xv (aC xv (aC xv (aC (XE xv XB (XD xv)) y1))))))))))
  (aI (cL xv)))))))))
def Kx:=nQ p 5 hJ rfl ["order","table","many_rows","begun","step"] Z.D31 λa nd=>(aM (cJ nd (kE.pe (jT (aC (i9 aZ) aZ))))
  (aM (lE rfl gm (d7 Z.dG (eE Z.cP y1)) (jC nd)
   (aI (u4 (ls:=["ahead"]) (fs:=["table","many_rows"]) (fr:=[1,2]) nd rfl (gZ (aU (o3 p Z).up a (aC xv y1))) (λ_ _ _ _ _ _ nd=>uZ (i:=0) nd (by decide)) (λ_ _ _ _ _ _=>u3 (wJ (aU (uf p Z).up a (aC xv (aC xv y1))) i4)) (λ_ _ _ _ _ _=>xv))))
  (aI (cL xv))))
def Bs:=fq5 p 16 bJ rfl ["order","k","table","many_rows","listed","going"] Z.D32 λa nd=>(aM (E8 (j8 (lz p Z).up a y1) (i5 rfl (lz p Z).up a y1))
  (aM (cJ nd (aU (o9 p Z).up a y1))
  (aM (cJ nd (aU (xb p Z).up a (aC (eE Z.cP y1) y1)))
  (aM (dJ (wJ (aU (uf p Z).up a (aC xv (aC xv (aC (i9 aZ) aZ)))) (c4 Z.l7))
   (aI (vA rfl rfl Z.iD Z.rL (aC s4 aZ)))
   fI)
  (aM (wK nd (jT aZ))
  (aM (lE rfl a2V (gZ (aU (Kx p Z).up a (aC xv (aC xv y1)))) (jC nd)
   (aI (vS (EY (oZ (OE (d7 Z.dG (j8 (my p Z).up a (aC xv y1))) (aU (xf p Z).up a (aC xv (aC (j8 (qo p Z).up a (aC xv (aC xv y1))) aZ)))))))))
  (aI (cL (gP Z.dP y1)))))))))
def ly:=nQ p 3 LL.dR rfl ["_law_script","_law_k"] Z.D33 λa nd=>(aM (dJ (lD (eE Z.cP y1) i4)
   (aI (cL i4))
   fI)
  (aI (cL (iI xv (iO xv (eE Z.cP y1))))))
def Br:=nQ p 3 LL.iE rfl ["_law_cell_here","_law_k","_law_salt","_law_one","_law_two"] Z.D34 λa nd=>(aM (cJ nd (iO (uX (dY (dY (dY xv (uX (uX i4 xv) xv)) (uX i4 xv)) xv) i4) i4))
  (aM (cJ nd (iO (dY (dY (uX xv (dY (ET xv i4) i4)) (uX i4 xv)) xv) i4))
  (aI (cL (iO (uX xv i4) i4)))))
def ue:=nQ p 4 LL.iF rfl ["_law_cell_here","_law_many","_law_salt","_law_found","_law_left","_law_k"] Z.D35 λa nd=>(aM (wK nd (jT aZ))
  (aM (cJ nd i4)
  (aM (dJ (Cr xv (EU i4 i4))
   (aI (cJ nd xv))
   fI)
  (aM (lE rfl gm (d7 Z.dG xv) (jC nd)
   (aI (dJ (wJ xv i4)
    (aM (vS (XG (i:=3) (oZ (iO xv i4))))
    (aI (cJ nd (ET xv i4))))
    (aI (vS (XG (i:=3) (oZ (aU (Br p Z).up a (aC xv (aC xv y1))))))))))
  (aI (cL xv))))))
def qm:=nQ p 4 LL.eD rfl ["_law_cell_here","_law_most","_law_salt","_law_found","_law_k"] Z.D36 λa nd=>(aM (dJ (Cr xv (EU i4 i4))
   (aI (cL (iO (ET xv i4) xv)))
   fI)
  (aM (cJ nd i4)
  (aM (lE rfl gm (d7 Z.dG i4) (jC nd)
   (aI (cJ nd (dY (uX xv i4) (aU (Br p Z).up a (aC xv (aC xv y1)))))))
  (aI (cL (iO xv xv))))))
def ud:=rc4 p 3 LL.eA Z.D37 (λn d=>nQ p (3+n) _ rfl ["_law_found","_law_due"] Z.D37 λa nd=>(aM (dJ (mR (z6 FJ.t Z.cM Z.dP vx xv))
   (aM (dJ (FK.pt (A5 (lR (mR (z6 FJ.t Z.cM Z.dP vx xv))) (HM (HL (eE Z.cP y1) (eE Z.cP y1)))))
    (aI (cL b4))
    fI)
   (aI (cL (K6 rfl Z.AM (aC (OE (d7 Z.dG (eE Z.cP y1)) (aU d a (aC (iI xv xv) (aC (iI xv xv) aZ)))) aZ)))))
   fI)
  (aM (dJ (Oa xv n4)
   (aI (cL (is4 xv n4)))
   fI)
  (aM (dJ (mR (z6 FJ.b Z.cM Z.FH Aq xv))
   (aI (cL (W6 (z6 FJ.b Z.cM Z.FH Aq xv) (ux (eq4 xv xv)))))
   fI)
  (aM (dJ (mR (z6 FJ.i Z.cM Z.OG Ap xv))
   (aI (cL (W6 (z6 FJ.i Z.cM Z.OG Ap xv) (W6 (Mz (z6 FJ.b Z.cM Z.FH Aq xv)) (ux (eq4 xv xv))))))
   fI)
  (aI (cL (W6 (z6 FJ.s Z.cM Z.Uy a3z xv) (ux (eq4 xv xv)))))))))) rfl 6
def Kw:=nQ p 3 LL.pJ rfl ["_law_draws_here","_law_n","_law_thick","_law_rest","_law_word_here","_law_k","_law_low","_law_at","_law_j","_law_under","_law_i"] Z.D38 λa nd=>(aM (wK nd (K2 rfl Z.YJ Z.dG y1))
  (aM (wK nd (jT aZ))
  (aM (lE rfl gm (d7 Z.dG xv) (jC nd)
   (aI (vS (XG (i:=4) (Me (i:=3) (px4 (iO (iI xv xv) (eE Z.cP y1))))))))
  (aM (XH (i:=6) nd)
  (aM (cJ nd xv)
  (aM (lE rfl gm (d7 Z.dG xv) (jC nd)
   (aM (cJ nd (kE.pe (jT aZ)))
   (aM (lE rfl gm (d7 Z.dG xv) (jC nd)
    (aM (dJ (QW (iO (iI xv xv) i4) xv)
     (aI (Xw (i:=9) nd (Et xv (ur (gZ (dY (Cq (u1 a) xv (iI xv xv)) (kE.pe (jT (aC (iI xv xv) aZ))))) (W4 xv xv) xv))))
     fI)
    (aI (cJ nd (dY xv i4)))))
   (aI (Xv (i:=6) (u1 a) (oZ xv) (iI xv xv))))))
  (aI (cL (gP Z.dP (aC (OE (d7 Z.dG xv) (gP Z.dP (aC (kE.pe (aAt Z.mZ (aC (Cq (u1 a) xv xv) aZ))) aZ))) aZ))))))))))
def Kv:=nQ p 5 LL.pK rfl ["_law_script","_law_k","_law_most","_law_salt","_law_head","_law_n","_law_draws_here"] Z.D39 λa nd=>(aM (cJ nd (aU (ue p Z).up a (aC (aU (ly p Z).up a (aC xv y1)) (aC i4 y1))))
  (aM (cJ nd (iO (iI xv i4) (dY xv i4)))
  (aM (cJ nd (aU (ue p Z).up a (aC (aU (ly p Z).up a (aC xv (aC (dY xv i4) aZ))) (aC (dY xv (ET (uX xv (iC xv i4)) i4)) (aC (dY xv i4) aZ)))))
  (aI (cL (aU (Kw p Z).up a (aC xv (aC xv (aC (iI (kE.pe (jT (aC i4 (aC i4 (aC i4 (aC i4 (aC i4 (aC i4 (aC i4 (aC i4 aZ)))))))))) (iO (iI xv i4) i4)) aZ)))))))))
def Ku:=nQ p 3 LL.mF rfl ["_law_order_here","_law_filling","_law_b","_law_a"] Z.D40 λa nd=>(aM (lE rfl gm (d7 Z.dG (eE Z.cP y1)) (jC nd)
   (aI (lE rfl gm (gZ (iI xv xv)) (jC nd)
    (aI (dJ (FK.pt (A5 (wJ (iI xv xv) (iI xv xv)) (HM (FK.pt (Ep (wJ xv xv) (Er (lD (iI xv xv) (iI xv xv))))))))
     (aI (cL b4))
     fI)))))
  (aI (cL b4)))
def Kt:=nQ p 3 LL.kU rfl ["_law_order_here","_law_draws_here","_law_found","_law_k","_law_nexts"] Z.D41 λa nd=>(aM (wK nd (jT aZ))
  (aM (lE rfl gm (d7 Z.dG (eE Z.cP y1)) (jC nd)
   (aM (LD (ls:=["_law_b"]) (fs:=["_law_found","_law_order_here"]) (fr:=[2,0]) nd rfl (d7 Z.dG (eE Z.cP y1)) (λ_ _ _ _ _ _ nd=>uZ (i:=0) nd (by decide)) (λ_ _ _ _ _ _=>u3 (FK.pt (Ep (W4 xv xv) (Er (mR (K6 rfl Z.AM (aC (OE (gZ (iI xv xv)) (in4 xv xv)) aZ))))))) (λ_ _ _ _ _ _=>xv))
   (aI (vS (XG (i:=2) (oZ (iI xv (iO (iI xv xv) (eE Z.cP y1)))))))))
  (aI (cL (gP Z.dP y1)))))
def Bq:=nQ p 5 LL.jH rfl ["_law_script","_law_k","_law_salt","_law_cell_here","_law_d"] Z.D42 λa nd=>(aM (cJ nd (aU (ly p Z).up a (aC xv y1)))
  (aM (cJ nd (iI (aU (ue p Z).up a (aC xv (aC i4 y1))) i4))
  (aM (dJ (QW (iO xv i4) i4)
   (aI (cL i4))
   fI)
  (aM (dJ (lD (iO xv i4) i4)
   (aI (cL (dY i4 (iO (ET xv i4) i4))))
   fI)
  (aI (cL (aU (qm p Z).up a (aC xv (aC (EU i4 i4) y1)))))))))
def Ks:=nQ p 6 LL.kW rfl ["_law_script","_law_k","_law_order_here","_law_word_here","_law_salt","_law_found","_law_b","_law_low"] Z.D43 λa nd=>(aM (wK nd (ID (kE.pe (jT (aC i4 aZ))) (eE Z.cP y1)))
  (aM (lE rfl gm (gZ xv) (jC nd)
   (aM (N0 (i:=7) nd (px4 (Fe rfl Z.IK (aC (dY (kE.pe (jT (aC i4 aZ))) (OE (gZ (iI xv xv)) (dY (iI xv xv) (Md rfl Z.OG (aC (gt4 xv xv) aZ))))) aZ))))
   (aI (EZ (oZ (dY xv (aU (Bq p Z).up a (aC xv (aC (dY xv xv) (aC (dY xv (uX i4 xv)) aZ)))))) xv))))
  (aI (cL (gP Z.dP y1)))))
def Kr:=nQ p 4 gC.c7 rfl ["_law_order_here","_law_k","_law_found","_law_number"] Z.D44 λa nd=>(aM (dJ (FK.pt (A5 (lR (mR (z6 FJ.t Z.cM Z.dP vx xv))) (HM (HL (eE Z.cP y1) (eE Z.cP y1)))))
   (aI (cL b4))
   fI)
  (aM (lE rfl gm (gZ xv) (jC nd)
   (aI (dJ (FK.pt (A5 (lR (mR (z6 FJ.i Z.cM Z.OG Ap xv))) (A5 (mR (z6 FJ.b Z.cM Z.FH Aq xv)) (A5 (QW xv i4) (HM (wJ xv xv))))))
    (aI (cL b4))
    fI)))
  (aI (cL (W6 (ge4 xv i4) (ux (aU (Ku p Z).up a (aC xv y1))))))))
def Kq:=nQ p 3 bH.gL rfl ["_law_kinds","_law_names"] Z.D45 λa nd=>(aM (cJ nd s4)
  (aM (cJ nd (dY xv s4))
  (aM (dJ (FK.pt (A5 (HL (aBL xv b4) i4) (HM (lR (mR (iI xv i4))))))
   (aI (cL s4))
   fI)
  (aI (cL (iI (kE.pe (aEb xv s4)) (aBM xv b4)))))))
def ql:=nQ p 17 dO rfl ["_law_word_here","_law_order_here","_law_k","_law_number","_law_numbers","_law_found","_law_kinds","_law_things","e"] Z.D46 λa nd=>(aM (cJ nd n4)
  (aM (cJ nd (kE.pe (jT aZ)))
  (aM (cJ nd (HU rfl Z.dP Z.dG (eE Z.cP y1)))
  (U_ (i:=8) rfl rfl Z.pF nd (λpn xe=>(aI (dJ (lD xv s4)
    (aI (tK nd (j8 (my p Z).up a (aC xv y1)) (i5 rfl (my p Z).up a (aC xv y1))))
    (aI (dJ (lD xv s4)
     (aI (tK nd (j8 (qo p Z).up a (aC xv (aC xv y1))) (i5 rfl (qo p Z).up a (aC xv (aC xv y1)))))
     (aI (dJ (lD xv s4)
      (aI (tK nd (j8 (ug p Z).up a (aC xv (aC xv y1))) (i5 rfl (ug p Z).up a (aC xv (aC xv y1)))))
      (aI (dJ (lD xv s4)
       (aI (tK nd (j8 (Bu p Z).up a (aC xv (aC xv y1))) (i5 rfl (Bu p Z).up a (aC xv (aC xv y1)))))
       (aI (dJ (lD xv s4)
        (aI (tK nd (j8 (Bt p Z).up a (aC xv (aC xv y1))) (i5 rfl (Bt p Z).up a (aC xv (aC xv y1)))))
        (aI (tK nd (j8 (Bs p Z).up a (aC xv y1)) (i5 rfl (Bs p Z).up a (aC xv y1)))))))))))))))
  (aM (dJ (wJ (eE Z.cP y1) i4)
   (aI (cL (i9 (aC s4 (aC (aU (Kq p Z).up a y1) aZ)))))
   fI)
  (aI (cL (i9 (aC s4 y1))))) (λc ρ1 h=>by
   repeat' split at h
   .cases h;subst_vars;show xh (i:=8) (k:=6) Z.fW Z.rM Z.rr Z.cM Z.nR rfl (v_ rfl) (by decide) rfl (by decide) (λz=>?_);show aI (cJ nd (kE.pe (jT ?_)));show aC (gE z Z.mY) ?_;show aC (gE z Z.pC) ?_;show aC (gE z Z.mW) ?_;show aC (uv z.g z.q z.i Z.fW AD) ?_;show aC (gE z Z.iD) ?_;show aC (gE z Z.mV) ?_;show aC (gE z Z.qB) ?_;show aC (gE z Z.gR) ?_;show aC (gE z Z.k8) ?_;show aC (gE z Z.jX) ?_;show aC (gE z Z.mX) ?_;show aC (gE z Z.pE) ?_;show aC (gE z Z.pD) ?_;show aC (X0 z.g z.q z.i z.w PyProof.Rows.Boot.«ValueError» (FC (by decide+kernel) z.v)) ?_;show aZ
   .cases h;subst_vars;show xh (i:=8) (k:=6) Z.gR Z.pH Z.rr Z.cM Z.nR rfl (v_ rfl) (by decide) rfl (by decide) (λz=>?_);show aI (cJ nd (kE.pe (jT ?_)));show aC (gE z Z.mY) ?_;show aC (gE z Z.pC) ?_;show aC (gE z Z.mW) ?_;show aC (gE z Z.fW) ?_;show aC (gE z Z.iD) ?_;show aC (gE z Z.mV) ?_;show aC (gE z Z.qB) ?_;show aC (uv z.g z.q z.i Z.gR AD) ?_;show aC (gE z Z.k8) ?_;show aC (gE z Z.jX) ?_;show aC (gE z Z.mX) ?_;show aC (gE z Z.pE) ?_;show aC (gE z Z.pD) ?_;show aC (X0 z.g z.q z.i z.w PyProof.Rows.Boot.«ValueError» (FC (by decide+kernel) z.v)) ?_;show aZ
   .cases h;subst_vars;show xh (i:=8) (k:=6) Z.iD Z.rN Z.rr Z.cM Z.nR rfl (v_ rfl) (by decide) rfl (by decide) (λz=>?_);show aI (cJ nd (kE.pe (jT ?_)));show aC (gE z Z.mY) ?_;show aC (gE z Z.pC) ?_;show aC (gE z Z.mW) ?_;show aC (gE z Z.fW) ?_;show aC (uv z.g z.q z.i Z.iD AD) ?_;show aC (gE z Z.mV) ?_;show aC (gE z Z.qB) ?_;show aC (gE z Z.gR) ?_;show aC (gE z Z.k8) ?_;show aC (gE z Z.jX) ?_;show aC (gE z Z.mX) ?_;show aC (gE z Z.pE) ?_;show aC (gE z Z.pD) ?_;show aC (X0 z.g z.q z.i z.w PyProof.Rows.Boot.«ValueError» (FC (by decide+kernel) z.v)) ?_;show aZ
   .cases h)))))
def Bp:=nQ p 3 iA rfl ["_law_filling","_law_k","_law_draws_here","_law_found","_law_kind","_law_more","_law_at","_law_other"] Z.D47 λa nd=>(aM (wK nd (Xd Z.YJ y1))
  (aM (cJ nd (iO (iI xv i4) i4))
  (aM (dJ (lD xv i4)
   (aM (cJ nd (dY i4 (iO (dY (uX i4 (iI xv i4)) (iI xv i4)) i4)))
   (aI (cL (gP Z.dP (aC (XE (dY (dY xv (kE.pe (ID xv i4))) (kE.pe (ID (kE.pe (jT (aC i4 aZ))) i4))) XB (XD (dY (eE Z.cP y1) xv))) aZ)))))
   fI)
  (aM (dJ (lD xv i4)
   (aM (N0 (i:=6) nd (px4 (iO (iI xv i4) (dY (eE Z.cP y1) i4))))
   (aI (cL (gP Z.dP (aC (dY (dY (XE xv XB (XD xv)) (kE.pe (jT (aC (dY i4 (iO (iI xv i4) i4)) aZ)))) (XE xv (XD xv) XB)) aZ)))))
   fI)
  (aM (dJ (lD (eE Z.cP y1) i4)
   (aI (cL (i9 aZ)))
   fI)
  (aM (N0 (i:=6) nd (px4 (iO (iI xv i4) (eE Z.cP y1))))
  (aM (N0 (i:=7) nd (px4 (iO (iI xv i4) (eE Z.cP y1))))
  (aM (dJ (lD xv i4)
   (aI (Xx (i:=3) nd (Et (XE xv XB (XD xv)) (XE xv (XD (dY xv i4)) XB))))
   (aI (dJ (lD xv i4)
    (aI (EZ (oZ (iI (kE.pe (jT (aC i4 (aC (EV i4) (aC (EV xv) aZ))))) (iO (iI xv i4) i4))) xv))
    (aI (dJ (lD xv i4)
     (aI (EZ (oZ (dY xv i4)) xv))
     (aI (dJ (lD xv i4)
      (aI (EZ (px4 (iC (iI xv xv) i4)) xv))
      (aI (dJ (lD xv i4)
       (aI (EZ (px4 (dY (iI xv xv) i4)) xv))
       (aI (dJ (lD xv i4)
        (aM (EZ (oZ (iI xv xv)) xv)
        (aI (EZ (oZ (iI xv xv)) xv)))
        fI)))))))))))
  (aI (cL (gP Z.dP y1)))))))))))
def Kp:=nQ p 18 pT rfl ["_law_script","_law_order_here","_law_draws_here","_law_k","_law_number","_law_numbers","_law_word_here"] Z.D48 λa nd=>(aM (cJ nd (iC (EV i4) (iO (iI xv i4) i4)))
  (aM (dJ (lD (iO (ET (iI xv i4) i4) i4) i4)
   (aI (cJ nd (iC (EV i4) (aU (qm p Z).up a (aC (aU (ly p Z).up a (aC xv (aC i4 aZ))) (aC (iC (EU i4 i4) i4) (aC i4 aZ)))))))
   fI)
  (aM (cJ nd (iI (kE.pe (jT (aC i4 (aC (EV i4) (aC i4 (aC (aU (qm p Z).up a (aC (aU (ly p Z).up a (aC xv (aC i4 aZ))) (aC (EU i4 i4) (aC i4 aZ)))) aZ)))))) (iO (iI xv i4) i4)))
  (aM (cJ nd (gP Z.dP (aC (OE (d7 Z.dG (iI (kE.pe (jT (aC (eE Z.cP y1) (aC i4 (aC i4 aZ))))) (iO (iI xv i4) i4))) (iC (iO (iI xv (dY i4 xv)) i4) i4)) aZ)))
  (aM (lE rfl gm (gZ (i9 (aC s4 (aC s4 (aC s4 (aC s4 (aC s4 (aC s4 aZ)))))))) (jC nd)
   (aI (dJ (lR (mR (aU (ud p Z).up a (aC (aU (ql p Z).up a (aC xv (aC xv (aC xv (aC xv y1))))) (aC (i9 (aC s4 (aC s4 aZ))) aZ)))))
    (aI (cL b4))
    fI)))
  (aI (cL b4)))))))
def aEy{f:ah}{fd:fv}(F:YM K "law" "law" (top 72) f fd):lY P w K mg ω mP 20 f fd ["_law_script"] (HP K BX):=by
 have S:fE ["_law_script","_law_order_here","_law_n","_law_draws_here","_law_filling","_law_k","_law_spoilt_here","_law_told","_law_number","_law_far","_law_due","_law_great_here"] ["_law_script"] (aT (top 72)):=⟨rfl,rfl,rfl,by decide+kernel,rfl,by decide+kernel,by decide+kernel⟩;have nd:=S.nd;show Cv F S rfl rfl (λ_ _ _ _ _ _ a=>(aM (cJ nd (aU (Kv p Z).up a (aC xv (aC i4 (aC i4 (aC i4 aZ))))))
  (aM (cJ nd (eE Z.cP y1))
  (aM (cJ nd (aU (ue p Z).up a (aC (aU (ly p Z).up a (aC xv (aC i4 aZ))) (aC i4 (aC i4 aZ)))))
  (aM (dJ (lD (iO (iI xv i4) i4) i4)
   (aI (cL (aU (Kp p Z).up a (aC xv (aC xv y1)))))
   fI)
  (aM (cJ nd (aU (Ks p Z).up a (aC xv (aC i4 (aC xv (aC (aU (Kt p Z).up a (aC xv y1)) (aC i4 aZ)))))))
  (aM (cJ nd (dY (Wa rfl Z.IK (aC (dY (i9 (aC i4 aZ)) xv) aZ)) (aU (Bq p Z).up a (aC xv (aC i4 (aC i4 aZ))))))
  (aM (cJ nd (aU (Bp p Z).up a (aC xv (aC xv (aC (XE xv (XD i4) XB) aZ)))))
  (aM (dJ (lD (iO (ET (iI xv i4) i4) i4) i4)
   (aI (cJ nd (XE (aU (Bp p Z).up a (aC xv (aC xv (aC (XE xv (XD i4) XB) aZ)))) XB (XD i4))))
   fI)
  (aM (We (oZ (aU (ql p Z).up a (aC s4 (aC xv (aC xv (aC i4 y1)))))) (HQ rfl nd))
  (aM (dJ (lR (mR (aU (Kr p Z).up a (aC xv (aC xv y1)))))
   (aI (dJ (FK.pt (A5 (HL xv s4) (HM (HL xv s4))))
    (aI (cL b4))
    fI))
   (aI (dJ (HL xv s4)
    (aI (cL b4))
    (aI (dJ (lR (mR (aU (ud p Z).up a (aC (aU (ql p Z).up a (aC s4 (aC xv (aC xv (aC xv (aC (i9 aZ) aZ)))))) (aC (i9 (aC s4 y1)) aZ)))))
     (aI (cL b4))
     fI)))))
  (aM (cJ nd (iI (kE.pe (jT (aC (EV i4) (aC (iC (EV i4) (aU (qm p Z).up a (aC (aU (ly p Z).up a (aC xv (aC i4 aZ))) (aC (EU i4 i4) (aC i4 aZ))))) (aC (iC (Wh (EU i4 i4) i4) i4) aZ))))) (iO (iI xv i4) i4)))
  (aM (dJ (lR (mR (aU (ud p Z).up a (aC (aU (ql p Z).up a (aC s4 (aC xv (aC xv (aC xv (aC (i9 aZ) aZ)))))) (aC (i9 (aC s4 (aC s4 aZ))) aZ)))))
   (aI (cL b4))
   fI)
  (aM (cJ nd (i9 (aC s4 (aC s4 aZ))))
  (aM (dJ (lD xv i4)
   (aI (cJ nd (i9 (aC s4 (aC (i9 (aC (i9 aZ) aZ)) aZ)))))
   fI)
  (aM (cJ nd (dY (EU i4 i4) (aU (qm p Z).up a (aC (aU (ly p Z).up a (aC xv (aC i4 aZ))) (aC (EU i4 i4) (aC i4 aZ))))))
  (aI (cL (aU (ud p Z).up a (aC (aU (ql p Z).up a (aC s4 (aC xv (aC xv (aC i4 (aC (i9 aZ) aZ)))))) y1))))))))))))))))))))
end
theorem all_mk{l:qw}{w:ba}{K:ao}{mg:Q0d}{d:ah}(a:mg "law"=aa (.ref d)){A:h_}{o U y n j J x h q p L z O I:ah}{Y X:ah}(Z:Zs K mg A o U y n j J x h q p L z O I Y X):
  ∃fd:fv,(∀(s:ak) (v:ai),rj s fd ⟨[v],[]⟩ [("_law_script",v)]) /\∀ω:ay,K.In ω->ω.Ns g_ mg->lY l.prog w K mg ω mP 20 d fd ["_law_script"] (HP K BX):=by
 obtain @⟨_,fd,_,F,m,_⟩:=Z.D49;cases a.symm.trans m;show⟨fd,λs v=>?_,λω _ _=>aEy .mk Z F⟩;obtain⟨_,_,_,_,_,_,_,_,_,e,_⟩:=F.ex;rw[e];show .of_eq rfl
def aEz{K:ao}{H:Hp}{a:ah}{ns:Q0e}(o:Only H)(h:eZ K H a (ns.map V.int)):Scr K H a ns:=by
 rcases h with h|h
 .rcases h with h|⟨b,h⟩
  .rcases o a with z|⟨_,_,z⟩|⟨_,z⟩<;>rw[z] at h<;>cases h
  .exact .inl ⟨b,h⟩
 .exact .inr (.inr h)
theorem walk{l:qw}{q:bf}{loose:Q0g}{U:(aj->Option ai)->ay->Prop}{YP:ba->ay->Prop}{d:DefRec}{K:Params->ao}(A:l.most=aa 63)(m:d.params.defaults=[])
  (L:∀(w:ba) (h:ay),YP w h->(K w.params).In h) (y:∀w:ba,TabsOk (K w.params) q) (j:∀w:ba,noTabs (K w.params)=ae)
  (F:∀(w:ba) (mg:Q0d) (p:ah) (h:ay),(K w.params).In h->h.Ns g_ mg->mg d.name=aa (.ref p) ->
   ∃fd:fv,(∀(s:ak) (u:ai),rj s fd ⟨[u],[]⟩ [("_law_script",u)]) /\∀ω:ay,(K w.params).In ω->ω.Ns g_ mg->lY l.prog w (K w.params) mg ω mP 20 p fd ["_law_script"] (HP (K w.params) BX)):
  Hl q loose U YP l.row.toRowW d [] (λf vs=>Hf f vs) :=
 L2.aA0 (n:=63) (k:=20) (x:="_law_script") (CX:=λ_=>mP) (sp:=λw=>HP (K w.params) BX) A (by decide) m ⟨rfl,by decide,by decide⟩ L y j F
  (λ_ H a ns I o O=>⟨λa=>H a=af,[.j5 ns],λd=>d=.bl ae,λ_ h=>h,⟨_,_,rfl,⟨a,rfl,aEz o O⟩,rfl⟩,⟨_,U5 ns I,rfl⟩,λv H' d _ J e=>by subst e;show J⟩) λ_ _ _ _ _ z=>z
end K18
open PySem.W PyProof.Rows
namespace PySem.W.Fast
def tw2101029637814041911:=0
def tw16430737534327447422:=0
def tw7433868428910037332:=0
def tw15607608102660072668:=0
def tw951315691636809046:=0
def tw8192024033691918612:=0
def tw4742459680551626142:=0
def tw9815101194256435305:=0
def tw4544907738798474208:=0
def tw1220128096912143374:=0
def tw12157763754165700949:=0
def tw5740595357270157277:=0
def tw3231826497784697730:=0
def tw17763250358238601470:=0
def tw13549506014398560257:=0
def tw11503066703863693621:=0
def tw18260885480329386097:=0
def tw12836079483638592257:=0
def tw3151039849021894317:=0
def tw2995595633143164922:=0
def tw12575534540540270718:=0
def tw812803067429616782:=0
def tw2331993818830667368:=0
def tw18399216579431203030:=0
def tw1054437384258377819:=0
def tw954281282179180148:=0
def tw17072696080622595834:=0
def tw10371164169866774932:=0
def tw17070881606316580619:=0
def tw17125752426015148405:=0
def tw13555544687745521404:=0
def tw3363735732382926264:=0
def tw10180348803738883588:=0
def tw1287168529521488654:=0
def tw9963572932626239745:=0
def tw16154021703167588925:=0
def tw8928110375005603911:=0
def tw9193281626221021892:=0
def tw3381244105326813112:=0
def tw9583478347539659427:=0
def tw8576985540285147884:=0
def tw746882475473573901:=0
def tw2618424319012806779:=0
def tw11963231690121117114:=0
def tw57595231719497063:=0
def tw3052750939555263422:=0
def tw1445708141590030164:=0
def tw12448506376880182681:=0
def tw4186902173226200499:=0
def tw6547721408835775718:=0
def tw11759594962968199325:=0
def tw12043960071828177749:=0
def tw2217619525952103552:=0
def tw4534503572581688003:=0
def tw180786783787984060:=0
def tw14372731792674673160:=0
def tw5585650863921204095:=0
def tw14248961082338325790:=0
def tw5164909358627868705:=0
def tw9533562385012134254:=0
def tw4770793077946793433:=0
def tw15841210424484729172:=0
def tw11713502959073989022:=0
def tw1106724696648293996:=0
def tw5784621727163877132:=0
def tw2100472345116932357:=0
def tw10393255874929621017:=0
def tw14529090297716502520:=0
def tw13571937751268049356:=0
def tw3487590928628395686:=0
def tw18427210196758950945:=0
def tw1972306577807952850:=0
def tw7604364067926461367:=0
def tw1510803092498376070:=0
def tw17249063014127259671:=0
def tw5869424647060727312:=0
def tw5326393838933543734:=0
def tw7052734600328435974:=0
def tw8484784016718640677:=0
def tw2255550837382269275:=0
def tw8399226848490754104:=0
def tw3772930281734157027:=0
def tw2186161377260208123:=0
def tw17574577380096946722:=0
def tw4449756999158147479:=0
def tw8286398971373394626:=0
def tw10221116976035473334:=0
def tw2531974651471276151:=0
def tw15277057933316897851:=0
def tw12214431304552801501:=0
def tw15233036222211885951:=0
def tw7190054779484330269:=0
def tw6201613569115741423:=0
def tw12579952562409324100:=0
def tw11393595053819549523:=0
def tw6466983630381753311:=0
def tw12172207797360683910:=0
def tw15678588941022774492:=0
def tw239952104798364164:=0
def tw6879323873944547414:=0
def tw16527811074692064987:=0
end PySem.W.Fast
set_option maxRecDepth 100000 in
set_option maxHeartbeats 0 in
theorem PySem.Challenge.cw_risecount_k18_numbers_refused_holds : PySem.Challenge.rw_risecount_k18_numbers_refused.Holds := by
 w_on; o_law; k_head; (case hw=>w_witness2)
 k_fill
 show K18.walk (l := PySem.Challenge.rw_risecount_k18_numbers_refused) rfl rfl (fun w h Y => PySem.W.km_in_of Y) ?hTbs ?hNtb ?F
 case hTbs =>
  intro w
  refine' L4.tabs_ok (L4.RT ?t1 ?t2 ?t3 ?t4 ?t5) ?nd ?rc
  (case t1=>(refine' L4.IJ ?p1 ?p2 ?p3 ?p4 ?p5; (case p1=>k_is); (case p2=>k_is); (case p3=>show rfl); (case p4=>k_is); (case p5=>show rfl)))
  (case t2=>(refine' L4.tQ ?p1; (case p1=>k_is)))
  (case t3=>(refine' L4.tQ ?p1; (case p1=>k_is)))
  (case t4=>(refine' L4.tQ ?p1; (case p1=>k_is)))
  (case t5=>(refine' L4.tQ ?p1; (case p1=>k_is)))
  (case nd=>decide)
  (case rc=>(intro t m; rcases List.mem_cons.1 m with rfl | m<;>first | show ⟨_,rfl⟩ | cases m))
 case hNtb =>
  intro w
  kernel_rfl
 case F =>
  intro w mg o h KX G n
  refine' K18.all_mk n ⟨?pC,?gR,?mV,?pD,?pE,?fW,?mW,?qB,?mX,?mY,?jX,?k8,?pF,?iD,?pG,?k9,?FG,?rL,?rr,?pH,?rM,?rN,?aB2,?l7,?_,?_,?_,?_,?_,?_,?_,?_,?_,?_,?_,?_,?_,?_,?_,?_,?_,?_,?_,?_,?_,?_,?_,?_,?_,?_,?_,?_,?_,?_,?_,?_,?_,?_,?_,?_,?_,?_,?_,?_,?_,?_,?_,?_,?_,?_,?_,?_,?_,?_,?_,?_,?_,?_,?_,?_,?_,?_,?_,?_,?_,?_,?_,?_⟩
  (case' pC | gR | mV | pD | pE | fW | mW | qB | mX | mY | jX | k8 | pF | iD | l7=>show PySem.W.mg_of KX G (by k_is))
  (case' pG | k9 | FG | rL=>show L5.aAz (by k_exc))
  (case rr=>show ⟨by k_is,by k_is,by k_is⟩)
  (case' pH | rM | rN=>show ⟨⟨by k_is,by k_is,by k_is,by k_is,by k_is,by k_is,by k_is,by k_is⟩,by k_is,by k_is,?_⟩; (repeat refine' And.intro ⟨by rfl,by k_is,by k_is,by k_is⟩ ?_); trivial)
  (case aB2=>(refine' L4.IJ ?p1 ?p2 ?p3 ?p4 ?p5; (case p1=>k_is); (case p2=>k_is); (case p3=>show rfl); (case p4=>k_is); (case p5=>show rfl)))
  all_goals first | show PySem.W.mg_none_of KX G (by k_is) | (refine' L4.aHV KX G ?b ?a ?l ?c ?k; (case a=>k_is); (case l=>k_is); (case c=>k_is); (case k=>k_is); (case b=>(intro d j; first | (obtain ⟨_,rfl⟩:=L4.aBT d j; rfl) | (obtain ⟨_,_,rfl⟩:=L4.aBU d j; rfl) | (obtain ⟨_,_,_,rfl⟩:=L4.aBV d j; rfl) | (obtain ⟨_,_,_,_,rfl⟩:=L4.aBW d j; rfl) | (obtain ⟨_,_,_,_,_,rfl⟩:=L4.aBX d j; rfl))))
end
