import PyProof.Rows.All
import PySem.Str
import PySem.Sem
import PyProof.StrBlockL
import PyProof.Rows.Walk
import Wide.All
import OpenK.AllK
import Wide.FinOn
import Lean
import PyProof.EqAt
import PyProof.EqKinds
import PyProof.TupleCall
import PyProof.SeqRoads2
import PyProof.ExcArgs
import KE.KIsAll
import PyProof.DictIter
import PyProof.Rows.CountFlat
import PyProof.NeKinds
import KE.KSortKey
import KE.KMinKey
import KE.KIntText
import PyProof.Rows.FStr
import PyProof.Rows.StrJoin2
import PyProof.DictItems
import PySem.Challenge.RW_risecount_k52_whole_alike_or_apart
set_option Elab.async false
set_option linter.all false
set_option maxRecDepth 100000
set_option maxHeartbeats 3999999
open PySem.W (CodeHd OpenLaw codeIn fnOf instObj keepIn kitOne lookIn methodObj noTabs tabObj)
open And renaming intro->zb
open Array renaming forIn_toList->a27,getElem?_eq_getElem->lj,getElem?_eq_none->a26,getElem?_toList->Gv,length_toList->Gu,toList->a25
open Array.Perm renaming refl->rf
open BEq renaming beq->Gs
open Bool renaming and_eq_true->gn,and_true->za,eq_iff_iff->g_,false->af,false_and->y_,false_eq_true->rb,false_ne_true->bt,false_or->yz,not_eq_true->a24,not_eq_true'->Gr,not_false->Gq,not_true->Gp,or_eq_true->Gn,true->ae,true_and->lh,true_or->a23
open Classical renaming byContradiction->Gm,epsilon->a22,epsilon_spec->a21,propDecidable->Gk
open Decidable renaming decide->Zv
open False renaming elim->jl
open ForInStep renaming done->a20,yield->ml
open Function renaming comp->yy,comp_def->a4d
open Int renaming add_mul->Gj,add_zero->uv,ediv_one->a2Z,emod_lt_of_pos->k_,emod_nonneg->jk,eq_of_mul_eq_mul_right->a2Y,le_of_lt->a2X,le_total->a2W,le_trans->yx,mul_add->a2V,mul_assoc->yw,mul_comm->ra,mul_one->Gi,mul_sub->a2U,mul_zero->a2T,natAbs_mul->a2S,ne_of_gt->a2R,pow_pos->a2Q,sub_zero->a2P,toNat_natCast->jt,zero_add->jj,zero_mul->Gh
open List renaming Nodup->yu,all_cons->kz,all_eq_true->gx,all_map->q_,any_cons->ji,any_eq_true->pk,any_map->qz,any_toArray->a2L,append_assoc->mj,append_inj'->yt,append_nil->jh,cons_append->yr,contains_cons->a2J,contains_iff_mem->a2I,drop_append_of_le_length->a2H,drop_drop->a2G,drop_eq_getElem_cons->pj,drop_eq_nil_iff->a2F,drop_eq_nil_of_le->Ge,drop_length->Gd,drop_replicate->a2E,drop_zero->ur,eq_nil_of_length_eq_zero->a2D,eq_nil_or_concat->Gb,eq_of_mem_replicate->a2C,ext_getElem?->mi,filterMap->a2B,filterMap_cons->ph,filterMap_map->yq,filter_append->Ga,filter_congr->yp,filter_cons->qy,filter_eq_nil_iff->a2A,filter_filter->a2z,filter_map->F_,find?_cons->gw,findSome?_cons->a2y,flatMap_append->uq,flatMap_cons->qx,flatMap_singleton->a2x,flatten_cons->pf,foldl->Fz,foldl_cons->pd,forIn_cons->qw,forIn_nil->yo,getD_eq_getElem?_getD->fg,getElem?_append_left->jg,getElem?_append_right->jf,getElem?_cons_succ->o_,getElem?_cons_zero->uo,getElem?_drop->ym,getElem?_eq_getElem->ba,getElem?_eq_none->gg,getElem?_eq_some_iff->cg,getElem?_map->cf,getElem?_nil->Fy,getElem?_range->js,getElem?_replicate->mh,getElem?_set_ne->je,getElem?_set_self->ku,getElem?_take_of_lt->um,getElem?_zipIdx->uk,getElem?_zip_eq_some->qv,getElem_idxOf->a2w,getElem_inj->yj,getElem_map->a2v,getElem_mem->mf,getElem_of_mem->uj,getElem_toArray->a2u,idxOf_lt_length_iff->a2t,length->oz,length_append->ck,length_cons->cy,length_drop->ui,length_eq_zero_iff->nq,length_filter_le->ic,length_map->au,length_nil->me,length_pos_iff->a2s,length_range->jr,length_replicate->nk,length_set->gz,length_singleton->md,length_take->jb,length_zip->a2r,lookup_append->Fx,lookup_cons->qu,map->yi,map_append->e_,map_congr_left->gf,map_cons->bp,map_inj_right->a2q,map_map->bx,map_nil->j_,mem_append->gu,mem_append_left->kr,mem_append_right->il,mem_cons->bz,mem_cons_of_mem->dq,mem_cons_self->cp,mem_filter->dm,mem_filterMap->yh,mem_flatMap->nj,mem_iff_getElem?->ni,mem_map->de,mem_map_of_mem->yg,mem_of_getElem?->ik,mem_range->d_,mem_singleton->cm,nil_append->uh,nil_perm->a2p,nodup_append->ko,nodup_cons->ma,nodup_iff_pairwise_ne->a2o,nodup_nil->j7,nodup_range->Fw,not_lt->ug,not_mem_nil->oy,of_mem_zip->uf,pairwise_and_iff->a2n,pairwise_cons->fv,pairwise_iff_getElem->Fv,pairwise_lt_range->a2m,pairwise_map->ox,pairwise_singleton->Fu,perm_ext_iff_of_nodup->Ft,perm_nil->Fs,range->bh,range_succ->Fq,range_succ_eq_map->ou,replicate->fq,replicate_succ->i_,replicate_zero->Fp,reverse_cons->Fo,set_append_right->a2l,set_cons_succ->Fn,set_cons_zero->Fm,set_nil->Fl,singleton_append->Fj,size_toArray->cn,sum->a2k,sum_append->yf,sum_cons->l_,sum_nil->a2j,take_add_one->Fi,take_append_drop->Fh,take_length->Fg,take_of_length_le->oq,take_sublist->Ff,take_succ->ue,toArray->ye,zip_append->a2i,zip_cons_cons->Fe,zip_map->a2h
open List.Nodup renaming idxOf_getElem->a4c,sublist->a2O
open List.Pairwise renaming filter->uu,imp_of_mem->Gg,map->pw,nil->Gf
open List.Perm renaming cons_inv->a4b,of_eq->a2N,refl->a4a,swap->a2M,trans->a39
open List.cons renaming inj->a38,injEq->a2K
open Nat renaming add_assoc->a2g,add_mul->Fd,le_add_right->kn,le_of_eq->nh,le_of_lt->km,le_refl->bj,le_succ->lr,le_trans->gb,lt_asymm->a2f,lt_irrefl->ib,lt_log2_self->a2e,lt_of_le_of_lt->ud,lt_of_lt_of_le->f_,lt_succ_of_lt->uc,lt_succ_self->qt,lt_trans->a2d,lt_trichotomy->a2c,min_le_right->a2b,mul_le_mul_right->a2a,ne_of_gt->iz,ne_of_lt->gd,pow_add->a19,pow_le_pow_right->qr,strongRecOn->yd,sub_self->yc,sub_zero->Fc,succ_mul->Fb,succ_ne_self->a18,zero_add->qq,zero_le->jq
open Ne renaming symm->dh
open Option renaming bind_none->E_,bind_some->cj,getD_none->a17,isNone_none->a16,isSome_map->yb,join_none->Ez,join_some->Ey,map_eq_some_iff->iy,map_none->Ex,map_some->oo,none->ab,some->aa
open Option.some renaming inj->c_
open Or renaming inl->df,inr->cb
open Prod renaming ext->jz,ext_iff->a15,fst->kl,snd->ya
open Prod.mk renaming inj->a14
open PyProof.Rows renaming AllBare->lp,Call_->ub,IntsAre->jy,IsTup->gr,Subscript_->x_,args_list_sort->a13,args_sorted1->a12,args_tuple_getitem->a11,boot_all->a37,boot_any->a36,boot_bool->Eu,boot_int->Et,boot_isinstance->a35,boot_list->a34,boot_max->a33,boot_min->a32,boot_range->Es,boot_sorted->ua,boot_str->a31,boot_sum->a30,boot_tuple->Er,bubble_perm->a10,callWith_builtin1->a3Z,callWith_type1->qp,entry_list_sort->a1Z,entry_sorted->a1Y,entry_tuple_getitem->a1X,kind_sorted->a1W,listUpdate_at->a1V,plain_sorted->a1U,seqEpoch_at->a1T,slicePart_none->a1S,slot_list_sort->a1R,slot_tuple_getitem->om,sortedAll_at->Ep,sortedAll_old->Eo,subscriptTail_builtinR->a1Q,truthy_tuple->a1P,tupleItemsOf_->a1O
open PyProof.Rows.IsTup renaming new->Ew
open PySem renaming Addr->ag,Around->bq,BindsTo->qo,DictEntry->qm,Env->fz,Expr->ar,FuncData->gq,Heap->a_,IntMulOk->tu,IsEnum->tq,IsItemIter->Ed,IsItemIterOut->a1e,IsPair->qi,IsPart->kh,IsRangeIter->a1d,Keyword->fw,NameKind->ij,Obj->aw,Paired->gm,PassesOwn->qg,Pos->bg,Program->bf,Scope->gk,Shared->ak,Stmt->cz,Str->aj,Tok->gy,Value->ai,Within->a0L,World->az,assignEach->cq,backTo->dg,cLine->cc,call->Du,call_function_tree->a0K,call_meets->my,call_meetsIn->a0J,call_range_1->a0I,codeAny->mx,codeAny_builtin->mw,codeAny_mono->Dt,concat_meets->Ds,eqIsQuiet_byValue->a0H,evalPart_none->Dr,evalPart_some->a0G,fitsIndex_both->a0F,intBits_le_64->a0E,isSubtype_tuple_tuple->a0D,keywordEach->ir,mainGlobals->h_,mem_of_lookup->kc,model->ay,name_of_addr->a0C,noFill_tuple_add->Dq,plainId_quiet->og,pushCells_keeps->a0B,rangeSize_one->a0A,seqIndex_neg->Dp,seqIndex_of->Dm,seq_tuple_add->Dl,sizeLine->bc,sizeLine_eq->gp,slot_list_getitem->a0z,starEach->aq,swapsWith->ft,tupleKind_room_in1->a0y,typeIs_int->Dk,wpAny->ax,wpAny_Assign_Subscript->a0x,wpAny_Call_Name_kw->Dj,wpAny_Call_method->a0w,wpAny_Dict_empty->a0v,wpAny_Name->Di,wpAny_Slice->a0u,wpAny_assign_Name->a0t,wpAny_attempt->a0s,wpAny_bind->av,wpAny_callSpecial?_slot->qc,wpAny_call_entry->iq,wpAny_eqBool_int->a0r,wpAny_execs_cons->a0q,wpAny_execs_nil->xh,wpAny_field->n_,wpAny_getItem_heap->a0p,wpAny_getItem_list_slice->a0o,wpAny_getItem_of->a0n,wpAny_handled->a0m,wpAny_holding->ju,wpAny_isInstance->Dh,wpAny_isTrue_Compare1->a0l,wpAny_letGo->a0k,wpAny_loadPart'->ie,wpAny_mono->mv,wpAny_newList->Dg,wpAny_newObj_type->tj,wpAny_passesOwn->nz,wpAny_pure->bb,wpAny_pyIter_enum->xg,wpAny_pyIter_list->De,wpAny_pyIter_slot->a0j,wpAny_pyIter_tuple->xf,wpAny_pyIter_zip->a0i,wpAny_rule->ny,wpAny_seqItems->Dd,wpAny_sequenceKey->a0h,wpAny_setField->a0g,wpAny_setItem_heap->a0f,wpAny_setItem_pairs->a0e,wpAny_specialOf->Dc,wpAny_standAt->C_,wpAny_throw->a0d,wpAny_truthy_bool->kb,wpAny_truthy_list->a0c,wpAny_tupleItemsOf->a0b,wpAny_typeOf->Cz
open PySem.Around renaming under_plainId->ng
open PySem.AutoListH renaming list___mul___list_int_3->a3Y
open PySem.AutoSeq1 renaming list_extend_list_list_0->a3X,sub_list_list->a3W
open PySem.Builtin.Dict_items renaming ownsTuple->a3V
open PySem.Builtin.List renaming listTooLong->xx
open PySem.Builtin.Range renaming rangeSize->a1N
open PySem.Builtin.Slice renaming sliceAdjust->En,sliceApplied->a1M,sliceFields->a3U,slicePartIndex->a3T,slicePlaces->xw
open PySem.Builtin.SmallTypes renaming nextOf->a1L
open PySem.Builtin.Tuple renaming tupleExact->xv,tupleHashOf->a1K,tupleIsExact->a3S,tupleItemsOf->a1J
open PySem.Calls renaming Name_function_global->a1I,callWith_builtin->Em,call_function_entry->a1H,evalArgs_plain->a1G,spliced_cons->a1F,spliced_nil->a1E
open PySem.DictEntry renaming refKey->a3R
open PySem.EqMixed renaming eq_bool_str->a3Q,eq_int_str->a3P,eq_str_bool->a3O,eq_str_int->a3N,ne_bool_str->a3M,ne_int_str->a3L,ne_str_bool->a3K,ne_str_int->a3J
open PySem.EqNone renaming eq_bool_none->a3I,eq_int_none->a3H,eq_none_bool->a3G,eq_none_int->a3F,eq_none_none->a3E,eq_none_str->a3D,eq_str_none->a3C,ne_bool_none->a3B,ne_int_none->a3A,ne_none_bool->a3z,ne_none_int->a3y,ne_none_none->a3x,ne_none_str->a3w,ne_str_none->a3v
open PySem.F renaming args_dict_get_2->a1D,args_dict_itemiterator_next_1->a1C,args_list_lt_2->a1B,args_tuple_add_2->El,args_tuple_iterator_next_1->a1A,entry_all_loop->a1z,entry_any_loop->a1y,entry_dict_get->a1x,entry_dict_itemiterator_next->a1w,entry_list_lt->a1v,entry_tuple_add->Ek,entry_tuple_iterator_next->a1u,plainAttrs_dict->a1t,plainAttrs_list->xu,plain_all_loop->xt,plain_any_loop->xr,plain_list_iadd->a1s,slot_dict_get->Ej,slot_dict_getitem->a1r,slot_dict_itemiterator_iter->a1q,slot_dict_itemiterator_next->ql,slot_dict_items->a1p,slot_dict_items_iter->a1o,slot_int_rmul->a1n,slot_list_append->a1m,slot_list_count->a1l,slot_list_extend->a1k,slot_list_index->a1j,slot_list_lt->Ei,slot_list_pop->Eh,slot_tuple_add->Eg,slot_tuple_eq->a1i,slot_tuple_iterator_next->xq,type_list_pop->a1h
open PySem.Heap renaming ExtBut->a1g,SameBut->qk,get?_push_of_some->di,get?_push_size->gc,get?_update_other->Ee,get?_update_self->t_,lt_size->b_,size_push->tw,size_update->qj
open PySem.Heap.DictOf renaming new->a3u
open PySem.Heap.IsSliceOf renaming new->a1f
open PySem.Heap.SameBut renaming update->Ef
open PySem.IsL renaming update->a3t
open PySem.Manifest renaming find?->a3s
open PySem.MeetsSeq renaming list_pop_at->a3q
open PySem.MeetsSeq.EqGives renaming int->a3r
open PySem.MeetsSeq3 renaming entry_eq_loop->a1c,plain_eq_loop->xp
open PySem.NameKind renaming cell->jw,free->jo
open PySem.Obj renaming data_mapFields->a1b,isFreed_of_fields->a1a,mapFields->a09,mapSeq->jn,putSet->a08
open PySem.Paired renaming length->qh,snoc->xo
open PySem.PassesOwn renaming never->fu
open PySem.SeqAt renaming EqAt->kg,in_listAt->a04,in_tupleAt->a03,notIn_listAt->a02,notIn_tupleAt->a01
open PySem.SeqAt.EqAt renaming bool_bool->a3p,bool_int->a3o,bool_none->a3n,bool_str->a3m,int_bool->a3l,int_int->Ec,int_none->a3k,int_str->a07,int_tuple->a3j,none_bool->a3i,none_int->a3h,none_str->a3g,of_refs->Eb,same->qf,str_bool->a3f,str_int->a06,str_none->a3e,str_str->Ea,str_tuple->a3d,tuple_int->a3c,tuple_str->a3b
open PySem.SeqAt.RcAt renaming lists->a3a,lists_lengths->a29,tuples->a05
open PySem.SeqRoads2.EqGives renaming str->a28
open PySem.Str renaming ofString->xn
open PySem.Value renaming bool->oj,float->a00,int->jv,isInt->a0Z,isStrOf->a0Y,none->ke,ref->cx,str->xm,type->m_
open PySem.W renaming Frag->ao,KasT->oi,OpenLaw->qe,WalkO->D_,cellsFrom_some->a0S,findIn->a0R,kas_asc->ig,kas_ask->tm,kas_bin->xk,kas_count->xj,kas_desc->oh,kas_descPart->xi,kas_place->iw,kas_rev->ia,kas_sort->qd,kas_tail3->Dz,kat_cons->Dy,kat_yes->Dx,kia_one->iu,kitx_dict->a0Q,kitx_list->Dw,kitx_tuple->a0P,nsIn->a0O,plainGet->a0N,tabIn->Dv
open PySem.W.KasFin renaming intro->a0X
open PySem.W.KasT renaming ret->mz
open PySem.W.KatTups renaming cons->a0W
open PySem.W.UpdF renaming head->a0V
open PySem.W.WData renaming int->a0U
open PySem.W.WShape renaming has->a0T
open PySem.Walks renaming list->a0M
open Sum renaming inl->bu,inr->ip
open Sum.inl renaming inj->xb,injEq->a0a
open Sum.inr renaming inj->Cy
open True renaming intro->jm
open PySem
set_option genSizeOf false
set_option compiler.extract_closed false
set_option bootstrap.genMatcherCode false
noncomputable section
local macro_rules|`(tactic|walk_at "0")=>`(tactic|first|exact .inl rfl|exact .inr rfl)
local macro_rules|`(tactic|walk_at "1")=>`(tactic|first|exact df rfl|exact cb (df rfl)|exact cb (cb rfl))
local macro_rules|`(tactic|walk_at "2")=>`(tactic|first|exact .inr rfl|exact .inl rfl)
abbrev Q0a:=List (List Int)
abbrev Q0b:=List (ag×aw)
abbrev Q0c:=ai->ak->Prop
abbrev Q0d:=aj->Option ai
abbrev Q0e:=List Int
abbrev Q0f:=List ai
abbrev Q0g:=List aj
abbrev Z_.{u}:=@if_pos.{u}
abbrev Zz.{u}:=@if_neg.{u}
abbrev Zy:=@decide_eq_false
abbrev Zx:=@decide_eq_true
abbrev Zw.{u}:=@absurd.{u}

namespace L3
inductive D where
 |non
 |bl (b:Bool)
 |int (i:Int)
 |str (x:aj)
 |tup (xs:List D)
 |lst (xs:List D)
 |jD (ns:Q0e)
 |gA (ks:List (Sum Int aj)) (xs:List D)
 |dP (q:Nat->aw->Prop) (ks:List (Sum (Sum Int aj) (List (Sum (Sum Int aj) (List (Sum Int aj)))))) (xs:List D)
 |exc (c:aj) (a:Nat)
 |rws (xs:Q0a)
mutual
noncomputable def D.zJ:D->Bool
 |.non=>ae
 |.bl _=>ae
 |.int _=>ae
 |.str _=>ae
 |.tup ds=>sC ds
 |.lst _=>af
 |.jD _=>ae
 |.gA _ _=>af
 |.dP _ _ _=>af
 |.exc _ _=>ae
 |.rws _=>af
noncomputable def sC:List D->Bool
 |[]=>ae
 |d::ds=>d.zJ&&sC ds
end
abbrev dC:=List (Option D)
inductive Sv where
 |no
 |ro (d:D)
 |ow (d:D)
abbrev bH:=List Sv
noncomputable def Sv.all:Sv->Option D
 |.no=>ab
 |.ro d=>aa d
 |.ow d=>aa d
noncomputable def Sv.rd:Sv->Option D
 |.ro d=>aa d
 |_=>ab
def bC(ρ:bH):dC:=ρ.map Sv.all
def gR(ρ:bH):dC:=ρ.map Sv.rd
end L3
namespace L4
open L3
inductive M (α:Type) where
 |no
 |ex (c:aj)
 |ok (a:α)
inductive Out where
 |no
 |nx (ρ:bH)
 |rt (d:D)
 |ex (c:aj)
abbrev EF:=dC->Option D
abbrev TF:=dC->Option Bool
abbrev AF:=dC->Option (List D)
abbrev XF:=bH->Option (bH×D)
abbrev SF:=bH->Out
abbrev iP:=List D->M D
def mF:Nat:=16777216
def aA(i:Nat):EF:=λρ=>(ρ[i]?).join
def eC(d:D):EF:=λ_=>aa d
def aC(g:D->D->Option D)(a b:EF):EF:=λρ=>(a ρ).bind λx=>(b ρ).bind λy=>g x y
noncomputable def mH:D->Option Bool
 |.bl b=>aa b
 |.lst ds=>aa (!ds.isEmpty)
 |.tup ds=>aa (!ds.isEmpty)
 |_=>ab
def tV(f:EF):TF:=λρ=>(f ρ).bind mH
def sD(t:TF):TF:=λρ=>(t ρ).map (!·)
def kD(t u:TF):TF:=λρ=>(t ρ).bind λb=>if b=ae then u ρ else aa af
def G9(t u:TF):TF:=λρ=>(t ρ).bind λb=>if b=ae then aa ae else u ρ
noncomputable def t8:D->Option Bool
 |.bl b=>aa b
 |_=>ab
def uP(a b:EF):EF:=λρ=>(a ρ).bind λx=>(t8 x).bind λc=>if c=ae then b ρ else aa (.bl af)
def mq(a b:EF):EF:=λρ=>(a ρ).bind λx=>(t8 x).bind λc=>if c=ae then aa (.bl ae) else b ρ
def vP(a:EF):EF:=λρ=>(a ρ).bind λx=>(t8 x).map λc=>.bl (!c)
def KO(t:TF)(a b:EF):EF:=λρ=>(t ρ).bind λc=>if c=ae then a ρ else b ρ
noncomputable def X2:D->Option D
 |.int i=>aa (.int (-i))
 |_=>ab
def sE(a:EF):EF:=λρ=>(a ρ).bind X2
def HA(f g:D->D->Option D)(a b c:EF):EF:=λρ=>(a ρ).bind λx=>(b ρ).bind λy=>(f x y).bind λz=>(t8 z).bind λk=>if k=ae then(c ρ).bind λw=>g y w else aa (.bl af)
noncomputable def HB(g:Int->Int->D):D->D->Option D
 |.int i,.int j=>aa (g i j)
 |_,_=>ab
noncomputable def oK(c:Int->Int->Bool)(g:Int->Int->D):D->D->Option D
 |.int i,.int j=>if c i j=ae then aa (g i j) else ab
 |_,_=>ab
noncomputable def bL:D->D->Option D
 |.int i,.int j=>aa (.int (i+j))
 |.lst a,.lst b=>if a.length+b.length<=mF then aa (.lst (a++b)) else ab
 |.tup a,.tup b=>if a.length+b.length<=mF then aa (.tup (a++b)) else ab
 |.str a,.str b=>if a.length+b.length<=mF then aa (.str (a++b)) else ab
 |_,_=>ab
def gT:D->D->Option D:=HB λi j=>.int (i-j)
def vQ(i j:Int):Bool:=Zv (i.natAbs<18446744073709551616)||Zv (j.natAbs<18446744073709551616)||Zv (i.natAbs.log2+j.natAbs.log2<=134217700)
def mulM:D->D->Option D:=oK vQ λi j=>.int (i*j)
def fB:D->D->Option D:=oK (λ_ j=>Zv (0<j)) λi j=>.int (i%j)
def uQ:D->D->Option D:=oK (λ_ j=>Zv (0<j)&&Zv (j.natAbs<1073741824)) λi j=>.int (i/j)
def xa:D->D->Option D:=oK (λi j=>Zv (0<=j)&&Zv (j.natAbs<=1000000)&&Zv (i.natAbs<18446744073709551616)) λi j=>.int (i^j.toNat)
def X3:D->D->Option D:=HB λi j=>.bl (Zv (i<j))
def leM:D->D->Option D:=HB λi j=>.bl (Zv (i<=j))
def uR:D->D->Option D:=HB λi j=>.bl (Zv (j<i))
def geM:D->D->Option D:=HB λi j=>.bl (Zv (j<=i))
noncomputable def Cw:D->D->Option Bool
 |.int i,.int j=>aa (Zv (i=j))
 |.bl i,.bl j=>aa (Zv (i=j))
 |.str i,.str j=>aa (Zv (i=j))
 |.non,.non=>aa ae
 |_,_=>ab
def qB:D->D->Option D:=λx y=>(Cw x y).map .bl
def G6:D->D->Option D:=λx y=>(Cw x y).map λb=>.bl (!b)
noncomputable def qC:D->Bool
 |.non=>ae
 |_=>af
def XW:D->D->Option D:=λx y=>if qC y=ae then aa (.bl (qC x)) else ab
noncomputable def intsOf:List D->Option (List Int)
 |[]=>aa []
 |.int i::ds=>(intsOf ds).map (i :: ·)
 |_::_=>ab
def jO(neg:Bool):D->D->Option D
 |.int i,.tup ds=>(intsOf ds).map λns=>.bl (if neg then !ns.contains i else ns.contains i)
 |.int i,.lst ds=>(intsOf ds).map λns=>.bl (if neg then !ns.contains i else ns.contains i)
 |_,_=>ab
def NJ(n:Nat)(i:Int):Option Nat:=if 0<=i then(if i<n then aa i.toNat else ab) else if -(n:Int)<=i then aa (i+n).toNat else ab
def yN{α:Type}(xs:List α)(i:Int):Option α:=(NJ xs.length i).bind λj=>xs[j]?
noncomputable def bI:D->D->Option D
 |.lst a,.int i=>yN a i
 |.tup a,.int i=>yN a i
 |.jD a,.int i=>(yN a i).map D.int
 |_,_=>ab
noncomputable def uS:D->Option (Sum Int aj)
 |.int i=>aa (.inl i)
 |.str x=>aa (.inr x)
 |_=>ab
def iH(ks:List (Sum Int aj))(ds:List D)(k:Sum Int aj):Option D:=((ks.zip ds).find? λkv=>Zv (kv.1=k)).map (·.2)
def l7:D->D->Option D
 |.gA ks ds,d=>(uS d).bind λk=>iH ks ds k
 |_,_=>ab
def aF:AF:=λ_=>aa []
def aB(a:EF)(t:AF):AF:=λρ=>(a ρ).bind λd=>(t ρ).bind λds=>aa (d::ds)
def cB(t:AF):EF:=λρ=>(t ρ).bind λds=>if ds.length<=mF then aa (.tup ds) else ab
def fE(t:AF):EF:=λρ=>(t ρ).bind λds=>if ds.length<=mF then aa (.lst ds) else ab
def bP(g:List D->Option D)(t:AF):EF:=λρ=>(t ρ).bind g
noncomputable def DN:M D->Option D
 |.ok d=>aa d
 |_=>ab
def aL(R:iP)(t:AF):EF:=λρ=>(t ρ).bind λds=>DN (R ds)
noncomputable def bT:List D->Option D
 |[.lst a]=>aa (.int a.length)
 |[.tup a]=>aa (.int a.length)
 |[.jD a]=>aa (.int a.length)
 |_=>ab
noncomputable def dF:List D->Option D
 |[.lst a]=>aa (.tup a)
 |[.tup a]=>aa (.tup a)
 |_=>ab
noncomputable def Cv:List D->Option D
 |[.lst a]=>aa (.lst a)
 |[.tup a]=>aa (.lst a)
 |_=>ab
noncomputable def insI(a:Int):List Int->List Int
 |[]=>[a]
 |b::l=>if a<=b then a::b::l else b::insI a l
def sortI:List Int->List Int
 |[]=>[]
 |a::l=>insI a (sortI l)
def eM:List D->Option D
 |[.lst a]=>(intsOf a).bind λns=>if ns.length<64 then aa (.lst ((sortI ns).map D.int)) else ab
 |_=>ab
def HC:List D->Option D
 |[.lst a]=>(intsOf a).map λns=>.int ns.sum
 |_=>ab
def pA:List D->Option (List Bool)
 |[]=>aa []
 |d::ds=>(mH d).bind λb=>(pA ds).map (b :: ·)
def allM:List D->Option D
 |[.lst a]=>(pA a).map λbs=>.bl (bs.all id)
 |_=>ab
def anyM:List D->Option D
 |[.lst a]=>(pA a).map λbs=>.bl (bs.any id)
 |_=>ab
noncomputable def tyM:D->String
 |.non => "NoneType"
 |.bl _ => "bool"
 |.int _ => "int"
 |.str _ => "str"
 |.tup _ => "tuple"
 |.lst _ => "list"
 |.jD _ => "list"
 |.gA _ _ => "dict"
 |.dP _ _ _ => "dict"
 |.exc _ _ => "NoneType"
 |.rws _ => "NoneType"
def HD(T:String)(d:D):Bool:=tyM d == T||(T == "int"&&tyM d == "bool")
noncomputable def HE:D->Bool
 |.exc _ _=>af
 |.dP _ _ _=>af
 |.rws _=>af
 |_=>ae
def l8(T:String)(a:EF):EF:=λρ=>(a ρ).bind λd=>if HE d=ae then aa (.bl (HD T d)) else ab
def a9(lo:Int)(n:Nat):List Int:=(bh n).map λk:Nat=>lo+(k:Int)
def Qx(hi:Int)(n:Nat):List Int:=(bh n).map λk:Nat=>hi-(k:Int)
noncomputable def pB(t:AF):EF:=λρ=>(t ρ).bind λds=>match ds with
 |[.int j]=>if j.natAbs<=16777216 then aa (.lst ((a9 0 j.toNat).map D.int)) else ab
 |_=>ab
noncomputable def vR:List D->Option D
 |[.int i]=>aa (.int i)
 |[.bl b]=>aa (.int (if b=ae then 1 else 0))
 |_=>ab
noncomputable def oM:List D->Option D
 |[.int i,.int j]=>aa (.int (if j>i then j else i))
 |_=>ab
noncomputable def DO:List D->Option D
 |[.int i,.int j]=>aa (.int (if j<i then j else i))
 |_=>ab
def BH:D->D->Option D:=λx y=>if qC y=ae then aa (.bl (!qC x)) else ab
noncomputable def repLM:D->D->Option D
 |.lst a,.int n=>if a.length*n.toNat<=mF/\n.natAbs<9223372036854775808 then aa (.lst (fq n.toNat a).flatten) else ab
 |_,_=>ab
noncomputable def BI:D->D->Option D
 |.lst a,.lst b=>if a.length+b.length<=mF then aa (.lst (a++b)) else ab
 |_,_=>ab
noncomputable def DP:D->Option (List D)
 |.lst ds=>aa ds
 |.tup ds=>aa ds
 |_=>ab
def aZ(f:EF):AF:=λρ=>(f ρ).bind DP
noncomputable def HF:List D->Option (List D)
 |[.int j]=>if j.natAbs<4611686018427387904 then aa ((a9 0 j.toNat).map D.int) else ab
 |[.int i,.int j]=>if i.natAbs<4611686018427387904/\j.natAbs<4611686018427387904 then aa ((a9 i (j-i).toNat).map D.int) else ab
 |[.int i,.int j,.int k]=>if k=-1/\i.natAbs<1000000/\j.natAbs<1000000 then aa ((Qx i (i-j).toNat).map D.int) else ab
 |_=>ab
def aQ(t:AF):AF:=λρ=>(t ρ).bind HF
noncomputable def zK:List D->Option (List D)
 |[.lst ds]=>aa (ds.zipIdx.map λp=>.tup [.int (p.2:Int),p.1])
 |[.tup ds]=>aa (ds.zipIdx.map λp=>.tup [.int (p.2:Int),p.1])
 |_=>ab
def lZ(t:AF):AF:=λρ=>(t ρ).bind zK
def Qw:List D->Option (List D)
 |[a,b]=>(DP a).bind λxs=>(DP b).map λys=>(xs.zip ys).map λp=>.tup [p.1,p.2]
 |_=>ab
def w_(t:AF):AF:=λρ=>(t ρ).bind Qw
noncomputable def wz:List D->Option (List D)
 |[.lst ds]=>aa ds.reverse
 |[.tup ds]=>aa ds.reverse
 |_=>ab
def wy(t:AF):AF:=λρ=>(t ρ).bind wz
abbrev Q0:=D->dC->Option dC
def g1(i:Nat):Q0:=λd ρ=>aa (ρ.set i (aa d))
noncomputable def t9:D->Option (D×D)
 |.tup [x,y]=>aa (x,y)
 |_=>ab
def g2(i j:Nat):Q0:=λd ρ=>(t9 d).map λp=>(ρ.set i (aa p.1)).set j (aa p.2)
def bO:TF:=λ_=>aa ae
def benv(nl:Nat)(fr:List Nat)(ρ:dC):dC:=fq nl ab++fr.map λj=>(ρ[j]?).join
noncomputable def gS(g:Q0)(t:TF)(e:EF)(ρ:dC):List D->Option (List D)
 |[]=>aa []
 |d::ds=>(g d ρ).bind λρ1=>(t ρ1).bind λb=>if b=ae then(e ρ1).bind λy=>(gS g t e ρ ds).map (y :: ·) else gS g t e ρ ds
def aV(nl:Nat)(fr:List Nat)(it:AF)(g:Q0)(t:TF)(e:EF):EF:=λρ=>(it ρ).bind λds=>if ds.length<=mF then(gS g t e (benv nl fr ρ) ds).map D.lst else ab
abbrev OF:=dC->Option (Option Int)
def X4:OF:=λ_=>aa ab
noncomputable def asInt:D->Option Int
 |.int i=>aa i
 |_=>ab
def oE(f:EF):OF:=λρ=>(f ρ).bind λd=>(asInt d).map aa
noncomputable def Q8(n d:Nat):Option Int->Nat
 |none=>d
 |some i=>if i<0 then(i+n).toNat else min i.toNat n
def NK(xs:List D)(lo hi:Option Int):List D:=(xs.drop (Q8 xs.length 0 lo)).take (Q8 xs.length xs.length hi-Q8 xs.length 0 lo)
def slM(d:D)(lo hi:Option Int):Option D:=match d with
 |.lst ds=>aa (.lst (NK ds lo hi))
 |.tup ds=>aa (.tup (NK ds lo hi))
 |_=>ab
def X5(f:EF)(lo hi:OF):EF:=λρ=>(f ρ).bind λd=>(lo ρ).bind λl=>(hi ρ).bind λh=>slM d l h
def jR(f:EF):XF:=λρ=>(f (bC ρ)).bind λd=>if d.zJ=ae then aa (ρ,d) else ab
def bB(f:EF):XF:=λρ=>(f (gR ρ)).bind λd=>aa (ρ,d)
noncomputable def l9:Option Sv->Option (List D)
 |some (.ow (.lst ds))=>aa ds
 |_=>ab
def nN(i:Nat)(m:List D->D->Option (List D×D))(x:XF):XF:=λρ=>(l9 ρ[i]?).bind λ_=>(x ρ).bind λp=>(l9 p.1[i]?).bind λds=>(m ds p.2).map λq=>(p.1.set i (.ow (.lst q.1)),q.2)
def iI:List D->D->Option (List D×D):=λds d=>if ds.length<mF then aa (ds++[d],.non) else ab
noncomputable def Q9:List D->D->Option (List D×D)
 |ds,.int k=>if k.natAbs<9223372036854775808 then(NJ ds.length k).bind λj=>(ds[j]?).map λd=>(ds.eraseIdx j,d) else ab
 |_,_=>ab
noncomputable def NL:List D->D->Option (List D×D)
 |ds,.lst es=>if ds.length+es.length<=mF then aa (ds++es,.non) else ab
 |_,_=>ab
def dG:SF:=λρ=>.nx ρ
noncomputable def aJ(f g:SF):SF:=λρ=>match f ρ with
 |.nx ρ'=>g ρ'
 |o=>o
def bE(f:EF):SF:=λρ=>match f (bC ρ) with
 |some d=>.rt d
 |none=>.no
def fY(t:TF)(a b:SF):SF:=λρ=>match t (bC ρ) with
 |some ae=>a ρ
 |some af=>b ρ
 |none=>.no
def aY(i:Nat)(f:EF):SF:=λρ=>match f (gR ρ) with
 |some d=>.nx (ρ.set i (.ro d))
 |none=>.no
noncomputable def jS(i:Nat)(x:XF):SF:=λρ=>match x ρ with
 |some p=>.nx (p.1.set i (.ro p.2))
 |none=>.no
def iQ(i:Nat)(f:EF):SF:=λρ=>match f (gR ρ) with
 |some d=>.nx (ρ.set i (.ow d))
 |none=>.no
def pC:D->Bool
 |.lst ds=>sC ds
 |_=>af
def RA(i:Nat)(f:EF):SF:=λρ=>match f (bC ρ) with
 |some d=>if pC d=ae then .nx (ρ.set i (.ow d)) else .no
 |none=>.no
def kE(i:Nat)(f:EF):SF:=λρ=>match f (bC ρ) with
 |some d=>if pC d=ae then .nx (ρ.set i (.ro d)) else .no
 |none=>.no
def zL(i:Nat):SF:=λρ=>.nx (ρ.set i (.ow (.gA [] [])))
noncomputable def sX(x:XF):SF:=λρ=>match x ρ with
 |some p=>.nx p.1
 |none=>.no
def NM(i:Nat)(x:XF)(k:EF):SF:=λρ=>match ((x ρ).bind λp=>(l9 p.1[i]?).bind λds=>(k (bC p.1)).bind λkd=>(asInt kd).bind λkk=>(NJ ds.length kk).map λj=>p.1.set i (.ow (.lst (ds.set j p.2)))) with
 |some ρ'=>.nx ρ'
 |none=>.no
noncomputable def sF:Option Sv->Option (List (Sum Int aj)×List D)
 |some (.ow (.gA ks ds))=>aa (ks,ds)
 |_=>ab
def vS(i:Nat)(x:XF)(k:EF):SF:=λρ=>match ((x ρ).bind λp=>(sF p.1[i]?).bind λkd=>(k (bC p.1)).bind λkv=>(uS kv).bind λkk =>
  if(iH kd.1 kd.2 kk).isNone=ae/\kd.2.length<mF then aa (p.1.set i (.ow (.gA (kd.1++[kk]) (kd.2++[p.2])))) else ab) with
 |some ρ'=>.nx ρ'
 |none=>.no
abbrev Q1:=D->bH->Option bH
def iY(i:Nat):Q1:=λd ρ=>aa (ρ.set i (.ro d))
def KP(i j:Nat):Q1:=λd ρ=>(t9 d).map λp=>(ρ.set i (.ro p.1)).set j (.ro p.2)
noncomputable def eJ(g:Q1)(b:SF):List D->bH->Out
 |[],ρ=>.nx ρ
 |d::ds,ρ=>match g d ρ with
  |none=>.no
  |some ρ1=>match b ρ1 with
   |.nx ρ2=>eJ g b ds ρ2
   |o=>o
def cL(it:AF)(g:Q1)(b:SF):SF:=λρ=>match it (gR ρ) with
 |some ds=>eJ g b ds ρ
 |none=>.no
def eU(t:TF)(b:SF):Nat->bH->Out
 |0,_=>.no
 |n+1,ρ=>match t (bC ρ) with
  |none=>.no
  |some af=>.nx ρ
  |some ae=>match b ρ with
   |.nx ρ'=>eU t b n ρ'
   |o=>o
def HG:Nat:=1000000
def RB(n:Nat)(t:TF)(b:SF):SF:=eU t b n
def eO(n:Nat)(ds:List D):bH:=ds.map Sv.ro++fq (n-ds.length) Sv.no
noncomputable def dA(n np:Nat)(b:SF):iP:=λds=>if ds.length=np then(match b (eO n ds) with
 |.rt d=>.ok d
 |.nx _=>.ok .non
 |.ex c=>.ex c
 |.no=>.no) else .no
noncomputable def iR:List Int->List Int->Bool
 |[],[]=>af
 |[],_::_=>ae
 |_::_,[]=>af
 |a::as,b::bs=>if a=b then iR as bs else Zv (a<b)
def NN(t:Q0e):List (List Int)->List (List Int)
 |[]=>[t]
 |u::us=>if iR u t=ae then u::NN t us else t::u::us
def uA:List (List Int)->List (List Int)
 |[]=>[]
 |t::ts=>NN t (uA ts)
def qD(t:Q0e):D:=.tup (t.map D.int)
def Cu:D->Option (List Int)
 |.tup ds=>intsOf ds
 |_=>ab
def pD:List D->Option (List (List Int))
 |[]=>aa []
 |d::ds=>(Cu d).bind λt=>(pD ds).map (t :: ·)
def lA:List D->Option D
 |[.lst a]=>(pD a).bind λts=>if ts.length<64/\ts.all (λt=>!t.isEmpty)=ae then aa (.lst ((uA ts).map qD)) else ab
 |_=>ab
theorem HH:∀a b:Q0e,iR a b=ae->iR b a=af
 |[],[],h=>by cases h
 |[],_::_,_=>rfl
 |_::_,[],h=>by cases h
 |a::as,b::bs,h=>by
  unfold iR at h ⊢;by_cases e:a=b
  .rw [Z_ e] at h;rw[Z_ e.symm];exact HH as bs h
  .rw [Zz e] at h;rw[Zz (dh e)];simp at h ⊢;omega
theorem HI:∀a b c:Q0e,iR b a=af->iR c b=af->iR c a=af
 |[],[],c,h1,h2=>h2
 |[],b::bs,[],h1,h2=>rfl
 |[],b::bs,c::cs,h1,h2=>rfl
 |a::as,[],c,h1,h2=>by cases h1
 |a::as,b::bs,[],h1,h2=>by cases h2
 |a::as,b::bs,c::cs,h1,h2=>by
  unfold iR at h1 h2 ⊢;by_cases e1:b=a
  .subst e1;rw[Z_ rfl] at h1;by_cases e2:c=b
   .subst e2;rw[Z_ rfl] at h2 ⊢;exact HI as bs cs h1 h2
   .rw [Zz e2] at h2 ⊢;exact h2
  .rw [Zz e1] at h1;by_cases e2:c=b
   .subst e2;rw[Zz e1];exact h1
   .rw [Zz e2] at h2;simp at h1 h2;rw[Zz (by omega)];simp;omega
theorem RC:∀a b:Q0e,iR a b=af->iR b a=af->a=b
 |[],[],_,_=>rfl
 |[],_::_,h1,_=>by cases h1
 |_::_,[],_,h2=>by cases h2
 |a::as,b::bs,h1,h2=>by
  unfold iR at h1 h2;by_cases e:a=b
  .subst e;rw[Z_ rfl] at h1 h2;rw[RC as bs h1 h2]
  .rw [Zz e] at h1;rw[Zz (dh e)] at h2;simp at h1 h2;omega
theorem sG(t:Q0e):∀l,(NN t l).Perm (t::l)
 |[]=>.refl _
 |u::us=>by
  unfold NN;by_cases h:iR u t=ae
  .rw [Z_ h];exact((sG t us).cons u).trans (.swap t u us)
  .rw [Zz h]
theorem lB:∀l,(uA l).Perm l
 |[]=>.refl _
 |t::ts=>(sG t _).trans ((lB ts).cons t)
def UpT(l:Q0a):Prop:=l.Pairwise λa b=>iR b a=af
theorem KQ(t:Q0e):∀l,UpT l->UpT (NN t l)
 |[],_=>Fu _ _
 |u::us,h=>by
  have⟨h1,h2⟩:=fv.mp h;unfold NN;by_cases e:iR u t=ae
  .rw [Z_ e];refine fv.mpr ⟨λx hx=>?_,KQ t us h2⟩;rcases bz.mp ((sG t us).mem_iff.mp hx) with rfl|hx
   .exact HH _ _ e
   .exact h1 x hx
  .rw [Zz e];have e:iR u t=af:=by simpa using e
   refine fv.mpr ⟨λx hx=>?_,h⟩;rcases(bz.mp hx:x=u\/x∈us) with rfl|hx
   .exact e
   .exact HI t u x e (h1 x hx)
theorem DQ:∀l,UpT (uA l)
 |[]=>.nil
 |t::ts=>KQ t _ (DQ ts)
theorem KR:∀{l m:Q0a},l.Perm m->UpT l->UpT m->l=m
 |[],m,p,_,_=>by rw[a2p.mp p]
 |a::l,[],p,_,_=>by have:=p.length_eq;simp at this
 |a::l,b::m,p,h1,h2=>by
  obtain⟨a1,a2⟩:=fv.mp h1;obtain⟨b1,b2⟩:=fv.mp h2;have e:a=b:=by
   have ha:=bz.mp (p.mem_iff.mp cp);have hb:=bz.mp (p.mem_iff.mpr cp);rcases ha with h|h
   .exact h
   .rcases hb with h' | h'
    .exact h'.symm
    .exact RC _ _ (b1 a h) (a1 b h')
  subst e;rw[KR p.cons_inv a2 b2]
noncomputable def BJ(f:D->D->Option Bool):List D->List D->Option Bool
 |d::ds,e::es=>(f d e).bind λx=>(BJ f ds es).map (x && ·)
 |_,_=>aa ae
def eqP:Nat->D->D->Option Bool
 |_,.int i,.int j=>aa (Zv (i=j))
 |_,.bl i,.bl j=>if i=j then aa ae else ab
 |_,.str i,.str j=>if i=j then aa ae else ab
 |n+1,.tup a,.tup b=>(BJ (eqP n) a b).map λr=>r&&Zv (a.length=b.length)
 |_,_,_=>ab
def sH:D->List D->Option Bool
 |_,[]=>aa af
 |x,d::ds=>(eqP 8 d x).bind λb=>(sH x ds).map (b || ·)
def uT(neg:Bool):D->D->Option D
 |x,.lst ds=>(sH x ds).map λb=>.bl (if neg then !b else b)
 |x,.tup ds=>(sH x ds).map λb=>.bl (if neg then !b else b)
 |_,_=>ab
theorem kF:∀{a b:List D} {r:Bool},BJ f a b=aa r ->∃e:Nat->Bool,(∀(j:Nat) (x y:D),a[j]?=aa x->b[j]?=aa y->f x y=aa (e j))/\r=(bh (min a.length b.length)).all e
 |[],b,r,h=>by cases h;exact⟨λ_=>ae,λj x y h1=>by simp at h1,by simp⟩
 |d::ds,[],r,h=>by cases h;exact⟨λ_=>ae,λj x y _ h2=>by simp at h2,by simp⟩
 |d::ds,c::cs,r,h=>by
  unfold BJ at h
  cases q:f d c with
  |none=>rw[q] at h;cases h
  |some x =>
   rw[q] at h
   cases q2:BJ f ds cs with
   |none=>simp[q2] at h
   |some y =>
    simp[q2] at h;obtain⟨e,h1,h2⟩:=kF q2;refine⟨λj=>match j with|0=>x|j+1=>e j,λj u v e1 e2=>?_,?_⟩
    .cases j with
     |zero=>cases e1;cases e2;exact q
     |succ j=>exact h1 j u v (by simpa using e1) (by simpa using e2)
    .rw [<- h,h2,cy,cy,show min (ds.length+1) (cs.length+1)=min ds.length cs.length+1 by omega,ou,kz,q_];rfl
noncomputable def Qu(ρ:bH)(i:Nat):bH:=match ρ[i]? with
 |some (.ow d)=>ρ.set i (.ro d)
 |_=>ρ
def RD(i:Nat)(f:SF):SF:=λρ=>f (Qu ρ i)
noncomputable def Xa:D->Option D
 |.lst ds=>aa (.lst ds.reverse)
 |_=>ab
def RE(f:EF):EF:=λρ=>(f ρ).bind Xa
def yS(i:Nat)(k:EF):Q1:=λd ρ=>(l9 ρ[i]?).bind λds=>(k (bC ρ)).bind λkd=>(asInt kd).bind λkk=>(NJ ds.length kk).map λj=>ρ.set i (.ow (.lst (ds.set j d)))
def RF(g h:Q1):Q1:=λd ρ=>(t9 d).bind λp=>(g p.1 ρ).bind λρ1=>h p.2 ρ1
noncomputable def yT(x:XF)(g:Q1):SF:=λρ=>match (x ρ).bind λp=>g p.2 p.1 with
 |some ρ'=>.nx ρ'
 |none=>.no
def mI:List D->Option D
 |[.tup ds]=>(intsOf ds).bind λns=>if ns.length<64 then aa (.lst ((sortI ns).map D.int)) else ab
 |_=>ab
abbrev qE:Nat->aw->Prop:=λ_ _=>True
def adr(q:Nat->aw->Prop):Nat->aw->Prop:=λa _=>∃o,q a o
abbrev yU:=Sum Int aj
abbrev PN1:=List (Sum yU (List yU))
abbrev u7:=Sum yU PN1
def zM:List D->Option (List yU)
 |[]=>aa []
 |d::ds=>(uS d).bind λk=>(zM ds).map (k :: ·)
def RG:D->Option (Sum yU (List yU))
 |.tup ds=>(zM ds).map .inr
 |d=>(uS d).map .inl
def vU:List D->Option PN1
 |[]=>aa []
 |d::ds=>(RG d).bind λk=>(vU ds).map (k :: ·)
def mB:D->Option u7
 |.tup ds=>(vU ds).map .inr
 |d=>(uS d).map .inl
noncomputable def dK:yU->D
 |.inl i=>.int i
 |.inr x=>.str x
def RH:Sum yU (List yU)->D
 |.inl k=>dK k
 |.inr ks=>.tup (ks.map dK)
def mr:u7->D
 |.inl k=>dK k
 |.inr ks=>.tup (ks.map RH)
def bY(ks:List u7)(ds:List D)(k:u7):Option D:=((ks.zip ds).find? λp=>Zv (p.1=k)).map (·.2)
def kindB(ks:List u7)(k:u7):Bool:=ks.all λq=>q.isLeft == k.isLeft
def Bb:D->D->Option D
 |.dP _ ks ds,d=>(mB d).bind λk=>if kindB ks k=ae then bY ks ds k else ab
 |_,_=>ab
def NO(neg:Bool):D->D->Option D
 |d,.dP _ ks ds=>(mB d).bind λk=>if kindB ks k=ae then aa (.bl (if neg then !(bY ks ds k).isSome else(bY ks ds k).isSome)) else ab
 |_,_=>ab
def eV(ks:List u7)(ds:List D)(k:u7)(v:D):List u7×List D :=
 if ks.any (λq=>Zv (q=k))=ae then(ks,(ks.zip ds).map λp=>if p.1=k then v else p.2) else(ks++[k],ds++[v])
noncomputable def HJ:Option Sv->Option ((Nat->aw->Prop)×List u7×List D)
 |some (.ow (.dP q ks ds))=>aa (q,ks,ds)
 |_=>ab
def RI(i:Nat):SF:=λρ=>.nx (ρ.set i (.ow (.dP qE [] [])))
def qF(i:Nat)(x:XF)(k:EF):SF:=λρ=>match ((x ρ).bind λp=>(HJ p.1[i]?).bind λkd=>(k (bC p.1)).bind λkv=>(mB kv).bind λkk =>
  if kindB kd.2.1 kk=ae/\kd.2.2.length<mF then aa (p.1.set i (.ow (.dP (adr kd.1) (eV kd.2.1 kd.2.2 kk p.2).1 (eV kd.2.1 kd.2.2 kk p.2).2))) else ab) with
 |some ρ'=>.nx ρ'
 |none=>.no
noncomputable def Ct:List D->Option (List D)
 |[.lst xs,.lst ys]=>aa ((xs.zip ys).map λp=>.tup [p.1,p.2])
 |_=>ab
def vV(t:AF):AF:=λρ=>(t ρ).bind Ct
abbrev KD:=List u7×List D
abbrev FnM:=List D->KD->M (D×KD)
def startM(n:Nat)(ds:List D)(q:Nat->aw->Prop)(kd:KD):bH:=ds.map Sv.ro++Sv.ow (.dP q kd.1 kd.2)::fq (n-(ds.length+1)) Sv.no
def X6(j:Nat)(k:EF)(q:Nat->aw->Prop):bH->Option (D×KD):=λρ=>(HJ ρ[j]?).bind λkd=>(k (gR ρ)).bind λkv=>(mB kv).bind λkk=>@ite _ (kindB kd.2.1 kk=ae /\∀a o,kd.1 a o ->∃o2,q a o2) (Gk _) ((bY kd.2.1 kd.2.2 kk).map λd=>(d,kd.2)) ab
def vW(n np:Nat)(b:SF)(k:EF)(q:Nat->aw->Prop)(ds:List D)(kd:KD):Option (D×KD):=if ds.length+1=np then(match b (startM n ds q kd) with
 |.nx ρ=>X6 (np-1) k q ρ
 |_=>ab) else ab
def runM(n np:Nat)(b:SF)(k:EF):FnM:=λds kd=>@dite _ (∃r,∀q,vW n np b k q ds kd=aa r) (Gk _) (λh=>.ok h.choose) λ_=>.no
def KS(h:runM n np b k ds kd=.ok r)(q:Nat->aw->Prop):vW n np b k q ds kd=aa r:=by
 unfold runM at h;split at h
 .rename_i hx;cases h;exact hx.choose_spec q
 .cases h
theorem X7(h:∀q,vW n np b k q ds kd=aa r):runM n np b k ds kd=.ok r:=by have hx:∃r,∀q,vW n np b k q ds kd=aa r:=⟨r,h⟩;unfold runM;rw[dif_pos hx];have e:=hx.choose_spec qE;rw[h qE] at e;rw[c_ e]
def stepM(R:FnM)(t:AF)(j:Nat)(ρ:bH):Option ((Nat->aw->Prop)×D×KD):=(t (gR ρ)).bind λds=>(HJ ρ[j]?).bind λkd=>match R ds kd.2 with
 |.ok r=>aa (kd.1,r)
 |_=>ab
def sI(i:Nat)(R:FnM)(t:AF)(j:Nat):SF:=λρ=>match stepM R t j ρ with
 |some r=>.nx ((ρ.set j (.ow (.dP (adr r.1) r.2.2.1 r.2.2.2))).set i (.ro r.2.1))
 |none=>.no
def X8(R:FnM)(t:AF)(j:Nat):SF:=λρ=>match stepM R t j ρ with
 |some r=>.nx (ρ.set j (.ow (.dP (adr r.1) r.2.2.1 r.2.2.2)))
 |none=>.no
noncomputable def aMg:List D->Option D
 |[.int i]=>if i.natAbs<1900 then aa (.str (xn (toString i))) else ab
 |_=>ab
noncomputable def aLu:List D->Option D
 |[.str x]=>if x.length<=mF then aa (.int x.length) else ab
 |_=>ab
noncomputable def oN:List D->Option (List aj)
 |[]=>aa []
 |.str x::r=>(oN r).map (x :: ·)
 |_::_=>ab
def lC(ns:Q0e)(i:Int):Nat:=(ns.filter λn=>n == i).length
def BK:D->D->Option D
 |.lst ds,.int i=>(intsOf ds).bind λns=>aa (.int (lC ns i))
 |_,_=>ab
def gE:D->D->Option D
 |.dP _ ks ds,d=>(mB d).bind λk=>if kindB ks k=ae then aa ((bY ks ds k).getD .non) else ab
 |_,_=>ab
noncomputable def Ba:D->D->Option Bool
 |.non,.non=>aa ae
 |.str x,.str y=>aa (Zv (x=y))
 |.non,.str _=>aa af
 |.str _,.non=>aa af
 |_,_=>ab
def vX:D->D->Option D:=λx y=>(Ba x y).map λb=>.bl (!b)
def KU:D->Option (List D)
 |.dP _ ks ds=>aa ((ks.zip ds).map λp=>.tup [mr p.1,p.2])
 |_=>ab
def qG(f:EF):AF:=λρ=>(f ρ).bind KU
def uB(g:Q0)(e:EF)(nl:Nat)(fr:List Nat)(ρ:bH)(i:Nat):List D->List D->Option (List D×List D)
 |[],cur=>aa ([],cur)
 |d::ds,cur=>(g d (benv nl fr (bC (ρ.set i (.ow (.lst cur)))))).bind λρ1=>(e ρ1).bind λj=>(Q9 cur j).bind λq=>(uB g e nl fr ρ i ds q.1).map λr=>(q.2::r.1,r.2)
def DR(i nl:Nat)(fr:List Nat)(it:AF)(g:Q0)(e:EF):XF:=λρ=>(l9 ρ[i]?).bind λcur=>(it (gR ρ)).bind λds=>if ds.length<=mF then(uB g e nl fr ρ i ds cur).map λr=>(ρ.set i (.ow (.lst r.2)),.lst r.1) else ab
structure TO {α:Type} (lt:α->α->Bool):Prop where
 as:∀x y,lt x y=ae->lt y x=af
 tr:∀x y z,lt x y=af->lt y z=af->lt x z=af
 one:∀x y,lt x y=af->lt y x=af->x=y
theorem TO.Q2{α:Type}{lt:α->α->Bool}(O:TO lt)(x:α):lt x x=af:=by
 cases h:lt x x with
 |false=>rfl
 |true=>rw[O.as x x h] at h;cases h
noncomputable def NP{α:Type}(lt:α->α->Bool)(a:α):List α->List α
 |[]=>[a]
 |b::l=>if lt b a=ae then b::NP lt a l else a::b::l
def jP{α:Type}(lt:α->α->Bool):List α->List α
 |[]=>[]
 |a::l=>NP lt a (jP lt l)
section
variable{α:Type}{lt:α->α->Bool}
theorem sJ(a:α):∀l:List α,(NP lt a l).Perm (a::l)
 |[]=>.refl _
 |b::l=>by
  unfold NP;split
  .exact ((sJ a l).cons b).trans (.swap a b l)
  .exact .refl _
theorem gU:∀l:List α,(jP lt l).Perm l
 |[]=>.refl _
 |a::l=>(sJ a _).trans ((gU l).cons a)
def UpB(lt:α->α->Bool)(l:List α):Prop:=l.Pairwise λa b=>lt b a=af
theorem KW(O:TO lt)(a:α):∀l:List α,UpB lt l->UpB lt (NP lt a l)
 |[],_=>Fu ..
 |b::l,h=>by
  obtain⟨h1,h2⟩:=fv.1 h;unfold NP;split
  .rename_i c;refine fv.2 ⟨λx hx=>?_,KW O a l h2⟩;rcases bz.1 ((sJ a l).mem_iff.1 hx) with rfl|hx
   .exact O.as _ _ c
   .exact h1 x hx
  .rename_i c;have c:lt b a=af:=by simpa using c
   refine fv.2 ⟨λx hx=>?_,h⟩;rcases bz.1 hx with rfl|hx
   .exact c
   .exact O.tr x b a (h1 x hx) c
theorem qH(O:TO lt):∀l:List α,UpB lt (jP lt l)
 |[]=>.nil
 |a::l=>KW O a _ (qH O l)
theorem vA(O:TO lt):∀{l m:List α},l.Perm m->UpB lt l->UpB lt m->l=m
 |[],m,p,_,_=>(a2p.1 p).symm
 |a::l,[],p,_,_=>by cases (Fs.1 p)
 |a::l,b::m,p,h,k=>by
  obtain⟨h1,h2⟩:=fv.1 h;obtain⟨k1,k2⟩:=fv.1 k;have e:a=b:=by
   rcases bz.1 (p.mem_iff.1 (cp (a:=a) (l:=l))) with e|ha
   .exact e
   rcases bz.1 (p.mem_iff.2 (cp (a:=b) (l:=m))) with e|hb
   .exact e.symm
   exact O.one a b (k1 a ha) (h1 b hb)
  subst e;rw[vA O (a4b p) h2 k2]
theorem vB(O:TO lt)(p:l.Perm m):jP lt l=jP lt m:=vA O (((gU l).trans p).trans (gU m).symm) (qH O l) (qH O m)
noncomputable def sL[DecidableEq α](lt:α->α->Bool):List α->List α->Bool
 |[],[]=>af
 |[],_::_=>ae
 |_::_,[]=>af
 |a::l,b::m=>if a=b then sL lt l m else lt a b
theorem BL[DecidableEq α](O:TO lt):TO (sL lt) where
 as:=λx=>by
  induction x with
  |nil=>intro y h;cases y with
   |nil=>cases h
   |cons b m=>rfl
  |cons a l ih=>intro y h;cases y with
   |nil=>cases h
   |cons b m =>
    unfold sL at h ⊢;by_cases e:a=b
    .rw [Z_ e] at h;rw[Z_ e.symm];exact ih m h
    .rw [Zz e] at h;rw[Zz (dh e)];exact O.as a b h
 one:=λx=>by
  induction x with
  |nil=>intro y h k;cases y with
   |nil=>rfl
   |cons b m=>cases h
  |cons a l ih=>intro y h k;cases y with
   |nil=>cases k
   |cons b m =>
    unfold sL at h k;by_cases e:a=b
    .rw [Z_ e] at h;rw[Z_ e.symm] at k;rw[e,ih m h k]
    .rw [Zz e] at h;rw[Zz (dh e)] at k;exact Zw (O.one a b h k) e
 tr:=λx=>by
  induction x with
  |nil=>intro y z h k;cases y with
   |nil=>exact k
   |cons b m=>cases h
  |cons a l ih=>intro y z h k;cases y with
   |nil=>cases z with
    |nil=>rfl
    |cons c n=>cases k
   |cons b m=>cases z with
    |nil=>rfl
    |cons c n =>
     unfold sL at h k ⊢;by_cases e:a=b
     .subst e;rw[Z_ rfl] at h;by_cases f:a=c
      .rw [Z_ f] at k ⊢;exact ih m n h k
      .rw [Zz f] at k ⊢;exact k
     .rw [Zz e] at h;by_cases f:b=c
      .subst f;rw[Zz e];exact h
      .rw [Zz f] at k;by_cases g:a=c
       .subst g;exact Zw (O.one a b h k) e
       .rw [Zz g];exact O.tr a b c h k
def zN{β:Type}[DecidableEq α](lt:α->α->Bool)(lt2:β->β->Bool)(x y:α×β):Bool:=if x.1=y.1 then lt2 x.2 y.2 else lt x.1 y.1
theorem RJ{β:Type}[DecidableEq α]{lt2:β->β->Bool}(O:TO lt)(P:TO lt2):TO (zN lt lt2) where
 as:=λx y h=>by
  unfold zN at h ⊢;by_cases e:x.1=y.1
  .rw [Z_ e] at h;rw[Z_ e.symm];exact P.as _ _ h
  .rw [Zz e] at h;rw[Zz (dh e)];exact O.as _ _ h
 one:=λx y h k=>by
  unfold zN at h k;by_cases e:x.1=y.1
  .rw [Z_ e] at h;rw[Z_ e.symm] at k;exact jz e (P.one _ _ h k)
  .rw [Zz e] at h;rw[Zz (dh e)] at k;exact Zw (O.one _ _ h k) e
 tr:=λx y z h k=>by
  unfold zN at h k ⊢;by_cases e:x.1=y.1
  .rw [Z_ e] at h;by_cases f:x.1=z.1
   .rw [Z_ f];rw[Z_ (e.symm.trans f)] at k;exact P.tr _ _ _ h k
   .rw [Zz f];rw[Zz (λg=>f (e.trans g))] at k;rw[e];exact k
  .rw [Zz e] at h;by_cases f:y.1=z.1
   .rw [Zz (λg=>e (g.trans f.symm)),<- f];exact h
   .rw [Zz f] at k;by_cases g:x.1=z.1
    .rw [<- g] at k;exact Zw (O.one _ _ h k) e
    .rw [Zz g];exact O.tr _ _ _ h k
end
def yO(a b:aj):Bool:=Zv (a.cps.toList<b.cps.toList)
def str_inj{a b:aj}(h:a.cps.toList=b.cps.toList):a=b:=by cases a;cases b;congr;exact Array.toList_inj.1 h
theorem lD:TO yO where
 as:=λx y h=>by unfold yO at *;rw[decide_eq_true_eq] at h;rw[decide_eq_false_iff_not];exact λk=>List.lt_irrefl _ (List.lt_trans h k)
 one:=λx y h k=>by unfold yO at *;rw[decide_eq_false_iff_not] at h k;exact str_inj (List.le_antisymm (ug.1 k) (ug.1 h))
 tr:=λx y z h k=>by unfold yO at *;rw[decide_eq_false_iff_not] at h k ⊢;exact ug.2 (List.le_trans (ug.1 k) (ug.1 h))
abbrev Lk:=List aj×List aj
def G7:Lk->Lk->Bool:=zN (sL yO) (sL yO)
theorem vY:TO G7:=RJ (BL lD) (BL lD)
def NQ:D->Option Lk
 |.tup [.lst a,.lst b]=>(oN a).bind λx=>(oN b).map λy=>(x,y)
 |_=>ab
def mG(x:Lk):D:=.tup [.lst (x.1.map D.str),.lst (x.2.map D.str)]
def oO:List D->Option (List Lk)
 |[]=>aa []
 |d::ds=>(NQ d).bind λx=>(oO ds).map (x :: ·)
def pE:List D->Option D
 |[.lst ds]=>(oN ds).bind λss=>if ss.length<64 then aa (.lst ((jP yO ss).map D.str)) else ab
 |_=>ab
def mJ:List D->Option D
 |[.lst ds]=>(oO ds).bind λss=>if ss.length<64 then aa (.lst ((jP G7 ss).map mG)) else ab
 |_=>ab
def zP:D->D->Option D:=λx y=>(NQ x).bind λa=>(NQ y).map λb=>.bl (Zv (a=b))
def pF:D->D->Option D
 |.lst a,.lst b=>(oO a).bind λx=>(oO b).map λy=>.bl (!Zv (x=y))
 |_,_=>ab
def RK:D->D->Option D
 |.lst ds,.int i=>(intsOf ds).bind λns=>if ns.contains i=ae then aa (.int ((ns.idxOf i:Nat):Int)) else ab
 |_,_=>ab
end L4
namespace Ord
structure Rows (rows:Q0a):Prop where
 up:∀(b:Nat) (r:Q0e),rows[b]?=aa r->r.Pairwise (·<·)
 rng:∀(b:Nat) (r:Q0e),rows[b]?=aa r ->∀a∈r,0<=a/\a<(rows.length:Int)
 tr:∀(b a:Nat) (r v:Q0e),rows[b]?=aa r->(a:Int)∈r->rows[a]?=aa v ->∀c∈v,c∈r
 Q2:∀(b:Nat) (r:Q0e),rows[b]?=aa r->(b:Int)∉r
theorem pG{α:Type}:∀(l:List α) (j:Nat) (x:α),l[j]?=aa x->(x::l.eraseIdx j).Perm l
 |[],j,x,h=>by simp at h
 |a::l,0,x,h=>by simp at h;subst h;simp
 |a::l,j+1,x,h=>by have ih:=pG l j x (by simpa using h);rw[List.eraseIdx_cons_succ];exact(a2M a x _).trans (ih.cons a)
def BM{l:Q0e}(p:Int->Bool)(h:l.Nodup):(l.filter p).Nodup:=uu p h
def Under(word:Q0e)(us:Q0a)(t:Nat)(u:Q0e):Prop :=
 u.Nodup /\∀a∈u,∃(s:Nat) (v:Q0e),s<t/\word[s]?=aa a/\us[s]?=aa v /\∀c∈v,c∈u
def Good(word:Q0e)(us:Q0a):Prop:=∀(t:Nat) (u:Q0e),us[t]?=aa u->Under word us t u
def Under.mono(h:Under word us t u)(ht:t<=t'):Under word us t' u :=
 ⟨h.1,λa ha=>by obtain⟨s,v,h1,h2,h3,h4⟩:=h.2 a ha;exact⟨s,v,by omega,h2,h3,h4⟩⟩
def pH{word:Q0e}(h:word.Nodup){i j:Nat}{a:Int}(hi:word[i]?=aa a)(hj:word[j]?=aa a):i=j:=by obtain⟨h1,e1⟩:=cg.mp hi;obtain⟨h2,e2⟩:=cg.mp hj;exact(yj h).mp (e1.trans e2.symm)
theorem Under.step{word:Q0e}{us:Q0a}{i:Nat}{u v:Q0e}{x:Int}(hw:word.Nodup)(g:Good word us)(h:Under word us i u)(hx:word[i]?=aa x)(hv:us[i]?=aa v):
  Under word us (i+1) (u++(v++[x]).filter λa=>!u.contains a):=by
 have gv:=g i v hv;have mem:∀c,c∈v++[x]->c∈u++(v++[x]).filter λa=>!u.contains a:=λc hc=>by
  by_cases hu:c∈u
  .exact kr _ hu
  .exact il _ (dm.mpr ⟨hc,by simpa using hu⟩)
 have nv:(v++[x]).Nodup:=by refine ko.mpr ⟨gv.1,by simp,λa ha b hb e=>?_⟩;have hb:=cm.mp hb;subst hb;subst e;obtain⟨s,_,h1,h2,_⟩:=gv.2 a ha;have:=pH hw h2 hx;omega
 refine⟨ko.mpr ⟨h.1,BM _ nv,λa ha b hb e=>?_⟩,λa ha=>?_⟩
 .subst e;have:=(dm.mp hb).2;simp at this;exact this ha
 .rcases gu.mp ha with h1|h1
  .obtain ⟨s,z,a1,a2,a3,a4⟩:=h.2 a h1;exact⟨s,z,by omega,a2,a3,λc hc=>kr _ (a4 c hc)⟩
  .rcases gu.mp (dm.mp h1).1 with h2|h2
   .obtain ⟨s,z,a1,a2,a3,a4⟩:=gv.2 a h2;exact⟨s,z,by omega,a2,a3,λc hc=>mem c (kr _ (a4 c hc))⟩
   .have e:=cm.mp h2;subst e;exact⟨i,v,by omega,hx,hv,λc hc=>mem c (kr _ hc)⟩
def Good.snoc(g:Good word us)(h:Under word us us.length u):Good word (us++[u]):=λt z e=>by
 have old:∀{s:Nat} {v:Q0e},us[s]?=aa v->(us++[u])[s]?=aa v:=λ{s v} e=>by rw[jg (cg.mp e).1];exact e
 have up:∀{t:Nat} {z:Q0e},Under word us t z->Under word (us++[u]) t z:=λ{t z} q=>⟨q.1,λa ha=>by obtain⟨s,v,a1,a2,a3,a4⟩:=q.2 a ha;exact⟨s,v,a1,a2,old a3,a4⟩⟩;by_cases ht:t<us.length
 .rw [jg ht] at e;exact up (g t z e)
 .have et:t=us.length:=by have:=(cg.mp e).1;simp at this;omega
  subst et;rw[jf (bj _),yc] at e;have e:u=z:=by simpa using e
  subst e;exact up h
theorem Good.rows{word:Q0e}{us rows:Q0a}{n:Nat}(g:Good word us)(hu:us.length=n)(hw:word.Perm ((bh n).map λk:Nat=>(k:Int)))(hr:rows.length=n)
  (h:∀(b t:Nat) (r u:Q0e),rows[b]?=aa r->word[t]?=aa (b:Int)->us[t]?=aa u->r.Perm u/\r.Pairwise (· <= ·)):Rows rows:=by
 have nd:word.Nodup:=hw.nodup_iff.mpr (by
  refine pw _ (λa b hab=>?_) Fw;intro e;exact hab (by omega))
 have find:∀(b:Nat),b<n ->∃t u,word[t]?=aa (b:Int)/\us[t]?=aa u:=λb hb=>by
  have hm:(b:Int)∈word:=hw.mem_iff.mpr (de.mpr ⟨b,d_.mpr hb,rfl⟩);obtain⟨t,ht⟩:=ni.mp hm;have hl:word.length=n:=by rw[hw.length_eq,au,jr]
  have:=(cg.mp ht).1;exact⟨t,us[t]'(by omega),ht,ba (by omega)⟩
 have row:∀(b:Nat) (r:Q0e),rows[b]?=aa r ->∃t u,word[t]?=aa (b:Int)/\us[t]?=aa u/\r.Perm u/\r.Pairwise (· <= ·):=λb r e=>by have hb:=(cg.mp e).1;obtain⟨t,u,h1,h2⟩:=find b (by omega);exact⟨t,u,h1,h2,h b t r u e h1 h2⟩
 refine⟨λb r e=>?_,λb r e a ha=>?_,λb a r v e ha ev c hc=>?_,λb r e hb=>?_⟩
 .obtain ⟨t,u,h1,h2,h3,h4⟩:=row b r e;have n1:r.Nodup:=h3.nodup_iff.mpr (g t u h2).1;exact(a2n.mpr ⟨h4,n1⟩).imp λq=>by have:=q.1;have:=q.2;omega
 .obtain ⟨t,u,h1,h2,h3,h4⟩:=row b r e;obtain⟨s,z,_,a2,_⟩:=(g t u h2).2 a (h3.mem_iff.mp ha);have hm:=hw.mem_iff.mp (ik a2);obtain⟨k,hk,rfl⟩:=de.mp hm;have:=d_.mp hk;omega
 .obtain ⟨t,u,h1,h2,h3,h4⟩:=row b r e;obtain⟨t2,u2,k1,k2,k3,k4⟩:=row a v ev;obtain⟨s,z,_,a2,a3,a4⟩:=(g t u h2).2 _ (h3.mem_iff.mp ha);have es:=pH nd a2 k1;subst es;rw[k2] at a3;cases a3;exact h3.mem_iff.mpr (a4 c (k3.mem_iff.mp hc))
 .obtain ⟨t,u,h1,h2,h3,h4⟩:=row b r e;obtain⟨s,z,a1,a2,_⟩:=(g t u h2).2 _ (h3.mem_iff.mp hb);have:=pH nd a2 h1;omega
noncomputable def tri:Nat->Nat
 |0=>0
 |j+1=>tri j+j
theorem HK(h:i<=j):tri i<=tri j:=by
 induction h with
 |refl=>exact bj _
 |step _ ih=>exact gb ih (kn _ _)
def aBv(hj:j<n)(hi:i<j):tri j+i<tri n:=by have:=HK (show j+1<=n by omega);show tri j+i<tri n;have e:tri (j+1)=tri j+j:=rfl;omega
theorem dW:∀(l m:Q0e),l.Nodup->(∀a∈l,a∈m)->l.length<=m.length
 |[],m,_,_=>jq _
 |a::l,m,h,hs=>by
  obtain⟨h1,h2⟩:=ma.mp h;have ha:=hs a cp;have ih:=dW l (m.erase a) h2 λb hb=>by have:b≠a:=λe=>h1 (e▸hb);exact(List.mem_erase_of_ne this).mpr (hs b (dq _ hb))
  rw[List.length_erase_of_mem ha] at ih;have:0<m.length:=List.length_pos_of_mem ha;rw[cy];omega
end Ord
namespace LL
open L3 L4
def dY:iP:=dA 2 2
  (aJ (fY (tV (aC qB (bP bT (aB (aA 0) aF)) (eC (.int 0))))
   (bE (eC (.int 0)))
   dG)
  (bE (aC bI (aA 0) (aC fB (aA 1) (bP bT (aB (aA 0) aF))))))
def gW:iP:=dA 5 3
  (aJ (aY 3 (aC fB (aC mulM (aC bL (aC bL (aC bL (aA 0) (aC mulM (aC mulM (eC (.int 11)) (aA 1)) (aA 1))) (aC mulM (eC (.int 17)) (aA 1))) (aA 2)) (eC (.int 48271))) (eC (.int 2147483647))))
  (aJ (aY 4 (aC fB (aC bL (aC bL (aC mulM (aA 3) (aC bL (aC uQ (aA 3) (eC (.int 4096))) (eC (.int 5)))) (aC mulM (eC (.int 29)) (aA 1))) (aA 2)) (eC (.int 2147483629))))
  (bE (aC fB (aC mulM (aA 4) (eC (.int 39373))) (eC (.int 1000000007))))))
def dB:iP:=dA 6 3
  (aJ (iQ 3 (fE aF))
  (aJ (aY 4 (eC (.int 0)))
  (aJ (fY (tV (aC geM (aA 0) (aC xa (eC (.int 10)) (eC (.int 18)))))
   (aY 4 (aA 0))
   dG)
  (aJ (cL (aQ (aB (aA 1) aF)) (iY 5)
   (fY (tV (aC uR (aA 4) (eC (.int 0))))
    (aJ (sX (nN 3 iI (bB (aC fB (aA 4) (eC (.int 64))))))
    (aY 4 (aC uQ (aA 4) (eC (.int 64)))))
    (sX (nN 3 iI (bB (aL LL.gW (aB (aA 0) (aB (aA 5) (aB (aA 2) aF)))))))))
  (bE (aA 3))))))
def eP:Nat->iP
 |0=>λ_=>.no
 |n+1=>dA 2 2
  (aJ (fY (tV (l8 "tuple" (aA 1)))
   (aJ (fY (G9 (sD (tV (l8 "tuple" (aA 0)))) (tV (aC G6 (bP bT (aB (aA 0) aF)) (bP bT (aB (aA 1) aF)))))
    (bE (eC (.bl af)))
    dG)
   (bE (bP allM (aB (aV 1 [0,1] (aQ (aB (bP bT (aB (aA 1) aF)) aF)) (g1 0) bO (aL (eP n) (aB (aC bI (aA 1) (aA 0)) (aB (aC bI (aA 2) (aA 0)) aF)))) aF))))
   dG)
  (aJ (fY (tV (aC XW (aA 1) (eC .non)))
   (bE (aC XW (aA 0) (eC .non)))
   dG)
  (aJ (fY (tV (l8 "bool" (aA 1)))
   (bE (uP (l8 "bool" (aA 0)) (aC qB (aA 0) (aA 1))))
   dG)
  (aJ (fY (tV (l8 "int" (aA 1)))
   (bE (uP (l8 "int" (aA 0)) (uP (vP (l8 "bool" (aA 0))) (aC qB (aA 0) (aA 1)))))
   dG)
  (bE (uP (l8 "str" (aA 0)) (aC qB (aA 0) (aA 1))))))))
def gX:iP:=dA 11 3
  (aJ (iQ 3 (pB (aB (aA 1) aF)))
  (aJ (iQ 4 (fE aF))
  (aJ (cL (aQ (aB (aA 1) aF)) (iY 5)
   (sX (nN 4 iI (nN 3 Q9 (jR (aC fB (aC bI (aA 0) (aA 5)) (bP bT (aB (aA 3) aF))))))))
  (aJ (zL 6)
  (aJ (aY 7 (aA 1))
  (aJ (cL (aQ (aB (aA 1) aF)) (iY 8)
   (aJ (aY 9 (fE aF))
   (aJ (cL (aQ (aB (aA 8) aF)) (iY 10)
    (aJ (fY (tV (aC X3 (aC fB (aC bI (aA 0) (aA 7)) (eC (.int 4))) (aA 2)))
     (kE 9 (aC BI (aA 9) (aV 1 [9] (aZ (aC bL (aC l7 (aA 6) (aC bI (aA 4) (aA 10))) (fE (aB (aC bI (aA 4) (aA 10)) aF)))) (g1 0) (tV (aC (jO ae) (aA 0) (aA 1))) (aA 0))))
     dG)
    (aY 7 (aC bL (aA 7) (eC (.int 1))))))
   (vS 6 (bB (aA 9)) (aC bI (aA 4) (aA 8))))))
  (bE (bP dF (aB (aV 1 [6] (aQ (aB (aA 1) aF)) (g1 0) bO (bP dF (aB (bP eM (aB (aC l7 (aA 1) (aA 0)) aF)) aF))) aF)))))))))
def i9:iP:=dA 7 4
  (aJ (aY 4 (aL LL.dB (aB (aL LL.dY (aB (aA 0) (aB (aA 1) aF))) (aB (eC (.int 4)) (aB (aA 3) aF)))))
  (aJ (aY 5 (aC fB (aC bI (aA 4) (eC (.int 0))) (aC bL (aA 2) (eC (.int 1)))))
  (aJ (aY 6 (aL LL.dB (aB (aL LL.dY (aB (aA 0) (aB (aC bL (aA 1) (eC (.int 1))) aF))) (aB (aC bL (aA 5) (aC uQ (aC mulM (aA 5) (aC gT (aA 5) (eC (.int 1)))) (eC (.int 2)))) (aB (aC bL (aA 3) (eC (.int 10007))) aF)))))
  (bE (aL LL.gX (aB (aA 6) (aB (aA 5) (aB (aC bI (fE (aB (eC (.int 1)) (aB (eC (.int 1)) (aB (eC (.int 2)) (aB (eC (.int 2)) (aB (eC (.int 3)) (aB (eC (.int 1)) (aB (eC (.int 0)) (aB (eC (.int 4)) aF))))))))) (aC fB (aC bI (aA 4) (eC (.int 1))) (eC (.int 8)))) aF))))))))
def tupI(xs:Q0e):D:=.tup (xs.map D.int)
def aG(xs:Q0e):D:=.lst (xs.map D.int)
def aH(rows:Q0a):D:=.tup (rows.map tupI)
def iJ:bL (.int i) (.int j)=aa (.int (i+j)):=rfl
def iK:gT (.int i) (.int j)=aa (.int (i-j)):=rfl
def cJ(h:0<j):fB (.int i) (.int j)=aa (.int (i%j)):=by simp[fB,oK,h]
def mK(h:0<j)(h2:j<1073741824):uQ (.int i) (.int j)=aa (.int (i/j)):=by simp[uQ,oK,h,show j.natAbs<1073741824 by omega]
def nO:X3 (.int i) (.int j)=aa (.bl (Zv (i<j))):=rfl
def BN:leM (.int i) (.int j)=aa (.bl (Zv (i<=j))):=rfl
def iE:uR (.int i) (.int j)=aa (.bl (Zv (j<i))):=rfl
def BO:geM (.int i) (.int j)=aa (.bl (Zv (j<=i))):=rfl
def dD:qB (.int i) (.int j)=aa (.bl (Zv (i=j))):=rfl
def lE:G6 (.int i) (.int j)=aa (.bl (!Zv (i=j))):=rfl
def sM:qB (.bl i) (.bl j)=aa (.bl (Zv (i=j))):=rfl
def nP:qB (.str i) (.str j)=aa (.bl (Zv (i=j))):=rfl
def BP:XW d .non=aa (.bl (qC d)):=rfl
def fQ:bI (.lst a) (.int i)=yN a i:=rfl
def lF:bI (.tup a) (.int i)=yN a i:=rfl
def BQ:bI (.jD a) (.int i)=(yN a i).map D.int:=rfl
def fU:bT [.lst a]=aa (.int a.length):=rfl
def jE:bT [.tup a]=aa (.int a.length):=rfl
def vZ:bT [.jD a]=aa (.int a.length):=rfl
def lG:dF [.lst a]=aa (.tup a):=rfl
def pI:dF [.tup a]=aa (.tup a):=rfl
def sN:Cv [.lst a]=aa (.lst a):=rfl
def sO:Cv [.tup a]=aa (.lst a):=rfl
def sP:DP (.lst a)=aa a:=rfl
def sQ:DP (.tup a)=aa a:=rfl
def dM:mH (.bl b)=aa b:=rfl
def pJ:mH (.lst b)=aa (!b.isEmpty):=rfl
def pK:mH (.tup b)=aa (!b.isEmpty):=rfl
def wB:t8 (.bl b)=aa b:=rfl
def jT(h:ds.length<16777216):iI ds d=aa (ds++[d],.non):=Z_ h
def X9(h:ds.length+es.length<=16777216):NL ds (.lst es)=aa (ds++es,.non):=Z_ h
def nQ:zK [.tup ds]=aa (ds.zipIdx.map λp=>.tup [.int (p.2:Int),p.1]):=rfl
def nR:zK [.lst ds]=aa (ds.zipIdx.map λp=>.tup [.int (p.2:Int),p.1]):=rfl
def wD:wz [.tup ds]=aa ds.reverse:=rfl
def wF:wz [.lst ds]=aa ds.reverse:=rfl
def BR(h:t ρ=aa ds)(hl:ds.length<=16777216):cB t ρ=aa (.tup ds):=by unfold cB;rw[h];exact Z_ hl
def eQ(hl:ds.length=np)(h:b (eO n ds)=.rt d):dA n np b ds=.ok d:=by unfold dA;rw[Z_ hl,h]
def bM(ρ':bH)(h1:f ρ=.nx ρ')(h2:g ρ'=o):aJ f g ρ=o:=by unfold aJ;rw[h1];exact h2
def mL(h1:f ρ=.rt d):aJ f g ρ=.rt d:=by unfold aJ;rw[h1]
def eF(h:f (bC ρ)=aa d):bE f ρ=.rt d:=by unfold bE;rw[h]
def cZ(d:D)(h:f (gR ρ)=aa d)(hr:ρ.set i (.ro d)=ρ'):aY i f ρ=.nx ρ':=by unfold aY;rw[h,<- hr]
def uU(h:t (bC ρ)=aa ae)(h2:a ρ=o):fY t a b ρ=o:=by unfold fY;rw[h];exact h2
def mC(h:t (bC ρ)=aa af)(h2:b ρ=o):fY t a b ρ=o:=by unfold fY;rw[h];exact h2
def yV(ds:List D)(h:it (gR ρ)=aa ds)(h2:eJ g b ds ρ=o):cL it g b ρ=o:=by unfold cL;rw[h];exact h2
def dH(ds:List D)(h:it ρ=aa ds)(hl:ds.length<=16777216)(h2:gS g t e (benv nl fr ρ) ds=aa ys):aV nl fr it g t e ρ=aa (.lst ys):=by unfold aV;rw[h];show(if ds.length<=mF then _ else _)=_;rw[Z_ (show ds.length<=mF from hl),h2];rfl
def qI(h:a.length+b.length<=16777216):bL (.lst a) (.lst b)=aa (.lst (a++b)):=Z_ h
def qJ(h:a.length+b.length<=16777216):bL (.tup a) (.tup b)=aa (.tup (a++b)):=Z_ h
def DS(h:a.length+b.length<=16777216):BI (.lst a) (.lst b)=aa (.lst (a++b)):=Z_ h
def mM(h:i.natAbs<18446744073709551616):mulM (.int i) (.int j)=aa (.int (i*j)):=by simp[mulM,oK,vQ,h]
def HL(h:j.natAbs<18446744073709551616):mulM (.int i) (.int j)=aa (.int (i*j)):=by simp[mulM,oK,vQ,h]
def wH(h:j.natAbs<4611686018427387904):HF [.int j]=aa ((a9 0 j.toNat).map D.int):=Z_ h
def mN{n:Nat}(h:n<4611686018427387904):HF [.int (n:Int)]=aa ((a9 0 n).map D.int):=by rw[wH (by omega)];rfl
theorem dZ:∀ns:Q0e,intsOf (ns.map D.int)=aa ns
 |[]=>rfl
 |n::ns=>by simp[intsOf,dZ ns]
def lH{neg:Bool}{i:Int}{ns:Q0e}:jO neg (.int i) (.tup (ns.map D.int))=aa (.bl (if neg then !ns.contains i else ns.contains i)):=by simp[jO,dZ]
def nU{neg:Bool}{i:Int}{ns:Q0e}:jO neg (.int i) (.lst (ns.map D.int))=aa (.bl (if neg then !ns.contains i else ns.contains i)):=by simp[jO,dZ]
def sorted_ints(h:ns.length<64):eM [.lst (ns.map D.int)]=aa (.lst ((sortI ns).map D.int)):=by simp[eM,dZ,h]
def sum_ints{ns:Q0e}:HC [.lst (ns.map D.int)]=aa (.int ns.sum):=by simp[HC,dZ]
theorem sR:∀bs:List Bool,pA (bs.map D.bl)=aa bs
 |[]=>rfl
 |b::bs=>by simp[pA,mH,sR bs]
def vC{bs:List Bool}:allM [.lst (bs.map D.bl)]=aa (.bl (bs.all id)):=by simp[allM,sR]
def KY{bs:List Bool}:anyM [.lst (bs.map D.bl)]=aa (.bl (bs.any id)):=by simp[anyM,sR]
def sS{n:Nat}{i:Int}(h0:0<=i)(h1:i<n):NJ n i=aa i.toNat:=by unfold NJ;rw[Z_ h0,Z_ h1]
def YA(h:k<n):NJ n (k:Int)=aa k:=by rw[sS (by omega) (by omega)];rfl
def nV{α:Type}{xs:List α}{k:Nat}(h:k<xs.length):yN xs (k:Int)=xs[k]?:=by unfold yN;rw[YA h];rfl
def pL{α:Type}{xs:List α}{i:Int}(h0:0<=i)(h1:i<xs.length):∃x∈xs,yN xs i=aa x/\xs[i.toNat]?=aa x:=by
 have hl:i.toNat<xs.length:=by omega
 refine⟨xs[i.toNat],mf hl,?_,by simp[hl]⟩;unfold yN;rw[sS h0 h1];simp[hl]
theorem fZ{α β:Type}(f:α->β)(xs:List α)(i:Int):yN (xs.map f) i=(yN xs i).map f:=by
 unfold yN;rw[au]
 cases NJ xs.length i with
 |none=>rfl
 |some j=>simp
def BS{α:Type}{xs:List α}{k:Nat}{x:α}(h:xs[k]?=aa x):yN xs (k:Int)=aa x:=by rw[nV (cg.mp h).1,h]
def aT(lo:Int)(n:Nat):(a9 lo n).length=n:=by simp[a9]
def jF(h:i<n):(a9 lo n)[i]?=aa (lo+(i:Int)):=by simp[a9,h]
def sU(lo:Int)(n:Nat):a9 lo (n+1)=a9 lo n++[lo+(n:Int)]:=by simp[a9,Fq]
def cM:x∈a9 lo n↔lo<=x/\x<lo+n:=by
 unfold a9;rw[de];simp only[d_]
 constructor
 .rintro ⟨k,hk,rfl⟩;omega
 .rintro ⟨h1,h2⟩;exact⟨(x-lo).toNat,by omega,by omega⟩
theorem DT(P:Nat->bH->Prop)(ds:List D)(h0:P 0 ρ)(step:∀(i:Nat) (d:D) (ρ:bH),ds[i]?=aa d->P i ρ ->∃ρ1 ρ2,g d ρ=aa ρ1/\b ρ1=.nx ρ2/\P (i+1) ρ2):
  ∃ρ',eJ g b ds ρ=.nx ρ'/\P ds.length ρ':=by
 suffices H:∀(l:List D) (k:Nat) (ρ:bH),ds.drop k=l->k<=ds.length->P k ρ ->∃ρ',eJ g b l ρ=.nx ρ'/\P ds.length ρ' from H ds 0 ρ (by simp) (jq _) h0
 intro l
 induction l with
 |nil =>
  intro k ρ hl hk hp;have:ds.length<=k:=by simpa using hl
  exact⟨ρ,rfl,by rwa [show ds.length=k by omega]⟩
 |cons d l ih =>
  intro k ρ hl hk hp;have hk':k<ds.length:=by apply Gm;intro h;rw[Ge (by omega)] at hl;cases hl
  have hd:ds[k]?=aa d:=by have:=congrArg (λx=>x[0]?) hl;simpa using this
  obtain⟨ρ1,ρ2,e1,e2,p2⟩:=step k d ρ hd hp;have hl2:ds.drop (k+1)=l:=by rw[pj hk'] at hl;exact(a38 hl).2
  obtain⟨ρ',e3,p3⟩:=ih (k+1) ρ2 hl2 hk' p2;exact⟨ρ',by simp only[eJ,e1,e2,e3],p3⟩
theorem RL(P:Nat->bH->Prop)(lo:Int)(n:Nat)(h0:P 0 ρ)(step:∀(i:Nat) (ρ:bH),i<n->P i ρ ->∃ρ1 ρ2,g (.int (lo+(i:Int))) ρ=aa ρ1/\b ρ1=.nx ρ2/\P (i+1) ρ2):
  ∃ρ',eJ g b ((a9 lo n).map D.int) ρ=.nx ρ'/\P n ρ':=by
 have:=DT (g:=g) (b:=b) P ((a9 lo n).map D.int) h0 λi d ρ hd hp=>by
  have hi:i<n:=by have:=(cg.mp hd).1;simpa[aT] using this
  rw[cf,jF hi] at hd;cases hd;exact step i ρ hi hp
 simpa[aT] using this
theorem zQ{α:Type}(mk:α->D)(f:α->D)(l:List α)(h:∀a∈l,(g (mk a) ρ).bind e=aa (f a)):gS g bO e ρ (l.map mk)=aa (l.map f):=by
 induction l with
 |nil=>rfl
 |cons a l ih =>
  have h1:=h a (by simp);have h2:=ih λx hx=>h x (by simp[hx])
  cases hg:g (mk a) ρ with
  |none=>rw[hg] at h1;cases h1
  |some ρ1 =>
   rw[hg] at h1;have h1':e ρ1=aa (f a):=h1;simp only[bp,gS,hg,cj,bO,if_true,h1',h2,oo]
def bW{α:Type}(mk:α->D)(f:α->D)(l:List α)(h:∀a∈l,∃ρ1,g (mk a) ρ=aa ρ1/\e ρ1=aa (f a)):gS g bO e ρ (l.map mk)=aa (l.map f) :=
 zQ mk f l λa ha=>by obtain⟨ρ1,h1,h2⟩:=h a ha;rw[h1];exact h2
theorem cR{α:Type}(mk:α->D)(p:α->Bool)(f:α->D)(l:List α)(h:∀a∈l,∃ρ1,g (mk a) ρ=aa ρ1/\t ρ1=aa (p a)/\(p a=ae->e ρ1=aa (f a))):
  gS g t e ρ (l.map mk)=aa ((l.filter p).map f):=by
 induction l with
 |nil=>rfl
 |cons a l ih =>
  obtain⟨ρ1,h1,h2,h3⟩:=h a (by simp);have ih:=ih λx hx=>h x (by simp[hx])
  cases hp:p a with
  |false=>simp[gS,h1,h2,hp,ih]
  |true=>simp[gS,h1,h2,hp,h3 hp,ih]
theorem DU{α β:Type}(mk:α->D)(out:β->D)(R:α->β->Prop)(l:List α)(h:∀a∈l,∃ρ1 b,g (mk a) ρ=aa ρ1/\e ρ1=aa (out b)/\R a b):
  ∃bs:List β,bs.length=l.length/\(∀(i:Nat) (a:α) (b:β),l[i]?=aa a->bs[i]?=aa b->R a b)/\gS g bO e ρ (l.map mk)=aa (bs.map out):=by
 induction l with
 |nil=>exact⟨[],rfl,λi a b h=>by simp at h,rfl⟩
 |cons a l ih =>
  obtain⟨ρ1,b,h1,h2,h3⟩:=h a (by simp);obtain⟨bs,hl,hr,hc⟩:=ih λx hx=>h x (by simp[hx]);refine⟨b::bs,by simp[hl],λi x y hx hy=>?_,by simp[gS,h1,h2,hc,bO]⟩
  cases i with
  |zero=>simp at hx hy;subst hx hy;exact h3
  |succ i=>exact hr i x y (by simpa using hx) (by simpa using hy)
def Rt(o:Out)(Q:D->Prop):Prop:=∃d,o=.rt d/\Q d
def Nx(o:Out)(Q:bH->Prop):Prop:=∃ρ,o=.nx ρ/\Q ρ
def gF(M:bH->Prop)(h1:Nx (f ρ) M)(h2:∀ρ',M ρ'->Rt (g ρ') Q):Rt (aJ f g ρ) Q:=by obtain⟨ρ',e,m⟩:=h1;unfold aJ;rw[e];exact h2 ρ' m
def wJ(M:bH->Prop)(h1:Nx (f ρ) M)(h2:∀ρ',M ρ'->Nx (g ρ') Q):Nx (aJ f g ρ) Q:=by obtain⟨ρ',e,m⟩:=h1;unfold aJ;rw[e];exact h2 ρ' m
def a8(ρ':bH)(h1:f ρ=.nx ρ')(h2:Rt (g ρ') Q):Rt (aJ f g ρ) Q:=by unfold aJ;rw[h1];exact h2
def fG(ρ':bH)(h1:f ρ=.nx ρ')(h2:Nx (g ρ') Q):Nx (aJ f g ρ) Q:=by unfold aJ;rw[h1];exact h2
def qK(h1:Rt (f ρ) Q):Rt (aJ f g ρ) Q:=by obtain⟨d,e,m⟩:=h1;unfold aJ;rw[e];exact⟨d,rfl,m⟩
def KZ(c:Bool)(h:t (bC ρ)=aa c)(h1:c=ae->Rt (a ρ) Q)(h2:c=af->Rt (b ρ) Q):Rt (fY t a b ρ) Q:=by unfold fY;rw[h];cases c;exact h2 rfl;exact h1 rfl
def uC(c:Bool)(h:t (bC ρ)=aa c)(h1:c=ae->Nx (a ρ) Q)(h2:c=af->Nx (b ρ) Q):Nx (fY t a b ρ) Q:=by unfold fY;rw[h];cases c;exact h2 rfl;exact h1 rfl
def eW(d:D)(h:f (bC ρ)=aa d)(q:Q d):Rt (bE f ρ) Q:=⟨d,eF h,q⟩
def mO(d:D)(h:f (gR ρ)=aa d)(q:Q (ρ.set i (.ro d))):Nx (aY i f ρ) Q:=⟨_,cZ d h rfl,q⟩
def mP(q:Q ρ):Nx (dG ρ) Q:=⟨ρ,rfl,q⟩
theorem mQ(ds:List D)(P:Nat->bH->Prop)(h:it (gR ρ)=aa ds)(h0:P 0 ρ)(step:∀(i:Nat) (d:D) (ρ:bH),ds[i]?=aa d->P i ρ ->∃ρ1,g d ρ=aa ρ1/\Nx (b ρ1) (P (i+1)))
  (fin:∀ρ',P ds.length ρ'->Q ρ'):Nx (cL it g b ρ) Q:=by
 obtain⟨ρ',e,p⟩:=DT (g:=g) (b:=b) P ds h0 λi d ρ hd hp=>by obtain⟨ρ1,e1,ρ2,e2,p2⟩:=step i d ρ hd hp;exact⟨ρ1,ρ2,e1,e2,p2⟩
 exact⟨ρ',yV ds h e,fin ρ' p⟩
theorem gY{t:AF}{g:Q1}{b:SF}{ρ:bH}{Q:bH->Prop}(n:Nat)(P:Nat->bH->Prop)(h:t (gR ρ)=aa [.int (n:Int)])(hn:n<4611686018427387904)(h0:P 0 ρ)(step:∀(i:Nat) (ρ:bH),i<n->P i ρ ->∃ρ1,g (.int (i:Int)) ρ=aa ρ1/\Nx (b ρ1) (P (i+1)))
  (fin:∀ρ',P n ρ'->Q ρ'):Nx (cL (aQ t) g b ρ) Q:=by
 refine mQ ((a9 0 n).map D.int) P (by unfold aQ;rw[h,cj,mN hn]) h0 (λi d ρ hd hp=>?_) (λρ' p=>fin ρ' (by simpa[aT] using p));have hi:i<n:=by have:=(cg.mp hd).1;simpa[aT] using this
 rw[cf,jF hi] at hd;have hd:D.int (0+(i:Int))=d:=by simpa using hd
 subst hd;obtain⟨ρ1,e,q⟩:=step i ρ hi hp;exact⟨ρ1,by rw[jj];exact e,q⟩
def gG(hl:ds.length=np)(h:Rt (b (eO n ds)) Q):∃d,dA n np b ds=.ok d/\Q d:=by obtain⟨d,e,q⟩:=h;exact⟨d,eQ hl e,q⟩
theorem zR:∀(l:Q0e) (j:Nat),(l.map D.int).eraseIdx j=(l.eraseIdx j).map D.int
 |[],j=>by simp
 |a::l,0=>by simp
 |a::l,j+1=>by simp[zR l j]
def aN(ha:a ρ=aa x)(hb:b ρ=aa y)(h:g x y=z):aC g a b ρ=z:=by unfold aC;rw[ha,hb];exact h
def cD(ha:a ρ=aa x)(h:g [x]=z):bP g (aB a aF) ρ=z:=by unfold bP aB aF;rw[ha];exact h
def YB(ha:a ρ=aa x)(hb:b ρ=aa y)(h:g [x,y]=z):bP g (aB a (aB b aF)) ρ=z:=by unfold bP aB aF;rw[ha,hb];exact h
def eR(ha:a ρ=aa x)(h:f [x]=.ok d):aL f (aB a aF) ρ=aa d:=by unfold aL aB aF;rw[ha];show DN (f [x])=_;rw[h];rfl
def bN(ha:a ρ=aa x)(hb:b ρ=aa y)(h:f [x,y]=.ok d):aL f (aB a (aB b aF)) ρ=aa d:=by unfold aL aB aF;rw[ha,hb];show DN (f [x,y])=_;rw[h];rfl
def gZ(ha:a ρ=aa x)(hb:b ρ=aa y)(hc:c ρ=aa z)(h:f [x,y,z]=.ok d):aL f (aB a (aB b (aB c aF))) ρ=aa d:=by unfold aL aB aF;rw[ha,hb,hc];show DN (f [x,y,z])=_;rw[h];rfl
def pM(ha:a ρ=aa x)(hb:b ρ=aa y)(hc:c ρ=aa z)(he:e ρ=aa w)(h:f [x,y,z,w]=.ok d):aL f (aB a (aB b (aB c (aB e aF)))) ρ=aa d:=by unfold aL aB aF;rw[ha,hb,hc,he];show DN (f [x,y,z,w])=_;rw[h];rfl
def args1(ha:a ρ=aa x):aB a aF ρ=aa [x]:=by unfold aB aF;rw[ha];rfl
def args2(ha:a ρ=aa x)(hb:b ρ=aa y):aB a (aB b aF) ρ=aa [x,y]:=by unfold aB aF;rw[ha,hb];rfl
def mR{a:EF}{ρ:dC}{n:Nat}(ha:a ρ=aa (.int (n:Int)))(hn:n<4611686018427387904):aQ (aB a aF) ρ=aa ((a9 0 n).map D.int):=by unfold aQ;rw[args1 ha,cj,mN hn]
def Wi(ha:a ρ=aa (.int i))(hb:b ρ=aa (.int j))(hi:i.natAbs<4611686018427387904)(hj:j.natAbs<4611686018427387904):aQ (aB a (aB b aF)) ρ=aa ((a9 i (j-i).toNat).map D.int):=by unfold aQ;rw[args2 ha hb,cj];exact Z_ ⟨hi,hj⟩
def gC(h:f ρ=aa d)(ht:mH d=aa b):tV f ρ=aa b:=by unfold tV;rw[h];exact ht
def tnE(h:t ρ=aa b)(hc:(!b)=c):sD t ρ=aa c:=by unfold sD;rw[h,<- hc];rfl
def DW(h:t ρ=aa b)(h2:b=ae->u ρ=aa c)(h3:b=af->c=af):kD t u ρ=aa c:=by
 unfold kD;rw[h];cases b
 .rw [h3 rfl];rfl
 .exact h2 rfl
def YC(h:t ρ=aa b)(h2:b=af->u ρ=aa c)(h3:b=ae->c=ae):G9 t u ρ=aa c:=by
 unfold G9;rw[h];cases b
 .exact h2 rfl
 .rw [h3 rfl];rfl
def K0{l:Q0e}{i:Int}{y:Int}(h0:0<=i)(h1:i<l.length)(h2:l.length<=16777216)(hy:l[i.toNat]?=aa y):Q9 (l.map D.int) (.int i)=aa ((l.eraseIdx i.toNat).map D.int,.int y):=by show(if i.natAbs<9223372036854775808 then _ else _)=_;rw[Z_ (by omega),au,sS h0 h1,cj,cf,hy,zR];rfl
def gH{ws:Q0e}{j:Nat}{x:Int}(h:ws[j]?=aa x):yN (ws.map D.int) (j:Int)=aa (.int x):=by rw[fZ,BS h];rfl
def DX{α:Type}{l:List α}{i j:Nat}{x:α}(h:l[i]?=aa x)(hij:i<j):(l.take j)[i]?=aa x:=by rw[um hij];exact h
theorem nW:∀ns:Q0e,sC (ns.map D.int)=ae
 |[]=>rfl
 |n::ns=>by rw[bp,sC,nW ns];rfl
def pN:iH (q::ks) (d::ds) k=if q=k then aa d else iH ks ds k:=by
 by_cases e:q=k
 .simp [iH,e]
 .simp [iH,e]
theorem kG:∀{word:Q0e} {us:Q0a} {i:Nat} {x:Int} {v:Q0e},word.Nodup->word[i]?=aa x->us[i]?=aa v->iH (word.map bu) (us.map aG) (bu x)=aa (aG v)
 |[],us,i,x,v,_,h,_=>by simp at h
 |w::ws,[],i,x,v,_,_,h=>by simp at h
 |w::ws,u::us,0,x,v,_,h1,h2=>by simp at h1 h2;subst h1 h2;rw[bp,bp,pN,Z_ rfl]
 |w::ws,u::us,i+1,x,v,hn,h1,h2=>by
  obtain⟨n1,n2⟩:=ma.mp hn;have h1':ws[i]?=aa x:=by simpa using h1
  have ne:(bu w:Sum Int aj)≠bu x:=λe=>n1 (by cases e;exact ik h1');rw[bp,bp,pN,Zz ne];exact kG n2 h1' (by simpa using h2)
theorem sV:∀{word:Q0e} {us:Q0a} {x:Int},x∉word->iH (word.map bu) (us.map aG) (bu x)=ab
 |[],us,x,_=>by simp[iH]
 |w::ws,[],x,_=>by simp[iH]
 |w::ws,u::us,x,h=>by have ne:(bu w:Sum Int aj)≠bu x:=λe=>h (by cases e;exact cp);rw[bp,bp,pN,Zz ne];exact sV λz=>h (dq _ z)
theorem insI_perm(a:Int):∀l:Q0e,(insI a l).Perm (a::l)
 |[]=>.refl _
 |b::l=>by
  unfold insI;split
  .exact .refl _
  .exact ((insI_perm a l).cons b).trans (.swap a b l)
theorem sortI_perm:∀l:Q0e,(sortI l).Perm l
 |[]=>.refl _
 |a::l=>(insI_perm a (sortI l)).trans ((sortI_perm l).cons a)
theorem uD(a:Int):∀l:Q0e,l.Pairwise (· <= ·)->(insI a l).Pairwise (· <= ·)
 |[],_=>by simp[insI]
 |b::l,h=>by
  unfold insI;split
  .rename_i hab;refine fv.mpr ⟨λc hc=>?_,h⟩;rcases bz.mp hc with e|e
   .subst e;exact hab
   .exact yx hab ((fv.mp h).1 c e)
  .rename_i hab;refine fv.mpr ⟨λc hc=>?_,uD a l (fv.mp h).2⟩;rcases bz.mp ((insI_perm a l).mem_iff.mp hc) with e|e
   .subst e;omega
   .exact (fv.mp h).1 c e
theorem gI:∀l:Q0e,(sortI l).Pairwise (· <= ·)
 |[]=>Gf
 |a::l=>uD a _ (gI l)
local macro_rules | `(tactic| walk_at "ev") => `(tactic| simp only[eO,aJ,fY,bE,aY,jS,iQ,RA,kE,zL,sX,cL,dG,aA,eC,aC,tV,sD,kD,G9,uP,mq,vP,KO,sE,HA,aF,aB,bP,aL,DN,l8,aZ,aQ,lZ,w_,wy,g1,g2,iY,KP,t9,bO,benv,X5,X4,oE,asInt,bB,nN,l9,bC,gR,Sv.all,Sv.rd,bp,j_,uo,o_,Fy,Ey,Ez,cj,E_,oo,Ex,Fm,Fn,Fl,cy,me,au,yr,uh,i_,Fp,Nat.reduceSub,Nat.reduceAdd,Nat.reduceEqDiff,dM,pJ,pK,wB,X2,iJ,iK,nO,BN,iE,BO,dD,lE,sM,nP,BP,qC,fQ,lF,BQ,fU,jE,vZ,lG,pI,sN,sO,sP,sQ,nQ,nR,wD,wF,if_true,if_false,ite_true,ite_false,reduceIte,decide_true,decide_false,decide_eq_true_eq,rb,Gp,Gq,lH,nU])
def jU(ns:Q0e)(k:Int):∃c,dY [.jD ns,.int k]=.ok (.int c):=by
 unfold dY;by_cases h:(ns.length:Int)=0
 .exact ⟨0,eQ rfl (mL (uU (by walk_at "ev";rw[Zx h]) rfl))⟩
 .obtain ⟨x,_,e,_⟩:=pL (xs:=ns) (i:=k%(ns.length:Int)) (jk _ (by omega)) (k_ _ (by omega));refine⟨x,eQ rfl (bM _ (mC (by walk_at "ev";rw[Zy h]) rfl) (eF ?_))⟩
  walk_at "ev"
  rw[cJ (by omega)]
  walk_at "ev"
  rw[e];rfl
def RM(c k s:Int):Int:=(c+11*k*k+17*k+s)*48271%2147483647
def A_(c k s:Int):Int:=(RM c k s*(RM c k s/4096+5)+29*k+s)%2147483629
def RN(c k s:Int)(h0:0<=k)(h1:k<1000000):∃r,0<=r/\gW [.int c,.int k,.int s]=.ok (.int r):=by
 unfold gW;have ha:0<=RM c k s:=jk ((c+11*k*k+17*k+s)*48271) (b:=2147483647) (by decide);have hb:RM c k s<2147483647:=k_ ((c+11*k*k+17*k+s)*48271) (b:=2147483647) (by decide);refine⟨A_ c k s*39373%1000000007,jk _ (b:=1000000007) (by decide),eQ rfl (bM _ (cZ (.int (RM c k s)) ?_ rfl) (bM _ (cZ (.int (A_ c k s)) ?_ rfl) (eF ?_)))⟩
 .walk_at "ev"
  rw[mM (by decide)]
  walk_at "ev"
  rw[HL (by omega),mM (i:=17) (by decide)]
  walk_at "ev"
  rw[HL (j:=48271) (by decide)]
  walk_at "ev"
  rw[cJ (by decide)];rfl
 .walk_at "ev"
  rw[mK (by decide) (by decide)]
  walk_at "ev"
  rw[mM (by omega),mM (i:=29) (by decide)]
  walk_at "ev"
  rw[cJ (by decide)];rfl
 .walk_at "ev"
  rw[HL (j:=39373) (by decide)]
  walk_at "ev"
  rw[cJ (by decide)]
def sW(xs:Q0e)(x:Int):D.lst (xs.map D.int++[.int x])=aG (xs++[x]):=by simp[aG]
def iL(c many s:Int)(h0:0<=many)(h1:many<1000000):∃xs:Q0e,xs.length=many.toNat/\(∀x∈xs,0<=x)/\dB [.int c,.int many,.int s]=.ok (aG xs):=by
 unfold dB;have key:∀left:Int,∃ρ',eJ (iY 5) (fY (tV (aC uR (aA 4) (eC (.int 0))))
    (aJ (sX (nN 3 iI (bB (aC fB (aA 4) (eC (.int 64))))))
    (aY 4 (aC uQ (aA 4) (eC (.int 64)))))
    (sX (nN 3 iI (bB (aL LL.gW (aB (aA 0) (aB (aA 5) (aB (aA 2) aF))))))))
    ((a9 0 many.toNat).map D.int) [Sv.ro (.int c),Sv.ro (.int many),Sv.ro (.int s),Sv.ow (.lst []),Sv.ro (.int left),Sv.no]=.nx ρ' /\
    ∃(xs:Q0e) (l:Int) (v:Sv),xs.length=many.toNat/\(∀x∈xs,0<=x)/\ρ'=[Sv.ro (.int c),Sv.ro (.int many),Sv.ro (.int s),Sv.ow (aG xs),Sv.ro (.int l),v]:=by
  intro left;refine RL (λi ρ'=>∃(xs:Q0e) (l:Int) (v:Sv),xs.length=i/\(∀x∈xs,0<=x)/\ρ'=[Sv.ro (.int c),Sv.ro (.int many),Sv.ro (.int s),Sv.ow (aG xs),Sv.ro (.int l),v]) 0 _ ⟨[],left,_,rfl,by simp,rfl⟩ ?_;rintro i _ hi ⟨xs,l,v,hx,hn,rfl⟩;have hlen:(xs.map D.int).length<16777216:=by rw[au];omega
  by_cases hl:0<l
  .refine ⟨_,_,rfl,uU (by walk_at "ev";rw[Zx hl]) (bM [Sv.ro (.int c),Sv.ro (.int many),Sv.ro (.int s),Sv.ow (aG (xs++[l%64])),Sv.ro (.int l),Sv.ro (.int (0+(i:Int)))] ?_ (cZ (.int (l/64)) ?_ rfl)),xs++[l%64],l/64,_,by simp[hx],?_,rfl⟩
   .walk_at "ev"
    rw[cJ (by decide)]
    walk_at "ev"
    simp only[aG,l9]
    walk_at "ev"
    rw[jT hlen]
    walk_at "ev"
    rw[sW];rfl
   .walk_at "ev"
    rw[mK (by decide) (by decide)]
   .intro x hx;rcases gu.mp hx with h|h
    .exact hn x h
    .rw [cm.mp h];exact jk _ (by decide)
  .obtain ⟨r,hr,e⟩:=RN c (0+(i:Int)) s (by omega) (by omega);refine⟨_,[Sv.ro (.int c),Sv.ro (.int many),Sv.ro (.int s),Sv.ow (aG (xs++[r])),Sv.ro (.int l),Sv.ro (.int (0+(i:Int)))],rfl,mC (by walk_at "ev";rw[Zy hl]) ?_,xs++[r],l,_,by simp[hx],?_,rfl⟩
   .walk_at "ev"
    rw[e];simp only[aG,l9]
    walk_at "ev"
    rw[jT hlen]
    walk_at "ev"
    rw[sW];rfl
   .intro x hx;rcases gu.mp hx with h|h
    .exact hn x h
    .rw [cm.mp h];exact hr
 have hp:xa (.int 10) (.int 18)=aa (.int 1000000000000000000):=rfl;have fin:∀left:Int,(0=0) ->∃xs:Q0e,xs.length=many.toNat/\(∀x∈xs,0<=x)/\aJ (cL (aQ (aB (aA 1) aF)) (iY 5) (fY (tV (aC uR (aA 4) (eC (.int 0))))
    (aJ (sX (nN 3 iI (bB (aC fB (aA 4) (eC (.int 64))))))
    (aY 4 (aC uQ (aA 4) (eC (.int 64)))))
    (sX (nN 3 iI (bB (aL LL.gW (aB (aA 0) (aB (aA 5) (aB (aA 2) aF))))))))) (bE (aA 3)) [Sv.ro (.int c),Sv.ro (.int many),Sv.ro (.int s),Sv.ow (.lst []),Sv.ro (.int left),Sv.no]=.rt (aG xs):=by
  intro left _;obtain⟨ρ',e,xs,l,v,h1',h2',rfl⟩:=key left;refine⟨xs,h1',h2',bM _ (yV _ ?_ e) (eF rfl)⟩
  walk_at "ev"
  exact wH (by omega)
 by_cases hc:1000000000000000000<=c
 .obtain ⟨xs,a,b,e⟩:=fin c rfl;refine⟨xs,a,b,eQ rfl (bM _ rfl (bM _ rfl (bM _ (uU ?_ rfl) e)))⟩
  walk_at "ev"
  rw[hp]
  walk_at "ev"
  rw[Zx hc]
 .obtain ⟨xs,a,b,e⟩:=fin 0 rfl;refine⟨xs,a,b,eQ rfl (bM _ rfl (bM _ rfl (bM _ (mC ?_ rfl) e)))⟩
  walk_at "ev"
  rw[hp]
  walk_at "ev"
  rw[Zy hc]
theorem DY(dr:Q0e)(n:Nat)(th:Int)(hn:n<=9)(hl:n+Ord.tri n<=dr.length):
  ∃d,gX [aG dr,.int n,.int th]=.ok d /\∃rows:Q0a,rows.length=n/\Ord.Rows rows/\d=aH rows:=by
 unfold gX;refine gG rfl ?_;rw[show eO 11 [aG dr,.int n,.int th]=[Sv.ro (aG dr),Sv.ro (.int n),Sv.ro (.int th),Sv.no,Sv.no,Sv.no,Sv.no,Sv.no,Sv.no,Sv.no,Sv.no] from rfl];refine a8 [Sv.ro (aG dr),Sv.ro (.int n),Sv.ro (.int th),Sv.ow (.lst ((a9 0 n).map D.int)),Sv.no,Sv.no,Sv.no,Sv.no,Sv.no,Sv.no,Sv.no] ?_ ?_
 .walk_at "ev"
  simp only[pB]
  walk_at "ev"
  rw[Z_ (by omega)];rfl
 refine a8 [Sv.ro (aG dr),Sv.ro (.int n),Sv.ro (.int th),Sv.ow (.lst ((a9 0 n).map D.int)),Sv.ow (.lst []),Sv.no,Sv.no,Sv.no,Sv.no,Sv.no,Sv.no] rfl ?_;refine gF (λρ=>∃(word:Q0e) (kv v3:Sv),word.Perm (a9 0 n)/\ρ=[Sv.ro (aG dr),Sv.ro (.int n),Sv.ro (.int th),v3,Sv.ow (aG word),kv,Sv.no,Sv.no,Sv.no,Sv.no,Sv.no]) ?_ ?_
 .refine gY n (λi ρ=>∃(rest word:Q0e) (kv:Sv),word.length=i/\(word++rest).Perm (a9 0 n)/\ρ=[Sv.ro (aG dr),Sv.ro (.int n),Sv.ro (.int th),Sv.ow (aG rest),Sv.ow (aG word),kv,Sv.no,Sv.no,Sv.no,Sv.no,Sv.no])
   rfl (by omega) ⟨a9 0 n,[],Sv.no,rfl,.refl _,rfl⟩ ?_ ?_
  .rintro i _ hi ⟨rest,word,kv,hw,hp,rfl⟩;have hlr:word.length+rest.length=n:=by have:=hp.length_eq;rw[ck,aT] at this;exact this
   obtain⟨x,hx⟩:∃x,dr[i]?=aa x:=⟨_,ba (by omega)⟩;have hr0:(0:Int)<rest.length:=by omega
   have h0:=jk x (show(rest.length:Int)≠0 by omega);have h1:=k_ x hr0;obtain⟨y,hy⟩:∃y,rest[(x%(rest.length:Int)).toNat]?=aa y:=⟨_,ba (by omega)⟩;refine⟨_,rfl,[Sv.ro (aG dr),Sv.ro (.int n),Sv.ro (.int th),Sv.ow (aG (rest.eraseIdx (x%(rest.length:Int)).toNat)),Sv.ow (aG (word++[y])),Sv.ro (.int i),Sv.no,Sv.no,Sv.no,Sv.no,Sv.no],?_,rest.eraseIdx (x%(rest.length:Int)).toNat,word++[y],Sv.ro (.int i),by simp[hw],?_,rfl⟩
   .have e1:=K0 h0 h1 (by omega) hy;simp only[aG]
    walk_at "ev"
    simp only[jR]
    walk_at "ev"
    rw[gH hx]
    walk_at "ev"
    rw[cJ hr0]
    walk_at "ev"
    simp only[D.zJ,ite_true,cj]
    walk_at "ev"
    rw[e1]
    walk_at "ev"
    rw[jT (by rw[au];omega)]
    walk_at "ev"
    rw[e_];rfl
   .rw [mj];exact((Ord.pG rest _ y hy).append_left word).trans hp
  .rintro _ ⟨rest,word,kv,hw,hp,rfl⟩;have hlr:word.length+rest.length=n:=by have:=hp.length_eq;rw[ck,aT] at this;exact this
   have e:rest=[]:=nq.mp (by omega);subst e;rw[jh] at hp;exact⟨word,kv,_,hp,rfl⟩
 rintro _ ⟨word,kv,v3,hp,rfl⟩;have hpw:word.Perm ((bh n).map λk:Nat=>(k:Int)):=by
  have e:a9 0 n=(bh n).map λk:Nat=>(k:Int):=gf λk _=>by show 0+(k:Int)=k;omega
  rw[<- e];exact hp
 have hlw:word.length=n:=by rw[hpw.length_eq,au,jr]
 have RO:word.Nodup:=hpw.nodup_iff.mpr (pw _ (λa b hab e=>hab (by omega)) Fw);have HM:∀{us:Q0a} (t:Nat) (u:Q0e),Ord.Under word us t u->u.length<=n:=λ{us} t u h=>by rw[<- hlw];exact Ord.dW u word h.1 λa ha=>by obtain⟨s,_,_,h2,_⟩:=h.2 a ha;exact ik h2
 refine a8 [Sv.ro (aG dr),Sv.ro (.int n),Sv.ro (.int th),v3,Sv.ow (aG word),kv,Sv.ow (.gA [] []),Sv.no,Sv.no,Sv.no,Sv.no] rfl ?_;refine a8 [Sv.ro (aG dr),Sv.ro (.int n),Sv.ro (.int th),v3,Sv.ow (aG word),kv,Sv.ow (.gA [] []),Sv.ro (.int n),Sv.no,Sv.no,Sv.no] rfl ?_;refine gF (λρ=>∃(us:Q0a) (v7 v8 v9 v10:Sv),us.length=n/\Ord.Good word us/\ρ=[Sv.ro (aG dr),Sv.ro (.int n),Sv.ro (.int th),v3,Sv.ow (aG word),kv,Sv.ow (.gA (word.map bu) (us.map aG)),v7,v8,v9,v10]) ?_ ?_
 .refine gY n (λj ρ=>∃(us:Q0a) (v8 v9 v10:Sv),us.length=j/\Ord.Good word us/\ρ=[Sv.ro (aG dr),Sv.ro (.int n),Sv.ro (.int th),v3,Sv.ow (aG word),kv,Sv.ow (.gA ((word.take j).map bu) (us.map aG)),Sv.ro (.int ((n+Ord.tri j:Nat):Int)),v8,v9,v10])
   rfl (by omega) ⟨[],Sv.no,Sv.no,Sv.no,rfl,(λt u e=>by simp at e),rfl⟩ ?_ ?_
  .rintro j _ hj ⟨us,v8,v9,v10,K1,hg,rfl⟩;refine⟨_,rfl,?_⟩;refine fG [Sv.ro (aG dr),Sv.ro (.int n),Sv.ro (.int th),v3,Sv.ow (aG word),kv,Sv.ow (.gA ((word.take j).map bu) (us.map aG)),Sv.ro (.int ((n+Ord.tri j:Nat):Int)),Sv.ro (.int j),Sv.ro (.lst []),v10] rfl ?_;refine wJ (λρ=>∃(u:Q0e) (v10:Sv),Ord.Under word us j u/\ρ=[Sv.ro (aG dr),Sv.ro (.int n),Sv.ro (.int th),v3,Sv.ow (aG word),kv,Sv.ow (.gA ((word.take j).map bu) (us.map aG)),Sv.ro (.int ((n+Ord.tri (j+1):Nat):Int)),Sv.ro (.int j),Sv.ro (aG u),v10]) ?_ ?_
   .refine gY j (λi ρ=>∃(u:Q0e) (v10:Sv),Ord.Under word us i u/\ρ=[Sv.ro (aG dr),Sv.ro (.int n),Sv.ro (.int th),v3,Sv.ow (aG word),kv,Sv.ow (.gA ((word.take j).map bu) (us.map aG)),Sv.ro (.int ((n+Ord.tri j+i:Nat):Int)),Sv.ro (.int j),Sv.ro (aG u),v10])
     rfl (by omega) ⟨[],_,⟨j7,λa ha=>(nomatch ha)⟩,rfl⟩ ?_ ?_
    .rintro i _ hi ⟨u,v10,hU,rfl⟩;have tl:=Ord.aBv hj hi;obtain⟨y,hy⟩:∃y,dr[n+Ord.tri j+i]?=aa y:=⟨_,ba (by omega)⟩;obtain⟨x,hx⟩:∃x,word[i]?=aa x:=⟨_,ba (by omega)⟩;obtain⟨v,hv⟩:∃v,us[i]?=aa v:=⟨_,ba (by omega)⟩;have lv:=HM _ _ (hg i v hv);have lu:=HM _ _ hU;refine⟨_,rfl,?_⟩;refine wJ (λρ=>∃u':Q0e,Ord.Under word us (i+1) u'/\ρ=[Sv.ro (aG dr),Sv.ro (.int n),Sv.ro (.int th),v3,Sv.ow (aG word),kv,Sv.ow (.gA ((word.take j).map bu) (us.map aG)),Sv.ro (.int ((n+Ord.tri j+i:Nat):Int)),Sv.ro (.int j),Sv.ro (aG u'),Sv.ro (.int i)]) ?_ ?_
     .refine uC (Zv (y%4<th)) ?_ (λ_=>?_) (λ_=>mP ⟨u,hU.mono (by omega),rfl⟩)
      .simp only[aG]
       walk_at "ev"
       rw[gH hy]
       walk_at "ev"
       rw[cJ (by decide)]
       walk_at "ev"
      .refine ⟨_,?_,_,hU.step RO hg hx hv,rfl⟩;have hf:=ic (λa=>!u.contains a) (v++[x]);have e1:gS (g1 0) (tV (aC (jO ae) (aA 0) (aA 1))) (aA 0) [ab,aa (.lst (u.map D.int))] ((v++[x]).map D.int)=aa (((v++[x]).filter λa=>!u.contains a).map D.int) :=
        cR D.int _ D.int (v++[x]) λa _=>⟨_,rfl,by walk_at "ev",λ_=>rfl⟩
       have e2:aC bL (aC l7 (aA 6) (aC bI (aA 4) (aA 10))) (fE (aB (aC bI (aA 4) (aA 10)) aF)) [aa (aG dr),aa (.int n),aa (.int th),v3.all,aa (aG word),kv.all,aa (.gA ((word.take j).map bu) (us.map aG)),aa (.int ((n+Ord.tri j+i:Nat):Int)),aa (.int j),aa (aG u),aa (.int i)]=aa (.lst ((v++[x]).map D.int)):=by
        simp only[aG]
        walk_at "ev"
        rw[gH hx]
        walk_at "ev"
        simp only[l7,uS,cj];have:=kG (a2O (Ff j word) RO) (DX hx hi) hv;simp only[aG] at this;rw[this];simp only[fE]
        walk_at "ev"
        rw[gH hx]
        walk_at "ev"
        rw[Z_ (by decide),cj,qI (by simp;omega)];simp
       have e3:aV 1 [9] (aZ (aC bL (aC l7 (aA 6) (aC bI (aA 4) (aA 10))) (fE (aB (aC bI (aA 4) (aA 10)) aF)))) (g1 0) (tV (aC (jO ae) (aA 0) (aA 1))) (aA 0) [aa (aG dr),aa (.int n),aa (.int th),v3.all,aa (aG word),kv.all,aa (.gA ((word.take j).map bu) (us.map aG)),aa (.int ((n+Ord.tri j+i:Nat):Int)),aa (.int j),aa (aG u),aa (.int i)]=aa (.lst (((v++[x]).filter λa=>!u.contains a).map D.int)) :=
        dH ((v++[x]).map D.int) (by unfold aZ;rw[e2];rfl) (by simp;omega) e1
       unfold kE;have e4:aC BI (aA 9) (aV 1 [9] (aZ (aC bL (aC l7 (aA 6) (aC bI (aA 4) (aA 10))) (fE (aB (aC bI (aA 4) (aA 10)) aF)))) (g1 0) (tV (aC (jO ae) (aA 0) (aA 1))) (aA 0)) [aa (aG dr),aa (.int n),aa (.int th),v3.all,aa (aG word),kv.all,aa (.gA ((word.take j).map bu) (us.map aG)),aa (.int ((n+Ord.tri j+i:Nat):Int)),aa (.int j),aa (aG u),aa (.int i)]=aa (aG (u++(v++[x]).filter λa=>!u.contains a)):=by refine aN (x:=aG u) rfl e3 ?_;show BI (.lst (u.map D.int)) _=_;rw[DS (by simp only[au,ck,cy,me] at hf ⊢;omega),<- e_];rfl
       rw[show bC _=[aa (aG dr),aa (.int n),aa (.int th),v3.all,aa (aG word),kv.all,aa (.gA ((word.take j).map bu) (us.map aG)),aa (.int ((n+Ord.tri j+i:Nat):Int)),aa (.int j),aa (aG u),aa (.int i)] from rfl,e4];show(if pC (aG _)=ae then _ else _)=_;rw[Z_ (show pC (aG _)=ae from nW _)];rfl
     rintro _ ⟨u',hU',rfl⟩;exact⟨_,rfl,u',_,hU',rfl⟩
    .rintro _ ⟨u,v10,hU,rfl⟩;exact⟨u,v10,hU,by rw[a2g];rfl⟩
   rintro _ ⟨u,v10,hU,rfl⟩;obtain⟨x,hx⟩:∃x,word[j]?=aa x:=⟨_,ba (by omega)⟩;refine⟨[Sv.ro (aG dr),Sv.ro (.int n),Sv.ro (.int th),v3,Sv.ow (aG word),kv,Sv.ow (.gA ((word.take (j+1)).map bu) ((us++[u]).map aG)),Sv.ro (.int ((n+Ord.tri (j+1):Nat):Int)),Sv.ro (.int j),Sv.ro (aG u),v10],?_,us++[u],Sv.ro (.int j),Sv.ro (aG u),v10,by simp[K1],hg.snoc (by rw[K1];exact hU),rfl⟩;have hno:iH ((word.take j).map bu) (us.map aG) (bu x)=ab:=sV λhm=>by
    obtain⟨t,ht⟩:=ni.mp hm;have htl:t<j:=by have:=(cg.mp ht).1;rw[jb] at this;omega
    rw[um htl] at ht;have:=Ord.pH RO ht hx;omega
   unfold vS
   walk_at "ev"
   simp only[sF,cj];have e5:bI (aG word) (.int (j:Int))=aa (.int x):=gH hx;rw[e5];simp only[cj,uS,hno,a16,true_and];rw[Z_ (by rw[au];show us.length<16777216;omega),ue,hx,e_,e_];rfl
  .rintro _ ⟨us,v8,v9,v10,K1,hg,rfl⟩;refine⟨us,Sv.ro (.int ((n+Ord.tri n:Nat):Int)),v8,v9,v10,K1,hg,?_⟩;rw[oq (by omega)]
 rintro _ ⟨us,v7,v8,v9,v10,K1,hg,rfl⟩;have ec:∃rows:Q0a,rows.length=(bh n).length/\(∀(i:Nat) (b:Nat) (r:Q0e),(bh n)[i]?=aa b->rows[i]?=aa r ->∀(t:Nat) (u:Q0e),word[t]?=aa (b:Int)->us[t]?=aa u->r.Perm u/\r.Pairwise (· <= ·)) /\
   gS (g1 0) bO (bP dF (aB (bP eM (aB (aC l7 (aA 1) (aA 0)) aF)) aF)) [ab,aa (.gA (word.map bu) (us.map aG))] ((bh n).map λb:Nat=>D.int (b:Int))=aa (rows.map tupI):=by
  refine DU (λb:Nat=>D.int (b:Int)) tupI _ (bh n) λb hb=>?_;have hb2:=d_.mp hb;have hm:(b:Int)∈word:=hpw.mem_iff.mpr (de.mpr ⟨b,hb,rfl⟩);obtain⟨t,ht⟩:=ni.mp hm;obtain⟨u,hu2⟩:∃u,us[t]?=aa u:=⟨_,ba (by have:=(cg.mp ht).1;omega)⟩;have lu:=HM _ _ (hg t u hu2);refine⟨_,sortI u,rfl,?_,λt' u' e1 e2=>?_⟩
  .walk_at "ev"
   simp only[l7,uS,cj];rw[kG RO ht hu2];simp only[aG]
   walk_at "ev"
   rw[sorted_ints (by omega)];rfl
  .have e:=Ord.pH RO e1 ht;subst e;rw[hu2] at e2;cases e2;exact⟨sortI_perm u,gI u⟩
 obtain⟨rows,hr1,hr2,ec⟩:=ec;rw[jr] at hr1;refine eW (aH rows) ?_ ⟨rows,hr1,hg.rows K1 hpw hr1 λb t r u e1 e2 e3=>hr2 b b r (by rw[js (by have:=(cg.mp e1).1;omega)]) e1 t u e2 e3,rfl⟩;have e6:(a9 0 n).map D.int=(bh n).map λb:Nat=>D.int (b:Int):=by unfold a9;rw[bx];exact gf λb _=>by show D.int (0+(b:Int))=_;rw[jj]
 have e7:=dH (nl:=1) (fr:=[6]) (it:=aQ (aB (aA 1) aF)) (g:=g1 0) (t:=bO) (e:=bP dF (aB (bP eM (aB (aC l7 (aA 1) (aA 0)) aF)) aF)) (ρ:=bC [Sv.ro (aG dr),Sv.ro (.int n),Sv.ro (.int th),v3,Sv.ow (aG word),kv,Sv.ow (.gA (word.map bu) (us.map aG)),v7,v8,v9,v10]) ((a9 0 n).map D.int)
  (by walk_at "ev";exact mN (by omega)) (by rw[au,aT];omega) (by rw[e6];exact ec)
 exact cD e7 rfl
theorem YD(n:Nat):2*Ord.tri n+n=n*n:=by
 induction n with
 |zero=>rfl
 |succ n ih =>
  show 2*(Ord.tri n+n)+(n+1)=(n+1)*(n+1);have:(n+1)*(n+1)=n*n+2*n+1:=by rw[Fd,Nat.mul_add];omega
  omega
theorem DZ(ns:Q0e)(k m s:Int)(h0:0<=m)(h1:m<=9):
  ∃d,i9 [.jD ns,.int k,.int m,.int s]=.ok d /\∃rows:Q0a,(rows.length:Int)<=m/\Ord.Rows rows/\d=aH rows:=by
 unfold i9;refine gG rfl ?_;obtain⟨c1,ec1⟩:=jU ns k;obtain⟨xs,hx,hxn,ex⟩:=iL c1 4 s (by decide) (by decide);obtain⟨c2,ec2⟩:=jU ns (k+1);obtain⟨a,b,r,rfl⟩:∃a b r,xs=a::b::r:=by
  match xs,hx with
  |a::b::r,_=>exact⟨a,b,r,rfl⟩
 have hm0:=jk a (show m+1≠0 by omega);have hm1:=k_ a (show 0<m+1 by omega);obtain⟨n,hn⟩:∃n:Nat,a%(m+1)=(n:Int):=⟨(a%(m+1)).toNat,by omega⟩;have hn9:n<=9:=by omega
 have et:=YD n;have hq:(n:Int)*((n:Int)-1)/2=(Ord.tri n:Int):=by
  have:(n:Int)*((n:Int)-1)=2*(Ord.tri n:Int):=by
   have e2:((n*n:Nat):Int)=(n:Int)*n:=by simp
   rw[a2U,Gi];omega
  rw[this,Int.mul_ediv_cancel_left _ (by decide)]
 have aMi:Ord.tri n<=36:=Ord.HK hn9;obtain⟨ys,hy,hyn,ey⟩:=iL c2 ((n:Int)+Ord.tri n) (s+10007) (by omega) (by omega);refine a8 _ (cZ (aG (a::b::r)) (gZ (bN rfl rfl ec1) rfl rfl ex) rfl) ?_;refine a8 _ (cZ (.int n) ?_ rfl) ?_
 .simp only[aG]
  walk_at "ev"
  rw[show yN (D.int a::D.int b::r.map D.int) 0=aa (D.int a) from BS (k:=0) rfl]
  walk_at "ev"
  rw[cJ (by omega),hn]
 refine a8 _ (cZ (aG ys) (gZ (bN rfl rfl ec2) ?_ rfl ey) rfl) ?_
 .walk_at "ev"
  rw[mM (by omega)]
  walk_at "ev"
  rw[mK (by decide) (by decide),hq]
  walk_at "ev"
 have hb0:=jk b (show(8:Int)≠0 by decide);have hb1:=k_ b (show(0:Int)<8 by decide);have hth:∃th:Int,aC bI (fE (aB (eC (.int 1)) (aB (eC (.int 1)) (aB (eC (.int 2)) (aB (eC (.int 2)) (aB (eC (.int 3)) (aB (eC (.int 1)) (aB (eC (.int 0)) (aB (eC (.int 4)) aF))))))))) (aC fB (aC bI (aA 4) (eC (.int 1))) (eC (.int 8))) [aa (.jD ns),aa (.int k),aa (.int m),aa (.int s),aa (aG (a::b::r)),aa (.int n),aa (aG ys)]=aa (.int th):=by
  obtain⟨x,hx,e,_⟩:=pL (xs:=[(1:Int),1,2,2,3,1,0,4]) (i:=b%8) hb0 hb1;refine⟨x,aN (x:=.lst ([(1:Int),1,2,2,3,1,0,4].map D.int)) rfl (y:=.int (b%8)) ?_ ?_⟩
  .refine aN (x:=.int b) (y:=.int 8) ?_ rfl (cJ (by decide));simp only[aG]
   walk_at "ev"
   exact BS (k:=1) rfl
  .rw [fQ,fZ,e];rfl
 obtain⟨th,eth⟩:=hth;obtain⟨d,ed,rows,hr1,hr2,rfl⟩:=DY ys n th hn9 (by omega);exact eW (aH rows) (gZ rfl rfl eth ed) ⟨rows,by omega,hr2,rfl⟩
noncomputable def wK:Nat->D->Prop
 |0,_=>False
 |n+1,.tup ds=>ds.length<=1000000 /\∀d∈ds,wK n d
 |_+1,.int _=>True
 |_+1,.bl _=>True
 |_+1,.non=>True
 |_+1,.str _=>True
 |_+1,_=>False
def isi(h:f ρ=aa d)(hn:HE d=ae:=by rfl):l8 T f ρ=aa (.bl (HD T d)):=by unfold l8;rw[h];exact Z_ hn
theorem same_refl:∀(n:Nat) (d:D),wK n d->eP n [d,d]=.ok (.bl ae)
 |0,_,h=>h.elim
 |n+1,.tup ds,h=>by
  have hl:=h.1;unfold eP;refine eQ rfl (mL (uU (by unfold tV;rw[isi rfl];rfl) (bM _ (mC ?_ rfl) (eF ?_))))
  .simp only[eO,aJ,fY,bE,aY,jS,iQ,RA,kE,zL,sX,cL,dG,aA,eC,aC,tV,sD,kD,G9,uP,mq,vP,KO,sE,HA,aF,aB,bP,aL,DN,l8,aZ,aQ,lZ,w_,wy,g1,g2,iY,KP,t9,bO,benv,X5,X4,oE,asInt,bB,nN,l9,bC,gR,Sv.all,Sv.rd,bp,j_,uo,o_,Fy,Ey,Ez,cj,E_,oo,Ex,Fm,Fn,Fl,cy,me,au,yr,uh,i_,Fp,Nat.reduceSub,Nat.reduceAdd,Nat.reduceEqDiff,dM,pJ,pK,wB,X2,iJ,iK,nO,BN,iE,BO,dD,lE,sM,nP,BP,qC,fQ,lF,BQ,fU,jE,vZ,lG,pI,sN,sO,sP,sQ,nQ,nR,wD,wF,if_true,if_false,ite_true,ite_false,reduceIte,decide_true,decide_false,decide_eq_true_eq,rb,Gp,Gq,lH,nU];simp[HD,tyM,eO,bC,l8,HE,aA,Sv.all,mH]
  .have e1:=dH (nl:=1) (fr:=[0,1]) (it:=aQ (aB (bP bT (aB (aA 1) aF)) aF)) (g:=g1 0) (t:=bO) (e:=aL (eP n) (aB (aC bI (aA 1) (aA 0)) (aB (aC bI (aA 2) (aA 0)) aF))) (ρ:=[aa (.tup ds),aa (.tup ds)]) ((a9 0 ds.length).map D.int) (ys:=(a9 0 ds.length).map λ_=>D.bl ae)
    (by simp only[eO,aJ,fY,bE,aY,jS,iQ,RA,kE,zL,sX,cL,dG,aA,eC,aC,tV,sD,kD,G9,uP,mq,vP,KO,sE,HA,aF,aB,bP,aL,DN,l8,aZ,aQ,lZ,w_,wy,g1,g2,iY,KP,t9,bO,benv,X5,X4,oE,asInt,bB,nN,l9,bC,gR,Sv.all,Sv.rd,bp,j_,uo,o_,Fy,Ey,Ez,cj,E_,oo,Ex,Fm,Fn,Fl,cy,me,au,yr,uh,i_,Fp,Nat.reduceSub,Nat.reduceAdd,Nat.reduceEqDiff,dM,pJ,pK,wB,X2,iJ,iK,nO,BN,iE,BO,dD,lE,sM,nP,BP,qC,fQ,lF,BQ,fU,jE,vZ,lG,pI,sN,sO,sP,sQ,nQ,nR,wD,wF,if_true,if_false,ite_true,ite_false,reduceIte,decide_true,decide_false,decide_eq_true_eq,rb,Gp,Gq,lH,nU];exact mN (by omega)) (by rw[au,aT];omega) (zQ D.int (λ_=>D.bl ae) (a9 0 ds.length) λk hk=>by have hk:=cM.mp hk;obtain⟨x,hx,e,_⟩:=pL (xs:=ds) (i:=k) (by omega) (by omega);show aL (eP n) _ _=_;exact bN (aN rfl rfl e) (aN rfl rfl e) (same_refl n x (h.2 x hx)))
   refine cD e1 ?_;have:(a9 0 ds.length).map (λ_=>D.bl ae)=((a9 0 ds.length).map λ_=>ae).map D.bl:=by rw[bx];rfl
   rw[this,vC];congr 2;simp
 |n+1,.int i,_=>by unfold eP;refine eQ rfl (bM _ (mC rfl rfl) (bM _ (mC rfl rfl) (bM _ (mC rfl rfl) (mL (uU rfl (eF ?_))))));show uP _ _ _=_;simp[uP,vP,l8,HE,aA,HD,tyM,t8,aC,dD,sM,nP,eO,bC,Sv.all]
 |n+1,.bl b,_=>by unfold eP;refine eQ rfl (bM _ (mC rfl rfl) (bM _ (mC rfl rfl) (mL (uU rfl (eF ?_)))));simp[uP,vP,l8,HE,aA,HD,tyM,t8,aC,dD,sM,nP,eO,bC,Sv.all]
 |n+1,.non,_=>by unfold eP;exact eQ rfl (bM _ (mC rfl rfl) (mL (uU rfl (eF rfl))))
 |n+1,.str x,_=>by unfold eP;refine eQ rfl (bM _ (mC rfl rfl) (bM _ (mC rfl rfl) (bM _ (mC rfl rfl) (bM _ (mC rfl rfl) (eF ?_)))));simp[uP,vP,l8,HE,aA,HD,tyM,t8,aC,dD,sM,nP,eO,bC,Sv.all]
 |n+1,.lst _,h=>h.elim
 |n+1,.jD _,h=>h.elim
 |n+1,.gA _ _,h=>h.elim
 |n+1,.dP _ _ _,h=>h.elim
 |n+1,.exc _ _,h=>h.elim
 |n+1,.rws _,h=>h.elim
def HN(h:xs.length<=1000000):wK (n+2) (tupI xs):=⟨by rw[au];exact h,λd hd=>by obtain⟨i,_,rfl⟩:=de.mp hd;trivial⟩
theorem sY{α:Type}(P:bH->Prop)(mk:α->D)(ok:α->Bool):∀(l:List α) (ρ:bH),P ρ->(∀a∈l,∀ρ,P ρ ->∃ρ1,g (mk a) ρ=aa ρ1/\(ok a=ae->Nx (b ρ1) P)/\(ok a=af->b ρ1=.rt z)) ->
  (l.all ok=ae->Nx (eJ g b (l.map mk) ρ) P)/\(l.all ok=af->eJ g b (l.map mk) ρ=.rt z)
 |[],ρ,h,_=>⟨λ_=>⟨ρ,rfl,h⟩,λe=>by cases e⟩
 |a::l,ρ,h,step=>by
  obtain⟨ρ1,e1,h1,h2⟩:=step a (by simp) ρ h
  cases hd:ok a with
  |true =>
   obtain⟨ρ2,e2,p2⟩:=h1 hd;have ih:=sY P mk ok l ρ2 p2 λd' hd'=>step d' (by simp[hd']);simp only[bp,eJ,e1,e2,kz,hd,lh];exact ih
  |false =>
   have e2:=h2 hd;simp only[bp,eJ,e1,e2,kz,hd,y_];exact⟨λe=>(by cases e),λ_=>trivial⟩
def row(rows:Q0a)(b:Int):List Int:=(rows[b.toNat]?).getD []
def iS(h0:0<=i)(h1:i<rows.length):bI (aH rows) (.int i)=aa (tupI (row rows i)):=by
 have hl:i.toNat<rows.length:=by omega
 rw[show aH rows=.tup (rows.map tupI) from rfl,lF,fZ];unfold yN row;rw[sS h0 h1];simp[hl]
def pO:jO af (.int i) (tupI xs)=aa (.bl (xs.contains i)):=by unfold tupI;rw[lH];rfl
def BU:jO ae (.int i) (tupI xs)=aa (.bl (!xs.contains i)):=by unfold tupI;rw[lH];rfl
def dS:bT [aH rows]=aa (.int rows.length):=by unfold aH;rw[jE,au]
def jG:bT [tupI xs]=aa (.int xs.length):=by unfold tupI;rw[jE,au]
theorem zipIdx_map{α β:Type}(f:α->β)(l:List α)(m:Nat):(l.map f).zipIdx m=(l.zipIdx m).map λp=>(f p.1,p.2):=by
 induction l generalizing m with
 |nil=>rfl
 |cons a l ih=>simp[List.zipIdx_cons,ih]
def pairD(p:Int×Int):D:=.tup [.int p.1,.int p.2]
noncomputable def exts(cand:List Int->List Int):Nat->List Int->List (List Int)
 |0,w=>[w]
 |k+1,w=>(cand w).flatMap λt=>exts cand k (w++[t])
noncomputable def uE(cand:List Int->List Int):Nat->List (List Int)->List (List Int)
 |0,L=>L
 |k+1,L=>uE cand k (L.flatMap λw=>(cand w).map λt=>w++[t])
noncomputable def XX(cand:List Int->List Int):Nat->List Int->Option (List Int)
 |0,w=>aa w
 |k+1,w=>(cand w).findSome? λt=>XX cand k (w++[t])
theorem HP(cand:List Int->List Int):∀k L,uE cand k L=L.flatMap (exts cand k)
 |0,L=>by
  unfold uE
  induction L with
  |nil=>rfl
  |cons a L ih=>rw[qx,<- ih];rfl
 |k+1,L=>by
  rw[uE,HP cand k,List.flatMap_assoc];congr 1
  funext w
  rw[List.flatMap_map];rfl
theorem RP(cand:List Int->List Int):∀k w,XX cand k w=(exts cand k w).head?
 |0,w=>rfl
 |k+1,w=>by
  rw[XX,exts];generalize cand w=l
  induction l with
  |nil=>rfl
  |cons t l ih =>
   rw[a2y,qx,RP cand k,List.head?_append,<- ih];cases (exts cand k (w++[t])).head?<;>rfl
theorem mS:∀{k w v},v∈exts cand k w ->∃u,v=w++u/\u.length=k
 |0,w,v,h=>⟨[],by simpa[exts] using h,rfl⟩
 |k+1,w,v,h=>by obtain⟨t,ht,h⟩:=nj.1 (show v∈(cand w).flatMap λt=>exts cand k (w++[t]) from h);obtain⟨u,rfl,hu⟩:=mS h;exact⟨t::u,by rw[mj];rfl,by rw[cy,hu]⟩
def Q4(ok:List Int->Int->Bool)(m:Nat)(v:Q0e):Bool:=(bh v.length).all λi=>Zv (i<m)||ok (v.take i) (v.getD i 0)
def qL:Q4 ok m v=ae ↔ ∀i,m<=i->i<v.length->ok (v.take i) (v.getD i 0)=ae:=by
 unfold Q4;rw[gx]
 constructor
 .intro h i h1 h2;have:=h i (d_.2 h2);rw[Gn,decide_eq_true_eq] at this;rcases this with z|z
  .omega
  .exact z
 .intro h i hi;rw[Gn,decide_eq_true_eq];by_cases z:i<m
  .exact .inl z
  .exact .inr (h i (by omega) (d_.1 hi))
def D0:Q4 ok w.length (w++t::u)=(ok w t&&Q4 ok (w++[t]).length (w++t::u)):=by
 have e1:(w++t::u).take w.length=w:=by simp
 have e2:(w++t::u).getD w.length 0=t:=by simp
 rw[g_,gn,qL,qL]
 constructor
 .intro h;refine⟨by have:=h w.length (bj _) (by simp);rwa [e1,e2] at this,λi h1 h2=>h i (by rw[ck] at h1;omega) h2⟩
 .rintro ⟨h1,h2⟩ i h3 h4;by_cases z:i=w.length
  .subst z;rw[e1,e2];exact h1
  .exact h2 i (by rw[ck,md];omega) h4
theorem jV:∀k w,exts (λw=>(base w).filter (ok w)) k w=(exts base k w).filter (Q4 ok w.length)
 |0,w=>by
  have:Q4 ok w.length w=ae:=qL.2 λi h1 h2=>by omega
  simp[exts,this]
 |k+1,w=>by
  rw[exts,exts,List.filter_flatMap];generalize base w=l
  induction l with
  |nil=>rfl
  |cons t l ih =>
   rw[qx,<- ih];have hv:(exts base k (w++[t])).filter (Q4 ok w.length)=if ok w t=ae then(exts base k (w++[t])).filter (Q4 ok (w++[t]).length) else[]:=by
    split
    .rename_i h;refine yp λv hv=>?_;obtain⟨u,rfl,_⟩:=mS hv;rw[mj,Fj,D0,h,lh]
    .rename_i h;refine a2A.2 λv hv=>?_;obtain⟨u,rfl,_⟩:=mS hv;rw[mj,Fj,D0];simp[h]
   rw[hv,qy];split
   .rw [qx,jV k]
   .rfl
def rg(n:Nat):List Int:=(bh n).map λk:Nat=>(k:Int)
def eG:a∈rg n↔0<=a/\a<(n:Int):=by
 unfold rg;rw[de]
 constructor
 .rintro ⟨k,hk,rfl⟩;have:=d_.1 hk;omega
 .rintro ⟨h1,h2⟩;exact⟨a.toNat,d_.2 (by omega),by omega⟩
def left(n:Nat)(w:Q0e):List Int:=(rg n).filter λt=>!w.contains t
theorem sZ:∀{k w v},w.Nodup->(∀a∈w,a∈rg n)->v∈exts (left n) k w->v.Nodup /\∀a∈v,a∈rg n
 |0,w,v,h1,h2,h=>by
  have e:v=w:=by simpa[exts] using h
  subst e;exact⟨h1,h2⟩
 |k+1,w,v,h1,h2,h=>by
  obtain⟨t,ht,h⟩:=nj.1 (show v∈(left n w).flatMap λt=>exts (left n) k (w++[t]) from h);obtain⟨t1,t2⟩:=dm.1 ht;have t2:t∉w:=by simpa using t2
  refine sZ (ko.2 ⟨h1,by simp,λa ha b hb e=>?_⟩) (λa ha=>?_) h
  .rw [cm] at hb;subst hb;subst e;exact t2 ha
  .rcases gu.1 ha with ha|ha
   .exact h2 a ha
   .rw [cm] at ha;subst ha;exact t1
theorem EA:∀{u w},(w++u).Nodup->(∀a∈u,a∈rg n)->w++u∈exts (left n) u.length w
 |[],w,_,_=>by simp[exts]
 |t::u,w,h1,h2=>by
  have e:w++t::u=(w++[t])++u:=by rw[mj];rfl
  rw[cy,exts];refine nj.2 ⟨t,dm.2 ⟨h2 t cp,?_⟩,?_⟩
  .have:=(ko.1 h1).2.2;simp only[Gr,List.contains_eq_mem,decide_eq_false_iff_not];exact λz=>this t z t cp rfl
  .rw [e] at h1 ⊢;exact EA h1 λa ha=>h2 a (dq _ ha)
structure Full (n:Nat) (v:Q0e):Prop where
 len:v.length=n
 nd:v.Nodup
 rng:∀a∈v,a∈rg n
def vD(h:v∈exts (left n) n []):Full n v:=by obtain⟨u,e,hu⟩:=mS h;obtain⟨h1,h2⟩:=sZ j7 (λa ha=>nomatch ha) h;exact⟨by rw[e];exact hu,h1,h2⟩
def YE(h:Full n v):v∈exts (left n) n []:=by have:=EA (n:=n) (u:=v) (w:=[]) (by simpa using h.nd) h.rng;rw[h.len] at this;simpa using this
abbrev at1(v:Q0e)(i:Nat):Int:=v.getD i 0
def vE(h:Full n v)(hi:i<n):at1 v i∈v:=by
 have hl:i<v.length:=by rw[h.len];exact hi
 unfold at1;rw[fg,ba hl];exact mf hl
def Full.at(h:Full n v){i:Nat}(hi:i<n):0<=at1 v i/\at1 v i<(n:Int):=eG.1 (h.rng _ (vE h hi))
def Full.inj(h:Full n v)(hi:i<n)(hj:j<n)(e:at1 v i=at1 v j):i=j:=by
 have hl:i<v.length:=by rw[h.len];exact hi
 have hm:j<v.length:=by rw[h.len];exact hj
 unfold at1 at e;rw[fg,fg,ba hl,ba hm] at e;exact(yj h.nd).1 e
def Full.sur(h:Full n v)(ha:a∈rg n):∃i,i<n/\at1 v i=a:=by
 have hv:a∈v:=by
  refine Gm λz=>?_;have:=Ord.dW (a::v) (rg n) (ma.2 ⟨z,h.nd⟩) λb hb=>by
   rcases bz.1 hb with rfl|hb
   .exact ha
   .exact h.rng b hb
  rw[cy,h.len] at this;unfold rg at this;rw[au,jr] at this;omega
 obtain⟨i,hi,e⟩:=uj hv;refine⟨i,by rw[<- h.len];exact hi,?_⟩;unfold at1;rw[fg,ba hi];exact e
def lI(n:Nat):Full n (rg n):=by refine⟨by unfold rg;simp,?_,λa h=>h⟩;unfold rg;refine pw _ (λa b h=>?_) Fw;exact λe=>h (by omega)
def qM(h:j<i):at1 (v.take i) j=at1 v j:=by unfold at1;rw[fg,fg,um h]
def tyB(x:Q0a)(a b:Int):Bool:=(row x b).contains a
def dU(x:Q0a)(a b:Int):Bool:=tyB x a b && !(row x b).any λc=>tyB x a c
def kdS(x:Q0a)(a b:Int):Option aj:=if tyB x a b=ae then aa (if dU x a b=ae then(if b<a then "strict" else "plain") else "not bare") else ab
def HQ(h0:0<=b)(h1:b<(x.length:Int)):x[b.toNat]?=aa (row x b):=by unfold row;rw[ba (by omega)];rfl
def jW(hx:Ord.Rows x)(h0:0<=b)(h1:b<(x.length:Int))(h:a∈row x b):a∈rg x.length:=eG.2 (hx.rng _ _ (HQ h0 h1) a h)
def lJ(hx:Ord.Rows x)(h0:0<=b)(h1:b<(x.length:Int)):tyB x b b=af:=by unfold tyB;have:=hx.Q2 _ _ (HQ h0 h1);rw[show((b.toNat:Nat):Int)=b by omega] at this;simpa using this
def KT(n:Nat)(x y:Q0a)(v:Q0e):Prop:=∀i j:Nat,i<n->j<n->i≠j->tyB x i j=tyB y (at1 v i) (at1 v j)
def KA(n:Nat)(x y:Q0a)(v:Q0e):Prop:=∀i j:Nat,i<n->j<n->i≠j->kdS x i j=kdS y (at1 v i) (at1 v j)
def KB(n:Nat)(x y:Q0a)(v:Q0e):Prop:=KT n x y v /\∀i j:Nat,i<n->j<n->i≠j->dU x i j=ae->(i<j->¬ at1 v j<at1 v i)/\(j<i->¬ at1 v i<at1 v j)
section
variable{n:Nat}{x y:Q0a}{v:Q0e}
def NR(hx:Ord.Rows x)(hy:Ord.Rows y)(lx:x.length=n)(ly:y.length=n)(hv:Full n v)(h:KT n x y v)(hi:i<n)(hj:j<n)(hij:i≠j):dU x i j=dU y (at1 v i) (at1 v j):=by
 have vi:=hv.at hi;have vj:=hv.at hj;unfold dU;rw[h i j hi hj hij];congr 2;rw[g_,pk,pk]
 constructor
 .rintro ⟨c,c1,c2⟩;have cr:=jW hx (by omega) (by omega) c1;rw[lx] at cr;obtain⟨h0,h1⟩:=eG.1 cr;obtain⟨k,rfl⟩:∃k:Nat,c=(k:Int):=⟨c.toNat,by omega⟩;have hk:k<n:=by omega
  have kj:k≠j:=λe=>by subst e;have:=lJ hx (b:=(k:Int)) (by omega) (by omega);unfold tyB at this;simp at this;exact this c1
  have ki:i≠k:=λe=>by subst e;rw[lJ hx (b:=(i:Int)) (by omega) (by omega)] at c2;cases c2
  refine⟨at1 v k,?_,?_⟩
  .have:=h k j hk hj kj;unfold tyB at this;rw[show(row x (j:Int)).contains (k:Int)=ae by simpa using c1] at this;simpa using this.symm
  .rw [<- h i k hi hk ki];exact c2
 .rintro ⟨c,c1,c2⟩;have cr:=jW hy (by omega) (by omega) c1;rw[ly] at cr;obtain⟨k,hk,rfl⟩:=hv.sur cr;have kj:k≠j:=λe=>by subst e;have:=lJ hy (b:=at1 v k) (by omega) (by omega);unfold tyB at this;simp at this;exact this c1
  have ki:i≠k:=λe=>by subst e;rw[lJ hy (b:=at1 v i) (by omega) (by omega)] at c2;cases c2
  refine⟨(k:Int),?_,?_⟩
  .have:=h k j hk hj kj;unfold tyB at this;rw[show(row y (at1 v j)).contains (at1 v k)=ae by simpa using c1] at this;simpa using this
  .rw [h i k hi hk ki];exact c2
def K2{a b:Int}:(kdS x a b).isSome=tyB x a b:=by unfold kdS;cases tyB x a b<;>rfl
def RQ(h:dU x a b=ae):tyB x a b=ae:=by unfold dU at h;exact(gn _ _▸h).1
def YF{a b:Int}(h:dU x a b=ae):kdS x a b=aa (if b<a then("strict":aj) else("plain":aj)):=by unfold kdS;rw[Z_ (RQ h),Z_ h]
def YG{a b:Int}{c:Int}{d:Int}(h:kdS x a b=aa (if d<c then("strict":aj) else("plain":aj))):(b<a↔d<c):=by
 unfold kdS at h;split at h
 .have h:=c_ h;by_cases hb:dU x a b=ae
  .rw [Z_ hb] at h;by_cases h1:b<a<;>by_cases h2:d<c<;>simp only[h1,h2,if_true,if_false] at h ⊢
   .exact Zw h (by decide)
   .exact Zw h (by decide)
  .rw [Zz hb] at h;by_cases h2:d<c
   .rw [Z_ h2] at h;exact Zw h (by decide)
   .rw [Zz h2] at h;exact Zw h (by decide)
 .cases h
def Wh(hv:Full n v)(h:KA n x y v):KB n x y v:=by
 refine⟨λi j hi hj hij=>by rw[<- K2,<- K2,h i j hi hj hij],λi j hi hj hij hb=>?_⟩;have e:=h i j hi hj hij;rw[YF hb] at e;have:=YG e.symm
 constructor
 .intro z w;have:=this.1 w;omega
 .intro z w;have:=this.2 (by omega);omega
def Cs(hx:Ord.Rows x)(hy:Ord.Rows y)(lx:x.length=n)(ly:y.length=n)(hv:Full n v)(h:KB n x y v):KA n x y v:=by
 intro i j hi hj hij;have hb:=NR hx hy lx ly hv h.1 hi hj hij;unfold kdS;rw[<- h.1 i j hi hj hij,<- hb];split
 .by_cases b:dU x i j=ae
  .rw [Z_ b,Z_ b];obtain⟨h1,h2⟩:=h.2 i j hi hj hij b;have ne:at1 v i≠at1 v j:=λe=>hij (hv.inj hi hj e);by_cases z:(j:Int)<(i:Int)
   .rw [Z_ z,Z_ (by have:=h2 (by omega);omega)]
   .rw [Zz z,Zz (h1 (by omega))]
  .rw [Zz b,Zz b]
 .rfl
def aBy(hx:Ord.Rows x)(hy:Ord.Rows y)(lx:x.length=n)(ly:y.length=n)(hv:Full n v):KA n x y v↔KB n x y v:=⟨Wh hv,Cs hx hy lx ly hv⟩
def HR(hv:Full n v)(ha:a<n):v.idxOf (a:Int)<n/\at1 v (v.idxOf (a:Int))=(a:Int):=by
 obtain⟨i,hi,e⟩:=hv.sur (eG.2 ⟨by omega,by omega⟩:(a:Int)∈rg n);have hm:(a:Int)∈v:=by rw[<- e];exact vE hv hi
 have hl:=a2t.2 hm;refine⟨by rw[<- hv.len];exact hl,?_⟩;unfold at1;rw[fg,ba hl];exact a2w hl
def abv(n:Nat)(x:Q0a)(c:Int):List aj:=(rg n).filterMap λb=>kdS x c b
def blw(n:Nat)(x:Q0a)(c:Int):List aj:=(rg n).filterMap λa=>kdS x a c
def lk(n:Nat)(x:Q0a)(c:Int):Lk:=(jP yO (abv n x c),jP yO (blw n x c))
def EB(hv:Full n v):v=(bh n).map λj=>at1 v j:=by
 refine mi λj=>?_;rw[cf];by_cases h:j<n
 .have hl:j<v.length:=by rw[hv.len];exact h
  rw[js h,ba hl];show _=aa (at1 v j);unfold at1;rw[fg,ba hl];rfl
 .rw [gg (by rw[hv.len];omega),gg (by simpa using h)];rfl
def tE(hv:Full n v):v.Perm (rg n):=(Ft hv.nd (lI n).nd).2 λa=>⟨hv.rng a,λha=>by obtain⟨i,hi,e⟩:=hv.sur ha;rw[<- e];exact vE hv hi⟩
theorem EC{α β:Type}{f g:α->Option β}:∀{l:List α},(∀a∈l,f a=g a)->l.filterMap f=l.filterMap g
 |[],_=>rfl
 |a::l,h=>by rw[ph,ph,h a cp,EC λb hb=>h b (dq _ hb)]
def K3{g h:Int->Option aj}(hv:Full n v)(e:∀j:Nat,j<n->h j=g (at1 v j)):((rg n).filterMap g).Perm ((rg n).filterMap h):=by
 refine((tE hv).symm.filterMap g).trans ?_;have e1:v.filterMap g=(bh n).filterMap λj=>g (at1 v j):=by have:=congrArg (a2B g) (EB hv);rw[yq] at this;exact this
 have e2:(rg n).filterMap h=(bh n).filterMap λj:Nat=>h (j:Int):=by unfold rg;rw[yq];rfl
 rw[e1,e2];refine a2N (EC λj hj=>?_);exact(e j (d_.1 hj)).symm
def RR(hx:Ord.Rows x)(h0:0<=b)(h1:b<(x.length:Int)):kdS x b b=ab:=by unfold kdS;rw[lJ hx h0 h1];rfl
def K4(hx:Ord.Rows x)(hy:Ord.Rows y)(lx:x.length=n)(ly:y.length=n)(hv:Full n v)(h:KA n x y v)(hi:i<n):lk n x i=lk n y (at1 v i):=by
 have vi:=hv.at hi;have e0:kdS x i i=kdS y (at1 v i) (at1 v i):=by rw[RR hx (by omega) (by omega),RR hy (by omega) (by omega)]
 unfold lk;refine jz ?_ ?_
 .refine (vB lD (K3 hv λj hj=>?_)).symm;by_cases e:i=j
  .subst e;exact e0
  .exact h i j hi hj e
 .refine (vB lD (K3 hv λj hj=>?_)).symm;by_cases e:j=i
  .subst e;exact e0
  .exact h j i hj hi e
def iV(x y:Q0a)(w:Q0e)(t:Int):Bool:=(bh w.length).all λj=>Zv (kdS x j w.length=kdS y (at1 w j) t)&&Zv (kdS x w.length j=kdS y t (at1 w j))
def mT(x y:Q0a)(w:Q0e)(t:Int):Bool:=(bh w.length).all λj=>(tyB x j w.length == tyB y (at1 w j) t)&&(tyB x w.length j == tyB y t (at1 w j))&&(!(dU x j w.length&&Zv (t<at1 w j)) && !(dU x w.length j&&Zv (t<at1 w j)))
def okD(n:Nat)(x y:Q0a)(w:Q0e)(t:Int):Bool:=Zv (lk n y t=lk n x w.length)&&iV x y w t
def kH(hv:Full n v)(hi:i<n):(v.take i).length=i:=by rw[jb,hv.len];omega
def YH(hx:Ord.Rows x)(hy:Ord.Rows y)(lx:x.length=n)(ly:y.length=n)(hv:Full n v):Q4 (okD n x y) 0 v=ae↔KA n x y v:=by
 rw[qL]
 constructor
 .intro h i j hi hj hij;have go:∀a b:Nat,b<n->a<b->kdS x a b=kdS y (at1 v a) (at1 v b)/\kdS x b a=kdS y (at1 v b) (at1 v a):=λa b hb hab=>by have:=h b (jq _) (by rw[hv.len];exact hb);unfold okD iV at this;rw[gn,gx] at this;have:=this.2 a (d_.2 (by rw[kH hv hb];exact hab));rw[gn,decide_eq_true_eq,decide_eq_true_eq,kH hv hb,qM hab] at this;exact this
  by_cases z:i<j
  .exact (go i j hj z).1
  .exact (go j i hi (by omega)).2
 .intro h b _ hb;rw[hv.len] at hb;unfold okD iV;rw[gn,decide_eq_true_eq,gx,kH hv hb];refine⟨(K4 hx hy lx ly hv h hb).symm,λa ha=>?_⟩;have hab:=d_.1 ha;rw[gn,decide_eq_true_eq,decide_eq_true_eq,qM hab];exact⟨h a b (by omega) hb (by omega),h b a hb (by omega) (by omega)⟩
def BV(hv:Full n v):Q4 (mT x y) 0 v=ae↔KB n x y v:=by
 have one:∀a b:Nat,b<n->a<b->(((tyB x a b == tyB y (at1 v a) (at1 v b))&&(tyB x b a == tyB y (at1 v b) (at1 v a))&&(!(dU x a b&&Zv (at1 v b<at1 v a)) && !(dU x b a&&Zv (at1 v b<at1 v a))))=ae ↔
   (tyB x a b=tyB y (at1 v a) (at1 v b)/\tyB x b a=tyB y (at1 v b) (at1 v a))/\(dU x a b=ae->¬ at1 v b<at1 v a)/\(dU x b a=ae->¬ at1 v b<at1 v a)):=λa b hb hab=>by
  rw[gn,gn,gn,beq_iff_eq,beq_iff_eq];simp only[Gr,Bool.and_eq_false_imp,decide_eq_false_iff_not]
 rw[qL]
 constructor
 .intro h;have go:∀a b:Nat,b<n->a<b->(tyB x a b=tyB y (at1 v a) (at1 v b)/\tyB x b a=tyB y (at1 v b) (at1 v a))/\(dU x a b=ae->¬ at1 v b<at1 v a)/\(dU x b a=ae->¬ at1 v b<at1 v a):=λa b hb hab=>by have:=h b (jq _) (by rw[hv.len];exact hb);unfold mT at this;rw[gx] at this;have:=this a (d_.2 (by rw[kH hv hb];exact hab));rw[kH hv hb,qM hab] at this;exact(one a b hb hab).1 this
  refine⟨λi j hi hj hij=>?_,λi j hi hj hij hb=>?_⟩
  .by_cases z:i<j
   .exact (go i j hj z).1.1
   .exact (go j i hi (by omega)).1.2
  .by_cases z:i<j
   .exact ⟨λ_=>(go i j hj z).2.1 hb,λw=>by omega⟩
   .exact ⟨λw=>by omega,λw=>(go j i hi w).2.2 hb⟩
 .intro h b _ hb;rw[hv.len] at hb;unfold mT;rw[gx,kH hv hb];intro a ha;have hab:=d_.1 ha;rw[qM hab];exact(one a b hb hab).2 ⟨⟨h.1 a b (by omega) hb (by omega),h.1 b a hb (by omega) (by omega)⟩,λz=>(h.2 a b (by omega) hb (by omega) z).1 hab,λz=>(h.2 b a hb (by omega) (by omega) z).2 hab⟩
def ED(n:Nat)(x y:Q0a):Option (List Int):=(exts (λw=>(left n w).filter (mT x y w)) n []).head?
def mU:ED n x y=((exts (left n) n []).filter (Q4 (mT x y) 0)).head?:=by unfold ED;rw[jV];rfl
def NS:(ED n x y=ab) ↔ ∀v,Full n v->¬ KB n x y v:=by
 rw[mU,List.head?_eq_none_iff,a2A]
 constructor
 .intro h v hv k;exact h v (YE hv) ((BV hv).2 k)
 .intro h v hv k;exact h v (vD hv) ((BV (vD hv)).1 k)
def YI(hx:Ord.Rows x)(hy:Ord.Rows y)(lx:x.length=n)(ly:y.length=n):XX (λw=>((rg n).filter λt=>Zv (lk n y t=lk n x w.length)).filter λt=>!w.contains t&&iV x y w t) n []=ED n x y:=by
 rw[RP];have e:(λw=>((rg n).filter λt=>Zv (lk n y t=lk n x w.length)).filter λt=>!w.contains t&&iV x y w t)=λw=>(left n w).filter (okD n x y w):=by
  funext w
  unfold left;rw[a2z,a2z];congr 1
  funext t
  unfold okD;cases (!w.contains t)<;>cases Zv (lk n y t=lk n x w.length)<;>cases iV x y w t<;>rfl
 rw[e,jV,mU];congr 1;refine yp λv hv=>?_;have hv:=vD hv;rw[g_];exact(YH hx hy lx ly hv).trans ((aBy hx hy lx ly hv).trans (BV hv).symm)
def NT(hx:Ord.Rows x)(hy:Ord.Rows y)(lx:x.length=n)(ly:y.length=n)(h:jP G7 ((rg n).map (lk n x))≠jP G7 ((rg n).map (lk n y))):ED n x y=ab:=by rw[NS];intro v hv k;have k:=Cs hx hy lx ly hv k;refine h (vB vY ?_);refine a39 ?_ ((tE hv).map (lk n y));have e:=congrArg (yi (lk n y)) (EB hv);rw[e];unfold rg;rw[bx,bx];refine a2N (gf λi hi=>?_);exact K4 hx hy lx ly hv k (d_.1 hi)
def RS(h:ED n x y=aa w):Full n w:=by rw[mU] at h;have:=List.mem_of_head? h;exact vD (dm.1 this).1
end
end LL
namespace Ord
def can(n:Nat)(R:Nat->Nat->Bool):List (List Int):=(bh n).map λb=>((bh n).filter λa=>R a b).map λa:Nat=>(a:Int)
def rel(rows:Q0a)(a b:Nat):Bool:=(rows.getD b []).contains (a:Int)
def jH(n:Nat)(R:Nat->Nat->Bool):(can n R).length=n:=by simp[can]
def BW(hb:b<n):(can n R)[b]?=aa (((bh n).filter λa=>R a b).map λa:Nat=>(a:Int)):=by unfold can;rw[cf,js hb];rfl
def qN{n:Nat}{R:Nat->Nat->Bool}{a b:Nat}:(a:Int)∈(((bh n).filter λa=>R a b).map λa:Nat=>(a:Int))↔a<n/\R a b=ae:=by
 constructor
 .intro h;obtain⟨c,hc,e⟩:=de.mp h;have e2:c=a:=by omega
  subst e2;obtain⟨h1,h2⟩:=dm.mp hc;exact⟨d_.mp h1,h2⟩
 .rintro ⟨h1,h2⟩;exact de.mpr ⟨a,dm.mpr ⟨d_.mpr h1,h2⟩,rfl⟩
def YJ(ha:a<n)(hb:b<n):rel (can n R) a b=R a b:=by
 unfold rel;rw[fg,BW hb];cases h:R a b
 .have:¬ (a:Int)∈(((bh n).filter λa=>R a b).map λa:Nat=>(a:Int)):=λz=>by have:=(qN.mp z).2;rw[h] at this;cases this
  simpa using this
 .have:(a:Int)∈(((bh n).filter λa=>R a b).map λa:Nat=>(a:Int)):=qN.mpr ⟨ha,h⟩;simpa using this
def NU(hn:n=m)(h:∀a b,a<n->b<n->R a b=S a b):can n R=can m S:=by subst hn;unfold can;refine gf λb hb=>?_;congr 1;exact yp λa ha=>h a b (d_.mp ha) (d_.mp hb)
theorem up_eq:∀(l m:Q0e),l.Pairwise (·<·)->m.Pairwise (·<·)->(∀x,x∈l↔x∈m)->l=m
 |[],[],_,_,_=>rfl
 |[],b::m,_,_,h=>by have:=(h b).mpr cp;cases this
 |a::l,[],_,_,h=>by have:=(h a).mp cp;cases this
 |a::l,b::m,hl,hm,h=>by
  obtain⟨l1,l2⟩:=fv.mp hl;obtain⟨m1,m2⟩:=fv.mp hm;have e:a=b:=by
   have h1:=bz.mp ((h a).mp cp);have h2:=bz.mp ((h b).mpr cp);rcases h1 with h1|h1
   .exact h1
   .rcases h2 with h2|h2
    .exact h2.symm
    .have:=m1 a h1;have:=l1 b h2;omega
  subst e;congr 1;refine up_eq l m l2 m2 λx=>⟨λhx=>?_,λhx=>?_⟩
  .rcases bz.mp ((h x).mp (dq _ hx)) with h1|h1
   .have:=l1 x hx;omega
   .exact h1
  .rcases bz.mp ((h x).mpr (dq _ hx)) with h1|h1
   .have:=m1 x hx;omega
   .exact h1
def RT{n:Nat}{R:Nat->Nat->Bool}{b:Nat}:(((bh n).filter λa=>R a b).map λa:Nat=>(a:Int)).Pairwise (·<·):=by refine pw _ (λa b h=>?_) (uu _ a2m);show(a:Int)<(b:Int);omega
def EE(Q2:∀a,a<n->R a a=af)(tr:∀a b c,a<n->b<n->c<n->R a b=ae->R b c=ae->R a c=ae):Rows (Ord.can n R):=by
 have row:∀{b:Nat} {r:Q0e},(Ord.can n R)[b]?=aa r->b<n/\r=(((bh n).filter λa=>R a b).map λa:Nat=>(a:Int)):=λ{b r} e=>by
  have hb:b<n:=by have:=(cg.mp e).1;rw[jH] at this;exact this
  rw[BW hb] at e;exact⟨hb,(c_ e).symm⟩
 refine⟨λb r e=>?_,λb r e x hx=>?_,λb a r v e ha ev c hc=>?_,λb r e hb=>?_⟩
 .rw [(row e).2];exact RT
 .rw [(row e).2] at hx;obtain⟨a,ha,rfl⟩:=de.mp hx;have:=d_.mp (dm.mp ha).1;rw[jH];omega
 .obtain ⟨hb,er⟩:=row e;obtain⟨hav,ev2⟩:=row ev;rw[er] at ha ⊢;rw[ev2] at hc;obtain⟨c',hc',rfl⟩:=de.mp hc;obtain⟨c1,c2⟩:=dm.mp hc';have c1:=d_.mp c1;obtain⟨_,a2⟩:=qN.mp ha;exact qN.mpr ⟨c1,tr _ _ _ c1 hav hb c2 a2⟩
 .obtain ⟨hb',er⟩:=row e;rw[er] at hb;have:=(qN.mp hb).2;rw[Q2 b hb'] at this;cases this
def Rows.wx(h:Rows rows)(ha:a<rows.length):rel rows a a=af:=by unfold rel;rw[fg,ba ha];have:=h.Q2 a _ (ba ha);simpa using this
def Rows.tr'(h:Rows rows)(hb:b<rows.length)(hc:c<rows.length)(h1:rel rows a b=ae)(h2:rel rows b c=ae):rel rows a c=ae:=by
 unfold rel at *;rw[fg,ba hb] at h1;rw[fg,ba hc] at h2 ⊢;have h1:(a:Int)∈rows[b]:=by simpa using h1
 have h2:(b:Int)∈rows[c]:=by simpa using h2
 have:=h.tr c b _ _ (ba hc) h2 (ba hb) _ h1;simpa using this
def turn(x:Q0a):List (List Int):=can x.length λa b=>rel x (x.length-1-a) (x.length-1-b)
def flip(x:Q0a):List (List Int):=can x.length λa b=>rel x b a
def EG(x):(turn x).length=x.length:=jH _ _
def EH(x):(flip x).length=x.length:=jH _ _
def RU(ha:a<x.length)(hb:b<x.length):rel (flip x) a b=rel x b a:=YJ ha hb
def Rows.turn(h:Rows x):Rows (turn x):=EE (λa ha=>h.wx (by omega)) λa b c ha hb hc h1 h2=>h.tr' (by omega) (by omega) h1 h2
def Rows.flip(h:Rows x):Rows (flip x):=EE (λa ha=>h.wx ha) λa b c ha hb hc h1 h2=>h.tr' hb ha h2 h1
def YK(h:x[b]?=aa r):rel x a b=ae↔(a:Int)∈r:=by unfold rel;rw[fg,h];simp
theorem aCA(hl:L.length=n)(hup:∀(b:Nat) (r:Q0e),L[b]?=aa r->r.Pairwise (·<·))
  (hm:∀(b:Nat) (r:Q0e),L[b]?=aa r ->∀z:Int,z∈r ↔ ∃a:Nat,z=(a:Int)/\a<n/\R a b=ae):L=can n R:=by
 refine mi λb=>?_;by_cases hb:b<n
 .have e:L[b]?=aa (L[b]'(by omega)):=ba (by omega);rw[BW hb,e];congr 1;refine up_eq _ _ (hup b _ e) RT λz=>?_;rw[hm b _ e z,de]
  constructor
  .rintro ⟨a,rfl,h1,h2⟩;exact⟨a,dm.mpr ⟨d_.mpr h1,h2⟩,rfl⟩
  .rintro ⟨a,h,rfl⟩;obtain⟨h1,h2⟩:=dm.mp h;exact⟨a,rfl,d_.mp h1,h2⟩
 .rw [gg (by omega),gg (by rw[jH];omega)]
def HS(lo:Int)(n:Nat):(L4.a9 lo n).Pairwise (·<·):=pw _ (λa b (h:a<b)=>by omega) a2m
def Rows.short(h:Rows x)(hr:r∈x):r.length<=x.length:=by
 obtain⟨b,hb⟩:=ni.mp hr;have nd:r.Nodup:=(h.up b r hb).imp λq=>by omega
 have:=dW r (L4.a9 0 x.length) nd λa ha=>LL.cM.mpr (by have:=h.rng b r hb a ha;omega)
 rwa [LL.aT] at this
end Ord
namespace yW
open L3 L4
def fV:iP:=dA 3 1
  (aJ (aY 1 (fE aF))
  (aJ (cL (aQ (aB (bP bT (aB (aA 0) aF)) aF)) (iY 2)
   (aY 1 (aC bL (aA 1) (aV 1 [2] (aZ (aC bI (aA 0) (aA 2))) (g1 0) bO (cB (aB (aA 0) (aB (aA 1) aF)))))))
  (bE (bP lA (aB (aA 1) aF)))))
open LL
def pr(p:Int×Int):List Int:=[p.1,p.2]
def d7(x:Q0a)(k:Nat):List (Int×Int):=(a9 0 k).flatMap λb=>(row x b).map λa=>(a,b)
def jI(x:Q0a)(k:Nat):d7 x (k+1)=d7 x k++(row x (k:Int)).map λa=>(a,(k:Int)):=by unfold d7;rw[sU,uq];simp
def kI{x:Q0a}{p:Int×Int}:p∈d7 x x.length↔0<=p.2/\p.2<(x.length:Int)/\p.1∈row x p.2:=by
 unfold d7;rw[nj]
 constructor
 .rintro ⟨b,hb,hp⟩;obtain⟨a,ha,rfl⟩:=de.mp hp;have:=cM.mp hb;exact⟨by omega,by omega,ha⟩
 .rintro ⟨h0,h1,h2⟩;exact⟨p.2,cM.mpr (by omega),de.mpr ⟨p.1,h2,rfl⟩⟩
def iZ{x:Q0a}{b:Int}(h0:0<=b)(h1:b<(x.length:Int)):x[b.toNat]?=aa (row x b):=by
 have:b.toNat<x.length:=by omega
 unfold row;rw[ba this];rfl
def wL{x:Q0a}{a b:Nat}(hb:b<x.length):(((a:Int),(b:Int))∈d7 x x.length)↔Ord.rel x a b=ae:=by
 rw[kI];have e:=iZ (x:=x) (b:=(b:Int)) (by omega) (by omega);rw[jt] at e;rw[Ord.YK e]
 constructor
 .rintro ⟨_,_,h⟩;exact h
 .intro h;exact⟨by show(0:Int)<=(b:Int);omega,by show(b:Int)<_;omega,h⟩
def pP{x:Q0a}(hx:Ord.Rows x):(d7 x x.length).Nodup:=by
 unfold d7;rw[yu,List.pairwise_flatMap]
 constructor
 .intro b hb;have hb:=cM.mp hb;have nd:(row x b).Nodup:=(hx.up _ _ (iZ (by omega) (by omega))).imp λq=>by omega
  exact pw _ (λa c h e=>h (congrArg kl e)) nd
 .refine (Ord.HS 0 x.length).imp λ{b c} h p hp q hq e=>?_;obtain⟨a,_,rfl⟩:=de.mp hp;obtain⟨a2,_,rfl⟩:=de.mp hq;have:=congrArg ya e;simp at this;omega
theorem qO(hx:Ord.Rows x)(hn:x.length<=9):∀k,k<=x.length->(d7 x k).length<=k*8:=by
 intro k
 induction k with
 |zero=>intro _;simp[d7,a9]
 |succ k ih =>
  intro hk;rw[jI,ck,au];have h1:=ih (by omega);have e:=iZ (x:=x) (b:=(k:Int)) (by omega) (by omega);rw[jt] at e;have nd:(row x (k:Int)).Nodup:=(hx.up _ _ e).imp λq=>by omega
  have h2:((k:Int)::row x (k:Int)).length<=(a9 0 x.length).length:=Ord.dW _ _ (ma.mpr ⟨hx.Q2 _ _ e,nd⟩) λa ha=>by
   rcases bz.1 ha with rfl|ha
   .exact cM.mpr (by omega)
   .have:=hx.rng _ _ e a ha;exact cM.mpr (by omega)
  rw[aT,cy] at h2;omega
def un(t:Q0e):Int×Int:=(t.getD 0 0,t.getD 1 0)
def srt(l:List (Int×Int)):List (Int×Int):=(uA (l.map pr)).map un
def mV(l:List (Int×Int)):(srt l).Perm l:=by have:=(lB (l.map pr)).map un;rw[bx] at this;have e:(un∘pr)=id:=funext λp=>rfl;rw[e,List.map_id] at this;exact this
def YL(l:List (Int×Int)):(uA (l.map pr)).map qD=(srt l).map pairD:=by unfold srt;rw[bx];refine gf λt ht=>?_;obtain⟨p,_,rfl⟩:=de.mp ((lB (l.map pr)).mem_iff.mp ht);rfl
theorem wM:∀l:List (Int×Int),pD (l.map pairD)=aa (l.map pr)
 |[]=>rfl
 |p::l=>by rw[bp,pD,wM l];rfl
def wN(h:l.length<64):lA [.lst (l.map pairD)]=aa (.lst ((srt l).map pairD)):=by unfold lA;simp only[wM,cj];rw[Z_ ⟨by simpa using h,gx.mpr λt ht=>by obtain⟨p,_,rfl⟩:=de.mp ht;rfl⟩,YL]
def YM{x:Q0a}(hx:Ord.Rows x)(hn:x.length<=9)(fm:(d7 x x.length).length<64):fV [aH x]=.ok (.lst ((srt (d7 x x.length)).map pairD)):=by
 unfold fV;refine eQ rfl (bM _ (cZ (.lst []) rfl rfl) ?_);obtain⟨ρ',e,v2,rfl⟩:Nx (cL (aQ (aB (bP bT (aB (aA 0) aF)) aF)) (iY 2)
   (aY 1 (aC bL (aA 1) (aV 1 [2] (aZ (aC bI (aA 0) (aA 2))) (g1 0) bO (cB (aB (aA 0) (aB (aA 1) aF))))))
   [Sv.ro (aH x),Sv.ro (.lst []),Sv.no]) (λρ=>∃v2,ρ=[Sv.ro (aH x),Sv.ro (.lst ((d7 x x.length).map pairD)),v2]):=by
  refine gY x.length (λi ρ=>∃v2,ρ=[Sv.ro (aH x),Sv.ro (.lst ((d7 x i).map pairD)),v2]) (args1 (cD rfl dS)) (by omega) ⟨_,rfl⟩ ?_ λρ h=>h;rintro i _ hi ⟨v2,rfl⟩;have hl:=qO hx hn i (by omega);have hl2:=qO hx hn (i+1) (by omega);rw[jI,ck] at hl2;refine⟨_,rfl,_,cZ (.lst ((d7 x (i+1)).map pairD)) (aN (x:=.lst ((d7 x i).map pairD)) (y:=.lst (((row x (i:Int)).map λa=>(a,(i:Int))).map pairD)) rfl (dH ((row x (i:Int)).map D.int) ?_ (by simp at hl2 ⊢;omega) ?_) ?_) rfl,_,rfl⟩
  .unfold aZ;rw[aN (x:=aH x) (y:=.int (i:Int)) rfl rfl (iS (by omega) (by omega))];rfl
  .rw [bx];exact bW D.int _ (row x (i:Int)) λa _=>⟨_,rfl,rfl⟩
  .rw [qI (by simp at hl2 ⊢;omega),jI,e_]
 exact bM _ e (eF (cD rfl (wN fm)))
def BX{P:List (Int×Int)}(h:P.Nodup)(c:Int):((P.filter λp=>Zv (p.2=c)).map kl).Nodup:=by rw[yu,ox];refine Gg (λ{a b} ha hb hab e=>?_) (uu _ h);have h1:=(dm.mp ha).2;have h2:=(dm.mp hb).2;simp at h1 h2;exact hab (jz e (h1.trans h2.symm))
def YN(h:l.Nodup):(sortI l).Pairwise (·<·):=by have p:=sortI_perm l;have nd:(sortI l).Nodup:=p.nodup_iff.mpr h;exact(a2n.mpr ⟨gI l,nd⟩).imp λq=>by have:=q.1;have:=q.2;omega
def zS(n:Nat)(P:List (Int×Int)):List (List Int):=(a9 0 n).map λc=>sortI ((P.filter λp=>Zv (p.2=c)).map kl)
def RV{n:Nat}{P:List (Int×Int)}(nd:P.Nodup)(hr:∀p∈P,0<=p.1/\p.1<(n:Int)){R:Nat->Nat->Bool}(h:∀a c:Nat,a<n->c<n->(((a:Int),(c:Int))∈P↔R a c=ae)):zS n P=Ord.can n R:=by
 refine Ord.aCA (by simp[zS,aT]) (λc r e=>?_) λc r e z=>?_
 all_goals
  unfold zS at e;rw[cf] at e;have hc:c<n:=by
   cases q:(a9 0 n)[c]? with
   |none=>rw[q] at e;cases e
   |some v=>have:=(cg.mp q).1;rw[aT] at this;exact this
  rw[jF hc] at e;have e:=c_ e;rw[jj] at e;subst e
 .exact YN (BX nd _)
 .rw [(sortI_perm _).mem_iff,de]
  constructor
  .rintro ⟨p,hp,rfl⟩;obtain⟨hp,h2⟩:=dm.mp hp;have h2:p.2=(c:Int):=by simpa using h2
   obtain⟨q1,q2⟩:=hr p hp;refine⟨p.1.toNat,by omega,by omega,(h _ c (by omega) hc).mp ?_⟩;rw[show((p.1.toNat:Nat):Int)=p.1 by omega,<- h2];exact hp
  .rintro ⟨a,rfl,h1,h2⟩;exact⟨((a:Int),(c:Int)),dm.mpr ⟨(h a c h1 hc).mpr h2,by simp⟩,rfl⟩
def code(p:Int×Int):Int:=if p.1<p.2 then p.1*9+p.2 else p.2*9+p.1
def codes:List Int:=(a9 0 9).flatMap λi=>(a9 (i+1) (8-i).toNat).map λj=>i*9+j
def wQ{x:Q0a}(hx:Ord.Rows x){a b:Int}(h1:(a,b)∈d7 x x.length)(h2:(b,a)∈d7 x x.length):False:=by obtain⟨b0,b1,h1'⟩:=kI.mp h1;obtain⟨a0,a1,h2'⟩:=kI.mp h2;simp only at b0 b1 a0 a1 h1' h2';obtain⟨m,rfl⟩:∃m:Nat,a=(m:Int):=⟨a.toNat,by omega⟩;obtain⟨k,rfl⟩:∃k:Nat,b=(k:Int):=⟨b.toNat,by omega⟩;have:=hx.tr' (by omega) (by omega) ((wL (by omega)).mp h1) ((wL (by omega)).mp h2);rw[hx.wx (by omega)] at this;cases this
def qP{a b c d:Int}(hb:0<=b/\b<9)(hd:0<=d/\d<9)(e:a*9+b=c*9+d):a=c/\b=d:=by omega
def YO{x:Q0a}(hx:Ord.Rows x)(hn:x.length<=9):(d7 x x.length).length<=36:=by
 have rg:∀p∈d7 x x.length,0<=p.1/\p.1<9/\0<=p.2/\p.2<9/\p.1≠p.2:=λp hp=>by obtain⟨h0,h1,h2⟩:=kI.mp hp;have e:=iZ h0 h1;obtain⟨q1,q2⟩:=hx.rng _ _ e _ h2;refine⟨q1,by omega,h0,by omega,λz=>?_⟩;obtain⟨a,b⟩:=p;simp only at z;subst z;exact wQ hx hp hp
 have nd:((d7 x x.length).map code).Nodup:=by
  rw[yu,ox];refine Gg (λ{p q} hp hq hpq e=>?_) (pP hx);have rp:=rg p hp;have rq:=rg q hq;obtain⟨a,b⟩:=p;obtain⟨c,d⟩:=q;simp only at rp rq;unfold code at e;simp only at e;by_cases h1:a<b<;>by_cases h2:c<d
  .rw [Z_ h1,Z_ h2] at e;obtain⟨rfl,rfl⟩:=qP ⟨rp.2.2.1,rp.2.2.2.1⟩ ⟨rq.2.2.1,rq.2.2.2.1⟩ e;exact hpq rfl
  .rw [Z_ h1,Zz h2] at e;obtain⟨rfl,rfl⟩:=qP ⟨rp.2.2.1,rp.2.2.2.1⟩ ⟨rq.1,rq.2.1⟩ e;exact wQ hx hp hq
  .rw [Zz h1,Z_ h2] at e;obtain⟨rfl,rfl⟩:=qP ⟨rp.1,rp.2.1⟩ ⟨rq.2.2.1,rq.2.2.2.1⟩ e;exact wQ hx hp hq
  .rw [Zz h1,Zz h2] at e;obtain⟨rfl,rfl⟩:=qP ⟨rp.1,rp.2.1⟩ ⟨rq.1,rq.2.1⟩ e;exact hpq rfl
 have:=Ord.dW _ codes nd λz hz=>by
  obtain⟨p,hp,rfl⟩:=de.mp hz;have:=rg p hp;unfold code codes;by_cases h:p.1<p.2
  .rw [Z_ h,nj];exact⟨p.1,cM.mpr (by omega),de.mpr ⟨p.2,cM.mpr (by omega),rfl⟩⟩
  .rw [Zz h,nj];exact⟨p.2,cM.mpr (by omega),de.mpr ⟨p.1,cM.mpr (by omega),rfl⟩⟩
 rw[au] at this;have e:codes.length=36:=by decide+kernel
 omega
def wR{x:Q0a}(hx:Ord.Rows x)(hn:x.length<=9):(d7 x x.length).length<64:=by have:=YO hx hn;omega
theorem Wg{l:List (Int×Int)}{fr:List Nat}{e:EF}{ρ:dC}{it:AF}(f:Int×Int->Int×Int)(hl:l.length<=1000)(hit:it ρ=aa (l.map pairD))(he:∀p∈l,e (((benv 2 fr ρ).set 0 (aa (.int p.1))).set 1 (aa (.int p.2)))=aa (pairD (f p))):
  aV 2 fr it (g2 0 1) bO e ρ=aa (.lst ((l.map f).map pairD)):=by
 rw[bx];exact dH (l.map pairD) hit (by rw[au];omega) (bW pairD _ l λp hp=>⟨_,rfl,he p hp⟩)
end yW
namespace fC
open L3 L4
def g4:iP:=dA 4 1
  (aJ (iQ 1 (fE aF))
  (aJ (cL (lZ (aB (aA 0) aF)) (KP 2 3)
   (sX (nN 1 NL (bB (aV 1 [2] (aZ (aA 3)) (g1 0) bO (cB (aB (aA 0) (aB (aA 1) aF))))))))
  (bE (bP dF (aB (bP lA (aB (aA 1) aF)) aF)))))
def g5:iP:=dA 4 2
  (aJ (aY 2 (aC bI (aA 1) (eC (.int 0))))
  (aJ (aY 3 (aC bI (aA 1) (eC (.int 1))))
  (bE (vP (bP anyM (aB (aV 1 [2,0] (aZ (aC bI (aA 0) (aA 3))) (g1 0) bO (aC (jO af) (aA 1) (aC bI (aA 2) (aA 0)))) aF))))))
open LL yW
def qb(h:x ρ=aa (ρ',d)):sX x ρ=.nx ρ':=by unfold sX;rw[h]
theorem RW(h0:l9 ρ[i]?=aa ds0)(hx:x ρ=aa (ρ1,d))(h1:l9 ρ1[i]?=aa ds)(hm:m ds d=aa q):
  nN i m x ρ=aa (ρ1.set i (.ow (.lst q.1)),q.2):=by
 unfold nN;rw[h0,cj,hx,cj,h1,cj,hm];rfl
section
variable{x:Q0a}(hx:Ord.Rows x)
include hx
def K5(h0:0<=c)(h1:c<(x.length:Int))(h:a∈row x c):0<=a/\a<(x.length:Int):=hx.rng _ _ (iZ h0 h1) a h
def Qp(h0:0<=c)(h1:c<(x.length:Int))(hb:b∈row x c)(ha:a∈row x b):a∈row x c:=by obtain⟨b0,b1⟩:=K5 hx h0 h1 hb;exact hx.tr c.toNat b.toNat _ _ (iZ h0 h1) (by rw[show((b.toNat:Nat):Int)=b by omega];exact hb) (iZ b0 b1) a ha
def Qo(h0:0<=c)(h1:c<(x.length:Int)):(row x c).Nodup:=(hx.up _ _ (iZ h0 h1)).imp λq=>by omega
def RX(h0:0<=c)(h1:c<(x.length:Int)):(row x c).length<=x.length:=by
 have:=Ord.dW (row x c) (a9 0 x.length) (Qo hx h0 h1) λa ha=>cM.mpr (by have:=K5 hx h0 h1 ha;omega)
 rwa [aT] at this
end
def eI(x:Q0a)(p:Int×Int):Bool:=!(row x p.2).any λc=>(row x c).contains p.1
structure Cl (x:Q0a) (P:List (Int×Int)) (b:Int) (u f:Q0e):Prop where
 nd:u.Nodup
 sub:∀a∈u,a∈row x b
 fr:∀a∈f,a=b\/a∈u
 cl:∀c,(c=b\/c∈u)->c∉f ->∀a,(a,c)∈P->a∈u
abbrev T(x:Q0a):List (Int×Int):=srt (d7 x x.length)
def pQ(hx:Ord.Rows x)(hn:x.length<=9):g4 [aH x]=.ok (.tup ((T x).map pairD)):=by
 have fm:=wR hx hn;unfold g4;refine eQ rfl (bM [.ro (aH x),.ow (.lst []),.no,.no] rfl ?_);obtain⟨ρ',e,v2,v3,rfl⟩:Nx (cL (lZ (aB (aA 0) aF)) (KP 2 3)
   (sX (nN 1 NL (bB (aV 1 [2] (aZ (aA 3)) (g1 0) bO (cB (aB (aA 0) (aB (aA 1) aF))))))) [.ro (aH x),.ow (.lst []),.no,.no])
   (λρ=>∃v2 v3,ρ=[Sv.ro (aH x),Sv.ow (.lst ((d7 x x.length).map pairD)),v2,v3]):=by
  refine mQ ((x.map tupI).zipIdx.map λp=>.tup [.int (p.2:Int),p.1]) (λi ρ=>∃v2 v3,ρ=[Sv.ro (aH x),Sv.ow (.lst ((d7 x i).map pairD)),v2,v3]) rfl ⟨_,_,rfl⟩ ?_ λρ h=>by simpa using h
  rintro i d _ hd ⟨v2,v3,rfl⟩;rw[cf,uk,cf] at hd
  cases q:x[i]? with
  |none=>rw[q] at hd;cases hd
  |some r =>
   have hi:i<x.length:=(cg.mp q).1;rw[q] at hd;have hd:=c_ hd;subst hd;have er:row x (i:Int)=r:=by unfold row;rw[jt,q];rfl
   have hl:=qO hx hn i (by omega);have hl2:=qO hx hn (i+1) (by omega);rw[jI,ck,er] at hl2;refine⟨[.ro (aH x),.ow (.lst ((d7 x i).map pairD)),.ro (.int (i:Int)),.ro (tupI r)],by show aa [_,_,_,_]=_;rw[qq],_,qb (RW (ρ1:=[.ro (aH x),.ow (.lst ((d7 x i).map pairD)),.ro (.int (i:Int)),.ro (tupI r)]) (ds0:=(d7 x i).map pairD) (ds:=(d7 x i).map pairD) (d:=.lst ((r.map λa=>(a,(i:Int))).map pairD)) rfl ?_ rfl (X9 (by simp at hl2 ⊢;omega))),.ro (.int (i:Int)),.ro (tupI r),?_⟩
   .unfold bB;rw[dH (r.map D.int) rfl (by simp at hl2 ⊢;omega) (bW D.int (λa=>pairD (a,(i:Int))) r λa _=>⟨_,rfl,rfl⟩),bx];rfl
   .rw [jI,e_,er];rfl
 exact bM _ e (eF (cD (cD rfl (wN fm)) rfl))
def pR(hx:Ord.Rows x)(hn:x.length<=9)(h0:0<=p.2)(h1:p.2<(x.length:Int)):g5 [aH x,pairD p]=.ok (.bl (eI x p)):=by
 unfold g5;have rl:=RX hx h0 h1;refine eQ rfl (bM _ (cZ (.int p.1) rfl rfl) (bM _ (cZ (.int p.2) rfl rfl) (eF ?_)));unfold vP;rw[cD (x:=.lst ((row x p.2).map λc=>D.bl ((row x c).contains p.1))) (dH ((row x p.2).map D.int) ?_ (by simp;omega) (bW D.int (λc=>D.bl ((row x c).contains p.1)) (row x p.2) λc hc=>⟨_,rfl,?_⟩)) (z:=aa (.bl ((row x p.2).any λc=>(row x c).contains p.1))) ?_]
 .rfl
 .unfold aZ;rw[aN (x:=aH x) (y:=.int p.2) rfl rfl (iS h0 h1)];rfl
 .have:=KY (bs:=(row x p.2).map λc=>(row x c).contains p.1);rw[bx] at this;rw[show((row x p.2).map λc=>D.bl ((row x c).contains p.1))=(row x p.2).map (D.bl∘λc=>(row x c).contains p.1) from rfl,this,qz];rfl
 .have hr:=K5 hx h0 h1 hc;exact aN (x:=.int p.1) (y:=tupI (row x c)) rfl (aN (x:=aH x) (y:=.int c) rfl rfl (iS hr.1 hr.2)) pO
def zT:p∈T x↔0<=p.2/\p.2<(x.length:Int)/\p.1∈row x p.2:=by rw[(mV _).mem_iff,kI]
def EI(hx:Ord.Rows x)(hn:x.length<=9):(T x).length<64:=by rw[(mV _).length_eq];exact wR hx hn
abbrev B(x:Q0a):List (Int×Int):=(T x).filter (eI x)
end fC
namespace LL
open L3 L4
def g4:iP:=dA 4 1
  (aJ (iQ 1 (fE aF))
  (aJ (cL (lZ (aB (aA 0) aF)) (KP 2 3)
   (sX (nN 1 NL (bB (aV 1 [2] (aZ (aA 3)) (g1 0) bO (cB (aB (aA 0) (aB (aA 1) aF))))))))
  (bE (bP dF (aB (bP lA (aB (aA 1) aF)) aF)))))
def fV:iP:=dA 3 1
  (aJ (aY 1 (fE aF))
  (aJ (cL (aQ (aB (bP bT (aB (aA 0) aF)) aF)) (iY 2)
   (aY 1 (aC bL (aA 1) (aV 1 [2] (aZ (aC bI (aA 0) (aA 2))) (g1 0) bO (cB (aB (aA 0) (aB (aA 1) aF)))))))
  (bE (bP lA (aB (aA 1) aF)))))
def Qn(ha:a ρ=aa x)(hb:b ρ=aa y):cB (aB a (aB b aF)) ρ=aa (.tup [x,y]):=BR (args2 ha hb) (by simp)
def K6(hp:p<=4000)(hq:q<=4000)(hi:i.natAbs<2^p)(hj:j.natAbs<2^q):mulM (.int i) (.int j)=aa (.int (i*j)):=by
 have lg:∀m r:Nat,m<2^r->m.log2<r+1:=by
  intro m r hm;by_cases z:m=0
  .rw [z];exact Nat.succ_pos r
  .exact uc ((Nat.log2_lt z).mpr hm)
 have a:=lg _ _ hi;have b:=lg _ _ hj;have e:vQ i j=ae:=by unfold vQ;rw[Zx (show i.natAbs.log2+j.natAbs.log2<=134217700 by omega),Bool.or_true]
 unfold mulM oK;exact Z_ e
def pQ(hx:Ord.Rows x)(hn:x.length<=9):LL.g4 [aH x]=.ok (.tup ((fC.T x).map pairD)):=fC.pQ hx hn
def zU(hx:Ord.Rows x)(hn:x.length<=9):LL.fV [aH x]=.ok (.lst ((fC.T x).map pairD)):=yW.YM hx hn (yW.wR hx hn)
def at0(fl:Q0e)(a:Int):Int:=(fl[a.toNat]?).getD 0
def RY(h0:0<=a)(h1:a<(fl.length:Int)):bI (tupI fl) (.int a)=aa (.int (at0 fl a)):=by obtain⟨x,_,e,e2⟩:=pL h0 h1;show yN (fl.map D.int) a=_;rw[fZ,e];unfold at0;rw[e2];rfl
def tF(h0:0<=a)(h1:a<(fl.length:Int)):bI (aG fl) (.int a)=aa (.int (at0 fl a)):=RY h0 h1
def fW:iP:=dA 2 2
  (bE (bP dF (aB (bP mI (aB (aC bL (aA 0) (cB (aB (aA 1) aF))) aF)) aF)))
def eS:iP:=dA 3 2
  (aJ (aY 2 (aV 1 [1] (aQ (aB (bP bT (aB (aA 0) aF)) aF)) (g1 0) (tV (aC (jO ae) (aA 0) (aA 1))) (aA 0)))
  (bE (aV 1 [1,0] (aZ (aA 2)) (g1 0) (tV (bP allM (aB (aV 1 [1] (aZ (aC bI (aA 2) (aA 0))) (g1 0) bO (aC (jO af) (aA 0) (aA 1))) aF))) (aA 0))))
def b8(x:Q0a)(a:Q0e):List Int:=((a9 0 x.length).filter λt=>!a.contains t).filter λt=>(row x t).all λl=>a.contains l
def bU(a:Q0e)(t:Int):List Int:=sortI (a++[t])
def rdI(x:Q0a)(a:Q0e):List (List Int):=(b8 x a).map (bU a)
def okI(x:Q0a)(a:Q0e):Prop:=a.Nodup /\∀t∈a,0<=t/\t<(x.length:Int)
def BY(h:ns.length<64):mI [.tup (ns.map D.int)]=aa (.lst ((sortI ns).map D.int)):=by simp[mI,dZ,h]
def NV(h:a.length<=9):fW [tupI a,.int t]=.ok (tupI (bU a t)):=by
 unfold fW;refine eQ rfl (eF (cD (x:=aG (bU a t)) (cD (x:=tupI (a++[t])) (aN (x:=tupI a) (y:=tupI [t]) rfl rfl ?_) ?_) rfl))
 .unfold tupI;rw[qJ (by simp;omega),e_]
 .have:=BY (ns:=a++[t]) (by simp;omega);exact this
def EJ(hx:x.length<=9)(hr:∀r∈x,r.length<=9):eS [aH x,tupI a]=.ok (aG (b8 x a)):=by
 unfold eS b8;have e1:aV 1 [1] (aQ (aB (bP bT (aB (aA 0) aF)) aF)) (g1 0) (tV (aC (jO ae) (aA 0) (aA 1))) (aA 0) (gR (eO 3 [aH x,tupI a]))=aa (aG ((a9 0 x.length).filter λt=>!a.contains t)):=by refine dH ((a9 0 x.length).map D.int) (mR (cD rfl dS) (by omega)) (by rw[au,aT];omega) ?_;exact cR D.int _ D.int (a9 0 x.length) λt _=>⟨[aa (.int t),aa (tupI a)],rfl,gC (aN (x:=.int t) (y:=tupI a) rfl rfl BU) rfl,λ_=>rfl⟩
 generalize hL:((a9 0 x.length).filter λt=>!a.contains t)=L at e1;have Lr:∀t∈L,0<=t/\t<(x.length:Int):=λt ht=>by rw[<- hL] at ht;have:=cM.mp (dm.mp ht).1;omega
 have Ll:L.length<=9:=by rw[<- hL];have:=ic (λt=>!a.contains t) (a9 0 x.length);rw[aT] at this;omega
 refine eQ rfl (bM _ (cZ (aG L) e1 rfl) (eF ?_));refine dH (L.map D.int) rfl (by rw[au];omega) ?_;refine cR D.int _ D.int L λt ht=>⟨[aa (.int t),aa (tupI a),aa (aH x)],rfl,?_,λ_=>rfl⟩;obtain⟨t0,t1⟩:=Lr t ht;have rl:(row x t).length<=9:=by unfold row;rw[ba (by omega)];exact hr _ (mf _)
 refine gC (d:=.bl ((row x t).all λl=>a.contains l)) (cD (x:=.lst (((row x t).map λl=>a.contains l).map D.bl)) ?_ ?_) rfl
 .refine Eq.trans (dH ((row x t).map D.int) ?_ (by rw[au];omega) (bW D.int (λl=>.bl (a.contains l)) (row x t) λl _=>⟨[aa (.int l),aa (tupI a)],rfl,aN (x:=.int l) (y:=tupI a) rfl rfl pO⟩)) (by rw[bx];rfl);unfold aZ;rw[aN (x:=aH x) (y:=.int t) (z:=aa (tupI (row x t))) rfl rfl (iS t0 t1)];rfl
 .rw [vC,q_];rfl
def jA(h:t∈b8 x a):(0<=t/\t<(x.length:Int))/\t∉a:=by unfold b8 at h;have h1:=(dm.mp h).1;have h2:=dm.mp h1;have:=cM.mp h2.1;exact⟨by omega,by simpa using h2.2⟩
def aCC(n:Nat):(a9 0 n).Nodup:=by refine Fv.mpr λi j hi hj hij=>?_;have e1:=jF (lo:=0) (n:=n) (i:=i) (by simpa[aT] using hi);have e2:=jF (lo:=0) (n:=n) (i:=j) (by simpa[aT] using hj);rw[ba hi] at e1;rw[ba hj] at e2;have e1:=c_ e1;have e2:=c_ e2;omega
def kJ(h:okI x a):(b8 x a).length+a.length<=x.length:=by
 have nd:(b8 x a++a).Nodup:=by refine ko.mpr ⟨?_,h.1,λu hu v hv e=>(jA hu).2 (e▸hv)⟩;unfold b8;exact uu _ (uu _ (aCC x.length))
 have:=Ord.dW _ (a9 0 x.length) nd λt ht=>cM.mpr (by
  rcases gu.1 ht with z|z
  .have:=(jA z).1;omega
  .have:=h.2 t z;omega)
 rwa [ck,aT] at this
def Cj(h:okI x a):(∀b∈rdI x a,okI x b/\b.length=a.length+1)/\(rdI x a).length+a.length<=x.length:=by
 refine⟨λb hb=>?_,by unfold rdI;rw[au];exact kJ h⟩;unfold rdI at hb;obtain⟨t,ht,rfl⟩:=de.mp hb;obtain⟨hr,hn⟩:=jA ht;have p:=sortI_perm (a++[t]);refine⟨⟨?_,λu hu=>?_⟩,?_⟩
 .unfold bU;refine p.nodup_iff.mpr (ko.mpr ⟨h.1,by simp,λu hu v hv e=>?_⟩);rw[cm] at hv;subst hv;subst e;exact hn hu
 .unfold bU at hu;rcases gu.1 (p.mem_iff.mp hu) with z|z
  .exact h.2 u z
  .rw [cm] at z;subst z;exact hr
 .unfold bU;rw[p.length_eq];simp
def YQ(h:okI x a):a.length<=x.length:=by have:=kJ h;omega
def YR:okI x []:=⟨j7,λt ht=>by cases ht⟩
end LL
namespace YS
noncomputable def fact:Nat->Int
 |0=>1
 |k+1=>fact k*(k+1)
noncomputable def ff(x:Int):Nat->Int
 |0=>1
 |k+1=>ff x k*(x-k)
theorem kK:∀k,0<fact k
 |0=>by decide
 |k+1=>Int.mul_pos (kK k) (by omega)
theorem K7(x:Int):∀k,ff (x+1) (k+1)=(x+1)*ff x k
 |0=>by simp[ff]
 |k+1=>by rw[show ff (x+1) (k+1+1)=ff (x+1) (k+1)*(x+1-((k+1:Nat):Int)) from rfl,K7 x k,show ff x (k+1)=ff x k*(x-k) from rfl,yw];congr 2;omega
def BZ(x:Int)(k:Nat):ff (x+1) (k+1)=ff x (k+1)+(k+1)*ff x k:=by rw[K7,show ff x (k+1)=ff x k*(x-k) from rfl,ra (ff x k),<- Gj];congr 1;omega
theorem K8:∀k,ff 0 (k+1)=0
 |0=>by simp[ff]
 |k+1=>by rw[show ff 0 (k+1+1)=ff 0 (k+1)*_ from rfl,K8 k,Gh]
theorem RZ:∀(k:Nat) (x:Int),fact k ∣ ff x k
 |0,x=>by simp[fact,ff]
 |k+1,x=>by
  have st:∀y:Int,fact (k+1) ∣ (k+1)*ff y k:=λy=>by obtain⟨c,e⟩:=RZ k y;exact⟨c,by rw[e,show fact (k+1)=fact k*(k+1) from rfl,<- yw,ra (k+1:Int)]⟩
  have up:∀y:Int,fact (k+1) ∣ ff y (k+1)->fact (k+1) ∣ ff (y+1) (k+1):=λy h=>by rw[BZ];exact Int.dvd_add h (st y)
  have dn:∀y:Int,fact (k+1) ∣ ff (y+1) (k+1)->fact (k+1) ∣ ff y (k+1):=λy h=>by rw[BZ] at h;exact(Int.dvd_add_left (st y)).mp h
  have h0:fact (k+1) ∣ ff 0 (k+1):=by rw[K8];exact Int.dvd_zero _
  have pos:∀n:Nat,fact (k+1) ∣ ff (n:Int) (k+1):=λn=>by
   induction n with
   |zero=>exact h0
   |succ n ih=>exact up _ ih
  have neg:∀n:Nat,fact (k+1) ∣ ff (-(n:Int)) (k+1):=λn=>by
   induction n with
   |zero=>exact h0
   |succ n ih=>exact dn _ (by rw[show -((n+1:Nat):Int)+1=-(n:Int) by omega];exact ih)
  rcases a2W 0 x with hx|hx
  .have:=pos x.toNat;rwa [show((x.toNat:Nat):Int)=x by omega] at this
  .have:=neg (-x).toNat;rwa [show -(((-x).toNat:Nat):Int)=x by omega] at this
--CUT
def C(x:Int)(m:Nat):Int:=ff x m/fact m
def zV(x:Int)(m:Nat):C x m*fact m=ff x m:=Int.ediv_mul_cancel (RZ m x)
def Az(h:c*fact m=ff x m):c=C x m:=a2Y (a2R (kK m)) (h.trans (zV x m).symm)
def HU(x:Int):C x 0=1:=rfl
def HV(x:Int)(m:Nat):C (x+1) (m+1)=C x (m+1)+C x m:=by refine(Az ?_).symm;rw[Gj,zV,show fact (m+1)=fact m*(m+1) from rfl,<- yw,zV,BZ,ra (ff x m)]
theorem K9:∀{m:Nat},x<m->ff (x:Int) m=0
 |m+1,h=>by
  show ff (x:Int) m*((x:Int)-(m:Int))=0;by_cases e:x=m
  .subst e;rw[Int.sub_self,a2T]
  .rw [K9 (by omega),Gh]
def HW{x:Int}{m:Nat}(h0:0<=x)(h:x<m):C x m=0:=by refine(Az ?_).symm;obtain⟨n,rfl⟩:∃n:Nat,x=(n:Int):=⟨x.toNat,by omega⟩;rw[K9 (by omega),Gh]
theorem Ci:∀n:Nat,C (n:Int) n=1
 |0=>rfl
 |n+1=>by rw[show((n+1:Nat):Int)=(n:Int)+1 from rfl,HV,HW (m:=n+1) (by omega) (by omega),Ci n];rfl
def Df(f:Int->Int):Int->Int:=λx=>f (x+1)-f x
noncomputable def It(j:Nat)(f:Int->Int):Int->Int:=match j with
 |0=>f
 |j+1=>It j (Df f)
theorem NW(h:∀x,Df f x=Df g x)(h0:f 0=g 0):∀x,f x=g x:=by
 have up:∀n:Nat,f (n:Int)=g n:=λn=>by
  induction n with
  |zero=>exact h0
  |succ n ih =>
   have:=h n;unfold Df at this;rw[show((n+1:Nat):Int)=(n:Int)+1 from rfl];omega
 have dn:∀n:Nat,f (-(n:Int))=g (-(n:Int)):=λn=>by
  induction n with
  |zero=>exact h0
  |succ n ih =>
   have:=h (-((n+1:Nat):Int));unfold Df at this;rw[show -((n+1:Nat):Int)+1=-(n:Int) by omega] at this;omega
 intro x;rcases a2W 0 x with hx|hx
 .have:=up x.toNat;rwa [show((x.toNat:Nat):Int)=x by omega] at this
 .have:=dn (-x).toNat;rwa [show -(((-x).toNat:Nat):Int)=x by omega] at this
def SV(j:Nat):List Int->Int->Int
 |[],_=>0
 |s::l,k=>s*C k j+SV (j+1) l k
theorem LA:∀(l:Q0e) (j:Nat) (x:Int),Df (SV (j+1) l) x=SV j l x
 |[],j,x=>rfl
 |s::l,j,x=>by have ih:SV (j+2) l (x+1)-SV (j+2) l x=SV (j+1) l x:=LA l (j+1) x;show s*C (x+1) (j+1)+SV (j+2) l (x+1)-(s*C x (j+1)+SV (j+2) l x)=s*C x j+SV (j+1) l x;rw[HV,a2V];omega
def R1(s:Int)(l:Q0e)(x:Int):Df (SV 0 (s::l)) x=SV 0 l x:=by have:SV 1 l (x+1)-SV 1 l x=SV 0 l x:=LA l 0 x;show s*C (x+1) 0+SV 1 l (x+1)-(s*C x 0+SV 1 l x)=_;rw[HU,HU];omega
theorem R3:∀(l:Q0e) (j:Nat),SV (j+1) l 0=0
 |[],j=>rfl
 |s::l,j=>by show s*C 0 (j+1)+SV (j+2) l 0=0;rw[HW (by omega) (by omega),R3 l (j+1)];omega
theorem wU(s:Int)(l:Q0e):SV 0 (s::l) 0=s:=by show s*C 0 0+SV 1 l 0=s;rw[R3,HU];omega
noncomputable def diffs:List Int->List Int
 |a::b::l=>(b-a)::diffs (b::l)
 |_=>[]
theorem i5:∀l:Q0e,(diffs l).length=l.length-1
 |[]=>rfl
 |[_]=>rfl
 |a::b::l=>by rw[diffs,cy,i5 (b::l)];simp
def fd(l:Q0e):List Int:=match l with
 |[]=>[]
 |a::r=>a::fd (diffs (a::r))
termination_by l.length
decreasing_by rw[i5];simp
def HX:fd []=[]:=by rw[fd]
theorem B0(a:Int)(r:Q0e):fd (a::r)=a::fd (diffs (a::r)):=by rw[fd]
noncomputable def vals(f:Int->Int):Nat->Int->List Int
 |0,_=>[]
 |n+1,x=>f x::vals f n (x+1)
theorem wV(f:Int->Int):∀(n:Nat) (x:Int),diffs (vals f (n+1) x)=vals (Df f) n x
 |0,x=>rfl
 |n+1,x=>by have ih:=wV f n (x+1);show(f (x+1)-f x)::diffs (vals f (n+1) (x+1))=(f (x+1)-f x)::vals (Df f) n (x+1);rw[ih]
def YT(f:Int->Int)(n:Nat):fd (vals f (n+1) 0)=f 0::fd (vals (Df f) n 0):=by show fd (f 0::vals f n (0+1))=_;rw[B0];congr 1;exact congrArg fd (wV f n 0)
theorem R4:∀(n:Nat) (f:Int->Int),(∀x,It n f x=0) ->∀k,SV 0 (fd (vals f n 0)) k=f k
 |0,f,h,k=>by show SV 0 (fd []) k=f k;rw[HX];exact(h k).symm
 |n+1,f,h,k=>by rw[YT];refine NW (λx=>?_) (wU _ _) k;rw[R1];exact R4 n (Df f) h x
def DV(n:Nat)(d:Int):List Int->Int->Int
 |[],_=>0
 |w::l,k=>w*C (k+n-1-d) n+DV n (d+1) l k
theorem aCD(f g:Int->Int):∀(j:Nat),It j (λx=>f x+g x)=λx=>It j f x+It j g x:=by
 intro j
 induction j generalizing f g with
 |zero=>rfl
 |succ j ih =>
  show It j (Df λx=>f x+g x)=λx=>It j (Df f) x+It j (Df g) x;rw[<- ih,show(Df λx=>f x+g x)=λx=>Df f x+Df g x from funext λx=>by show f (x+1)+g (x+1)-(f x+g x)=f (x+1)-f x+(g (x+1)-g x);omega]
theorem aCE(w:Int)(f:Int->Int):∀(j:Nat),It j (λx=>w*f x)=λx=>w*It j f x:=by
 intro j
 induction j generalizing f with
 |zero=>rfl
 |succ j ih =>
  show It j (Df λx=>w*f x)=λx=>w*It j (Df f) x;rw[<- ih,show(Df λx=>w*f x)=λx=>w*Df f x from funext λx=>by unfold Df;rw[a2U]]
theorem LB:∀j,It j (λ_=>0)=λ_=>0
 |0=>rfl
 |j+1=>by show It j (Df λ_=>0)=_;rw[show(Df λ_=>0)=λ_=>0 from rfl,LB j]
theorem Ay(a:Int):∀m,It (m+1) (λx=>C (x+a) m)=λ_=>0
 |0=>rfl
 |m+1=>by
  show It (m+1) (Df λx=>C (x+a) (m+1))=_;rw[show(Df λx=>C (x+a) (m+1))=λx=>C (x+a) m from funext λx=>by show C (x+1+a) (m+1)-C (x+a) (m+1)=C (x+a) m;rw[show x+1+a=(x+a)+1 by omega,HV];omega]
  exact Ay a m
theorem LC(n:Nat):∀(l:Q0e) (d:Int),It (n+1) (DV n d l)=λ_=>0
 |[],d=>LB _
 |w::l,d=>by
  show It (n+1) (λk=>w*C (k+n-1-d) n+DV n (d+1) l k)=_;rw[aCD,aCE,LC n l,show(λk=>C (k+n-1-d) n)=λk=>C (k+(n-1-d)) n from funext λk=>by rw[show k+(n:Int)-1-d=k+(n-1-d) by omega],Ay]
  funext x
  simp
theorem zW:∀(n:Nat) (l:Q0e),l.length=n->(fd l).length=n
 |0,l,h=>by rw[nq.mp h,HX];rfl
 |n+1,[],h=>by simp at h
 |n+1,a::r,h=>by rw[B0,cy,zW n _ (by rw[i5,h];rfl)]
theorem mW(f:Int->Int):∀n x,(vals f n x).length=n
 |0,_=>rfl
 |n+1,x=>by rw[vals,cy,mW f n]
def Bg(b:Nat)(x:Int):Prop:=x.natAbs<2^b
def Bg.mono(h:Bg a x)(hab:a<=b):Bg b x:=f_ h (qr (by omega) hab)
def Bg.mul(h:Bg a x)(g:Bg b y):Bg (a+b) (x*y):=by unfold Bg at *;rw[a19,a2S];exact Nat.mul_lt_mul_of_lt_of_lt h g
def Bg.sub(h:Bg a x)(g:Bg a y):Bg (a+1) (x-y):=by unfold Bg at *;rw[Nat.pow_succ];generalize 2^a=z at *;omega
end YS
namespace LL
open L3 L4
def lK:iP:=dA 2 2
  (bE (aV 2 [] (vV (aB (aA 0) (aB (aA 1) aF))) (g2 0 1) bO (aC bL (aA 0) (aA 1))))
def bX:iP:=dA 1 1
  (bE (aC bL (fE (aB (eC (.int 0)) aF)) (X5 (aA 0) X4 (oE (sE (eC (.int 1)))))))
def bG:Nat->FnM
 |0=>λ_ _=>.no
 |n+1=>runM 8 4
  ((aJ (aY 4 (cB (aB (aA 1) (aB (aA 2) aF))))
  (fY (tV (aC (NO ae) (aA 4) (aA 3)))
   (aJ (iQ 5 (aC repLM (fE (aB (eC (.int 0)) aF)) (bP oM (aB (bP bT (aB (aA 0) aF)) (aB (eC (.int 1)) aF)))))
   (aJ (fY (tV (aC qB (bP bT (aB (aA 1) aF)) (bP bT (aB (aA 0) aF))))
    (NM 5 (bB (eC (.int 1))) (eC (.int 0)))
    dG)
   (aJ (RD 5 (cL (aZ (aL LL.eS (aB (aA 0) (aB (aA 1) aF)))) (iY 6)
    (aJ (sI 7 (bG n) (aB (aA 0) (aB (aL LL.fW (aB (aA 1) (aB (aA 6) aF))) (aB (aA 6) aF))) 3)
    (aY 5 (aL LL.lK (aB (aA 5) (aB (KO (tV (aC uR (aA 2) (aA 6))) (aL LL.bX (aB (aA 7) aF)) (aA 7)) aF)))))))
   (qF 3 (bB (aA 5)) (aA 4)))))
   dG)))
  (aA 4)
def iM:iP:=dA 2 1
  (aJ (RI 1)
  (aJ (X8 (LL.bG 11) (aB (aA 0) (aB (cB aF) (aB (eC (.int 0)) aF))) 1)
  (bE (aA 1))))
def dI:iP:=dA 1 1
  (bE (bP dF (aB (aC Bb (aL LL.iM (aB (aA 0) aF)) (cB (aB (cB aF) (aB (eC (.int 0)) aF)))) aF)))
def mX:iP:=dA 4 2
  (aJ (aY 2 (eC (.int 1)))
  (aJ (cL (aQ (aB (aA 1) aF)) (iY 3)
   (aY 2 (aC uQ (aC mulM (aA 2) (aC gT (aA 0) (aA 3))) (aC bL (aA 3) (eC (.int 1))))))
  (bE (aA 2))))
def dQ:iP:=dA 3 3
  (bE (bP HC (aB (aV 2 [1,2] (lZ (aB (aA 0) aF)) (g2 0 1) bO (aC mulM (aA 1) (aL LL.mX (aB (aC gT (aC gT (aC bL (aA 3) (aA 2)) (eC (.int 1))) (aA 0)) (aB (aA 2) aF))))) aF)))
def dR:iP:=dA 3 1
  (aJ (iQ 1 (fE aF))
  (aJ (aY 2 (aA 0))
  (aJ (RB HG (tV (aA 2))
   (aJ (sX (nN 1 iI (bB (aC bI (aA 2) (eC (.int 0))))))
   (aY 2 (aV 2 [] (vV (aB (aA 2) (aB (X5 (aA 2) (oE (eC (.int 1))) X4) aF))) (g2 0 1) bO (aC gT (aA 1) (aA 0))))))
  (bE (bP dF (aB (aA 1) aF))))))
def dN:iP:=dA 3 1
  (aJ (aY 1 (bP bT (aB (aA 0) aF)))
  (aJ (aY 2 (aL LL.dI (aB (aA 0) aF)))
  (bE (aL LL.dR (aB (aV 1 [2,1] (aQ (aB (aC bL (aA 1) (eC (.int 1))) aF)) (g1 0) bO (aL LL.dQ (aB (aA 1) (aB (aA 2) (aB (aA 0) aF))))) aF)))))
def jJ:iP:=dA 5 2
  (aJ (aY 2 (eC (.int 1)))
  (aJ (aY 3 (eC (.int 1)))
  (aJ (cL (aQ (aB (aA 1) aF)) (iY 4)
   (aJ (aY 2 (aC mulM (aA 2) (aC gT (aA 0) (aA 4))))
   (aY 3 (aC mulM (aA 3) (aC bL (aA 4) (eC (.int 1)))))))
  (bE (aC uQ (aA 2) (aA 3))))))
def jK:iP:=dA 6 1
  (aJ (aY 1 (fE (aB (cB aF) aF)))
  (aJ (cL (aQ (aB (bP bT (aB (aA 0) aF)) aF)) (iY 2)
   (aJ (iQ 3 (fE aF))
   (aJ (cL (aZ (aA 1)) (iY 4)
    (cL (aQ (aB (bP bT (aB (aA 0) aF)) aF)) (iY 5)
     (fY (kD (tV (aC (jO ae) (aA 5) (aA 4))) (tV (bP allM (aB (aV 1 [4] (aZ (aC bI (aA 0) (aA 5))) (g1 0) bO (aC (jO af) (aA 0) (aA 1))) aF))))
      (sX (nN 3 iI (bB (aC bL (aA 4) (cB (aB (aA 5) aF))))))
      dG)))
   (RD 3 (aY 1 (aA 3))))))
  (bE (aA 1))))
def EK{ks:List u7}{k k':u7}{v:D}:∀{ks:List u7} {ds:List D},ks.length=ds.length->bY (eV ks ds k v).1 (eV ks ds k v).2 k'=if k'=k then aa v else bY ks ds k':=by
 intro ks ds hl;unfold eV;split
 .rename_i hc;have go:∀(ks:List u7) (ds:List D),ks.length=ds.length->bY ks ((ks.zip ds).map λp=>if p.1=k then v else p.2) k'=if k'=k then(bY ks ds k').map (λ_=>v) else bY ks ds k':=by
   intro ks
   induction ks with
   |nil=>intro ds _;simp[bY]
   |cons q ks ih =>
    intro ds hl
    cases ds with
    |nil=>simp at hl
    |cons d ds =>
     have:=ih ds (by simpa using hl);unfold bY at this ⊢;by_cases h1:q=k'
     .subst h1;by_cases h2:q=k
      .simp [h2]
      .simp [h2]
     .simpa [h1] using this
  have hin:k∈ks:=by rw[pk] at hc;obtain⟨q,hq,e⟩:=hc;rw[<- of_decide_eq_true e];exact hq
  have some_of:∀(ks:List u7) (ds:List D),ks.length=ds.length->k∈ks ->∃d,bY ks ds k=aa d:=by
   intro ks
   induction ks with
   |nil=>intro ds _ h;cases h
   |cons q ks ih =>
    intro ds hl h
    cases ds with
    |nil=>simp at hl
    |cons d ds =>
     by_cases h1:q=k
     .exact ⟨d,by simp[bY,h1]⟩
     .obtain ⟨d',e⟩:=ih ds (by simpa using hl) ((bz.1 h).resolve_left (dh h1));exact⟨d',by unfold bY at e ⊢;simpa[h1] using e⟩
  rw[go ks ds hl];by_cases h:k'=k
  .subst h;obtain⟨d,e⟩:=some_of ks ds hl hin;rw[e];simp
  .rw [Zz h,Zz h]
 .rename_i hc;have hn:k∉ks:=λh=>hc (pk.2 ⟨k,h,by simp⟩);unfold bY;dsimp only;rw[a2i hl,List.find?_append];by_cases h:k'=k
  .subst h;have:((ks.zip ds).find? λp=>Zv (p.1=k'))=ab:=by rw[List.find?_eq_none];intro p hp;have:=uf hp;simp only[decide_eq_true_eq];exact λe=>hn (e▸this.1)
   rw[this];simp
  .rw [Zz h];have:([k].zip [v]).find? (λp=>Zv (p.1=k'))=ab:=by simp[dh h]
   rw[this,Option.or_none]
def LD{ks:List u7}{ds:List D}{k:u7}{v:D}(h:ks.length=ds.length):(eV ks ds k v).1.length=(eV ks ds k v).2.length/\(eV ks ds k v).1.length<=ks.length+1:=by
 unfold eV;split
 .simp [h]
 .simp [h]
def NX{ks:List u7}{ds:List D}{k:u7}{v:D}(h:∀q∈ks,q.isLeft=af)(hk:k.isLeft=af):∀q∈(eV ks ds k v).1,q.isLeft=af:=by
 unfold eV;split
 .exact h
 .intro q hq;rcases gu.1 hq with z|z
  .exact h q z
  .rw [cm.1 z];exact hk
def lL(h:∀q∈ks,q.isLeft=af)(hk:k.isLeft=af):kindB ks k=ae:=by unfold kindB;rw[gx];intro q hq;rw[h q hq,hk];rfl
theorem zX:∀a:Q0e,zM (a.map D.int)=aa (a.map bu)
 |[]=>rfl
 |x::a=>by rw[bp,zM,zX a];rfl
def kS(a:Q0e)(l:Int):u7:=.inr [.inr (a.map bu),.inl (.inl l)]
def LF(a:Q0e)(l:Int):mB (.tup [tupI a,.int l])=aa (kS a l):=by
 have e:RG (tupI a)=aa (.inr (a.map bu)):=by show(zM (a.map D.int)).map ip=_;rw[zX];rfl
 show(vU [tupI a,.int l]).map ip=_;unfold vU;rw[e];rfl
theorem LG:∀{a b:Q0e},a.map (bu:Int->yU)=b.map bu->a=b
 |[],[],_=>rfl
 |[],_::_,h=>by simp at h
 |_::_,[],h=>by simp at h
 |x::a,y::b,h=>by simp only[bp,a2K,a0a] at h;rw[h.1,LG h.2]
theorem aCF{a b:Q0e}{l m:Int}(h:kS a l=kS b m):a=b/\l=m:=by unfold kS at h;simp only[Sum.inr.injEq,a2K,a0a,and_true] at h;exact⟨LG h.1,h.2⟩
def tG(a b:Q0e):List Int:=(a.zip b).map λp=>p.1+p.2
def qQ(l:Q0e):List Int:=0::l.dropLast
def B1(n:Nat):List Int:=1::fq (max n 1-1) 0
def HY(n:Nat):List Int:=fq (max n 1) 0
section
variable(x:Q0a)
def Sh:Nat->List Int->Int->List Int
 |0,_,_=>B1 x.length
 |m+1,a,l=>(b8 x a).foldl (λacc t=>tG acc (if t<l then qQ (Sh m (bU a t) t) else Sh m (bU a t) t)) (HY x.length)
end
def R5(h:a.length<=1000):lK [aG a,aG b]=.ok (aG (tG a b)):=by
 unfold lK tG;refine eQ rfl (eF (dH ((a.zip b).map λp=>D.tup [.int p.1,.int p.2]) ?_ ?_ ?_))
 .unfold vV;rw[args2 (x:=aG a) (y:=aG b) rfl rfl];show aa (((a.map D.int).zip (b.map D.int)).map _)=_;rw[a2h,bx];rfl
 .rw [au,a2r];omega
 .rw [bW (λp:Int×Int=>D.tup [.int p.1,.int p.2]) (λp=>.int (p.1+p.2)) (a.zip b) λp _=>⟨[aa (.int p.1),aa (.int p.2)],rfl,rfl⟩,bx];rfl
def YU(h0:1<=a.length)(h:a.length<=1000):bX [aG a]=.ok (aG (qQ a)):=by
 unfold bX;refine eQ rfl (eF (aN (x:=aG [0]) (y:=aG a.dropLast) rfl ?_ ?_))
 .show aa (D.lst (NK (a.map D.int) ab (aa (-1))))=_;unfold aG NK Q8;rw[au];simp only[Fc,ur];rw[Z_ (by decide),show((-1:Int)+(a.length:Int)).toNat=a.length-1 by omega,<- List.map_take,List.dropLast_eq_take]
 .show (if _ then _ else _)=_;rw[Z_ (by simp[mF];omega)];rfl
def jX(h:a.length=b.length):(tG a b).length=a.length:=by unfold tG;simp[h]
def mY(h:1<=a.length):(qQ a).length=a.length:=by unfold qQ;simp;omega
def pS(n:Nat):(HY n).length=max n 1:=by simp[HY]
def EL(n:Nat):(B1 n).length=max n 1:=by simp[B1];omega
theorem kL(x:Q0a):∀(m:Nat) (a:Q0e) (l:Int),(Sh x m a l).length=max x.length 1
 |0,a,l=>EL _
 |m+1,a,l=>by
  unfold Sh;have go:∀(ts:Q0e) (acc:Q0e),acc.length=max x.length 1->(ts.foldl (λacc t=>tG acc (if t<l then qQ (Sh x m (bU a t) t) else Sh x m (bU a t) t)) acc).length=max x.length 1:=by
   intro ts
   induction ts with
   |nil=>intro acc h;exact h
   |cons t ts ih =>
    intro acc h;rw[pd];refine ih _ ?_;rw[jX]
    .exact h
    .rw [h];have:=kL x m (bU a t) t;split
     .rw [mY (by omega)];exact this.symm
     .exact this.symm
  exact go _ _ (pS _)
noncomputable def most:Nat->Nat
 |0=>1
 |m+1=>1+(m+1)*most m
def iW(x:Q0a)(kd:KD):Prop:=kd.1.length=kd.2.length/\(∀q∈kd.1,q.isLeft=af) /\∀a l d,bY kd.1 kd.2 (kS a l)=aa d->d=aG (Sh x (x.length-a.length) a l)
def iW.put{x:Q0a}{kd:KD}(h:iW x kd)(a:Q0e)(l:Int):iW x (eV kd.1 kd.2 (kS a l) (aG (Sh x (x.length-a.length) a l))):=by
 refine⟨(LD h.1).1,NX h.2.1 rfl,λb m d e=>?_⟩;rw[EK (ks:=[]) h.1] at e;split at e
 .rename_i hk;obtain⟨rfl,rfl⟩:=aCF hk;exact(c_ e).symm
 .exact h.2.2 b m d e
def oP(x:Q0a)(a:Q0e)(l:Int)(q:Nat->aw->Prop)(kd:KD)(s v6 v7:Sv):bH:=[.ro (aH x),.ro (tupI a),.ro (.int l),.ow (.dP q kd.1 kd.2),.ro (.tup [tupI a,.int l]),s,v6,v7]
def wq(h:iW x kd):tV (aC (NO ae) (aA 4) (aA 3)) (bC (oP x a l q kd s v6 v7))=aa (!(bY kd.1 kd.2 (kS a l)).isSome):=by refine gC (d:=.bl (!(bY kd.1 kd.2 (kS a l)).isSome)) (aN (x:=.tup [tupI a,.int l]) (y:=.dP q kd.1 kd.2) rfl rfl ?_) rfl;show((mB (.tup [tupI a,.int l])).bind _)=_;rw[LF];show(if _ then _ else _)=_;rw[Z_ (lL h.2.1 rfl)];rfl
def Cg(h:iW x kd)(hq:∀b o,q b o ->∃o2,q0 b o2)(hl:bY kd.1 kd.2 (kS a l)=aa d):X6 3 (aA 4) q0 (oP x a l q kd s v6 v7)=aa (d,kd):=by have e:X6 3 (aA 4) q0 (oP x a l q kd s v6 v7)=(mB (.tup [tupI a,.int l])).bind λkk=>@ite _ (kindB kd.1 kk=ae /\∀b o,q b o ->∃o2,q0 b o2) (Gk _) ((bY kd.1 kd.2 kk).map λd=>(d,kd)) ab:=rfl;rw[e,LF];exact(Z_ ⟨lL h.2.1 rfl,hq⟩).trans (by rw[hl];rfl)
theorem rep0(n:Nat)(h:n<=1000):repLM (.lst [.int 0]) (.int (n:Int))=aa (aG (fq n 0)):=by
 show(if _ then _ else _)=_;rw[Z_ ⟨by simp[mF];omega,by omega⟩];unfold aG;congr 2;simp only[jt]
 induction n with
 |zero=>rfl
 |succ n ih=>rw[i_,pf,ih (by omega),i_];rfl
def HZ(h:okI x a)(hl:a.length=x.length):b8 x a=[]:=by have:=kJ h;exact a2D (by omega)
def LH(hx:x.length<=9)(h:ρ[0]?=aa (aa (aH x))):aC repLM (fE (aB (eC (.int 0)) aF)) (bP oM (aB (bP bT (aB (aA 0) aF)) (aB (eC (.int 1)) aF))) ρ=aa (aG (HY x.length)):=by
 have e0:aA 0 ρ=aa (aH x):=by unfold aA;rw[h];rfl
 refine aN (x:=.lst [.int 0]) (y:=.int ((max x.length 1:Nat):Int)) rfl (YB (x:=.int x.length) (y:=.int 1) (cD e0 dS) rfl ?_) (rep0 _ (by omega));show aa (D.int (if _ then _ else _))=_;split<;>congr 2<;>omega
def EM(h0:ρ[0]?=aa (aa (aH x)))(h1:ρ[1]?=aa (aa (tupI a))):tV (aC qB (bP bT (aB (aA 1) aF)) (bP bT (aB (aA 0) aF))) ρ=aa (Zv (a.length=x.length)):=by
 have e0:aA 0 ρ=aa (aH x):=by unfold aA;rw[h0];rfl
 have e1:aA 1 ρ=aa (tupI a):=by unfold aA;rw[h1];rfl
 refine gC (d:=.bl (Zv ((a.length:Int)=x.length))) (aN (cD e1 jG) (cD e0 dS) dD) ?_;rw[dM];congr 1;exact decide_eq_decide.2 (by omega)
def yX(x:Q0a)(kd:KD)(a:Q0e)(l:Int):KD:=eV kd.1 kd.2 (kS a l) (aG (Sh x (x.length-a.length) a l))
def LI{x:Q0a}{kd:KD}{a:Q0e}{l:Int}(h:iW x kd):iW x (yX x kd a l)/\(yX x kd a l).1.length<=kd.1.length+1/\bY (yX x kd a l).1 (yX x kd a l).2 (kS a l)=aa (aG (Sh x (x.length-a.length) a l)) :=
 ⟨h.put a l,(LD h.1).2,by unfold yX;rw[EK (ks:=[]) h.1,Z_ rfl]⟩
theorem Cf(h:iW x kd)(hc:kd.1.length<16000000):
  qF 3 (bB (aA 5)) (aA 4) (oP x a l q kd (.ro (aG (Sh x (x.length-a.length) a l))) v6 v7)=.nx (oP x a l (adr q) (yX x kd a l) (.ro (aG (Sh x (x.length-a.length) a l))) v6 v7):=by
 have e0:qF 3 (bB (aA 5)) (aA 4) (oP x a l q kd (.ro (aG (Sh x (x.length-a.length) a l))) v6 v7)=(match ((mB (.tup [tupI a,.int l])).bind λkk=>if kindB kd.1 kk=ae/\kd.2.length<mF then aa ((oP x a l q kd (.ro (aG (Sh x (x.length-a.length) a l))) v6 v7).set 3 (.ow (.dP (adr q) (eV kd.1 kd.2 kk (aG (Sh x (x.length-a.length) a l))).1 (eV kd.1 kd.2 kk (aG (Sh x (x.length-a.length) a l))).2))) else ab) with
  |some ρ'=>.nx ρ'
  |none=>.no):=rfl
 rw[e0,LF,cj,Z_ ⟨lL h.2.1 rfl,by rw[<- h.1];unfold mF;omega⟩];rfl
def Qm(h:ρ[5]?=aa (.ow (aG (0::r)))):NM 5 (bB (eC (.int 1))) (eC (.int 0)) ρ=.nx (ρ.set 5 (.ow (aG (1::r)))):=by
 have e:NM 5 (bB (eC (.int 1))) (eC (.int 0)) ρ=(match ((l9 ρ[5]?).bind λds=>(NJ ds.length 0).map λj=>ρ.set 5 (.ow (.lst (ds.set j (.int 1))))) with
  |some ρ'=>.nx ρ'
  |none=>.no):=rfl
 rw[e,h]
 show(match ((NJ ((0::r).map D.int).length 0).map λj=>ρ.set 5 (.ow (.lst (((0::r).map D.int).set j (.int 1))))) with
  |some ρ'=>Out.nx ρ'
  |none=>.no)=_
 rw[sS (by decide) (by simp)];rfl
abbrev bS(n:Nat):SF:=(aJ (aY 4 (cB (aB (aA 1) (aB (aA 2) aF))))
  (fY (tV (aC (NO ae) (aA 4) (aA 3)))
   (aJ (iQ 5 (aC repLM (fE (aB (eC (.int 0)) aF)) (bP oM (aB (bP bT (aB (aA 0) aF)) (aB (eC (.int 1)) aF)))))
   (aJ (fY (tV (aC qB (bP bT (aB (aA 1) aF)) (bP bT (aB (aA 0) aF))))
    (NM 5 (bB (eC (.int 1))) (eC (.int 0)))
    dG)
   (aJ (RD 5 (cL (aZ (aL LL.eS (aB (aA 0) (aB (aA 1) aF)))) (iY 6)
    (aJ (sI 7 (bG n) (aB (aA 0) (aB (aL LL.fW (aB (aA 1) (aB (aA 6) aF))) (aB (aA 6) aF))) 3)
    (aY 5 (aL lK (aB (aA 5) (aB (KO (tV (aC uR (aA 2) (aA 6))) (aL bX (aB (aA 7) aF)) (aA 7)) aF)))))))
   (qF 3 (bB (aA 5)) (aA 4)))))
   dG))
theorem vF(h:iW x kd)
  (there:∀d',bY kd.1 kd.2 (kS a l)=aa d'->d'=d/\yY=kd)
  (new:bY kd.1 kd.2 (kS a l)=ab ->∀q,∃q2 kd2 v5 v6 v7,(∀b o,q2 b o ->∃o2,q b o2)/\bS n (startM 8 [aH x,tupI a,.int l] q kd)=.nx (oP x a l q2 kd2 v5 v6 v7)/\iW x kd2/\bY kd2.1 kd2.2 (kS a l)=aa d/\kd2=yY):
  bG (n+1) [aH x,tupI a,.int l] kd=.ok (d,yY):=by
 unfold bG;refine X7 λq=>?_
 have e1:vW 8 4 (bS n) (aA 4) q [aH x,tupI a,.int l] kd=(match bS n (startM 8 [aH x,tupI a,.int l] q kd) with
  |.nx ρ=>X6 3 (aA 4) q ρ
  |_=>ab):=rfl
 refine e1.trans ?_
 cases hl:bY kd.1 kd.2 (kS a l) with
 |some d' =>
  obtain⟨rfl,rfl⟩:=there d' hl;have e2:bS n (startM 8 [aH x,tupI a,.int l] q yY)=.nx (oP x a l q yY .no .no .no):=by refine bM (oP x a l q yY .no .no .no) (cZ (.tup [tupI a,.int l]) rfl rfl) ?_;refine mC ?_ rfl;rw[wq h,hl];rfl
  rw[e2];exact Cg h (λb o ho=>⟨o,ho⟩) hl
 |none =>
  obtain⟨q2,kd2,v5,v6,v7,hq,eb,hM,hl2,rfl⟩:=new hl q;rw[eb];exact Cg hM hq hl2
def Ce(ha:a ρ=aa x)(hb:b ρ=aa y)(hc:c ρ=aa z):aB a (aB b (aB c aF)) ρ=aa [x,y,z]:=by have:=args2 hb hc;unfold aB at this ⊢;rw[ha,this];rfl
abbrev lS(n:Nat):SF:=aJ (sI 7 (bG n) (aB (aA 0) (aB (aL LL.fW (aB (aA 1) (aB (aA 6) aF))) (aB (aA 6) aF))) 3)
    (aY 5 (aL lK (aB (aA 5) (aB (KO (tV (aC uR (aA 2) (aA 6))) (aL bX (aB (aA 7) aF)) (aA 7)) aF))))
def mZ(x:Q0a)(m:Nat)(a:Q0e)(l:Int)(acc:Q0e)(t:Int):List Int:=tG acc (if t<l then qQ (Sh x m (bU a t) t) else Sh x m (bU a t) t)
theorem aCH(ha:a.length<=9)(hx:x.length<=9)(hacc:acc.length=max x.length 1)
  (hR:bG n [aH x,tupI (bU a t),.int t] kd=.ok (aG (Sh x m (bU a t) t),yY)):
  lS n (oP x a l q kd (.ro (aG acc)) (.ro (.int t)) v7)=.nx (oP x a l (adr q) yY (.ro (aG (mZ x m a l acc t))) (.ro (.int t)) (.ro (aG (Sh x m (bU a t) t)))):=by
 have hS:=kL x m (bU a t) t;refine bM (oP x a l (adr q) yY (.ro (aG acc)) (.ro (.int t)) (.ro (aG (Sh x m (bU a t) t)))) ?_ ?_
 .have e:stepM (bG n) (aB (aA 0) (aB (aL LL.fW (aB (aA 1) (aB (aA 6) aF))) (aB (aA 6) aF))) 3 (oP x a l q kd (.ro (aG acc)) (.ro (.int t)) v7)=aa (q,aG (Sh x m (bU a t) t),yY):=by
   unfold stepM;have e1:aB (aA 0) (aB (aL LL.fW (aB (aA 1) (aB (aA 6) aF))) (aB (aA 6) aF)) (gR (oP x a l q kd (.ro (aG acc)) (.ro (.int t)) v7))=aa [aH x,tupI (bU a t),.int t]:=by have e2:aL LL.fW (aB (aA 1) (aB (aA 6) aF)) (gR (oP x a l q kd (.ro (aG acc)) (.ro (.int t)) v7))=aa (tupI (bU a t)):=bN rfl rfl (NV ha);exact Ce rfl e2 rfl
   rw[e1,cj]
   show(match bG n [aH x,tupI (bU a t),.int t] kd with
    |.ok r=>aa (q,r)
    |_=>ab)=_
   rw[hR]
  unfold sI;rw[e];rfl
 .refine cZ (aG (mZ x m a l acc t)) ?_ rfl;have e3:KO (tV (aC uR (aA 2) (aA 6))) (aL bX (aB (aA 7) aF)) (aA 7) (gR (oP x a l (adr q) yY (.ro (aG acc)) (.ro (.int t)) (.ro (aG (Sh x m (bU a t) t)))))=aa (aG (if t<l then qQ (Sh x m (bU a t) t) else Sh x m (bU a t) t)):=by
   have et:tV (aC uR (aA 2) (aA 6)) (gR (oP x a l (adr q) yY (.ro (aG acc)) (.ro (.int t)) (.ro (aG (Sh x m (bU a t) t)))))=aa (Zv (t<l)):=rfl;unfold KO;rw[et,cj];by_cases h:t<l
   .rw [Zx h,Z_ rfl,Z_ h];exact eR rfl (YU (by omega) (by omega))
   .rw [Zy h,Zz (by decide),Zz h];rfl
  exact bN rfl e3 (R5 (by omega))
theorem R6(ha:a.length<=9)(hx:x.length<=9):∀(ts:Q0e) (acc:Q0e) (kd:KD),acc.length=max x.length 1->iW x kd ->
  (∀t∈ts,∀kd,iW x kd->kd.1.length+most m<=10000000 ->∃yY,bG n [aH x,tupI (bU a t),.int t] kd=.ok (aG (Sh x m (bU a t) t),yY)/\iW x yY/\yY.1.length<=kd.1.length+most m) ->
  kd.1.length+ts.length*most m<=10000000 ->
  ∃kd2,iW x kd2/\kd2.1.length<=kd.1.length+ts.length*most m /\∀(q0 q:Nat->aw->Prop) (v6 v7:Sv),(∀b o,q b o ->∃o2,q0 b o2) ->∃(q2:Nat->aw->Prop) (w6 w7:Sv),(∀b o,q2 b o ->∃o2,q0 b o2) /\
   eJ (iY 6) (lS n) (ts.map D.int) (oP x a l q kd (.ro (aG acc)) v6 v7)=.nx (oP x a l q2 kd2 (.ro (aG (ts.foldl (mZ x m a l) acc))) w6 w7)
 |[],acc,kd,hacc,hM,_,_=>⟨kd,hM,by simp,λq0 q v6 v7 hq=>⟨q,v6,v7,hq,rfl⟩⟩
 |t::ts,acc,kd,hacc,hM,hR,hc=>by
  rw[cy,Fb] at hc;obtain⟨kd1,e1,rn,hc1⟩:=hR t cp kd hM (by omega);have hS:=kL x m (bU a t) t;have Wf:(mZ x m a l acc t).length=max x.length 1:=by
   unfold mZ;rw[jX]
   .exact hacc
   .rw [hacc];split
    .rw [mY (by omega)];exact hS.symm
    .exact hS.symm
  obtain⟨kd2,Ip,hc2,go⟩:=R6 ha hx ts (mZ x m a l acc t) kd1 Wf rn (λu hu=>hR u (dq _ hu)) (by omega);refine⟨kd2,Ip,by rw[cy,Fb];omega,λq0 q v6 v7 hq=>?_⟩;obtain⟨q2,w6,w7,hq2,e2⟩:=go q0 (adr q) (.ro (.int t)) (.ro (aG (Sh x m (bU a t) t))) λb o ⟨o1,h1⟩=>hq b o1 h1;refine⟨q2,w6,w7,hq2,?_⟩;rw[bp,pd]
  have e3:eJ (iY 6) (lS n) (D.int t::ts.map D.int) (oP x a l q kd (.ro (aG acc)) v6 v7)=(match lS n (oP x a l q kd (.ro (aG acc)) (.ro (.int t)) v7) with
   |.nx ρ2=>eJ (iY 6) (lS n) (ts.map D.int) ρ2
   |o=>o):=rfl
  rw[e3,aCH ha hx hacc e1];exact e2
theorem YV(hx:x.length<=9)(hr:∀r∈x,r.length<=9):∀(m e:Nat) (a:Q0e) (l:Int) (kd:KD),okI x a->a.length+m=x.length->iW x kd->kd.1.length+most m<=10000000 ->
  ∃yY,bG (m+1+e) [aH x,tupI a,.int l] kd=.ok (aG (Sh x m a l),yY)/\iW x yY/\yY.1.length<=kd.1.length+most m/\bY yY.1 yY.2 (kS a l)=aa (aG (Sh x m a l)):=by
 intro m
 induction m with
 |zero =>
  intro e a l kd ok hl hM hc;have hl:a.length=x.length:=hl;have m0:most 0=1:=rfl;have e0:x.length-a.length=0:=by omega
  rw[show 0+1+e=e+1 by omega]
  cases hk:bY kd.1 kd.2 (kS a l) with
  |some d =>
   have ed:=hM.2.2 a l d hk;rw[e0] at ed;subst ed;exact⟨kd,vF hM (λd' h'=>by rw[hk] at h';exact⟨(c_ h').symm,rfl⟩) (λh'=>by rw[hk] at h';cases h'),hM,by omega,hk⟩
  |none =>
   obtain⟨p1,p2,p3⟩:=LI (a:=a) (l:=l) hM;rw[e0] at p3;refine⟨yX x kd a l,vF hM (λd' h'=>by rw[hk] at h';cases h') λ_ q=>⟨adr q,yX x kd a l,.ro (aG (Sh x 0 a l)),.no,.no,λb o h=>h,?_,p1,p3,rfl⟩,p1,by omega,p3⟩
   .refine bM (oP x a l q kd .no .no .no) (cZ (.tup [tupI a,.int l]) rfl rfl) (uU ?_ ?_)
    .rw [wq hM,hk];rfl
    .have ez:HY x.length=0::fq (max x.length 1-1) 0:=by unfold HY;rw[<- i_];congr 1;omega
     refine bM (oP x a l q kd (.ow (aG (HY x.length))) .no .no) (by unfold iQ;rw[LH hx rfl];rfl) ?_;refine bM (oP x a l q kd (.ow (aG (B1 x.length))) .no .no) (uU ((EM rfl rfl).trans (by rw[Zx hl])) ?_) ?_
     .rw [ez];exact Qm rfl
     refine bM (oP x a l q kd (.ro (aG (B1 x.length))) .no .no) ?_ ?_
     .show cL _ _ _ (oP x a l q kd (.ro (aG (B1 x.length))) .no .no)=_;refine yV [] ?_ rfl;unfold aZ;rw[bN (x:=aH x) (y:=tupI a) rfl rfl (EJ hx hr),HZ ok hl];rfl
     .have:=Cf (x:=x) (a:=a) (l:=l) (q:=q) (kd:=kd) (v6:=.no) (v7:=.no) hM (by omega);rw[e0] at this;exact this
 |succ m ih =>
  intro e a l kd ok hl hM hc;have mm:most (m+1)=1+(m+1)*most m:=rfl;have e0:x.length-a.length=m+1:=by omega
  have hfew:=kJ ok;have ha:=YQ ok;rw[show m+1+1+e=(m+1+e)+1 by omega]
  cases hk:bY kd.1 kd.2 (kS a l) with
  |some d =>
   have ed:=hM.2.2 a l d hk;rw[e0] at ed;subst ed;exact⟨kd,vF hM (λd' h'=>by rw[hk] at h';exact⟨(c_ h').symm,rfl⟩) (λh'=>by rw[hk] at h';cases h'),hM,by omega,hk⟩
  |none =>
   have hlen:(b8 x a).length*most m<=(m+1)*most m:=a2a _ (by omega);obtain⟨kd1,rn,hc1,go⟩:=R6 (n:=m+1+e) (m:=m) (l:=l) (by omega:a.length<=9) hx (b8 x a) (HY x.length) kd (pS _) hM (λt ht kd hM' hc'=>(ih e (bU a t) t kd ((Cj ok).1 _ (yg ht)).1 (by have:=((Cj ok).1 _ (yg ht)).2;omega) hM' hc').imp λ_ h=>⟨h.1,h.2.1,h.2.2.1⟩) (by omega);obtain⟨p1,p2,p3⟩:=LI (a:=a) (l:=l) rn;rw[e0] at p3;refine⟨yX x kd1 a l,vF hM (λd' h'=>by rw[hk] at h';cases h') λ_ q=>?_,p1,by omega,p3⟩;obtain⟨q2,w6,w7,hq2,el⟩:=go q q .no .no λb o h=>⟨o,h⟩;refine⟨adr q2,yX x kd1 a l,.ro (aG (Sh x (m+1) a l)),w6,w7,λb o ⟨o1,h1⟩=>hq2 b o1 h1,?_,p1,p3,rfl⟩;refine bM (oP x a l q kd .no .no .no) (cZ (.tup [tupI a,.int l]) rfl rfl) (uU ?_ ?_)
   .rw [wq hM,hk];rfl
   .refine bM (oP x a l q kd (.ow (aG (HY x.length))) .no .no) (by unfold iQ;rw[LH hx rfl];rfl) ?_;refine bM (oP x a l q kd (.ow (aG (HY x.length))) .no .no) (mC ((EM rfl rfl).trans (by rw[Zy (by omega)])) rfl) ?_;refine bM (oP x a l q2 kd1 (.ro (aG (Sh x (m+1) a l))) w6 w7) ?_ ?_
    .show cL _ _ _ (oP x a l q kd (.ro (aG (HY x.length))) .no .no)=_;refine yV ((b8 x a).map D.int) ?_ el;unfold aZ;rw[bN (x:=aH x) (y:=tupI a) rfl rfl (EJ hx hr)];rfl
    .have:=Cf (x:=x) (a:=a) (l:=l) (q:=q2) (kd:=kd1) (v6:=w6) (v7:=w7) rn (by omega);rw[e0] at this;exact this
def aCI:∀{n:Nat},n<=9->most n<=1000000:=by
 intro n h;have:∀n,n<=9->most n<=1000000:=by decide
 exact this n h
def shares(x:Q0a):List Int:=Sh x x.length [] 0
def NY(hx:x.length<=9)(hr:∀r∈x,r.length<=9):dI [aH x]=.ok (tupI (shares x)):=by
 obtain⟨kd,e,hM,hc,hl⟩:=YV hx hr x.length (10-x.length) [] 0 ([],[]) YR (by simp) ⟨rfl,λq hq=>(by cases hq),λa l d h=>(by simp[bY] at h)⟩ (by have:=aCI hx;simp;omega);rw[show x.length+1+(10-x.length)=11 by omega] at e;have e1:iM [aH x]=.ok (.dP (adr qE) kd.1 kd.2):=by
  unfold iM;refine eQ rfl (bM [.ro (aH x),.ow (.dP qE [] [])] rfl (bM [.ro (aH x),.ow (.dP (adr qE) kd.1 kd.2)] ?_ (eF rfl)));have e2:stepM (bG 11) (aB (aA 0) (aB (cB aF) (aB (eC (.int 0)) aF))) 1 [.ro (aH x),.ow (.dP qE [] [])]=aa (qE,aG (Sh x x.length [] 0),kd):=by
   unfold stepM;rw[Ce (x:=aH x) (y:=tupI []) (z:=.int 0) rfl rfl rfl,cj]
   show(match bG 11 [aH x,tupI [],.int 0] ([],[]) with
    |.ok r=>aa (qE,r)
    |_=>ab)=_
   rw[e]
  unfold X8;rw[e2];rfl
 unfold dI;refine eQ rfl (eF (cD (x:=aG (shares x)) (aN (x:=.dP (adr qE) kd.1 kd.2) (y:=.tup [tupI [],.int 0]) (eR rfl e1) rfl ?_) rfl));show((mB (.tup [tupI [],.int 0])).bind λk=>if kindB kd.1 k=ae then bY kd.1 kd.2 k else ab)=_;rw[LF,cj,Z_ (lL hM.2.1 rfl)];exact hl
open YS
theorem IA(hx:Bg 210 x):∀m:Nat,m<=1000->Bg (211*m+1) (ff x m)
 |0,_=>by unfold Bg ff;decide
 |m+1,h=>by
  have h1:=IA hx m (by omega);have h2:Bg 211 (x-m):=by
   have:Bg 210 (m:Int):=by
    unfold Bg;have:(m:Int).natAbs<2^10:=by omega
    exact f_ this (qr (by decide) (by decide))
   exact hx.sub this
  exact(h1.mul h2).mono (by omega)
def We(hx:Bg 210 x)(hm:m<=1000):Bg (211*m+1) (C x m):=by
 have h:=IA hx m hm;have e:=zV x m;unfold Bg at h ⊢;rw[<- e,a2S] at h;have:1<=(fact m).natAbs:=by have:=kK m;omega
 exact ud (Nat.le_mul_of_pos_right _ this) h
def aCJ(x:Int)(i:Nat):C x i*(x-i)/((i:Int)+1)=C x (i+1):=by
 have h1:=zV x i;have h2:=zV x (i+1);have e:C x i*(x-i)=C x (i+1)*((i:Int)+1):=by
  refine a2Y (a2R (kK i)) ?_;rw[show fact (i+1)=fact i*(i+1) from rfl,show ff x (i+1)=ff x i*(x-i) from rfl,<- h1] at h2
  calc C x i*(x - ↑i)*fact i=C x i*fact i*(x - ↑i):=by rw[Int.mul_right_comm]
   _=C x (i+1)*(fact i*(↑i+1)):=h2.symm
   _=C x (i+1)*(↑i+1)*fact i:=by rw[ra (fact i),yw]
 rw[e,Int.mul_ediv_cancel _ (by omega)]
def NZ{x:Int}{m:Nat}(hx:Bg 210 x)(hm:m<=12):mX [.int x,.int m]=.ok (.int (C x m)):=by
 unfold mX;have h:Rt (aJ (aY 2 (eC (.int 1))) (aJ (cL (aQ (aB (aA 1) aF)) (iY 3) (aY 2 (aC uQ (aC mulM (aA 2) (aC gT (aA 0) (aA 3))) (aC bL (aA 3) (eC (.int 1)))))) (bE (aA 2))) (eO 4 [.int x,.int m])) λd=>d=.int (C x m):=by
  refine a8 [.ro (.int x),.ro (.int m),.ro (.int 1),.no] rfl ?_;refine gF (λρ=>∃v,ρ=[.ro (.int x),.ro (.int m),.ro (.int (C x m)),v]) ?_ λρ ⟨v,e⟩=>by subst e;exact eW _ rfl rfl
  refine gY m (λi ρ=>∃v,ρ=[.ro (.int x),.ro (.int m),.ro (.int (C x i)),v]) rfl (by omega) ⟨_,rfl⟩ (λi ρ hi ⟨v,e⟩=>?_) λρ h=>h;subst e;refine⟨_,rfl,mO (.int (C x (i+1))) (aN (x:=.int (C x i*(x-i))) (y:=.int ((i:Int)+1)) (aN (x:=.int (C x i)) (y:=.int (x-i)) rfl rfl (K6 (p:=211*i+1) (q:=211) (by omega) (by omega) (We hx (by omega)) ?_)) rfl ?_) ⟨_,rfl⟩⟩
  .have:Bg 210 (i:Int):=by
    unfold Bg;have:(i:Int).natAbs<2^10:=by omega
    exact f_ this (qr (by decide) (by decide))
   exact hx.sub this
  .rw [mK (by omega) (by omega),aCJ]
 obtain⟨d,e,rfl⟩:=gG rfl h;exact e
def LJ(h:m<=12):fact m<1073741824:=by
 have:∀m,m<=12->fact m<1073741824:=by decide
 exact this m h
def EN{x:Int}{m:Nat}(hx:Bg 210 x)(hm:m<=12):jJ [.int x,.int m]=.ok (.int (C x m)):=by
 unfold jJ;have h:Rt ((aJ (aY 2 (eC (.int 1))) (aJ (aY 3 (eC (.int 1))) (aJ (cL (aQ (aB (aA 1) aF)) (iY 4) (aJ (aY 2 (aC mulM (aA 2) (aC gT (aA 0) (aA 4)))) (aY 3 (aC mulM (aA 3) (aC bL (aA 4) (eC (.int 1))))))) (bE (aC uQ (aA 2) (aA 3)))))) (eO 5 [.int x,.int m])) λd=>d=.int (C x m):=by
  refine a8 [.ro (.int x),.ro (.int m),.ro (.int 1),.no,.no] rfl ?_;refine a8 [.ro (.int x),.ro (.int m),.ro (.int 1),.ro (.int 1),.no] rfl ?_;refine gF (λρ=>∃v,ρ=[.ro (.int x),.ro (.int m),.ro (.int (ff x m)),.ro (.int (fact m)),v]) ?_ λρ hq0=>by obtain⟨v,e⟩:=hq0;subst e;exact eW (.int (C x m)) (aN rfl rfl (mK (kK m) (LJ hm))) rfl
  refine gY m (λi ρ=>∃v,ρ=[.ro (.int x),.ro (.int m),.ro (.int (ff x i)),.ro (.int (fact i)),v]) rfl (by omega) ⟨_,rfl⟩ (λi ρ hi ⟨v,e⟩=>?_) λρ h=>h;subst e;have hf:=LJ (m:=i) (by omega);have hp:=kK i;refine⟨_,rfl,fG [.ro (.int x),.ro (.int m),.ro (.int (ff x (i+1))),.ro (.int (fact i)),.ro (.int i)] (cZ (.int (ff x (i+1))) (aN (x:=.int (ff x i)) (y:=.int (x-i)) rfl rfl (K6 (p:=211*i+1) (q:=211) (by omega) (by omega) (IA hx i (by omega)) ?_)) rfl) (mO (.int (fact (i+1))) (aN (x:=.int (fact i)) (y:=.int ((i:Int)+1)) rfl rfl (mM (by omega))) ⟨_,rfl⟩)⟩;have:Bg 210 (i:Int):=by
   unfold Bg;have:(i:Int).natAbs<2^10:=by omega
   exact f_ this (qr (by decide) (by decide))
  exact hx.sub this
 obtain⟨d,e,rfl⟩:=gG rfl h;exact e
def dvL(n:Nat)(k:Int)(w:Q0e)(d:Nat):List Int:=(w.zipIdx d).map λp=>p.1*C (k+n-1-p.2) n
theorem B2(n:Nat)(k:Int):∀(w:Q0e) (d:Nat),(dvL n k w d).sum=DV n d w k
 |[],d=>rfl
 |a::w,d=>by have ih:=B2 n k w (d+1);show a*C (k+n-1-d) n+(dvL n k w (d+1)).sum=a*C (k+n-1-d) n+DV n ((d:Int)+1) w k;rw[ih];rfl
def R7{k:Int}(hk:Bg 208 k){a b:Nat}(ha:a<=1000)(hb:b<=1000):Bg 210 (k+a-1-b):=by
 unfold Bg at hk ⊢;have:(2:Nat)^210=4*2^208:=by rw[show 210=2+208 from rfl,a19]
 have h2:2000<2^208:=f_ (by decide:2000<2^11) (qr (by decide) (by decide));rw[this];generalize 2^208=z at *;omega
def EO{w:Q0e}{n:Nat}{k:Int}(hw:w.length<=20)(hs:∀y∈w,y.natAbs<18446744073709551616)(hn:n<=12)(hk:Bg 208 k):dQ [tupI w,.int n,.int k]=.ok (.int (DV n 0 w k)):=by
 unfold dQ;have e:=B2 n k w 0;rw[show((0:Nat):Int)=0 from rfl] at e;rw[<- e];refine eQ rfl (eF (cD (x:=aG (dvL n k w 0)) ?_ sum_ints));refine dH ((w.zipIdx).map λp=>D.tup [.int (p.2:Int),.int p.1]) ?_ (by simp;omega) ?_
 .unfold lZ;rw[args1 (x:=tupI w) rfl];show aa (((w.map D.int).zipIdx).map _)=_;rw[zipIdx_map,bx];rfl
 .unfold dvL;rw[bx];refine bW (λp:Int×Nat=>D.tup [.int (p.2:Int),.int p.1]) (λp=>.int (p.1*C (k+n-1-p.2) n)) w.zipIdx λp hp=>⟨[aa (.int p.2),aa (.int p.1),aa (.int n),aa (.int k)],rfl,?_⟩;have hm:=List.mem_zipIdx hp;have h1:p.1∈w:=by have:=hm.2.2;rw[this];exact mf _
  exact aN (x:=.int p.1) (y:=.int (C (k+n-1-p.2) n)) rfl (bN (x:=.int (k+n-1-p.2)) (y:=.int n) rfl rfl (NZ (R7 hk (by omega) (by omega)) hn)) (mM (hs _ h1))
def Ax(h1:f (gR ρ)=aa d)(h2:ρ[i]?=aa (.ow (.lst ds)))(hl:ds.length<16777216):sX (nN i iI (bB f)) ρ=.nx (ρ.set i (.ow (.lst (ds++[d])))):=by
 have e:nN i iI (bB f) ρ=aa (ρ.set i (.ow (.lst (ds++[d]))),.non):=by unfold nN bB;rw[h2,h1];show((l9 ρ[i]?).bind λds=>(iI ds d).map _)=_;rw[h2];show((iI ds d).map _)=_;rw[jT hl];rfl
 unfold sX;rw[e]
theorem zY:∀r:Q0e,diffs r=(r.zip (r.drop 1)).map λp=>p.2-p.1
 |[]=>rfl
 |[a]=>rfl
 |a::b::l=>by have ih:=zY (b::l);show(b-a)::diffs (b::l)=_;rw[ih];rfl
theorem R8(hv:v.length<=1000):dR [aG v]=.ok (tupI (fd v)):=by
 unfold dR;have step:∀(n:Nat) (r f:Q0e) (m:Nat),r.length=n->n<m->f.length+n<=1000->eU (tV (aA 2)) (aJ (sX (nN 1 iI (bB (aC bI (aA 2) (eC (.int 0)))))) (aY 2 (aV 2 [] (vV (aB (aA 2) (aB (X5 (aA 2) (oE (eC (.int 1))) X4) aF))) (g2 0 1) bO (aC gT (aA 1) (aA 0))))) m [.ro (aG v),.ow (aG f),.ro (aG r)]=.nx [.ro (aG v),.ow (aG (f++fd r)),.ro (aG [])]:=by
  intro n
  induction n with
  |zero =>
   intro r f m hr hm hf;rw[nq] at hr;subst hr
   cases m with
   |zero=>omega
   |succ m =>
    unfold eU;rw[HX,jh];rfl
  |succ n ih =>
   intro r f m hr hm hf
   cases m with
   |zero=>omega
   |succ m =>
    cases r with
    |nil=>cases hr
    |cons a r =>
     have e1:(aJ (sX (nN 1 iI (bB (aC bI (aA 2) (eC (.int 0)))))) (aY 2 (aV 2 [] (vV (aB (aA 2) (aB (X5 (aA 2) (oE (eC (.int 1))) X4) aF))) (g2 0 1) bO (aC gT (aA 1) (aA 0))))) [.ro (aG v),.ow (aG f),.ro (aG (a::r))]=.nx [.ro (aG v),.ow (aG (f++[a])),.ro (aG (diffs (a::r)))]:=by
      refine bM [.ro (aG v),.ow (aG (f++[a])),.ro (aG (a::r))] ?_ (cZ (aG (diffs (a::r))) ?_ rfl)
      .rw [Ax (d:=.int a) (ds:=f.map D.int) (aN (x:=aG (a::r)) (y:=.int 0) rfl rfl (gH (ws:=a::r) (j:=0) rfl)) rfl (by rw[au];omega)];show Out.nx [Sv.ro (aG v),.ow (.lst (f.map D.int++[D.int a])),.ro (aG (a::r))]=_;rw[sW]
      .have e5:aG (diffs (a::r))=.lst (((a::r).zip ((a::r).drop 1)).map λp=>.int (p.2-p.1)):=by rw[zY];unfold aG;rw[bx];rfl
       rw[e5];refine dH (((a::r).zip ((a::r).drop 1)).map λp=>D.tup [.int p.1,.int p.2]) ?_ (by simp at hr ⊢;omega) ?_
       .unfold vV;have e3:X5 (aA 2) (oE (eC (.int 1))) X4 (gR [Sv.ro (aG v),.ow (aG (f++[a])),.ro (aG (a::r))])=aa (aG r):=by show aa (D.lst (NK ((a::r).map D.int) (aa 1) ab))=_;unfold NK Q8;simp[aG];exact oq (i:=r.length) (by simp)
        rw[args2 (x:=aG (a::r)) (y:=aG r) rfl e3];show aa ((((a::r).map D.int).zip (r.map D.int)).map _)=_;rw[a2h,bx];rfl
       .exact bW (λp:Int×Int=>D.tup [.int p.1,.int p.2]) (λp=>.int (p.2-p.1)) _ λp _=>⟨[aa (.int p.1),aa (.int p.2)],rfl,rfl⟩
     unfold eU
     show(match (aJ _ _) [Sv.ro (aG v),.ow (aG f),.ro (aG (a::r))] with
      |.nx ρ'=>eU _ _ m ρ'
      |o=>o)=_
     rw[e1];show eU _ _ m _=_;rw[ih (diffs (a::r)) (f++[a]) m (by rw[i5,hr];rfl) (by omega) (by simp;omega),B0,mj];rfl
 refine eQ rfl (bM [.ro (aG v),.ow (aG []),.no] rfl (bM [.ro (aG v),.ow (aG []),.ro (aG v)] rfl (bM [.ro (aG v),.ow (aG (fd v)),.ro (aG [])] ?_ (eF rfl))));exact step v.length v [] HG rfl (by unfold HG;omega) (by simp;omega)
noncomputable def ev(k:Int):List Int->Int
 |[]=>0
 |a::l=>a+k*ev k l
def R9(x:Q0a)(a:Q0e):(b8 x a).length<=x.length:=by unfold b8;have h1:=ic (λt=>(row x t).all λl=>a.contains l) ((a9 0 x.length).filter λt=>!a.contains t);have h2:=ic (λt=>!a.contains t) (a9 0 x.length);rw[aT] at h2;omega
theorem SA(hx:x.length<=9):∀(m:Nat) (a:Q0e) (l:Int),∀y∈Sh x m a l,0<=y/\y<=9^m
 |0,a,l,y,hy=>by
  unfold Sh B1 at hy;rcases bz.1 hy with e|e
  .subst e;decide
  .rw [a2C e];decide
 |m+1,a,l,y,hy=>by
  have ih:=SA hx m;have go:∀(ts:Q0e) (acc:Q0e) (c:Int),0<=c->(∀y∈acc,0<=y/\y<=c*9^m) ->∀y∈ts.foldl (λacc t=>tG acc (if t<l then qQ (Sh x m (bU a t) t) else Sh x m (bU a t) t)) acc,0<=y/\y<=(c+ts.length)*9^m:=by
   intro ts
   induction ts with
   |nil=>intro acc c hc h;simpa using h
   |cons t ts iht =>
    intro acc c hc h;rw[pd];have:=iht (tG acc (if t<l then qQ (Sh x m (bU a t) t) else Sh x m (bU a t) t)) (c+1) (by omega) ?_
    .rw [cy];rw[show c+((ts.length+1:Nat):Int)=c+1+ts.length by omega];exact this
    .intro y hy;unfold tG at hy;obtain⟨p,hp,rfl⟩:=de.1 hy;obtain⟨m1,m2⟩:=uf hp;have g1:=h _ m1;have g2:0<=p.2/\p.2<=9^m:=by
      split at m2
      .unfold qQ at m2;rcases bz.1 m2 with e|e
       .rw [e];exact⟨by decide,a2X (a2Q (by decide))⟩
       .exact ih _ _ _ (List.dropLast_subset _ e)
      .exact ih _ _ _ m2
     rw[Gj,Int.one_mul];omega
  unfold Sh at hy;have:=go (b8 x a) (HY x.length) 0 (by decide) (λy hy=>by rw[a2C hy];simp) y hy
  refine⟨this.1,yx this.2 ?_⟩;rw[jj,Int.pow_succ,ra];have h1:=R9 x a;exact Int.mul_le_mul_of_nonneg_left (by omega) (a2X (a2Q (by decide)))
def IB(hx:x.length<=9):∀y∈shares x,0<=y/\y<=387420489:=λy hy=>by
 have h:=SA hx x.length [] 0 y hy;refine⟨h.1,yx h.2 ?_⟩;have:∀n,n<=9->(9:Int)^n<=387420489:=by decide
 exact this _ hx
def oQ(x:Q0a):(shares x).length=max x.length 1:=kL x _ _ _
theorem qR(f:Int->Int):∀(n:Nat) (x:Int),vals f n x=(a9 x n).map f
 |0,x=>rfl
 |n+1,x=>by have ih:=qR f n (x+1);show f x::vals f n (x+1)=_;rw[ih];unfold a9;rw[ou,bp,bp,bx,bx,bx];simp only[Int.ofNat_zero,uv];congr 1;refine gf λj _=>?_;simp only[yy];congr 1;omega
def g6(x:Q0a):List Int:=fd (vals (DV x.length 0 (shares x)) (x.length+1) 0)
def ER(hx:x.length<=9)(hr:∀r∈x,r.length<=9):dN [aH x]=.ok (tupI (g6 x)):=by
 unfold dN g6;refine eQ rfl (bM [.ro (aH x),.ro (.int x.length),.no] (cZ (.int x.length) (cD rfl dS) rfl) (bM [.ro (aH x),.ro (.int x.length),.ro (tupI (shares x))] (cZ _ (eR rfl (NY hx hr)) rfl) (eF (eR (x:=aG (vals (DV x.length 0 (shares x)) (x.length+1) 0)) ?_ (R8 (by rw[mW];omega))))));rw[qR];have e5:aG ((a9 0 (x.length+1)).map (DV x.length 0 (shares x)))=.lst ((a9 0 (x.length+1)).map λk=>D.int (DV x.length 0 (shares x) k)):=by unfold aG;rw[bx];rfl
 rw[e5];refine dH ((a9 0 (x.length+1)).map D.int) (mR (n:=x.length+1) rfl (by omega)) (by rw[au,aT];omega) ?_;refine bW D.int (λk=>.int (DV x.length 0 (shares x) k)) _ λk hk=>⟨[aa (.int k),aa (tupI (shares x)),aa (.int x.length)],rfl,gZ rfl rfl rfl (EO (by rw[oQ];omega) (λy hy=>?_) (by omega) ?_)⟩
 .have:=IB hx y hy;omega
 .have:=cM.1 hk;have h:k.natAbs<2^10:=by omega
  exact f_ h (qr (by decide) (by decide))
def SD{a b:Q0e}{j:Nat}{y z:Int}(h1:a[j]?=aa y)(h2:b[j]?=aa z):(tG a b)[j]?=aa (y+z):=by unfold tG;rw[cf,qv (z:=(y,z)) |>.2 ⟨h1,h2⟩];rfl
def B3(x:Q0a)(m:Nat)(a:Q0e)(l:Int):Sh x (m+1) a l=(b8 x a).foldl (mZ x m a l) (HY x.length):=rfl
def ES{x:Q0a}{a:Q0e}{t:Int}(h:t∈b8 x a):0<=t:=(jA h).1.1
theorem fold_congr{α β:Type}{f g:β->α->β}:∀(l:List α) (b:β),(∀b,∀t∈l,f b t=g b t)->l.foldl f b=l.foldl g b
 |[],b,_=>rfl
 |t::l,b,h=>by rw[pd,pd,h b t cp];exact fold_congr l _ λb u hu=>h b u (dq _ hu)
theorem aCK(x:Q0a)(m:Nat)(a:Q0e){l l':Int}(h:l<=0)(h':l'<=0):Sh x m a l=Sh x m a l':=by
 cases m with
 |zero=>rfl
 |succ m =>
  rw[B3,B3];refine fold_congr _ _ λacc t ht=>?_;have:=ES ht;unfold mZ;rw[Zz (by omega),Zz (by omega)]
def wW:u∈bU a t↔u∈a\/u=t:=by unfold bU;rw[(sortI_perm (a++[t])).mem_iff];simp
section
variable{x:Q0a}
def ET(h:∀t,t∈a↔t∈b):b8 x a=b8 x b:=by
 have hc:∀t,a.contains t=b.contains t:=λt=>by rw[g_];simp[h t]
 unfold b8;simp only[hc]
end
end LL
namespace K25
open L3 L4 YS LL
def YW{α:Type}(g:Int->Int->α)(w:Q0e):w.zipIdx.map (λp=>g p.1 p.2)=(a9 0 w.length).map λd=>g (at0 w d) d:=by
 apply mi;intro j;rw[cf,cf,uk];by_cases h:j<w.length
 .rw [jF h,ba h];simp[at0,h]
 .rw [gg (by omega),gg (by rw[aT];omega)];rfl
section
variable{x:Q0a}
def EU(x:Q0a)(k:Int):SV 0 (g6 x) k=DV x.length 0 (shares x) k:=R4 _ _ (λy=>by rw[LC]) k
end
end K25
namespace LL
open L3 L4 YS
section
variable(x:Q0a)
def gls:Nat->List (List Int)
 |0=>[[]]
 |i+1=>(gls i).flatMap λw=>(b8 x w).map λt=>w++[t]
end
section
variable{x:Q0a}
def rdU(x:Q0a)(w:Q0e)(b:Nat):List Int:=((a9 0 b).filter λt=>!w.contains t).filter λt=>(row x t).all λl=>w.contains l
def ff1{α:Type}(p q:α->Bool)(b:α):([b].filter q).filter p=if(q b&&p b)=ae then[b] else[]:=by cases hq:q b<;>cases hp:p b<;>simp[List.filter,hq,hp]
def EV(w:Q0e)(b:Nat):rdU x w (b+1)=rdU x w b++(if(!w.contains (b:Int)&&(row x b).all λl=>w.contains l)=ae then[(b:Int)] else[]):=by unfold rdU;rw[sU,Ga,Ga,jj];congr 1;exact ff1 _ _ _
def YX(w:Q0e)(b:Nat):(rdU x w b).length<=b:=by unfold rdU;refine gb (ic _ _) (gb (ic _ _) ?_);rw[aT];exact bj _
def lM(x:Q0a)(w:Q0e)(b:Nat):List (List Int):=(rdU x w b).map λt=>w++[t]
def SE(i:Nat):gls x (i+1)=(gls x i).flatMap λw=>lM x w x.length:=rfl
theorem SG:∀(i:Nat) (w:Q0e),w∈gls x i->w.length=i
 |0,w,h=>by
  have:w=[]:=by simpa[gls] using h
  subst this;rfl
 |i+1,w,h=>by rw[SE] at h;obtain⟨u,hu,hw⟩:=nj.1 h;obtain⟨t,_,rfl⟩:=de.1 hw;rw[ck,SG i u hu];rfl
end
theorem sum_map_add{α:Type}(f g:α->Int):∀L:List α,(L.map λa=>f a+g a).sum=(L.map f).sum+(L.map g).sum
 |[]=>rfl
 |a::L=>by have ih:=sum_map_add f g L;simp only[bp,l_,ih];omega
theorem i6{α:Type}:∀L:List α,(L.map λ_=>(0:Int)).sum=0
 |[]=>rfl
 |a::L=>by rw[bp,l_,i6 L];rfl
theorem zZ{α β:Type}(f:α->β->Int)(M:List β):∀L:List α,(L.map λa=>(M.map λb=>f a b).sum).sum=(M.map λb=>(L.map λa=>f a b).sum).sum
 |[]=>by simp only[j_,a2j];rw[i6]
 |a::L=>by have ih:=zZ f M L;simp only[bp,l_,ih];rw[<- sum_map_add]
theorem z4{α:Type}(c:Int)(f:α->Int):∀L:List α,(L.map λa=>c*f a).sum=c*(L.map f).sum
 |[]=>by simp
 |a::L=>by have ih:=z4 c f L;simp only[bp,l_,ih,a2V]
section
variable(x:Q0a)
def SF:Nat->List Int->Int->Int->Int
 |0,_,_,j=>if j=0 then 1 else 0
 |m+1,a,l,j=>((b8 x a).map λt=>SF m (bU a t) t (j-if t<l then 1 else 0)).sum
end
section
variable{x:Q0a}
theorem SH:∀(m:Nat) (a:Q0e) (l j:Int),j<0->SF x m a l j=0
 |0,a,l,j,h=>Zz (by omega)
 |m+1,a,l,j,h=>by have e:(λt=>SF x m (bU a t) t (j-if t<l then 1 else 0))=λ_=>0:=funext λt=>SH m _ _ _ (by split<;>omega);show((b8 x a).map _).sum=0;rw[e,i6]
theorem EW:∀(m:Nat) {a b:Q0e} (l j:Int),(∀t,t∈a↔t∈b)->SF x m a l j=SF x m b l j
 |0,a,b,l,j,_=>rfl
 |m+1,a,b,l,j,h=>by show((b8 x a).map λt=>SF x m (bU a t) t (j-if t<l then 1 else 0)).sum=((b8 x b).map λt=>SF x m (bU b t) t (j-if t<l then 1 else 0)).sum;rw[ET h];congr 1;refine gf λt _=>EW m _ _ λu=>?_;rw[wW,wW,h u]
def SI(h:a.length=b.length):at0 (tG a b) j=at0 a j+at0 b j:=by
 unfold at0;by_cases hj:j.toNat<a.length
 .rw [SD (ba hj) (ba (by omega)),ba hj,ba (by omega)];rfl
 .rw [gg (by rw[jX h];omega),gg (by omega),gg (by omega)];rfl
def YY(h0:0<=j)(hj:j<w.length):at0 (qQ w) j=if j=0 then 0 else at0 w (j-1):=by
 unfold at0 qQ;split
 .rename_i z;subst z;rfl
 .obtain ⟨k,hk⟩:∃k:Nat,j.toNat=k+1:=⟨j.toNat-1,by omega⟩;rw[hk,o_,List.getElem?_dropLast,Z_ (by omega),show(j-1).toNat=k by omega]
def YZ(n:Nat)(j:Int):at0 (HY n) j=0:=by unfold at0 HY;rw[mh];split<;>rfl
theorem SJ:∀(m:Nat) (a:Q0e) (l j:Int),0<=j->j<(max x.length 1:Nat)->at0 (Sh x m a l) j=SF x m a l j
 |0,a,l,j,h0,h1=>by
  show at0 (B1 x.length) j=if j=0 then 1 else 0
  unfold at0 B1;split
  .rename_i z;subst z;rfl
  .obtain ⟨k,hk⟩:∃k:Nat,j.toNat=k+1:=⟨j.toNat-1,by omega⟩;rw[hk,o_,mh];split<;>rfl
 |m+1,a,l,j,h0,h1=>by
  rw[B3];have go:∀(ts acc:Q0e),acc.length=max x.length 1->at0 (ts.foldl (mZ x m a l) acc) j=at0 acc j+(ts.map λt=>SF x m (bU a t) t (j-if t<l then 1 else 0)).sum:=by
   intro ts
   induction ts with
   |nil=>intro acc _;simp
   |cons t ts ih =>
    intro acc h;have hS:=kL x m (bU a t) t;have hlen:acc.length=(if t<l then qQ (Sh x m (bU a t) t) else Sh x m (bU a t) t).length:=by
     rw[h];split
     .rw [mY (by omega)];exact hS.symm
     .exact hS.symm
    have ev:at0 (if t<l then qQ (Sh x m (bU a t) t) else Sh x m (bU a t) t) j=SF x m (bU a t) t (j-if t<l then 1 else 0):=by
     split
     .rw [YY h0 (by rw[hS];exact h1)];split
      .rename_i z;subst z;rw[SH _ _ _ _ (by omega)]
      .exact SJ m _ _ _ (by omega) (by omega)
     .rw [a2P];exact SJ m _ _ _ h0 h1
    rw[pd,ih _ (by unfold mZ;rw[jX hlen,h]),bp,l_];unfold mZ;rw[SI hlen,ev];omega
  rw[go _ _ (pS _),YZ,jj];rfl
def HS(k:Nat):a9 0 (k+1)=0::(a9 0 k).map λd=>d+1:=by unfold a9;rw[show k+1=1+k by omega,List.range_add,e_,bx,bx];have e:yi (λk:Nat=>(0:Int)+(k:Int)) (bh 1)=[0]:=rfl;rw[e,Fj];congr 1;refine gf λj7 _=>?_;simp only[yy];omega
end
noncomputable def dl:Int->List Int->Int
 |_,[]=>0
 |l,t::w=>(if t<l then 1 else 0)+dl t w
def z5(w:Q0e):Int:=w.getLast?.getD (-1)
theorem LK:∀(l:Int) (w:Q0e) (t:Int),dl l (w++[t])=dl l w+if t<(w.getLast?.getD l) then 1 else 0
 |l,[],t=>by
  show(if t<l then 1 else 0)+0=0+if t<l then 1 else 0
  rw[uv,jj]
 |l,a::w,t=>by
  show(if a<l then 1 else 0)+dl a (w++[t])=(if a<l then 1 else 0)+dl a w+_;rw[LK a w t];have e:(a::w).getLast?.getD l=w.getLast?.getD a:=by
   cases w with
   |nil=>rfl
   |cons b w=>rw[List.getLast?_cons_cons];rw[List.getLast?_eq_getLast (List.cons_ne_nil b w)];rfl
  rw[e];omega
section
variable{x:Q0a}
theorem SK(d:Int):∀i r:Nat,((gls x i).map λw=>SF x r w (z5 w) (d-dl (-1) w)).sum=SF x (i+r) [] (-1) d
 |0,r=>by show SF x r [] (-1) (d-0)+0=_;rw[uv,a2P,qq]
 |i+1,r=>by
  have ih:=SK d i (r+1);rw[show i+1+r=i+(r+1) by omega,<- ih];have go:∀L:Q0a,((L.flatMap λw=>(b8 x w).map λt=>w++[t]).map λw=>SF x r w (z5 w) (d-dl (-1) w)).sum=(L.map λw=>SF x (r+1) w (z5 w) (d-dl (-1) w)).sum:=by
   intro L
   induction L with
   |nil=>rfl
   |cons w L ihL =>
    rw[qx,e_,yf,ihL,bp,l_,bx];congr 1;show _=((b8 x w).map λt=>SF x r (bU w t) t (d-dl (-1) w-if t<z5 w then 1 else 0)).sum;congr 1;refine gf λt _=>?_;simp only[yy];have e1:z5 (w++[t])=t:=by unfold z5;simp
    rw[e1,LK,Int.sub_sub];exact EW r _ _ λu=>by rw[wW];simp
  exact go _
def B4(hd:d<max x.length 1):at0 (shares x) d=((gls x x.length).map λw=>if dl (-1) w=(d:Int) then 1 else 0).sum:=by
 have h:=SK (x:=x) d x.length 0;rw[Nat.add_zero,<- SJ x.length [] (-1) d (by omega) (by omega),aCK x x.length [] (l:=-1) (l':=0) (by decide) (by decide)] at h;show at0 (Sh x x.length [] 0) d=_;rw[<- h];congr 1;refine gf λw _=>?_;show(if(d:Int)-dl (-1) w=0 then(1:Int) else 0)=_;by_cases e:dl (-1) w=(d:Int)
 .rw [Z_ e,Z_ (by omega)]
 .rw [Zz e,Zz (by omega)]
theorem IC:∀(l:Int) (w:Q0e),0<=dl l w/\dl l w<=w.length
 |_,[]=>⟨Int.le_refl 0,by simp[dl]⟩
 |l,t::w=>by have ih:=IC t w;show 0<=(if t<l then 1 else 0)+dl t w/\(if t<l then 1 else 0)+dl t w<=((t::w).length:Int);rw[cy];split<;>omega
theorem nX:∀{i:Nat} {w:Q0e},w∈gls x i->w.length=i /\∀u t v,w=u++t::v->t∈b8 x u
 |0,w,h=>by
  have:w=[]:=by simpa[gls] using h
  subst this;exact⟨rfl,λu t v e=>by simp at e⟩
 |i+1,w,h=>by
  obtain⟨w',hw',hm⟩:=nj.1 (show w∈(gls x i).flatMap λw=>(b8 x w).map λt=>w++[t] from h);obtain⟨t,ht,rfl⟩:=de.1 hm;have ih:=nX hw';refine⟨by rw[ck,ih.1];rfl,λu s v e=>?_⟩;rcases Gb v with rfl|⟨v',b,rfl⟩
  .have h1:=yt e rfl;have:t=s:=by simpa using h1.2
   rw[<- this,<- h1.1];exact ht
  .have e2:w'++[t]=(u++s::v')++[b]:=by rw[e];simp
   have h1:=yt e2 rfl;exact ih.2 u s v' h1.1
def SM(k:Int):DV x.length 0 (shares x) k=((gls x x.length).map λw=>C (k+x.length-1-dl (-1) w) x.length).sum:=by
 have hl:=oQ x;have e:DV x.length 0 (shares x) k=((a9 0 (shares x).length).map λd=>at0 (shares x) d*C (k+x.length-1-d) x.length).sum:=by rw[<- K25.YW (λa d=>a*C (k+x.length-1-d) x.length),show(0:Int)=((0:Nat):Int) from rfl,<- B2];rfl
 rw[e,hl];have e2:((a9 0 (max x.length 1)).map λd=>at0 (shares x) d*C (k+x.length-1-d) x.length)=(a9 0 (max x.length 1)).map λd=>((gls x x.length).map λw=>(if dl (-1) w=d then C (k+x.length-1-d) x.length else 0)).sum:=by
  refine gf λd hd=>?_;have hr:=cM.1 hd;obtain⟨m,rfl⟩:∃m:Nat,d=(m:Int):=⟨d.toNat,by omega⟩;rw[B4 (by omega),ra,<- z4];congr 1;refine gf λw _=>?_;split
  .rw [Gi]
  .rw [a2T]
 rw[e2,zZ];congr 1;refine gf λw hw=>?_;have hg:=nX hw;have Ql:0<=dl (-1) w/\dl (-1) w<(max x.length 1:Nat):=by
  have h0:=IC (-1) w;refine⟨h0.1,?_⟩
  cases w with
  |nil=>show(0:Int)<_;omega
  |cons t w =>
   have ht:=ES (hg.2 [] t w rfl);have h1:=IC t w;have e:dl (-1) (t::w)=dl t w:=by show(if t < -1 then 1 else 0)+dl t w=_;rw[Zz (by omega),jj]
   have h2:=hg.1;rw[cy] at h2;rw[e];omega
 have pick:∀m:Nat,((a9 0 m).map λd=>if dl (-1) w=d then C (k+x.length-1-d) x.length else 0).sum=if dl (-1) w<m then C (k+x.length-1-dl (-1) w) x.length else 0:=by
  intro m
  induction m with
  |zero=>show(0:Int)=_;rw[Zz (by omega)]
  |succ m ih =>
   rw[sU,e_,yf,ih,jj,bp,j_,l_,a2j,uv];by_cases h1:dl (-1) w=(m:Int)
   .rw [Z_ h1,Zz (by omega),Z_ (by omega),jj,h1]
   .rw [Zz h1,uv];by_cases h2:dl (-1) w<(m:Int)
    .rw [Z_ h2,Z_ (by omega)]
    .rw [Zz h2,Zz (by omega)]
 rw[pick,Z_ Ql.2]
end
section
variable{x y:Q0a}
def EX{w:Q0e}(h:∀u t v,w=u++t::v->t∈b8 x u):w.Nodup /\∀t∈w,0<=t/\t<(x.length:Int):=by
 have key:∀(r u:Q0e),(∀p t v,u++r=p++t::v->t∈b8 x p)->u.Nodup->(u++r).Nodup:=by
  intro r
  induction r with
  |nil=>intro u _ hu;rw[jh];exact hu
  |cons t r ih =>
   intro u hp hu;have ht:=(jA (hp u t r rfl)).2;have e:u++t::r=(u++[t])++r:=by simp
   rw[e];refine ih (u++[t]) (λp s v e2=>hp p s v (by rw[e,e2])) ?_;rw[ko];exact⟨hu,by simp,λa ha b hb e=>ht (by rw[cm] at hb;rw[<- hb,<- e];exact ha)⟩
 refine⟨key w [] h j7,λt ht=>?_⟩;obtain⟨u,v,rfl⟩:=List.append_of_mem ht;exact(jA (h u t v rfl)).1
def aCM(ht:0<=t):dl (-1) (t::w)=dl t w:=by show(if t < -1 then 1 else 0)+dl t w=_;rw[Zz (by omega),jj]
def Turned(x y:Q0a):Prop:=y.length=x.length /\∀a b:Int,0<=b->b<(x.length:Int)->(a∈row y ((x.length:Int)-1-b)↔(x.length:Int)-1-a∈row x b)
def Turned.symm(h:Turned x y):Turned y x:=by refine⟨h.1.symm,λa b h0 h1=>?_⟩;rw[h.1] at h1 ⊢;have e:=h.2 ((x.length:Int)-1-a) ((x.length:Int)-1-b) (by omega) (by omega);rw[show(x.length:Int)-1-((x.length:Int)-1-b)=b by omega,show(x.length:Int)-1-((x.length:Int)-1-a)=a by omega] at e;exact e.symm
def ID(x z:Q0a):Prop:=z.length=x.length /\∀a b:Int,0<=a->a<(x.length:Int)->0<=b->b<(x.length:Int)->(a∈row x b↔b∈row z a)
def ID.symm(h:ID x y):ID y x:=⟨h.1.symm,λa b h0 h1 h2 h3=>by rw[h.1] at h1 h3;exact(h.2 b a h2 h3 h0 h1).symm⟩
end
section
variable{x y z:Q0a}
structure Sd (x y z:Q0a):Prop where
 len:z.length=x.length+y.length
 lo:∀t:Int,0<=t->t<(x.length:Int) ->∀a,a∈row z t↔a∈row x t
 hi:∀t:Int,0<=t->t<(y.length:Int) ->∀a,a∈row z (t+x.length)↔a-x.length∈row y t
 rx:∀t:Int,0<=t->t<(x.length:Int) ->∀a∈row x t,0<=a/\a<(x.length:Int)
 ry:∀t:Int,0<=t->t<(y.length:Int) ->∀a∈row y t,0<=a/\a<(y.length:Int)
structure Cb (x y:Q0a) (a b c:Q0e):Prop where
 lo:∀t:Int,0<=t->t<(x.length:Int)->(t∈c↔t∈a)
 hi:∀t:Int,0<=t->t<(y.length:Int)->(t+x.length∈c↔t∈b)
structure Av (x y z:Q0a) (s t:Int):Prop where
 len:z.length=x.length+y.length
 lo:∀a:Int,0<=a->a<(x.length:Int) ->∀b,b∈row z (a+s)↔b-s∈row x a
 hi:∀a:Int,0<=a->a<(y.length:Int) ->∀b,b∈row z (a+t)↔(s<=b/\b<s+x.length)\/b-t∈row y a
 rx:∀a:Int,0<=a->a<(x.length:Int) ->∀b∈row x a,0<=b/\b<(x.length:Int)
 ry:∀a:Int,0<=a->a<(y.length:Int) ->∀b∈row y a,0<=b/\b<(y.length:Int)
 st:(s=0/\t=x.length)\/(s=y.length/\t=0)
end
def G8(w:Q0e):List Int:=(a9 0 ((w.length:Int)-1).toNat).filter λk=>Zv (at0 w k>at0 w (k+1))
def Y0(w:Q0e):(G8 w).length<=w.length:=by unfold G8;refine gb (ic _ _) ?_;rw[aT];omega
def Qk(hd:d=tupI w\/d=aG w)(hw:w.length<=1000)(h:aA i ρ=aa d)(hb:benv 1 [i] ρ=[ab,aa d]):aV 1 [i] (aQ (aB (aC gT (bP bT (aB (aA i) aF)) (eC (.int 1))) aF)) (g1 0) (tV (aC uR (aC bI (aA 1) (aA 0)) (aC bI (aA 1) (aC bL (aA 0) (eC (.int 1)))))) (aA 0) ρ=aa (aG (G8 w)):=by
 have hat:∀{a:Int},0<=a->a<(w.length:Int)->bI d (.int a)=aa (.int (at0 w a)):=λ{a} h0 h1=>by
  rcases hd with z|z
  .rw [z];exact RY h0 h1
  .rw [z];exact tF h0 h1
 have hlen:bT [d]=aa (.int (w.length:Int)):=by
  rcases hd with z|z
  .rw [z];exact jG
  .rw [z];show aa (D.int ((w.map D.int).length:Nat))=_;rw[au]
 refine dH ((a9 0 ((w.length:Int)-1).toNat).map D.int) ?_ (by rw[au,aT];omega) ?_
 .unfold aQ;rw[args1 (aN (g:=gT) (a:=bP bT (aB (aA i) aF)) (b:=eC (.int 1)) (x:=.int (w.length:Int)) (y:=.int 1) (cD h hlen) rfl rfl),cj,wH (by omega)]
 .rw [hb];refine cR D.int (λk=>Zv (at0 w k>at0 w (k+1))) D.int _ λk hk=>?_;have hr:=cM.1 hk;exact⟨[aa (.int k),aa d],rfl,gC (aN (x:=.int (at0 w k)) (y:=.int (at0 w (k+1))) (aN (x:=d) (y:=.int k) rfl rfl (hat (by omega) (by omega))) (aN (x:=d) (y:=.int (k+1)) rfl rfl (hat (by omega) (by omega))) iE) rfl,λ_=>rfl⟩
def EY(a:Int)(w:Q0e)(h:0<=k):at0 (a::w) (k+1)=at0 w k:=by unfold at0;rw[show(k+1).toNat=k.toNat+1 by omega,o_]
theorem SN:∀(a:Int) (w:Q0e),((G8 (a::w)).length:Int)=dl a w
 |a,[]=>rfl
 |a,b::w=>by
  have ih:=SN b w;have e:(G8 (a::b::w)).length=(if b<a then 1 else 0)+(G8 (b::w)).length:=by
   unfold G8;rw[show(((a::b::w).length:Int)-1).toNat=((((b::w).length:Int)-1).toNat)+1 by simp only[cy];omega,HS,qy,F_];have ef:(a9 0 ((((b::w).length:Int)-1).toNat)).filter ((λk=>Zv (at0 (a::b::w) k>at0 (a::b::w) (k+1)))∘λd=>d+1)=(a9 0 ((((b::w).length:Int)-1).toNat)).filter λk=>Zv (at0 (b::w) k>at0 (b::w) (k+1)):=yp λk hk=>by have hr:=cM.1 hk;show Zv (at0 (a::b::w) (k+1)>at0 (a::b::w) (k+1+1))=_;rw[EY _ _ (by omega),EY _ _ (by omega)]
   rw[ef];have h0:at0 (a::b::w) 0=a:=rfl;have h1:at0 (a::b::w) (0+1)=b:=rfl;rw[h0,h1];by_cases h:b<a
   .rw [Z_ (by simpa using h),Z_ h,cy,au];omega
   .rw [Zz (by simpa using h),Zz h,au];omega
  show _=(if b<a then 1 else 0)+dl b w;rw[e,<- ih];split<;>simp
theorem Y1(h:∀a∈w,0<=a):((G8 w).length:Int)=dl (-1) w:=by
 cases w with
 |nil=>rfl
 |cons a w=>rw[aCM (h a cp),SN]
noncomputable def Y2:Nat->Nat->Nat
 |_,0=>1
 |n,i+1=>Y2 n i*(n-i)
theorem LM:∀i:Nat,(gls x i).length<=Y2 x.length i
 |0=>bj 1
 |i+1=>by
  have ih:=LM (x:=x) i;have go:∀L:Q0a,(∀w∈L,w∈gls x i)->(L.flatMap λw=>(b8 x w).map λt=>w++[t]).length<=L.length*(x.length-i):=by
   intro L
   induction L with
   |nil=>intro _;simp
   |cons w L ihL =>
    intro h;have hw:=nX (h w cp);have nd:=EX hw.2;have hf:=kJ (x:=x) (a:=w) ⟨nd.1,nd.2⟩;have:=ihL λu hu=>h u (dq _ hu);rw[qx,ck,au,cy,Fd];omega
  have h1:=go (gls x i) λw h=>h;exact gb h1 (a2a _ ih)
end LL
namespace kB
open L3 L4
def g5:iP:=dA 4 2
  (aJ (aY 2 (aC bI (aA 1) (eC (.int 0))))
  (aJ (aY 3 (aC bI (aA 1) (eC (.int 1))))
  (bE (vP (bP anyM (aB (aV 1 [2,0] (aZ (aC bI (aA 0) (aA 3))) (g1 0) bO (aC (jO af) (aA 1) (aC bI (aA 2) (aA 0)))) aF))))))
def kM:iP:=dA 2 2
  (aJ (fY (sD (tV (aL g5 (aB (aA 0) (aB (aA 1) aF)))))
   (bE (eC (.str "not bare")))
   dG)
  (bE (KO (tV (aC uR (aC bI (aA 1) (eC (.int 0))) (aC bI (aA 1) (eC (.int 1))))) (eC (.str "strict")) (eC (.str "plain")))))
def d8:iP:=dA 3 1
  (aJ (RI 1)
  (aJ (cL (aZ (aL LL.g4 (aB (aA 0) aF))) (iY 2)
   (qF 1 (bB (aL kM (aB (aA 0) (aB (aA 2) aF)))) (aA 2)))
  (bE (aA 1))))
def kN:iP:=dA 4 2
  (aJ (aY 2 (bP pE (aB (aV 2 [1] (qG (aA 0)) (g2 0 1) (tV (aC qB (aC bI (aA 0) (eC (.int 0))) (aA 2))) (aA 1)) aF)))
  (aJ (aY 3 (bP pE (aB (aV 2 [1] (qG (aA 0)) (g2 0 1) (tV (aC qB (aC bI (aA 0) (eC (.int 1))) (aA 2))) (aA 1)) aF)))
  (bE (cB (aB (aA 2) (aB (aA 3) aF))))))
def g7:iP:=dA 2 2
  (bE (aV 1 [1] (aQ (aB (bP bT (aB (aA 0) aF)) aF)) (g1 0) bO (aL kN (aB (aA 1) (aB (aA 0) aF)))))
def g8:iP:=dA 7 4
  (aJ (aY 4 (bP bT (aB (aA 2) aF)))
  (aJ (cL (lZ (aB (aA 2) aF)) (KP 5 6)
   (aJ (fY (tV (aC vX (aC gE (aA 0) (cB (aB (aA 5) (aB (aA 4) aF)))) (aC gE (aA 1) (cB (aB (aA 6) (aB (aA 3) aF))))))
    (bE (eC (.bl af)))
    dG)
   (fY (tV (aC vX (aC gE (aA 0) (cB (aB (aA 4) (aB (aA 5) aF)))) (aC gE (aA 1) (cB (aB (aA 3) (aB (aA 6) aF))))))
    (bE (eC (.bl af)))
    dG)))
  (bE (eC (.bl ae)))))
def cN:Nat->iP
 |0=>λ_=>.no
 |n+1=>dA 6 4
  (aJ (fY (tV (aC qB (bP bT (aB (aA 3) aF)) (bP bT (aB (aA 2) aF))))
   (bE (aA 3))
   dG)
  (aJ (cL (aZ (aC bI (aA 2) (bP bT (aB (aA 3) aF)))) (iY 4)
   (fY (kD (tV (aC (jO ae) (aA 4) (aA 3))) (tV (aL g8 (aB (aA 0) (aB (aA 1) (aB (aA 3) (aB (aA 4) aF)))))))
    (aJ (aY 5 (aL (cN n) (aB (aA 0) (aB (aA 1) (aB (aA 2) (aB (aC bL (aA 3) (cB (aB (aA 4) aF))) aF))))))
    (fY (tV (aC BH (aA 5) (eC .non)))
     (bE (aA 5))
     dG))
    dG))
  (bE (eC .non))))
def gB:iP:=dA 2 2
  (bE (aV 2 [0] (lZ (aB (aA 1) aF)) (g2 0 1) (tV (aC zP (aA 1) (aA 2))) (aA 0)))
def m3:iP:=dA 7 2
  (aJ (aY 2 (aL d8 (aB (aA 0) aF)))
  (aJ (aY 3 (aL d8 (aB (aA 1) aF)))
  (aJ (aY 4 (aL g7 (aB (aA 0) (aB (aA 2) aF))))
  (aJ (aY 5 (aL g7 (aB (aA 1) (aB (aA 3) aF))))
  (aJ (fY (tV (aC pF (bP mJ (aB (aA 4) aF)) (bP mJ (aB (aA 5) aF))))
   (bE (eC .non))
   dG)
  (aJ (aY 6 (aV 1 [5] (aZ (aA 4)) (g1 0) bO (aL gB (aB (aA 0) (aB (aA 1) aF)))))
  (bE (aL (cN 11) (aB (aA 2) (aB (aA 3) (aB (aA 6) (aB (cB aF) aF))))))))))))
def jL:iP:=dA 4 1
  (aJ (iQ 1 (fE aF))
  (aJ (cL (aZ (aL LL.fV (aB (aA 0) aF))) (KP 2 3)
   (fY (sD (tV (bP anyM (aB (aV 1 [2,0] (aZ (aC bI (aA 0) (aA 3))) (g1 0) bO (aC (jO af) (aA 1) (aC bI (aA 2) (aA 0)))) aF))))
    (sX (nN 1 iI (bB (cB (aB (aA 2) (aB (aA 3) aF))))))
    dG))
  (bE (aA 1))))
def iN:iP:=dA 6 4
  (aJ (aY 4 (aC gT (bP bT (aB (aA 3) aF)) (eC (.int 1))))
  (aJ (cL (aQ (aB (aA 4) aF)) (iY 5)
   (aJ (fY (G9 (tV (aC G6 (aC (jO af) (aA 5) (aC bI (aA 0) (aA 4))) (aC (jO af) (aC bI (aA 3) (aA 5)) (aC bI (aA 1) (aC bI (aA 3) (aA 4)))))) (tV (aC G6 (aC (jO af) (aA 4) (aC bI (aA 0) (aA 5))) (aC (jO af) (aC bI (aA 3) (aA 4)) (aC bI (aA 1) (aC bI (aA 3) (aA 5)))))))
    (bE (eC (.bl af)))
    dG)
   (fY (G9 (kD (tV (aC (uT af) (cB (aB (aA 5) (aB (aA 4) aF))) (aA 2))) (tV (aC uR (aC bI (aA 3) (aA 5)) (aC bI (aA 3) (aA 4))))) (kD (tV (aC (uT af) (cB (aB (aA 4) (aB (aA 5) aF))) (aA 2))) (tV (aC X3 (aC bI (aA 3) (aA 4)) (aC bI (aA 3) (aA 5))))))
    (bE (eC (.bl af)))
    dG)))
  (bE (eC (.bl ae)))))
def jM:iP:=dA 8 2
  (aJ (fY (tV (aC G6 (bP bT (aB (aA 0) aF)) (bP bT (aB (aA 1) aF))))
   (bE (eC .non))
   dG)
  (aJ (aY 2 (aL jL (aB (aA 0) aF)))
  (aJ (aY 3 (fE (aB (cB aF) aF)))
  (aJ (cL (aQ (aB (bP bT (aB (aA 0) aF)) aF)) (iY 4)
   (aJ (aY 5 (fE aF))
   (aJ (cL (aZ (aA 3)) (iY 6)
    (aJ (aY 7 (aV 1 [6] (aQ (aB (bP bT (aB (aA 0) aF)) aF)) (g1 0) (tV (aC (jO ae) (aA 0) (aA 1))) (aC bL (aA 1) (cB (aB (aA 0) aF)))))
    (aY 5 (aC bL (aA 5) (aV 1 [0,1,2] (aZ (aA 7)) (g1 0) (tV (aL iN (aB (aA 1) (aB (aA 2) (aB (aA 3) (aB (aA 0) aF)))))) (aA 0))))))
   (aY 3 (aA 5)))))
  (aJ (fY (tV (aC qB (bP bT (aB (aA 3) aF)) (eC (.int 0))))
   (bE (eC .non))
   dG)
  (bE (aC bI (aA 3) (eC (.int 0)))))))))
def g9:iP:=dA 4 2
  (aJ (iQ 2 (fE aF))
  (aJ (cL (aZ (aA 1)) (iY 3)
   (sX (nN 2 iI (bB (bP dF (aB (bP eM (aB (aV 1 [1] (aZ (aC bI (aA 0) (aA 3))) (g1 0) bO (aC RK (aA 1) (aA 0))) aF)) aF))))))
  (bE (bP dF (aB (aA 2) aF)))))
def cH:iP:=dA 7 2
  (aJ (aY 2 (aL jL (aB (aA 0) aF)))
  (aJ (aY 3 (aV 1 [2] (aQ (aB (bP bT (aB (aA 0) aF)) aF)) (g1 0) bO (aV 2 [0] (aZ (aA 1)) (g2 0 1) (tV (aC qB (bP oM (aB (aA 0) (aB (aA 1) aF))) (aA 2))) (bP DO (aB (aA 0) (aB (aA 1) aF))))))
  (aJ (iQ 4 (fE aF))
  (aJ (cL (aQ (aB (bP bT (aB (aA 0) aF)) aF)) (iY 5)
   (aJ (kE 6 (aV 1 [4,3] (aQ (aB (bP bT (aB (aA 0) aF)) aF)) (g1 0) (kD (tV (aC (jO ae) (aA 0) (aA 1))) (tV (bP allM (aB (aV 1 [1] (aZ (aC bI (aA 2) (aA 0))) (g1 0) bO (aC (jO af) (aA 0) (aA 1))) aF)))) (aA 0)))
   (sX (nN 4 iI (bB (aC bI (aA 6) (aC fB (aC bI (aA 1) (aA 5)) (bP bT (aB (aA 6) aF)))))))))
  (bE (aL g9 (aB (aA 0) (aB (aA 4) aF))))))))
def nY:iP:=dA 12 4
  (aJ (aY 4 (aL LL.dB (aB (aL LL.dY (aB (aA 0) (aB (aA 1) aF))) (aB (eC (.int 2)) (aB (aA 3) aF)))))
  (aJ (aY 5 (aL LL.i9 (aB (aA 0) (aB (aC bL (aA 1) (eC (.int 1))) (aB (aA 2) (aB (aC bL (aA 3) (eC (.int 20011))) aF))))))
  (aJ (aY 6 (bP bT (aB (aA 5) aF)))
  (aJ (aY 7 (aL LL.dB (aB (aL LL.dY (aB (aA 0) (aB (aC bL (aA 1) (eC (.int 3))) aF))) (aB (aA 6) (aB (aC bL (aA 3) (eC (.int 40009))) aF)))))
  (aJ (aY 8 (aL cH (aB (aA 5) (aB (aA 7) aF))))
  (aJ (fY (tV (aC uR (aC fB (aC bI (aA 4) (eC (.int 0))) (eC (.int 8))) (eC (.int 2))))
   (aJ (iQ 9 (pB (aB (aA 6) aF)))
   (aJ (jS 10 (DR 9 1 [9,7] (aQ (aB (aA 6) aF)) (g1 0) (aC fB (aC bI (aA 2) (aA 0)) (bP bT (aB (aA 1) aF)))))
   (aY 8 (aL g9 (aB (aA 5) (aB (aA 10) aF))))))
   dG)
  (aJ (fY (G9 (tV (aC qB (aC fB (aC bI (aA 4) (eC (.int 0))) (eC (.int 8))) (eC (.int 4)))) (tV (aC qB (aC fB (aC bI (aA 4) (eC (.int 0))) (eC (.int 8))) (eC (.int 5)))))
   (aJ (aY 11 (aV 2 [6] (aZ (aL LL.fV (aB (aA 5) aF))) (g2 0 1) bO (cB (aB (aC gT (aC gT (aA 2) (eC (.int 1))) (aA 1)) (aB (aC gT (aC gT (aA 2) (eC (.int 1))) (aA 0)) aF)))))
   (aJ (aY 8 (bP dF (aB (aV 1 [11] (aQ (aB (aA 6) aF)) (g1 0) bO (bP dF (aB (bP eM (aB (aV 2 [0] (aZ (aA 1)) (g2 0 1) (tV (aC qB (aA 1) (aA 2))) (aA 0)) aF)) aF))) aF)))
   (aY 8 (aL cH (aB (aA 8) (aB (aA 7) aF))))))
   dG)
  (aJ (fY (tV (aC uR (aC fB (aC bI (aA 4) (eC (.int 0))) (eC (.int 8))) (eC (.int 5))))
   (aJ (aY 8 (aL LL.i9 (aB (aA 0) (aB (aC bL (aA 1) (eC (.int 4))) (aB (aA 2) (aB (aC bL (aA 3) (eC (.int 60013))) aF))))))
   (fY (tV (aC qB (aC fB (aC bI (aA 4) (eC (.int 1))) (eC (.int 2))) (eC (.int 1))))
    (aY 8 (aL LL.gX (aB (aL LL.dB (aB (aL LL.dY (aB (aA 0) (aB (aC bL (aA 1) (eC (.int 5))) aF))) (aB (eC (.int 45)) (aB (aC bL (aA 3) (eC (.int 80021))) aF)))) (aB (aA 6) (aB (eC (.int 2)) aF)))))
    dG))
   dG)
  (bE (cB (aB (aA 5) (aB (aA 8) aF))))))))))))
open LL
abbrev T(x:Q0a):=fC.T x
def kp(p:Int×Int):u7:=.inr [.inl (.inl p.1),.inl (.inl p.2)]
def SQ(h:kp p=kp q):p=q:=by unfold kp at h;simp at h;exact jz h.1 h.2
def SR(p:Int×Int):mB (pairD p)=aa (kp p):=rfl
def kd1(x:Q0a)(p:Int×Int):aj:=if fC.eI x p=ae then(if p.2<p.1 then "strict" else "plain") else "not bare"
def cQ(q:Nat->aw->Prop)(x:Q0a)(L:List (Int×Int)):D:=.dP q (L.map kp) (L.map λp=>.str (kd1 x p))
section
variable{x y:Q0a}
def SS(h:tyB x a b=ae):kdS x a b=aa (kd1 x (a,b)):=by
 unfold kdS kd1;rw[Z_ h];have e:dU x a b=fC.eI x (a,b):=by unfold dU fC.eI;rw[h,lh];rfl
 rw[e]
def pR(hx:Ord.Rows x)(hn:x.length<=9)(h0:0<=p.2)(h1:p.2<(x.length:Int)):g5 [aH x,pairD p]=.ok (.bl (fC.eI x p)):=fC.pR hx hn h0 h1
theorem Y3(hx:Ord.Rows x)(hn:x.length<=9){p:Int×Int}(h0:0<=p.2)(h1:p.2<(x.length:Int)):kM [aH x,pairD p]=.ok (.str (kd1 x p)):=by
 unfold kM kd1;have e:=pR hx hn h0 h1
 cases hb:fC.eI x p with
 |false =>
  rw[hb] at e;exact eQ rfl (mL (uU (tnE (b:=af) (gC (bN rfl rfl e) rfl) rfl) (eF rfl)))
 |true =>
  rw[hb] at e;refine eQ rfl (bM _ (mC (tnE (b:=ae) (gC (bN rfl rfl e) rfl) rfl) rfl) (eF ?_));rw[Z_ rfl];unfold KO;rw[gC (b:=Zv (p.2<p.1)) (aN (x:=.int p.1) (y:=.int p.2) rfl rfl iE) rfl];by_cases h:p.2<p.1
  .rw [Zx h,Z_ h];rfl
  .rw [Zy h,Zz h];rfl
def Y4{L:List (Int×Int)}{p:Int×Int}{v:D}(f:Int×Int->D)(h:p∉L):eV (L.map kp) (L.map f) (kp p) v=(L.map kp++[kp p],L.map f++[v]):=by unfold eV;rw[Zz];simp only[qz,pk,yy,decide_eq_true_eq,not_exists,not_and];exact λq hq e=>h (SQ e▸hq)
def LN(L:List (Int×Int))(p:Int×Int):kindB (L.map kp) (kp p)=ae:=by unfold kindB;rw[gx];intro q hq;obtain⟨r,_,rfl⟩:=de.1 hq;rfl
def Wd{i:Nat}{f k:EF}{ρ:bH}{q:Nat->aw->Prop}{ks:List u7}{ds:List D}{v kd:D}{kk:u7}(h1:f (gR ρ)=aa v)(h2:ρ[i]?=aa (.ow (.dP q ks ds)))(h3:k (bC ρ)=aa kd)(h4:mB kd=aa kk)(h5:kindB ks kk=ae)(h6:ds.length<mF):qF i (bB f) k ρ=.nx (ρ.set i (.ow (.dP (adr q) (eV ks ds kk v).1 (eV ks ds kk v).2))):=by unfold qF bB;rw[h1];simp only[cj,h2,HJ,h3,h4];rw[Z_ ⟨h5,h6⟩]
def kinds_ok(hx:Ord.Rows x)(hn:x.length<=9):∃q,d8 [aH x]=.ok (cQ q x (T x)):=by
 have hl:=fC.EI hx hn;have nd:(T x).Nodup:=(yW.mV _).nodup_iff.mpr (yW.pP hx)
 suffices h:∃d,d8 [aH x]=.ok d /\∃q,d=cQ q x (T x) by obtain⟨d,e,q,rfl⟩:=h;exact⟨q,e⟩
 unfold d8;refine gG rfl (by
  refine a8 [.ro (aH x),.ow (.dP qE [] []),.no] rfl (gF (λρ=>∃q v,ρ=[.ro (aH x),.ow (cQ q x (T x)),v]) ?_ λρ ⟨q,v,e⟩=>?_)
  .refine mQ ((T x).map pairD) (λi ρ=>∃q v,ρ=[.ro (aH x),.ow (cQ q x ((T x).take i)),v]) ?_ ⟨qE,.no,by rw[List.take_zero];rfl⟩ (λi d ρ hd ⟨q,v,e⟩=>?_) (λρ ⟨q,v,e⟩=>⟨q,v,by rw[e];simp⟩)
   .unfold aZ;rw[eR rfl (pQ hx hn)];rfl
   .rw [cf] at hd;obtain⟨p,ep,rfl⟩:=iy.1 hd;have hi:=(cg.1 ep).1;have hp:=fC.zT.1 (ik ep);subst e;have hnew:p∉(T x).take i:=λz=>by obtain⟨j,hj,ej⟩:=uj z;rw[jb] at hj;rw[List.getElem_take] at ej;have:=(yj (h₀:=by omega) (h₁:=hi) nd).1 (ej.trans (cg.1 ep).2.symm);omega
    refine⟨[.ro (aH x),.ow (cQ q x ((T x).take i)),.ro (pairD p)],rfl,_,Wd (q:=q) (ks:=((T x).take i).map kp) (ds:=((T x).take i).map λp=>.str (kd1 x p)) (v:=.str (kd1 x p)) (kd:=pairD p) (kk:=kp p) (bN rfl rfl (Y3 hx hn hp.1 hp.2.1)) rfl rfl rfl (LN _ p) (by rw[au,jb];have hl:(T x).length<64:=hl;show _<16777216;omega),adr q,.ro (pairD p),?_⟩;rw[Y4 _ hnew];have et:(T x).take (i+1)=(T x).take i++[p]:=by rw[Fi,ep];rfl
    unfold cQ;rw[et,e_,e_];rfl
  .subst e;exact eW (cQ q x (T x)) rfl ⟨q,rfl⟩)
theorem LO(f:Int×Int->D):∀(L:List (Int×Int)) (p:Int×Int),bY (L.map kp) (L.map f) (kp p)=if p∈L then aa (f p) else ab
 |[],p=>rfl
 |r::L,p=>by
  have ih:=LO f L p;unfold bY at ih ⊢;rw[bp,bp,Fe,gw];by_cases e:r=p
  .subst e;simp
  .have:Zv (kp r=kp p)=af:=Zy λz=>e (SQ z);simp only[this];rw[ih];simp[dh e]
theorem EZ(hx:Ord.Rows x)(h0:0<=b)(h1:b<(x.length:Int)):((a,b)∈T x)↔tyB x a b=ae:=by rw[fC.zT];unfold tyB;simp[h0,h1]
noncomputable def oD:Option aj->D
 |none=>.non
 |some s=>.str s
def B5(hx:Ord.Rows x)(h0:0<=b)(h1:b<(x.length:Int)):gE (cQ q x (T x)) (pairD (a,b))=aa (oD (kdS x a b)):=by
 show((mB (pairD (a,b))).bind λk=>if kindB ((T x).map kp) k=ae then aa ((bY ((T x).map kp) ((T x).map λp=>.str (kd1 x p)) k).getD .non) else ab)=_;rw[SR,cj,Z_ (LN _ _),LO];by_cases h:tyB x a b=ae
 .rw [Z_ ((EZ hx h0 h1).2 h),SS h];rfl
 .rw [Zz (λz=>h ((EZ hx h0 h1).1 z))];unfold kdS;rw[Zz h];rfl
def SU(a b:Option aj):vX (oD a) (oD b)=aa (.bl (!Zv (a=b))):=by cases a<;>cases b<;>simp[oD,vX,Ba]
theorem strs_map:∀l:Q0g,oN (l.map D.str)=aa l
 |[]=>rfl
 |x::l=>by show(oN (l.map D.str)).map (x :: ·)=_;rw[strs_map l];rfl
def wo(hx:Ord.Rows x):(T x).Nodup:=(yW.mV _).nodup_iff.mpr (yW.pP hx)
theorem SW(h:∀b∈rg n,k b=if g b=ae then aa (f b) else ab):(rg n).filterMap k=((rg n).filter g).map f:=by
 generalize rg n=l at h
 induction l with
 |nil=>rfl
 |cons a l ih =>
  rw[ph,h a cp,qy];by_cases e:g a=ae
  .rw [Z_ e,Z_ e,bp,ih λb hb=>h b (dq _ hb)]
  .rw [Zz e,Zz e,ih λb hb=>h b (dq _ hb)]
def Cd:kdS x a b=if tyB x a b=ae then aa (kd1 x (a,b)) else ab:=by
 by_cases h:tyB x a b=ae
 .rw [SS h,Z_ h]
 .unfold kdS;rw[Zz h,Zz h]
def SX(hx:Ord.Rows x)(h0:0<=c)(h1:c<(x.length:Int)):(((T x).filter λp=>Zv (p.1=c)).map (kd1 x)).Perm (abv x.length x c):=by
 unfold abv;rw[SW (g:=λb=>tyB x c b) (f:=λb=>kd1 x (c,b)) λb _=>Cd];have:(((T x).filter λp=>Zv (p.1=c))).Perm (((rg x.length).filter λb=>tyB x c b).map λb=>(c,b)):=by
  refine(Ft ((wo hx).filter _) ?_).2 λp=>?_
  .rw [a2o,ox];exact((lI x.length).nd.filter _).imp λh e=>h (by simpa using e)
  .simp only[dm,de,decide_eq_true_eq]
   constructor
   .rintro ⟨h,e⟩;obtain⟨t0,t1,t2⟩:=fC.zT.1 h;exact⟨p.2,⟨eG.2 ⟨t0,t1⟩,by unfold tyB;rw[<- e];simpa using t2⟩,jz e.symm rfl⟩
   .rintro ⟨b,⟨hb,ht⟩,rfl⟩;obtain⟨t0,t1⟩:=eG.1 hb;exact⟨(EZ hx t0 t1).2 ht,rfl⟩
 have:=this.map (kd1 x);rw[bx] at this;exact this
def SY(hx:Ord.Rows x)(h0:0<=c)(h1:c<(x.length:Int)):(((T x).filter λp=>Zv (p.2=c)).map (kd1 x)).Perm (blw x.length x c):=by
 unfold blw;rw[SW (g:=λa=>tyB x a c) (f:=λa=>kd1 x (a,c)) λb _=>Cd];have:(((T x).filter λp=>Zv (p.2=c))).Perm (((rg x.length).filter λa=>tyB x a c).map λa=>(a,c)):=by
  refine(Ft ((wo hx).filter _) ?_).2 λp=>?_
  .rw [a2o,ox];exact((lI x.length).nd.filter _).imp λh e=>h (by simpa using e)
  .simp only[dm,de,decide_eq_true_eq]
   constructor
   .rintro ⟨h,e⟩;obtain⟨t0,t1,t2⟩:=fC.zT.1 h;exact⟨p.1,⟨jW hx t0 t1 t2,by unfold tyB;rw[<- e];simpa using t2⟩,jz rfl e.symm⟩
   .rintro ⟨a,⟨ha,ht⟩,rfl⟩;exact⟨(EZ hx h0 h1).2 ht,rfl⟩
 have:=this.map (kd1 x);rw[bx] at this;exact this
def S3:KU (cQ q x L)=aa (L.map λp=>.tup [pairD p,.str (kd1 x p)]):=by show aa (((L.map kp).zip (L.map λp=>D.str (kd1 x p))).map λp=>D.tup [mr p.1,p.2])=_;rw[List.zip_map',bx];rfl
def S4{l m:Q0g}(h:l.Perm m)(hl:l.length<64):pE [.lst (l.map D.str)]=aa (.lst ((jP yO m).map D.str)):=by show(oN (l.map D.str)).bind _=_;rw[strs_map,cj,Z_ hl,vB lD h]
def Y5(hx:Ord.Rows x)(hn:x.length<=9)(h0:0<=c)(h1:c<(x.length:Int)):kN [cQ q x (T x),.int c]=.ok (mG (lk x.length x c)):=by
 have hT:(T x).length<64:=fC.EI hx hn;unfold kN;have one:∀(k:Int) (g:Int×Int->Int) (ρ:dC) (m:Q0g),(∀p:Int×Int,aC bI (aA 0) (eC (.int k)) [aa (pairD p),aa (.str (kd1 x p)),aa (.int c)]=aa (.int (g p)))->aA 0 ρ=aa (cQ q x (T x))->benv 2 [1] ρ=[ab,ab,aa (.int c)]->(((T x).filter λp=>Zv (g p=c)).map (kd1 x)).Perm m ->
   bP pE (aB (aV 2 [1] (qG (aA 0)) (g2 0 1) (tV (aC qB (aC bI (aA 0) (eC (.int k))) (aA 2))) (aA 1)) aF) ρ=aa (.lst ((jP yO m).map D.str)):=λk g ρ m hk e0 e1 hp=>by
  refine cD (x:=.lst ((((T x).filter λp=>Zv (g p=c)).map (kd1 x)).map D.str)) ?_ (S4 hp (by rw[au];exact ud (ic _ _) hT));rw[bx];refine dH ((T x).map λp=>.tup [pairD p,.str (kd1 x p)]) ?_ (by rw[au];omega) ?_
  .unfold qG;rw[e0];exact S3 (q:=q)
  .rw [e1];exact cR (λp:Int×Int=>D.tup [pairD p,.str (kd1 x p)]) (λp=>Zv (g p=c)) (λp=>.str (kd1 x p)) (T x) λp _=>⟨[aa (pairD p),aa (.str (kd1 x p)),aa (.int c)],rfl,gC (aN (hk p) rfl dD) rfl,λ_=>rfl⟩
 refine eQ rfl (bM _ (cZ _ (one 0 kl _ _ (λp=>rfl) rfl rfl (SX hx h0 h1)) rfl) (bM _ (cZ _ (one 1 ya _ _ (λp=>rfl) rfl rfl (SY hx h0 h1)) rfl) (eF ?_)));rfl
def E1(hx:Ord.Rows x)(hn:x.length<=9):g7 [aH x,cQ q x (T x)]=.ok (.lst (((rg x.length).map (lk x.length x)).map mG)):=by
 unfold g7;refine eQ rfl (eF ?_);have e:(a9 0 x.length)=rg x.length:=by unfold a9 rg;congr 1;funext k;omega
 rw[bx];refine dH ((rg x.length).map D.int) ?_ (by rw[au];unfold rg;rw[au,jr];omega) (bW D.int (λc=>mG (lk x.length x c)) (rg x.length) λc hc=>⟨_,rfl,bN rfl rfl (Y5 hx hn (eG.1 hc).1 (eG.1 hc).2)⟩);rw[mR (n:=x.length) (cD rfl dS) (by omega),e]
def S5(w:Q0e):w.zipIdx=(bh w.length).map λj=>(at1 w j,j):=by
 refine mi λj=>?_;rw[uk,cf,qq];by_cases h:j<w.length
 .rw [js h,ba h];show aa _=aa (at1 w j,j);unfold at1;rw[fg,ba h];rfl
 .rw [gg (by omega),gg (by simpa using h)];rfl
theorem Y6(hx:Ord.Rows x)(hy:Ord.Rows y)(lx:x.length=n)(ly:y.length=n)(hn:n<=9)(hw:w.length<n)(hr:∀a∈w,a∈rg n)(ht:t∈rg n):g8 [cQ q1 x (T x),cQ q2 y (T y),tupI w,.int t]=.ok (.bl (iV x y w t)):=by
 unfold g8;obtain⟨t0,t1⟩:=eG.1 ht;have key:=sY (g:=KP 5 6) (b:=aJ (fY (tV (aC vX (aC gE (aA 0) (cB (aB (aA 5) (aB (aA 4) aF)))) (aC gE (aA 1) (cB (aB (aA 6) (aB (aA 3) aF))))))
    (bE (eC (.bl af)))
    dG)
   (fY (tV (aC vX (aC gE (aA 0) (cB (aB (aA 4) (aB (aA 5) aF)))) (aC gE (aA 1) (cB (aB (aA 3) (aB (aA 6) aF))))))
    (bE (eC (.bl af)))
    dG)) (z:=.bl af) (λρ=>∃v5 v6,ρ=[.ro (cQ q1 x (T x)),.ro (cQ q2 y (T y)),.ro (tupI w),.ro (.int t),.ro (.int (w.length:Int)),v5,v6])
  (λp:Int×Nat=>D.tup [.int (p.2:Int),.int p.1]) (λp=>Zv (kdS x p.2 w.length=kdS y p.1 t)&&Zv (kdS x w.length p.2=kdS y t p.1)) w.zipIdx
  [.ro (cQ q1 x (T x)),.ro (cQ q2 y (T y)),.ro (tupI w),.ro (.int t),.ro (.int (w.length:Int)),.no,.no] ⟨_,_,rfl⟩ (λp hp ρ ⟨v5,v6,e⟩=>by
   subst e;have hp2:p.2<w.length/\p.1∈w:=by rw[S5] at hp;obtain⟨j,hj,rfl⟩:=de.1 hp;have hj:=d_.1 hj;refine⟨hj,?_⟩;show at1 w j∈w;unfold at1;rw[fg,ba hj];exact mf hj
   obtain⟨r0,r1⟩:=eG.1 (hr p.1 hp2.2);refine⟨[.ro (cQ q1 x (T x)),.ro (cQ q2 y (T y)),.ro (tupI w),.ro (.int t),.ro (.int (w.length:Int)),.ro (.int (p.2:Int)),.ro (.int p.1)],rfl,?_⟩;have c1:tV (aC vX (aC gE (aA 0) (cB (aB (aA 5) (aB (aA 4) aF)))) (aC gE (aA 1) (cB (aB (aA 6) (aB (aA 3) aF))))) (bC [.ro (cQ q1 x (T x)),.ro (cQ q2 y (T y)),.ro (tupI w),.ro (.int t),.ro (.int (w.length:Int)),.ro (.int (p.2:Int)),.ro (.int p.1)])=aa (!Zv (kdS x p.2 w.length=kdS y p.1 t)) :=
    gC (aN (aN (y:=pairD ((p.2:Int),(w.length:Int))) rfl rfl (B5 hx (by omega) (by omega))) (aN (y:=pairD (p.1,t)) rfl rfl (B5 hy (by omega) (by omega))) (SU _ _)) rfl
   have c2:tV (aC vX (aC gE (aA 0) (cB (aB (aA 4) (aB (aA 5) aF)))) (aC gE (aA 1) (cB (aB (aA 3) (aB (aA 6) aF))))) (bC [.ro (cQ q1 x (T x)),.ro (cQ q2 y (T y)),.ro (tupI w),.ro (.int t),.ro (.int (w.length:Int)),.ro (.int (p.2:Int)),.ro (.int p.1)])=aa (!Zv (kdS x w.length p.2=kdS y t p.1)) :=
    gC (aN (aN (y:=pairD ((w.length:Int),(p.2:Int))) rfl rfl (B5 hx (by omega) (by omega))) (aN (y:=pairD (t,p.1)) rfl rfl (B5 hy (by omega) (by omega))) (SU _ _)) rfl
   generalize Zv (kdS x p.2 w.length=kdS y p.1 t)=b1 at c1 ⊢;generalize Zv (kdS x w.length p.2=kdS y t p.1)=b2 at c2 ⊢
   cases b1 with
   |false=>exact⟨λz=>(by cases z),λ_=>mL (uU c1 (eF rfl))⟩
   |true =>
    cases b2 with
    |false=>exact⟨λz=>(by cases z),λ_=>bM _ (mC c1 rfl) (uU c2 (eF rfl))⟩
    |true=>exact⟨λ_=>⟨_,bM _ (mC c1 rfl) (mC c2 rfl),_,_,rfl⟩,λz=>by cases z⟩)
 have ea:w.zipIdx.all (λp=>Zv (kdS x p.2 w.length=kdS y p.1 t)&&Zv (kdS x w.length p.2=kdS y t p.1))=iV x y w t:=by unfold iV;rw[S5,q_];rfl
 have en:lZ (aB (aA 2) aF) (gR [.ro (cQ q1 x (T x)),.ro (cQ q2 y (T y)),.ro (tupI w),.ro (.int t),.ro (.int (w.length:Int)),.no,.no])=aa (w.zipIdx.map λp:Int×Nat=>D.tup [.int (p.2:Int),.int p.1]):=by show zK [.tup (w.map D.int)]=_;rw[nQ,zipIdx_map,bx];rfl
 rw[ea] at key;refine eQ rfl (bM [.ro (cQ q1 x (T x)),.ro (cQ q2 y (T y)),.ro (tupI w),.ro (.int t),.ro (.int (w.length:Int)),.no,.no] (cZ (.int (w.length:Int)) (cD rfl jG) rfl) ?_)
 cases hg:iV x y w t with
 |true =>
  obtain⟨ρ',e,v5,v6,rfl⟩:=key.1 hg;exact bM _ (yV _ en e) (eF rfl)
 |false=>exact mL (yV _ en (key.2 hg))
def S6(a:Lk):NQ (mG a)=aa a:=by show(oN (a.1.map D.str)).bind _=_;rw[strs_map,cj,strs_map];rfl
theorem B6:∀l:List Lk,oO (l.map mG)=aa l
 |[]=>rfl
 |a::l=>by rw[bp,oO,S6,cj,B6 l];rfl
def eX(n:Nat):(rg n).length=n:=by unfold rg;rw[au,jr]
theorem N0(hn:n<=9):gB [mG a,.lst (((rg n).map f).map mG)]=.ok (aG ((rg n).filter λt=>Zv (f t=a))):=by
 unfold gB;refine eQ rfl (eF ?_);have e:((rg n).map f).zipIdx=(bh n).map λj:Nat=>(f (j:Int),j):=by
  unfold rg;rw[bx];refine mi λj=>?_;rw[uk,cf,cf,qq];by_cases h:j<n
  .rw [js h];rfl
  .rw [gg (by simpa using h)];rfl
 have hc:gS (g2 0 1) (tV (aC zP (aA 1) (aA 2))) (aA 0) [ab,ab,aa (mG a)] (((rg n).map f).zipIdx.map λp:Lk×Nat=>D.tup [.int (p.2:Int),mG p.1])=aa ((((rg n).map f).zipIdx.filter λp=>Zv (p.1=a)).map λp=>.int (p.2:Int)) :=
  cR (λp:Lk×Nat=>D.tup [.int (p.2:Int),mG p.1]) (λp=>Zv (p.1=a)) (λp=>.int (p.2:Int)) _ λp _=>⟨[aa (.int (p.2:Int)),aa (mG p.1),aa (mG a)],rfl,gC (aN (x:=mG p.1) (y:=mG a) rfl rfl (by unfold zP;rw[S6,S6];rfl)) rfl,λ_=>rfl⟩
 have hr:((((rg n).map f).zipIdx.filter λp=>Zv (p.1=a)).map λp=>D.int (p.2:Int))=(((rg n).filter λt=>Zv (f t=a)).map D.int):=by rw[e,F_,bx];unfold rg;rw[F_,bx];rfl
 rw[hr] at hc;refine dH (((rg n).map f).zipIdx.map λp:Lk×Nat=>D.tup [.int (p.2:Int),mG p.1]) ?_ (by rw[au,List.length_zipIdx,au,eX];omega) hc;show zK [.lst (((rg n).map f).map mG)]=_;rw[nR,zipIdx_map,bx];rfl
noncomputable def oW:Option (List Int)->D
 |none=>.non
 |some v=>tupI v
def vG(n:Nat)(x y:Q0a):List (List Int):=(rg n).map λc=>(rg n).filter λt=>Zv (lk n y t=lk n x c)
abbrev cnd(n:Nat)(x y:Q0a):List Int->List Int:=λw=>((rg n).filter λt=>Zv (lk n y t=lk n x w.length)).filter λt=>!w.contains t&&iV x y w t
def aCO(h:c<n):bI (.lst ((vG n x y).map aG)) (.int (c:Int))=aa (aG ((rg n).filter λt=>Zv (lk n y t=lk n x c))):=by rw[fQ,fZ,nV (by unfold vG;rw[au,eX];exact h)];unfold vG rg;rw[bx,cf,js h];rfl
abbrev bdy(k:Nat):SF:=fY (kD (tV (aC (jO ae) (aA 4) (aA 3))) (tV (aL g8 (aB (aA 0) (aB (aA 1) (aB (aA 3) (aB (aA 4) aF)))))))
    (aJ (aY 5 (aL (cN (k+1)) (aB (aA 0) (aB (aA 1) (aB (aA 2) (aB (aC bL (aA 3) (cB (aB (aA 4) aF))) aF))))))
    (fY (tV (aC BH (aA 5) (eC .non)))
     (bE (aA 5))
     dG))
    dG
theorem S7(hx:Ord.Rows x)(hy:Ord.Rows y)(lx:x.length=n)(ly:y.length=n)(hn:n<=9):∀(m k:Nat) (w:Q0e),w.length+m=n->m<=k->(∀a∈w,a∈rg n) ->
  cN (k+1) [cQ q1 x (T x),cQ q2 y (T y),.lst ((vG n x y).map aG),tupI w]=.ok (oW (XX (cnd n x y) m w)):=by
 intro m;have hc:(vG n x y).length=n:=by unfold vG;rw[au,eX]
 induction m with
 |zero =>
  intro k w hl hk hr;unfold cN;refine eQ rfl (mL (uU (gC (aN (x:=.int (w.length:Int)) (y:=.int (n:Int)) (cD rfl jG) (cD rfl (by rw[fU,au,hc])) dD) ?_) (eF rfl)));rw[dM,Zx (by omega)]
 |succ m ih =>
  intro k w hl hk hr;obtain⟨k,rfl⟩:∃k',k=k'+1:=⟨k-1,by omega⟩;have hwn:w.length<n:=by omega
  -- the loop
  have loop:∀(l:Q0e),(∀t∈l,t∈rg n) ->∀(v4 v5:Sv),∃v4' v5',eJ (iY 4) (bdy k) (l.map D.int) [.ro (cQ q1 x (T x)),.ro (cQ q2 y (T y)),.ro (.lst ((vG n x y).map aG)),.ro (tupI w),v4,v5] =
    match (l.filter λt=>!w.contains t&&iV x y w t).findSome? (λt=>XX (cnd n x y) m (w++[t])) with
    |some v=>.rt (tupI v)
    |none=>.nx [.ro (cQ q1 x (T x)),.ro (cQ q2 y (T y)),.ro (.lst ((vG n x y).map aG)),.ro (tupI w),v4',v5']:=by
   intro l
   induction l with
   |nil=>intro _ v4 v5;exact⟨v4,v5,rfl⟩
   |cons t l ihl =>
    intro hl2 v4 v5;have ht:=hl2 t cp;have c1:kD (tV (aC (jO ae) (aA 4) (aA 3))) (tV (aL g8 (aB (aA 0) (aB (aA 1) (aB (aA 3) (aB (aA 4) aF)))))) (bC [.ro (cQ q1 x (T x)),.ro (cQ q2 y (T y)),.ro (.lst ((vG n x y).map aG)),.ro (tupI w),.ro (.int t),v5])=aa (!w.contains t&&iV x y w t):=by refine DW (b:=!w.contains t) (gC (aN (x:=.int t) (y:=tupI w) rfl rfl BU) rfl) (λh=>?_) (λh=>by rw[h];rfl);rw[h,lh];exact gC (pM rfl rfl rfl rfl (Y6 hx hy lx ly hn hwn hr ht)) rfl
    rw[bp,eJ];rw[show iY 4 (.int t) [.ro (cQ q1 x (T x)),.ro (cQ q2 y (T y)),.ro (.lst ((vG n x y).map aG)),.ro (tupI w),v4,v5]=aa [.ro (cQ q1 x (T x)),.ro (cQ q2 y (T y)),.ro (.lst ((vG n x y).map aG)),.ro (tupI w),.ro (.int t),v5] from rfl];dsimp only;rw[qy]
    cases hb:(!w.contains t&&iV x y w t) with
    |false =>
     rw[hb] at c1;have eb:bdy k [.ro (cQ q1 x (T x)),.ro (cQ q2 y (T y)),.ro (.lst ((vG n x y).map aG)),.ro (tupI w),.ro (.int t),v5]=.nx [.ro (cQ q1 x (T x)),.ro (cQ q2 y (T y)),.ro (.lst ((vG n x y).map aG)),.ro (tupI w),.ro (.int t),v5]:=mC c1 rfl;rw[eb];dsimp only;rw[Zz bt];exact ihl (λa ha=>hl2 a (dq _ ha)) _ _
    |true =>
     rw[hb] at c1;rw[Z_ rfl,a2y];have er:=ih k (w++[t]) (by rw[ck,md];omega) (by omega) (λa ha=>by
      rcases gu.1 ha with ha|ha
      .exact hr a ha
      .rw [cm] at ha;rw[ha];exact ht)
     have es:aY 5 (aL (cN (k+1)) (aB (aA 0) (aB (aA 1) (aB (aA 2) (aB (aC bL (aA 3) (cB (aB (aA 4) aF))) aF))))) [.ro (cQ q1 x (T x)),.ro (cQ q2 y (T y)),.ro (.lst ((vG n x y).map aG)),.ro (tupI w),.ro (.int t),v5]=.nx [.ro (cQ q1 x (T x)),.ro (cQ q2 y (T y)),.ro (.lst ((vG n x y).map aG)),.ro (tupI w),.ro (.int t),.ro (oW (XX (cnd n x y) m (w++[t])))] :=
      cZ _ (pM rfl rfl rfl (aN (x:=tupI w) (y:=tupI [t]) rfl rfl (show bL (tupI w) (tupI [t])=aa (tupI (w++[t])) by unfold tupI;rw[qJ (by rw[au,au,md];omega),e_])) er) rfl
     cases hd:XX (cnd n x y) m (w++[t]) with
     |none =>
      rw[hd] at es;have eb:bdy k [.ro (cQ q1 x (T x)),.ro (cQ q2 y (T y)),.ro (.lst ((vG n x y).map aG)),.ro (tupI w),.ro (.int t),v5]=.nx [.ro (cQ q1 x (T x)),.ro (cQ q2 y (T y)),.ro (.lst ((vG n x y).map aG)),.ro (tupI w),.ro (.int t),.ro .non]:=uU c1 (bM _ es (mC (gC (d:=.bl af) (aN (x:=.non) (y:=.non) rfl rfl rfl) rfl) rfl));rw[eb];exact ihl (λa ha=>hl2 a (dq _ ha)) _ _
     |some v =>
      rw[hd] at es;refine⟨v4,v5,?_⟩;have eb:bdy k [.ro (cQ q1 x (T x)),.ro (cQ q2 y (T y)),.ro (.lst ((vG n x y).map aG)),.ro (tupI w),.ro (.int t),v5]=.rt (tupI v):=uU c1 (bM _ es (uU (gC (d:=.bl ae) (aN (x:=tupI v) (y:=.non) rfl rfl rfl) rfl) (eF rfl)));rw[eb]
  obtain⟨v4,v5,el⟩:=loop ((rg n).filter λt=>Zv (lk n y t=lk n x w.length)) (λt ht=>(dm.1 ht).1) .no .no;rw[show cN (k+1+1)=cN (k+2) from rfl];unfold cN;refine eQ rfl (bM [.ro (cQ q1 x (T x)),.ro (cQ q2 y (T y)),.ro (.lst ((vG n x y).map aG)),.ro (tupI w),.no,.no] (mC (gC (aN (x:=.int (w.length:Int)) (y:=.int (n:Int)) (cD rfl jG) (cD rfl (by rw[fU,au,hc])) dD) ?_) rfl) ?_)
  .rw [dM,Zy (by omega)]
  have ei:aZ (aC bI (aA 2) (bP bT (aB (aA 3) aF))) (gR [.ro (cQ q1 x (T x)),.ro (cQ q2 y (T y)),.ro (.lst ((vG n x y).map aG)),.ro (tupI w),.no,.no])=aa (((rg n).filter λt=>Zv (lk n y t=lk n x w.length)).map D.int):=by unfold aZ;rw[aN (x:=.lst ((vG n x y).map aG)) (y:=.int (w.length:Int)) rfl (cD rfl jG) (aCO hwn)];rfl
  rw[XX]
  cases hf:(cnd n x y w).findSome? (λt=>XX (cnd n x y) m (w++[t])) with
  |some v =>
   rw[show(((rg n).filter λt=>Zv (lk n y t=lk n x w.length)).filter λt=>!w.contains t&&iV x y w t)=cnd n x y w from rfl,hf] at el;exact mL (yV _ ei el)
  |none =>
   rw[show(((rg n).filter λt=>Zv (lk n y t=lk n x w.length)).filter λt=>!w.contains t&&iV x y w t)=cnd n x y w from rfl,hf] at el;exact bM _ (yV _ ei el) (eF rfl)
def E2(hl:l.length<64):mJ [.lst (l.map mG)]=aa (.lst ((jP G7 l).map mG)):=by show(oO (l.map mG)).bind _=_;rw[B6,cj,Z_ hl]
def lay(x y:Q0a):Option (List Int):=if x.length=y.length then ED x.length x y else ab
def N2(hx:Ord.Rows x)(hy:Ord.Rows y)(hn:x.length<=9)(hm:y.length<=9):m3 [aH x,aH y]=.ok (oW (lay x y)):=by
 obtain⟨q1,k1⟩:=kinds_ok hx hn;obtain⟨q2,k2⟩:=kinds_ok hy hm;have l1:((rg x.length).map (lk x.length x)).length<64:=by rw[au,eX];omega
 have l2:((rg y.length).map (lk y.length y)).length<64:=by rw[au,eX];omega
 unfold m3;refine eQ rfl (bM _ (cZ _ (eR rfl k1) rfl) (bM _ (cZ _ (eR rfl k2) rfl) (bM _ (cZ _ (bN rfl rfl (E1 hx hn)) rfl) (bM _ (cZ _ (bN rfl rfl (E1 hy hm)) rfl) ?_))));have c:∀ρ:dC,aA 4 ρ=aa (.lst (((rg x.length).map (lk x.length x)).map mG))->aA 5 ρ=aa (.lst (((rg y.length).map (lk y.length y)).map mG))->tV (aC pF (bP mJ (aB (aA 4) aF)) (bP mJ (aB (aA 5) aF))) ρ=aa (!Zv (jP G7 ((rg x.length).map (lk x.length x))=jP G7 ((rg y.length).map (lk y.length y)))):=λρ e1 e2=>by refine gC (aN (cD e1 (E2 l1)) (cD e2 (E2 l2)) (?_:_=aa (.bl _))) rfl;show(oO _).bind _=_;rw[B6,cj,B6];rfl
 by_cases hs:jP G7 ((rg x.length).map (lk x.length x))=jP G7 ((rg y.length).map (lk y.length y))
 .have hl:x.length=y.length:=by have:=((gU (lt:=G7) ((rg x.length).map (lk x.length x))).length_eq.symm.trans (congrArg oz hs)).trans (gU (lt:=G7) ((rg y.length).map (lk y.length y))).length_eq;rw[au,au,eX,eX] at this;exact this
  refine bM _ (mC ((c _ rfl rfl).trans (by rw[Zx hs];rfl)) rfl) ?_;have ec:∀ρ:dC,aA 4 ρ=aa (.lst (((rg x.length).map (lk x.length x)).map mG))->benv 1 [5] ρ=[ab,aa (.lst (((rg y.length).map (lk y.length y)).map mG))]->aV 1 [5] (aZ (aA 4)) (g1 0) bO (aL gB (aB (aA 0) (aB (aA 1) aF))) ρ=aa (.lst ((vG x.length x y).map aG)):=λρ e1 e2=>by
   have:(vG x.length x y).map aG=((rg x.length).map (lk x.length x)).map λa=>aG ((rg x.length).filter λt=>Zv (lk x.length y t=a)):=by unfold vG;rw[bx,bx];rfl
   rw[this];refine dH (((rg x.length).map (lk x.length x)).map mG) (by unfold aZ;rw[e1];rfl) (by rw[au,au,eX];omega) ?_;rw[e2,<- hl];exact bW mG _ _ λa _=>⟨_,rfl,bN rfl rfl (N0 hn)⟩
  refine bM _ (cZ _ (ec _ rfl rfl) rfl) (eF ?_);rw[pM rfl rfl rfl rfl (S7 (q1:=q1) (q2:=q2) hx hy rfl hl.symm hn x.length 10 [] (by simp) (by omega) (λa ha=>nomatch ha))];unfold lay;rw[Z_ hl,YI hx hy rfl hl.symm]
 .refine mL (uU ((c _ rfl rfl).trans (by rw[Zy hs];rfl)) (eF ?_));have:lay x y=ab:=by
   unfold lay;by_cases hl:x.length=y.length
   .rw [Z_ hl];refine NT hx hy rfl hl.symm ?_;rw[<- hl] at hs;exact hs
   .rw [Zz hl]
  rw[this];rfl
def z6(hx:Ord.Rows x)(hn:x.length<=9):jL [aH x]=.ok (.lst ((fC.B x).map pairD)):=by
 unfold jL;have hl:=fC.EI hx hn;refine eQ rfl (bM [.ro (aH x),.ow (.lst []),.no,.no] rfl ?_);obtain⟨ρ',e,v2,v3,rfl⟩:Nx (cL (aZ (aL LL.fV (aB (aA 0) aF))) (KP 2 3)
   (fY (sD (tV (bP anyM (aB (aV 1 [2,0] (aZ (aC bI (aA 0) (aA 3))) (g1 0) bO (aC (jO af) (aA 1) (aC bI (aA 2) (aA 0)))) aF))))
    (sX (nN 1 iI (bB (cB (aB (aA 2) (aB (aA 3) aF))))))
    dG) [.ro (aH x),.ow (.lst []),.no,.no]) (λρ=>∃v2 v3,ρ=[Sv.ro (aH x),Sv.ow (.lst ((fC.B x).map pairD)),v2,v3]):=by
  refine mQ ((fC.T x).map pairD) (λi ρ=>∃v2 v3,ρ=[Sv.ro (aH x),Sv.ow (.lst ((((fC.T x).take i).filter (fC.eI x)).map pairD)),v2,v3]) ?_ ⟨_,_,rfl⟩ ?_ λρ h=>by rw[au,Fg] at h;exact h
  .unfold aZ;rw[eR (x:=aH x) rfl (zU hx hn)];rfl
  rintro i d _ hd ⟨v2,v3,rfl⟩;rw[cf] at hd;obtain⟨p,q,rfl⟩:=iy.1 hd;obtain⟨h0,h1,h2⟩:=fC.zT.mp (ik q);have rl:=fC.RX hx h0 h1;have ti:(fC.T x).take (i+1)=(fC.T x).take i++[p]:=by rw[ue,q];rfl
  have tl:(((fC.T x).take i).filter (fC.eI x)).length<=(fC.T x).length:=gb (ic _ _) (by rw[jb];omega);refine⟨[.ro (aH x),.ow (.lst ((((fC.T x).take i).filter (fC.eI x)).map pairD)),.ro (.int p.1),.ro (.int p.2)],rfl,?_⟩;have ea:bP anyM (aB (aV 1 [2,0] (aZ (aC bI (aA 0) (aA 3))) (g1 0) bO (aC (jO af) (aA 1) (aC bI (aA 2) (aA 0)))) aF) (bC [.ro (aH x),.ow (.lst ((((fC.T x).take i).filter (fC.eI x)).map pairD)),.ro (.int p.1),.ro (.int p.2)])=aa (.bl (!fC.eI x p)):=by
   refine cD (x:=.lst (((row x p.2).map λc=>(row x c).contains p.1).map D.bl)) ?_ ?_
   .rw [bx];refine dH ((row x p.2).map D.int) ?_ (by rw[au];omega) (bW D.int (λc=>D.bl ((row x c).contains p.1)) _ λc hc=>⟨_,rfl,?_⟩)
    .unfold aZ;rw[aN (x:=aH x) (y:=.int p.2) rfl rfl (iS h0 h1)];rfl
    .have hr:=fC.K5 hx h0 h1 hc;exact aN (x:=.int p.1) (y:=tupI (row x c)) rfl (aN (x:=aH x) (y:=.int c) rfl rfl (iS hr.1 hr.2)) pO
   .rw [KY,qz];unfold fC.eI;rw[Bool.not_not];rfl
  have ef:((fC.T x).take (i+1)).filter (fC.eI x)=((fC.T x).take i).filter (fC.eI x)++if fC.eI x p=ae then[p] else[]:=by rw[ti,Ga,qy,List.filter_nil]
  cases hb:fC.eI x p with
  |true =>
   rw[hb] at ea ef;rw[Z_ rfl] at ef;refine⟨_,uU (tnE (b:=af) (gC ea rfl) rfl) (fC.qb (fC.RW (d:=pairD p) (ds0:=(((fC.T x).take i).filter (fC.eI x)).map pairD) (ds:=(((fC.T x).take i).filter (fC.eI x)).map pairD) rfl rfl rfl (jT (by rw[au];omega)))),.ro (.int p.1),.ro (.int p.2),?_⟩;rw[ef,e_];rfl
  |false =>
   rw[hb] at ea ef;rw[Zz bt,jh] at ef;refine⟨_,mC (tnE (b:=ae) (gC ea rfl) rfl) rfl,.ro (.int p.1),.ro (.int p.2),?_⟩;rw[ef]
 exact bM _ e (eF rfl)
def S8(p q:Int×Int):eqP 8 (pairD p) (pairD q)=aa (Zv (p=q)):=by show(BJ (eqP 7) [.int p.1,.int p.2] [.int q.1,.int q.2]).map (λr=>r&&Zv (2=2))=_;have e:∀i j:Int,eqP 7 (.int i) (.int j)=aa (Zv (i=j)):=λi j=>rfl;simp only[BJ,e,cj,oo,za];congr 1;rw[g_];simp[a15]
theorem E3(p:Int×Int):∀L:List (Int×Int),sH (pairD p) (L.map pairD)=aa (L.contains p)
 |[]=>rfl
 |q::L=>by rw[bp,sH,S8,cj,E3 p L,a2J];rw[show Zv (q=p)=(p == q) from by rw[g_];simp only[decide_eq_true_eq,beq_iff_eq];exact eq_comm];rfl
def E4(p:Int×Int)(L:List (Int×Int)):uT af (pairD p) (.lst (L.map pairD))=aa (.bl (L.contains p)):=by show(sH (pairD p) (L.map pairD)).map _=_;rw[E3];rfl
def S9(hx:Ord.Rows x)(h0:0<=b)(h1:b<(x.length:Int)):(fC.B x).contains (a,b)=dU x a b:=by rw[g_,a2I];show(a,b)∈(T x).filter (fC.eI x)↔_;rw[dm,EZ hx h0 h1];unfold dU fC.eI;rw[gn];rfl
def Y7{w:Q0e}{t:Int}{c:Nat}(h:c<w.length):bI (tupI (w++[t])) (.int (c:Int))=aa (.int (at1 w c)):=by unfold tupI;rw[lF,fZ,nV (by rw[ck];omega),jg h,ba h];unfold at1;rw[fg,ba h];rfl
def N3:bI (tupI (w++[t])) (.int (w.length:Int))=aa (.int t):=by unfold tupI;rw[lF,fZ,nV (by rw[ck];simp),jf (bj _),yc];rfl
theorem Y8(hx:Ord.Rows x)(hy:Ord.Rows y)(lx:x.length=n)(ly:y.length=n)(hn:n<=9)(hw:w.length<n)(hr:∀a∈w,a∈rg n)(ht:t∈rg n):iN [aH x,aH y,.lst ((fC.B x).map pairD),tupI (w++[t])]=.ok (.bl (mT x y w t)):=by
 unfold iN;obtain⟨t0,t1⟩:=eG.1 ht
 let st:Sv->bH:=λv=>[.ro (aH x),.ro (aH y),.ro (.lst ((fC.B x).map pairD)),.ro (tupI (w++[t])),.ro (.int (w.length:Int)),v]
 let c1:TF:=G9 (tV (aC G6 (aC (jO af) (aA 5) (aC bI (aA 0) (aA 4))) (aC (jO af) (aC bI (aA 3) (aA 5)) (aC bI (aA 1) (aC bI (aA 3) (aA 4)))))) (tV (aC G6 (aC (jO af) (aA 4) (aC bI (aA 0) (aA 5))) (aC (jO af) (aC bI (aA 3) (aA 4)) (aC bI (aA 1) (aC bI (aA 3) (aA 5))))))
 let c2:TF:=G9 (kD (tV (aC (uT af) (cB (aB (aA 5) (aB (aA 4) aF))) (aA 2))) (tV (aC uR (aC bI (aA 3) (aA 5)) (aC bI (aA 3) (aA 4))))) (kD (tV (aC (uT af) (cB (aB (aA 4) (aB (aA 5) aF))) (aA 2))) (tV (aC X3 (aC bI (aA 3) (aA 4)) (aC bI (aA 3) (aA 5)))))
 have key:=sY (g:=iY 5) (b:=aJ (fY c1 (bE (eC (.bl af))) dG) (fY c2 (bE (eC (.bl af))) dG)) (z:=.bl af) (λρ=>∃v,ρ=st v) (λc:Nat=>D.int (c:Int))
  (λj=>(tyB x j w.length == tyB y (at1 w j) t)&&(tyB x w.length j == tyB y t (at1 w j))&&(!(dU x j w.length&&Zv (t<at1 w j)) && !(dU x w.length j&&Zv (t<at1 w j)))) (bh w.length) (st .no) ⟨_,rfl⟩ (λc hc ρ ⟨v,e⟩=>by
   subst e;have hc:=d_.1 hc;have hm:at1 w c∈w:=by unfold at1;rw[fg,ba hc];exact mf hc
   obtain⟨r0,r1⟩:=eG.1 (hr _ hm);refine⟨st (.ro (.int (c:Int))),rfl,?_⟩;have eL:∀ρ:dC,aA 3 ρ=aa (tupI (w++[t]))->aA 4 ρ=aa (.int (w.length:Int))->aC bI (aA 3) (aA 4) ρ=aa (.int t):=λρ e3 e4=>aN e3 e4 N3;have eC':∀ρ:dC,aA 3 ρ=aa (tupI (w++[t]))->aA 5 ρ=aa (.int (c:Int))->aC bI (aA 3) (aA 5) ρ=aa (.int (at1 w c)):=λρ e3 e4=>aN e3 e4 (Y7 hc);have d1:c1 (bC (st (.ro (.int (c:Int)))))=aa (!((tyB x c w.length == tyB y (at1 w c) t)&&(tyB x w.length c == tyB y t (at1 w c)))):=by
    refine YC (b:=!(tyB x c w.length == tyB y (at1 w c) t)) ?_ (λh=>?_) (λh=>?_)
    .refine gC (d:=.bl _) (aN (x:=.bl (tyB x c w.length)) (y:=.bl (tyB y (at1 w c) t)) (aN rfl (aN (x:=aH x) (y:=.int (w.length:Int)) rfl rfl (iS (by omega) (by omega))) pO) (aN (eC' _ rfl rfl) (aN (x:=aH y) (y:=.int t) rfl (eL _ rfl rfl) (iS (by omega) (by omega))) pO) rfl) ?_;cases tyB x c w.length<;>cases tyB y (at1 w c) t<;>rfl
    .have h:(tyB x c w.length == tyB y (at1 w c) t)=ae:=by simpa using h
     rw[h,lh];refine gC (d:=.bl _) (aN (x:=.bl (tyB x w.length c)) (y:=.bl (tyB y t (at1 w c))) (aN rfl (aN (x:=aH x) (y:=.int (c:Int)) rfl rfl (iS (by omega) (by omega))) pO) (aN (eL _ rfl rfl) (aN (x:=aH y) (y:=.int (at1 w c)) rfl (eC' _ rfl rfl) (iS (by omega) (by omega))) pO) rfl) ?_;cases tyB x w.length c<;>cases tyB y t (at1 w c)<;>rfl
    .have h:(tyB x c w.length == tyB y (at1 w c) t)=af:=by simpa using h
     rw[h];rfl
   have d2:c2 (bC (st (.ro (.int (c:Int)))))=aa (!(!(dU x c w.length&&Zv (t<at1 w c)) && !(dU x w.length c&&Zv (t<at1 w c)))):=by
    have a1:kD (tV (aC (uT af) (cB (aB (aA 5) (aB (aA 4) aF))) (aA 2))) (tV (aC uR (aC bI (aA 3) (aA 5)) (aC bI (aA 3) (aA 4)))) (bC (st (.ro (.int (c:Int)))))=aa (dU x c w.length&&Zv (t<at1 w c)):=by refine DW (b:=dU x c w.length) (gC (d:=.bl _) (aN (x:=pairD ((c:Int),(w.length:Int))) (y:=.lst ((fC.B x).map pairD)) rfl rfl (E4 _ _)) (by rw[S9 hx (by omega) (by omega)];rfl)) (λh=>?_) (λh=>by rw[h];rfl);rw[h,lh];exact gC (aN (eC' _ rfl rfl) (eL _ rfl rfl) iE) rfl
    have a2:kD (tV (aC (uT af) (cB (aB (aA 4) (aB (aA 5) aF))) (aA 2))) (tV (aC X3 (aC bI (aA 3) (aA 4)) (aC bI (aA 3) (aA 5)))) (bC (st (.ro (.int (c:Int)))))=aa (dU x w.length c&&Zv (t<at1 w c)):=by refine DW (b:=dU x w.length c) (gC (d:=.bl _) (aN (x:=pairD ((w.length:Int),(c:Int))) (y:=.lst ((fC.B x).map pairD)) rfl rfl (E4 _ _)) (by rw[S9 hx (by omega) (by omega)];rfl)) (λh=>?_) (λh=>by rw[h];rfl);rw[h,lh];exact gC (aN (eL _ rfl rfl) (eC' _ rfl rfl) nO) rfl
    refine YC a1 (λh=>?_) (λh=>?_)
    .rw [h,a2];simp
    .rw [h];rfl
   generalize ((tyB x c w.length == tyB y (at1 w c) t)&&(tyB x w.length c == tyB y t (at1 w c)))=b1 at d1 ⊢;generalize (!(dU x c w.length&&Zv (t<at1 w c)) && !(dU x w.length c&&Zv (t<at1 w c)))=b2 at d2 ⊢
   cases b1 with
   |false=>exact⟨λz=>(by cases z),λ_=>mL (uU d1 (eF rfl))⟩
   |true =>
    cases b2 with
    |false=>exact⟨λz=>(by cases z),λ_=>bM _ (mC d1 rfl) (uU d2 (eF rfl))⟩
    |true=>exact⟨λ_=>⟨_,bM _ (mC d1 rfl) (mC d2 rfl),_,rfl⟩,λz=>by cases z⟩)
 have ei:aQ (aB (aA 4) aF) (gR (st .no))=aa ((bh w.length).map λc:Nat=>D.int (c:Int)):=by rw[mR (n:=w.length) rfl (by omega)];unfold a9;rw[bx];congr 1;refine gf λj _=>?_;show D.int (0+(j:Int))=_;rw[jj]
 refine eQ rfl (bM (st .no) (cZ (.int (w.length:Int)) (aN (x:=.int ((w++[t]).length:Int)) (y:=.int 1) (cD rfl jG) rfl (by rw[iK,ck,md];congr 2;omega)) rfl) ?_)
 cases hg:mT x y w t with
 |true =>
  obtain⟨ρ',e,v,rfl⟩:=key.1 hg;exact bM _ (yV _ ei e) (eF rfl)
 |false=>exact mL (yV _ ei (key.2 hg))
theorem wZ:∀(k:Nat) (L:Q0a),uE cand (k+1) L=(uE cand k L).flatMap λw=>(cand w).map λt=>w++[t]
 |0,L=>rfl
 |k+1,L=>by rw[uE,wZ k];rfl
theorem E5(h1:w.Nodup)(h2:∀a∈w,a∈rg n):w.length+(left n w).length<=n:=by
 have:=Ord.dW (w++left n w) (rg n) (ko.2 ⟨h1,(lI n).nd.filter _,λa ha b hb e=>by
  subst e;have:=(dm.1 hb).2;simp at this;exact this ha⟩) λa ha=>by
   rcases gu.1 ha with ha|ha
   .exact h2 a ha
   .exact (dm.1 ha).1
 rw[ck,eX] at this;exact this
noncomputable def fb:Nat->Nat->Nat
 |0,_=>1
 |k+1,m=>m*fb k (m-1)
def Wc:∀k:Fin 10,∀m:Fin 10,fb k.1 m.1<=362880:=by decide+kernel
theorem TB{α:Type}{f:α->Nat}{b:Nat}:∀{l:List α},(∀a∈l,f a<=b)->(l.map f).sum<=l.length*b
 |[],_=>by simp
 |a::l,h=>by have h1:=h a cp;have h2:=TB (l:=l) λc hc=>h c (dq _ hc);rw[bp,l_,cy,Fd];omega
theorem E6{n:Nat}:∀{k w},w.Nodup->(∀a∈w,a∈rg n)->(exts (left n) k w).length<=fb k (n-w.length)
 |0,w,_,_=>bj _
 |k+1,w,h1,h2=>by
  rw[exts,List.length_flatMap];have hl:=E5 h1 h2;refine gb (TB (b:=fb k (n-w.length-1)) λt ht=>?_) (Nat.mul_le_mul (by omega) (bj _));obtain⟨t1,t2⟩:=dm.1 ht;have t2:t∉w:=by simpa using t2
  have:=E6 (n:=n) (k:=k) (w:=w++[t]) (ko.2 ⟨h1,by simp,λa ha b hb e=>by rw[cm] at hb;subst hb;subst e;exact t2 ha⟩) λa ha=>by
   rcases gu.1 ha with ha|ha
   .exact h2 a ha
   .rw [cm] at ha;subst ha;exact t1
  rw[ck,md] at this;rw[show n-w.length-1=n-(w.length+1) by omega];exact this
abbrev uV(n:Nat)(x y:Q0a):List Int->List Int:=λw=>(left n w).filter (mT x y w)
def Cc(k:Nat):uE (uV n x y) k [[]]=(exts (left n) k []).filter (Q4 (mT x y) 0):=by rw[HP,a2x];exact jV k []
def aCP(h:w∈uE (uV n x y) k [[]]):w.length=k/\w.Nodup /\∀a∈w,a∈rg n:=by rw[Cc] at h;have h:=(dm.1 h).1;obtain⟨u,e,hu⟩:=mS h;obtain⟨h1,h2⟩:=sZ j7 (λa ha=>nomatch ha) h;exact⟨by rw[e];exact hu,h1,h2⟩
def aCQ(hn:n<=9)(hk:k<=9):(uE (uV n x y) k [[]]).length<=362880:=by rw[Cc];refine gb (ic _ _) (gb (E6 (n:=n) j7 (λa ha=>nomatch ha)) ?_);rw[me,Fc];exact Wc ⟨k,by omega⟩ ⟨n,by omega⟩
def qS(n:Nat):a9 0 n=rg n:=by unfold a9 rg;congr 1;funext k;omega
theorem E7(hx:Ord.Rows x)(hy:Ord.Rows y)(hn:x.length<=9)(hm:y.length<=9):jM [aH x,aH y]=.ok (oW (lay x y)):=by
 unfold jM;by_cases hl:x.length=y.length
 case neg =>
  refine eQ rfl (mL (uU (gC (aN (x:=.int (x.length:Int)) (y:=.int (y.length:Int)) (cD rfl dS) (cD rfl dS) lE) ?_) (eF ?_)))
  .rw [dM,Zy (by omega)];rfl
  .unfold lay;rw[Zz hl];rfl
 let bd:D:=.lst ((fC.B x).map pairD)
 let st:List (List Int)->Sv->Sv->Sv->Sv->bH:=λL v4 v5 v6 v7=>[.ro (aH x),.ro (aH y),.ro bd,.ro (.lst (L.map tupI)),v4,v5,v6,v7]
 refine eQ rfl (bM [.ro (aH x),.ro (aH y),.no,.no,.no,.no,.no,.no] (mC (gC (aN (x:=.int (x.length:Int)) (y:=.int (y.length:Int)) (cD rfl dS) (cD rfl dS) lE) ?_) rfl) ?_)
 .rw [dM,Zx (by omega)];rfl
 refine bM [.ro (aH x),.ro (aH y),.ro bd,.no,.no,.no,.no,.no] (cZ bd (eR rfl (z6 hx hn)) rfl) (bM (st [[]] .no .no .no .no) (cZ _ rfl rfl) ?_);have inner:∀(i:Nat) (w:Q0e),i<x.length->w∈uE (uV x.length x y) i [[]] ->∀(L:Q0a) (M:Q0a) (v4 v7:Sv),M.length<=362880->Nx (aJ (aY 7 (aV 1 [6] (aQ (aB (bP bT (aB (aA 0) aF)) aF)) (g1 0) (tV (aC (jO ae) (aA 0) (aA 1))) (aC bL (aA 1) (cB (aB (aA 0) aF)))))
    (aY 5 (aC bL (aA 5) (aV 1 [0,1,2] (aZ (aA 7)) (g1 0) (tV (aL iN (aB (aA 1) (aB (aA 2) (aB (aA 3) (aB (aA 0) aF)))))) (aA 0)))) (st L v4 (.ro (.lst (M.map tupI))) (.ro (tupI w)) v7)) λρ=>∃v7',ρ=st L v4 (.ro (.lst ((M++((uV x.length x y w).map λt=>w++[t])).map tupI))) (.ro (tupI w)) v7':=λi w hi hw L M v4 v7 hM=>by
  obtain⟨w1,w2,w3⟩:=aCP hw;have ll:=E5 w2 w3;have e1:aV 1 [6] (aQ (aB (bP bT (aB (aA 0) aF)) aF)) (g1 0) (tV (aC (jO ae) (aA 0) (aA 1))) (aC bL (aA 1) (cB (aB (aA 0) aF))) (gR (st L v4 (.ro (.lst (M.map tupI))) (.ro (tupI w)) v7))=aa (.lst ((left x.length w).map λt=>tupI (w++[t]))):=by refine dH ((rg x.length).map D.int) (by rw[mR (n:=x.length) (cD rfl dS) (by omega),qS]) (by rw[au,eX];omega) (cR D.int (λt=>!w.contains t) (λt=>tupI (w++[t])) (rg x.length) λt _=>⟨[aa (.int t),aa (tupI w)],rfl,gC (aN (x:=.int t) (y:=tupI w) rfl rfl BU) rfl,λ_=>aN (x:=tupI w) (y:=tupI [t]) rfl rfl ?_⟩);unfold tupI;rw[qJ (by rw[au,au,md];omega),e_]
  have e2:∀ρ:dC,aA 7 ρ=aa (.lst ((left x.length w).map λt=>tupI (w++[t])))->benv 1 [0,1,2] ρ=[ab,aa (aH x),aa (aH y),aa bd]->aV 1 [0,1,2] (aZ (aA 7)) (g1 0) (tV (aL iN (aB (aA 1) (aB (aA 2) (aB (aA 3) (aB (aA 0) aF)))))) (aA 0) ρ=aa (.lst ((uV x.length x y w).map λt=>tupI (w++[t]))):=λρ e7 eb=>by refine dH ((left x.length w).map λt=>tupI (w++[t])) (by unfold aZ;rw[e7];rfl) (by rw[au];omega) ?_;rw[eb];exact cR (λt=>tupI (w++[t])) (mT x y w) (λt=>tupI (w++[t])) (left x.length w) λt ht=>⟨[aa (tupI (w++[t])),aa (aH x),aa (aH y),aa bd],rfl,gC (pM rfl rfl rfl rfl (Y8 hx hy rfl hl.symm hn (by omega) w3 (dm.1 ht).1)) rfl,λ_=>rfl⟩
  refine fG (st L v4 (.ro (.lst (M.map tupI))) (.ro (tupI w)) (.ro (.lst ((left x.length w).map λt=>tupI (w++[t]))))) (cZ _ e1 rfl) (mO (.lst ((M++((uV x.length x y w).map λt=>w++[t])).map tupI)) ?_ ⟨_,rfl⟩);refine aN (x:=.lst (M.map tupI)) rfl (e2 _ rfl rfl) ?_;have:(uV x.length x y w).length<=(left x.length w).length:=ic (mT x y w) (left x.length w);rw[qI (by rw[au,au];omega),e_,bx];rfl
 obtain⟨ρ',e,v4,v5,v6,v7,rfl⟩:Nx (cL (aQ (aB (bP bT (aB (aA 0) aF)) aF)) (iY 4)
   (aJ (aY 5 (fE aF))
   (aJ (cL (aZ (aA 3)) (iY 6)
    (aJ (aY 7 (aV 1 [6] (aQ (aB (bP bT (aB (aA 0) aF)) aF)) (g1 0) (tV (aC (jO ae) (aA 0) (aA 1))) (aC bL (aA 1) (cB (aB (aA 0) aF)))))
    (aY 5 (aC bL (aA 5) (aV 1 [0,1,2] (aZ (aA 7)) (g1 0) (tV (aL iN (aB (aA 1) (aB (aA 2) (aB (aA 3) (aB (aA 0) aF)))))) (aA 0))))))
   (aY 3 (aA 5)))) (st [[]] .no .no .no .no)) λρ=>∃v4 v5 v6 v7,ρ=st (uE (uV x.length x y) x.length [[]]) v4 v5 v6 v7:=by
  refine gY x.length (λi ρ=>∃v4 v5 v6 v7,ρ=st (uE (uV x.length x y) i [[]]) v4 v5 v6 v7) (args1 (cD rfl dS)) (by omega) ⟨_,_,_,_,rfl⟩ (λi ρ hi ⟨v4,v5,v6,v7,e⟩=>?_) λρ h=>h;subst e;refine⟨st (uE (uV x.length x y) i [[]]) (.ro (.int (i:Int))) v5 v6 v7,rfl,fG (st (uE (uV x.length x y) i [[]]) (.ro (.int (i:Int))) (.ro (.lst [])) v6 v7) (cZ _ rfl rfl) ?_⟩;have hb:(uE (uV x.length x y) (i+1) [[]]).length<=362880:=aCQ hn (by omega);refine wJ (λρ=>∃v6 v7,ρ=st (uE (uV x.length x y) i [[]]) (.ro (.int (i:Int))) (.ro (.lst ((uE (uV x.length x y) (i+1) [[]]).map tupI))) v6 v7) ?_ λρ ⟨v6,v7,e⟩=>?_
  .refine mQ ((uE (uV x.length x y) i [[]]).map tupI) (λj ρ=>∃v6 v7,ρ=st (uE (uV x.length x y) i [[]]) (.ro (.int (i:Int))) (.ro (.lst ((((uE (uV x.length x y) i [[]]).take j).flatMap λw=>(uV x.length x y w).map λt=>w++[t]).map tupI))) v6 v7) rfl ⟨_,_,rfl⟩ (λj d ρ hd ⟨v6,v7,e⟩=>?_) λρ h=>by rw[au,Fg,<- wZ] at h;exact h
   subst e;rw[cf] at hd;obtain⟨w,ew,rfl⟩:=iy.1 hd;have hM:(((uE (uV x.length x y) i [[]]).take j).flatMap λw=>(uV x.length x y w).map λt=>w++[t]).length<=362880:=by
    refine gb ?_ hb;rw[wZ]
    conv=>rhs;rw[<- Fh j (uE (uV x.length x y) i [[]]),uq,ck]
    omega
   obtain⟨ρ2,e2,v7',e3⟩:=inner i w hi (ik ew) (uE (uV x.length x y) i [[]]) _ (.ro (.int (i:Int))) v7 hM;refine⟨_,rfl,ρ2,e2,.ro (tupI w),v7',?_⟩;rw[e3,Fi,ew,uq];congr 1;simp
  .subst e;exact mO _ rfl ⟨_,_,_,_,rfl⟩
 refine bM _ e ?_;have el:lay x y=(uE (uV x.length x y) x.length [[]]).head?:=by unfold lay ED;rw[Z_ hl,HP,a2x]
 cases hh:uE (uV x.length x y) x.length [[]] with
 |nil =>
  rw[hh] at el;rw[el];exact mL (uU (gC (aN (x:=.int 0) (y:=.int 0) (cD rfl rfl) rfl dD) rfl) (eF rfl))
 |cons w L =>
  rw[hh] at el;rw[el];refine bM _ (mC (gC (aN (x:=.int ((L.length+1:Nat):Int)) (y:=.int 0) (cD rfl (by rw[fU,au,cy])) rfl dD) ?_) rfl) (eF (aN (y:=.int ((0:Nat):Int)) rfl rfl ?_))
  .rw [dM,Zy (by omega)]
  .rw [fQ,nV (by simp)];rfl
def nr(x:Q0a)(w:Q0e)(b:Int):List Int:=sortI ((row x b).map λa=>((w.idxOf a:Nat):Int))
def yZ(x:Q0a)(w:Q0e):List (List Int):=w.map (nr x w)
def qT(hx:Ord.Rows x)(hw:Full x.length w)(hi:i<x.length):b∈nr x w (at1 w i) ↔ ∃j:Nat,b=(j:Int)/\j<x.length/\at1 w j∈row x (at1 w i):=by
 have vi:=hw.at hi;unfold nr;rw[(sortI_perm _).mem_iff,de]
 constructor
 .rintro ⟨a,ha,rfl⟩;obtain⟨a0,a1⟩:=eG.1 (jW hx vi.1 vi.2 ha);have:=HR hw (a:=a.toNat) (by omega);rw[show((a.toNat:Nat):Int)=a by omega] at this;exact⟨_,rfl,this.1,by rw[this.2];exact ha⟩
 .rintro ⟨j,rfl,hj,h⟩;refine⟨_,h,?_⟩;have hl:j<w.length:=by rw[hw.len];exact hj
  have e:at1 w j=w[j]:=by unfold at1;rw[fg,ba hl];rfl
  rw[e,a4c hw.nd j hl]
def qU(hw:Full x.length w)(h:(yZ x w)[i]?=aa r):i<x.length/\r=nr x w (at1 w i):=by unfold yZ at h;rw[cf] at h;obtain⟨a,ea,rfl⟩:=iy.1 h;have hi:=(cg.1 ea).1;refine⟨by rw[<- hw.len];exact hi,?_⟩;unfold at1;rw[fg,ea];rfl
def qV{w:Q0e}(hw:Full x.length w):(yZ x w).length=x.length:=by unfold yZ;rw[au,hw.len]
def qW{w:Q0e}(hx:Ord.Rows x)(hw:Full x.length w):Ord.Rows (yZ x w):=by
 have hl:=qV hw;refine⟨λb r e=>?_,λb r e a ha=>?_,λb a r v e1 e2 e3 c hc=>?_,λb r e hb=>?_⟩
 .obtain ⟨hb,rfl⟩:=qU hw e;have vb:=hw.at hb;have nd:((row x (at1 w b)).map λa=>((w.idxOf a:Nat):Int)).Nodup:=by
   rw[yu,ox];refine Gg ?_ (hx.up _ _ (LL.HQ vb.1 vb.2));intro p q hp hq lt e;obtain⟨p0,p1⟩:=eG.1 (jW hx vb.1 vb.2 hp);obtain⟨q0,q1⟩:=eG.1 (jW hx vb.1 vb.2 hq);have ep:=(HR hw (a:=p.toNat) (by omega)).2;have eq:=(HR hw (a:=q.toNat) (by omega)).2;rw[show((p.toNat:Nat):Int)=p by omega] at ep;rw[show((q.toNat:Nat):Int)=q by omega] at eq;have:w.idxOf p=w.idxOf q:=by omega
   rw[this,eq] at ep;omega
  have nd2:(nr x w (at1 w b)).Nodup:=(sortI_perm _).nodup_iff.2 nd;exact((gI _).and nd2).imp λ{p q} hpq=>by have:=hpq.1;have:=hpq.2;omega
 .obtain ⟨hb,rfl⟩:=qU hw e;obtain⟨j,rfl,hj,_⟩:=(qT hx hw hb).1 ha;rw[hl];omega
 .obtain ⟨hb,rfl⟩:=qU hw e1;obtain⟨ha,rfl⟩:=qU hw e3;obtain⟨j,ej,hj,h1⟩:=(qT hx hw hb).1 e2;obtain⟨k,rfl,hk,h2⟩:=(qT hx hw ha).1 hc;have ej:a=j:=by omega
  subst ej;exact(qT hx hw hb).2 ⟨k,rfl,hk,fC.Qp hx (hw.at hb).1 (hw.at hb).2 h1 h2⟩
 .obtain ⟨hb2,rfl⟩:=qU hw e;obtain⟨j,ej,hj,h1⟩:=(qT hx hw hb2).1 hb;have ej:b=j:=by omega
  subst ej;have:=lJ hx (hw.at hb2).1 (hw.at hb2).2;unfold tyB at this;simp at this;exact this h1
def E8{w:Q0e}(hx:Ord.Rows x)(hn:x.length<=9)(hw:Full x.length w):g9 [aH x,aG w]=.ok (aH (yZ x w)):=by
 unfold g9;have hwl:=hw.len;refine eQ rfl (bM [.ro (aH x),.ro (aG w),.ow (.lst []),.no] rfl ?_);obtain⟨ρ',e,v3,rfl⟩:Nx (cL (aZ (aA 1)) (iY 3)
   (sX (nN 2 iI (bB (bP dF (aB (bP eM (aB (aV 1 [1] (aZ (aC bI (aA 0) (aA 3))) (g1 0) bO (aC RK (aA 1) (aA 0))) aF)) aF))))) [.ro (aH x),.ro (aG w),.ow (.lst []),.no]) (λρ=>∃v3,ρ=[Sv.ro (aH x),Sv.ro (aG w),Sv.ow (.lst ((yZ x w).map tupI)),v3]):=by
  refine mQ (w.map D.int) (λi ρ=>∃v3,ρ=[Sv.ro (aH x),Sv.ro (aG w),Sv.ow (.lst (((w.take i).map (nr x w)).map tupI)),v3]) rfl ⟨_,rfl⟩ ?_ λρ h=>by rw[au,Fg] at h;exact h
  rintro i d _ hd ⟨v3,rfl⟩;rw[cf] at hd;obtain⟨b,eb,rfl⟩:=iy.1 hd;have hi:=(cg.1 eb).1;obtain⟨b0,b1⟩:=eG.1 (hw.rng b (ik eb));have rl:=fC.RX hx b0 b1;refine⟨[.ro (aH x),.ro (aG w),.ow (.lst (((w.take i).map (nr x w)).map tupI)),.ro (.int b)],rfl,_,fC.qb (fC.RW (ρ1:=[.ro (aH x),.ro (aG w),.ow (.lst (((w.take i).map (nr x w)).map tupI)),.ro (.int b)]) (d:=tupI (nr x w b)) (ds0:=((w.take i).map (nr x w)).map tupI) (ds:=((w.take i).map (nr x w)).map tupI) rfl ?_ rfl (jT (by rw[au,au,jb];omega))),.ro (.int b),?_⟩
  .unfold bB;rw[cD (x:=.lst ((nr x w b).map D.int)) (z:=aa (tupI (nr x w b))) (cD (x:=.lst (((row x b).map λa=>((w.idxOf a:Nat):Int)).map D.int)) ?_ (sorted_ints (by rw[au];omega))) lG]
   .rfl
   .rw [show((row x b).map λa=>((w.idxOf a:Nat):Int)).map D.int=(row x b).map λa=>D.int ((w.idxOf a:Nat):Int) from by rw[bx];rfl];refine dH ((row x b).map D.int) ?_ (by rw[au];omega) (bW D.int (λa=>D.int ((w.idxOf a:Nat):Int)) _ λa ha=>⟨_,rfl,aN (x:=aG w) (y:=.int a) rfl rfl ?_⟩)
    .unfold aZ;rw[aN (x:=aH x) (y:=.int b) rfl rfl (iS b0 b1)];rfl
    .show (intsOf (w.map D.int)).bind _=_;rw[LL.dZ,cj,Z_];obtain⟨j,hj,ej⟩:=hw.sur (jW hx b0 b1 ha);rw[a2I,<- ej];exact vE hw hj
  .rw [Fi,eb,e_,e_];rfl
 exact bM _ e (eF (cD rfl rfl))
theorem LP:∀(ds:List D) (cur:Q0e),ds.length<=cur.length->cur.length<=16777216->(∀d∈ds,∀c:Q0e,c≠[]->c.length<=cur.length ->∃ρ1 k,g d (benv nl fr (bC (ρ.set i (.ow (.lst (c.map D.int))))))=aa ρ1/\e ρ1=aa (.int k)/\0<=k/\k<(c.length:Int)) ->
  ∃ys rest:Q0e,uB g e nl fr ρ i ds (cur.map D.int)=aa (ys.map D.int,rest.map D.int)/\(ys++rest).Perm cur/\ys.length=ds.length
 |[],cur,_,_,_=>⟨[],cur,rfl,a4a _,rfl⟩
 |d::ds,cur,h1,h2,h=>by
  rw[cy] at h1;obtain⟨ρ1,k,e1,e2,k0,k1⟩:=h d cp cur (λz=>by rw[z] at h1;simp at h1) (bj _);have hk:k.toNat<cur.length:=by omega
  have hy:cur[k.toNat]?=aa cur[k.toNat]:=ba hk;have el:(cur.eraseIdx k.toNat).length=cur.length-1:=List.length_eraseIdx_of_lt hk;obtain⟨ys,rest,e3,pm,yl⟩:=LP ds (cur.eraseIdx k.toNat) (by omega) (by omega) λd hd c hc hcl=>h d (dq _ hd) c hc (by omega);refine⟨cur[k.toNat]::ys,rest,?_,?_,by rw[cy,cy,yl]⟩
  .rw [uB,e1,cj,e2,cj,K0 k0 k1 h2 hy,cj,e3];rfl
  .rw [yr];exact(pm.cons _).trans (Ord.pG cur k.toNat _ hy)
def N4(h:(ys++rest).Perm (rg n))(hl:ys.length=n):Full n ys:=by
 have e:rest=[]:=by have:=h.length_eq;rw[ck,eX] at this;exact nq.1 (by omega)
 subst e;rw[jh] at h;exact⟨hl,h.nodup_iff.2 (lI n).nd,λa ha=>h.mem_iff.1 ha⟩
theorem TC{n:Nat}{ρ:bH}{i:Nat}{fr:List Nat}{it:AF}{e:EF}(hn:n<=9)(h0:ρ[i]?=aa (.ow (.lst ((rg n).map D.int))))(hi:it (gR ρ)=aa ((rg n).map D.int))
  (h:∀t∈rg n,∀c:Q0e,c≠[] ->∃ρ1 k,g1 0 (.int t) (benv 1 fr (bC (ρ.set i (.ow (.lst (c.map D.int))))))=aa ρ1/\e ρ1=aa (.int k)/\0<=k/\k<(c.length:Int)):
  ∃w,Full n w/\DR i 1 fr it (g1 0) e ρ=aa (ρ.set i (.ow (.lst [])),aG w):=by
 obtain⟨ys,rest,e1,pm,yl⟩:=LP (g:=g1 0) (e:=e) (nl:=1) (fr:=fr) (ρ:=ρ) (i:=i) ((rg n).map D.int) (rg n) (by rw[au];exact bj _) (by rw[eX];omega) λd hd c hc _=>by obtain⟨t,ht,rfl⟩:=de.1 hd;exact h t ht c hc
 rw[au,eX] at yl;have er:rest=[]:=by have:=pm.length_eq;rw[ck,eX] at this;exact nq.1 (by omega)
 refine⟨ys,N4 pm yl,?_⟩;unfold DR;rw[h0];show Option.bind (it (gR ρ)) _=_;rw[hi,cj,Z_ (by rw[au,eX];show n<=16777216;omega),e1,er];rfl
def B7(x:Q0a)(b:Int):List Int:=((fC.B x).filter λp=>Zv ((if p.1<p.2 then p.2 else p.1)=b)).map λp=>if p.2<p.1 then p.2 else p.1
def TH(x:Q0a)(w:Q0e):List Int:=(rg x.length).filter λb=>!w.contains b&&(B7 x b).all λa=>w.contains a
def aCR(hx:Ord.Rows x)(h:a∈B7 x b):0<=a/\a<b/\b<(x.length:Int):=by
 unfold B7 at h;obtain⟨p,hp,rfl⟩:=de.1 h;obtain⟨hB,e⟩:=dm.1 hp;have hT:=(dm.1 hB).1;obtain⟨t0,t1,t2⟩:=fC.zT.1 hT;obtain⟨r0,r1⟩:=eG.1 (jW hx t0 t1 t2);have ne:p.1≠p.2:=λz=>by have:=lJ hx t0 t1;unfold tyB at this;simp at this;rw[z] at t2;exact this t2
 have e:=of_decide_eq_true e;split<;>split at e<;>omega
def TJ(hx:Ord.Rows x)(h1:w.Nodup)(h2:∀a∈w,a∈rg x.length)(hw:w.length<x.length):TH x w≠[]:=by
 -- the least thing that is not in the word
 have key:∀m:Nat,m<=x.length->(∀a:Nat,a<m->(a:Int)∈w) \/∃b:Nat,b<m/\(b:Int)∉w /\∀a:Nat,a<b->(a:Int)∈w:=by
  intro m
  induction m with
  |zero=>intro _;exact .inl λa ha=>by omega
  |succ m ih =>
   intro hm;rcases ih (by omega) with h|⟨b,hb,h3,h4⟩
   .by_cases z:(m:Int)∈w
    .exact .inl λa ha=>by
      by_cases e:a=m
      .rw [e];exact z
      .exact h a (by omega)
    .exact .inr ⟨m,by omega,z,h⟩
   .exact .inr ⟨b,by omega,h3,h4⟩
 rcases key x.length (bj _) with h|⟨b,hb,h3,h4⟩
 .exfalso;have:=Ord.dW (rg x.length) w (lI _).nd λa ha=>by
   obtain⟨a0,a1⟩:=eG.1 ha;have:=h a.toNat (by omega)
   rwa [show((a.toNat:Nat):Int)=a by omega] at this
  rw[eX] at this;omega
 .intro z;have:(b:Int)∈TH x w:=by refine dm.2 ⟨eG.2 (by omega),?_⟩;rw[gn,gx];refine⟨by simpa using h3,λa ha=>?_⟩;obtain⟨a0,a1,_⟩:=aCR hx ha;have:=h4 a.toNat (by omega);rw[show((a.toNat:Nat):Int)=a by omega] at this;simpa using this
  rw[z] at this;cases this
def TK(h:f (bC ρ)=aa (aG ns)):kE i f ρ=.nx (ρ.set i (.ro (aG ns))):=by unfold kE;rw[h];exact Z_ (LL.nW ns)
def aCS(e0:ρ=[aa (.int b),aa (.lst ((fC.B x).map pairD))])(hl:(fC.B x).length<64):aV 2 [0] (aZ (aA 1)) (g2 0 1) (tV (aC qB (bP oM (aB (aA 0) (aB (aA 1) aF))) (aA 2))) (bP DO (aB (aA 0) (aB (aA 1) aF))) ρ=aa (aG (B7 x b)):=by subst e0;unfold aG B7;rw[bx];exact dH ((fC.B x).map pairD) rfl (by rw[au];omega) (cR pairD (λp=>Zv ((if p.1<p.2 then p.2 else p.1)=b)) (λp=>.int (if p.2<p.1 then p.2 else p.1)) (fC.B x) λp _=>⟨[aa (.int p.1),aa (.int p.2),aa (.int b)],rfl,gC (aN (YB rfl rfl rfl) rfl dD) rfl,λ_=>YB rfl rfl rfl⟩)
def Ah(x:Q0a)(w:Q0e):Prop:=∀u t r,w=u++t::r ->∀a∈B7 x t,a∈u
def Y9(h:Ah x w)(hb:∀a∈B7 x b,a∈w):Ah x (w++[b]):=by
 intro u t r e a ha;rcases Gb r with hr|⟨r',c,hr⟩
 .subst hr;obtain⟨e1,e2⟩:=yt e rfl;rw[<- e1];injection e2 with e2 _;rw[<- e2] at ha;exact hb a ha
 .subst hr;have e':w++[b]=(u++t::r')++[c]:=by rw[e];simp
  exact h u t r' (yt e' rfl).1 a ha
def w8(hx:Ord.Rows x)(hn:x.length<=9){dr:Q0e}(hd:x.length<=dr.length):∃w,Full x.length w/\Ah x w/\cH [aH x,aG dr]=.ok (aH (yZ x w)):=by
 have hB:(fC.B x).length<64:=ud (ic _ _) (fC.EI hx hn)
 let bd:D:=.lst ((fC.B x).map pairD)
 let ah:D:=.lst (((rg x.length).map (B7 x)).map aG)
 suffices h:∃d,cH [aH x,aG dr]=.ok d /\∃w,Full x.length w/\Ah x w/\d=aH (yZ x w) by obtain⟨d,e,w,hw,ha,rfl⟩:=h;exact⟨w,hw,ha,e⟩
 unfold cH;refine gG rfl ?_;refine a8 [.ro (aH x),.ro (aG dr),.ro bd,.no,.no,.no,.no] (cZ bd (eR rfl (z6 hx hn)) rfl) ?_;refine a8 [.ro (aH x),.ro (aG dr),.ro bd,.ro ah,.no,.no,.no] (cZ ah ?_ rfl) ?_
 .refine dH ((rg x.length).map D.int) (by rw[mR (n:=x.length) (cD rfl dS) (by omega),qS]) (by rw[au,eX];omega) ?_;rw[bx];exact bW D.int (λb=>aG (B7 x b)) (rg x.length) λb _=>⟨[aa (.int b),aa bd],rfl,aCS rfl hB⟩
 refine a8 [.ro (aH x),.ro (aG dr),.ro bd,.ro ah,.ow (.lst []),.no,.no] rfl ?_;refine gF (λρ=>∃w v5 v6,(Full x.length w/\Ah x w)/\ρ=[.ro (aH x),.ro (aG dr),.ro bd,.ro ah,.ow (aG w),v5,v6]) ?_ λρ ⟨w,v5,v6,⟨hw,hA⟩,e⟩=>?_
 .refine gY x.length (λi ρ=>∃w v5 v6,(w.length=i/\w.Nodup/\(∀a∈w,a∈rg x.length)/\Ah x w)/\ρ=[.ro (aH x),.ro (aG dr),.ro bd,.ro ah,.ow (aG w),v5,v6]) (args1 (cD rfl dS)) (by omega) ⟨[],_,_,⟨rfl,j7,(λa ha=>nomatch ha),λu t r e=>by simp at e⟩,rfl⟩ (λi ρ hi ⟨w,v5,v6,⟨w1,w2,w3,w4⟩,e⟩=>?_) λρ ⟨w,v5,v6,⟨w1,w2,w3,w4⟩,e⟩=>⟨w,v5,v6,⟨⟨w1,w2,w3⟩,w4⟩,e⟩;subst e;have hf:=TJ hx w2 w3 (by omega);refine⟨[.ro (aH x),.ro (aG dr),.ro bd,.ro ah,.ow (aG w),.ro (.int (i:Int)),v6],rfl,fG [.ro (aH x),.ro (aG dr),.ro bd,.ro ah,.ow (aG w),.ro (.int (i:Int)),.ro (aG (TH x w))] (TK ?_) ?_⟩
  .refine dH ((rg x.length).map D.int) (by rw[mR (n:=x.length) (cD rfl dS) (by omega),qS]) (by rw[au,eX];omega) ?_;refine cR D.int (λb=>!w.contains b&&(B7 x b).all λa=>w.contains a) D.int (rg x.length) λb hb=>⟨[aa (.int b),aa (aG w),aa ah],rfl,?_,λ_=>rfl⟩;obtain⟨b0,b1⟩:=eG.1 hb;refine DW (b:=!w.contains b) (gC (aN (x:=.int b) (y:=aG w) rfl rfl nU) rfl) (λh=>?_) (λh=>by rw[h];rfl);rw[h,lh];refine gC (d:=.bl _) (cD (x:=.lst (((B7 x b).map λa=>w.contains a).map D.bl)) ?_ vC) (by rw[dM,q_];rfl);have ha:(B7 x b).length<=64:=by unfold B7;rw[au];exact km (ud (ic _ _) hB)
   rw[show((B7 x b).map λa=>w.contains a).map D.bl=(B7 x b).map λa=>D.bl (w.contains a) from by rw[bx];rfl];refine dH ((B7 x b).map D.int) ?_ (by rw[au];omega) (bW D.int (λa=>D.bl (w.contains a)) (B7 x b) λa _=>⟨[aa (.int a),aa (aG w)],rfl,aN (x:=.int a) (y:=aG w) rfl rfl nU⟩);unfold aZ;rw[aN (x:=ah) (y:=.int b) (z:=aa (aG (B7 x b))) rfl rfl ?_]
   .rfl
   .show bI (.lst (((rg x.length).map (B7 x)).map aG)) (.int b)=_;rw[fQ,fZ,fZ,show b=((b.toNat:Nat):Int) by omega,nV (by rw[eX];omega)];unfold rg;rw[cf,js (by omega)];rfl
  .have hl:0<((TH x w).length:Int):=by have:=a2s.2 hf;omega
   obtain⟨dv,hdv⟩:∃dv,dr[i]?=aa dv:=⟨dr[i]'(by omega),ba (by omega)⟩;have m0:=jk dv (show((TH x w).length:Int)≠0 by omega);have m1:=k_ dv hl;obtain⟨b,hb,eb,_⟩:=pL (xs:=TH x w) m0 m1;obtain⟨br,bo⟩:=dm.1 hb;have bw:b∉w:=by rw[gn] at bo;simpa using bo.1
   refine⟨_,fC.qb (fC.RW (ρ1:=[.ro (aH x),.ro (aG dr),.ro bd,.ro ah,.ow (aG w),.ro (.int (i:Int)),.ro (aG (TH x w))]) (d:=.int b) (ds0:=w.map D.int) (ds:=w.map D.int) rfl ?_ rfl (jT (by rw[au];omega))),w++[b],.ro (.int (i:Int)),.ro (aG (TH x w)),⟨by rw[ck,w1];rfl,ko.2 ⟨w2,by simp,λa ha c hc z=>by rw[cm] at hc;subst hc;subst z;exact bw ha⟩,(λa ha=>?_),Y9 w4 λa ha=>?_⟩,?_⟩
   .unfold bB;rw[aN (x:=aG (TH x w)) (y:=.int (dv%((TH x w).length:Int))) (z:=aa (.int b)) rfl (aN (x:=.int dv) (y:=.int ((TH x w).length:Int)) (aN (x:=aG dr) (y:=.int (i:Int)) rfl rfl (by unfold aG;rw[fQ];exact gH hdv)) (cD rfl (by unfold aG;rw[fU,au])) (cJ hl)) (by unfold aG;rw[fQ,fZ,eb];rfl)];rfl
   .rcases gu.1 ha with ha|ha
    .exact w3 a ha
    .rw [cm] at ha;subst ha;exact br
   .rw [gn] at bo;have:=gx.1 bo.2 a ha;simpa using this
   .unfold aG;rw[e_];rfl
 .subst e;exact eW (aH (yZ x w)) (bN rfl rfl (E8 hx hn hw)) ⟨w,hw,hA,rfl⟩
def ZA(hx:Ord.Rows x)(hn:x.length<=9):∃y,Ord.Rows y/\y.length=x.length/\y=yW.zS x.length ((T x).map λp=>((x.length:Int)-1-p.2,(x.length:Int)-1-p.1))/\y=Ord.turn (Ord.flip x):=by
 have fl:=Ord.EH x;have rg:∀p∈yW.d7 x x.length,0<=p.1/\p.1<(x.length:Int)/\0<=p.2/\p.2<(x.length:Int):=λp hp=>by obtain⟨h0,h1,h2⟩:=yW.kI.mp hp;obtain⟨q1,q2⟩:=hx.rng _ _ (yW.iZ h0 h1) _ h2;exact⟨q1,q2,h0,h1⟩
 have p:=yW.mV (yW.d7 x x.length);have nd:((T x).map λp=>((x.length:Int)-1-p.2,(x.length:Int)-1-p.1)).Nodup:=pw _ (λa b hab e=>hab (by
  have e1:=congrArg kl e;have e2:=congrArg ya e;simp only at e1 e2;exact jz (by omega) (by omega))) (wo hx)
 have hr:∀q∈(T x).map λp=>((x.length:Int)-1-p.2,(x.length:Int)-1-p.1),0<=q.1/\q.1<(x.length:Int):=λq hq=>by obtain⟨t,ht,rfl⟩:=de.mp hq;have:=rg t (p.mem_iff.mp ht);simp only;omega
 have e:=yW.RV nd hr (R:=λa b=>Ord.rel x (x.length-1-b) (x.length-1-a)) λa c ha hc=>by
  rw[<- yW.wL (by omega),show((x.length-1-a:Nat):Int)=(x.length:Int)-1-(a:Int) by omega,show((x.length-1-c:Nat):Int)=(x.length:Int)-1-(c:Int) by omega,de,<- p.mem_iff]
  constructor
  .rintro ⟨t,ht,e⟩;have e1:=congrArg kl e;have e2:=congrArg ya e;simp only at e1 e2;have:t=((x.length:Int)-1-(c:Int),(x.length:Int)-1-(a:Int)):=jz (by show t.1=_;omega) (by show t.2=_;omega);rw[<- this];exact ht
  .intro ht;exact⟨_,ht,jz (by show _-(_-_)=_;omega) (by show _-(_-_)=_;omega)⟩
 have e1:Ord.can x.length (λa b=>Ord.rel x (x.length-1-b) (x.length-1-a))=Ord.turn (Ord.flip x):=Ord.NU fl.symm λa b ha hb=>by rw[fl,Ord.RU (by omega) (by omega)]
 exact⟨Ord.turn (Ord.flip x),hx.flip.turn,by rw[Ord.EG,fl],by rw[e,e1],rfl⟩
def E9{a:EF}{ρ:dC}{n:Nat}(ha:a ρ=aa (.int (n:Int)))(hn:n<=9):pB (aB a aF) ρ=aa (.lst ((rg n).map D.int)):=by unfold pB;rw[args1 ha];show(if((n:Int)).natAbs<=16777216 then aa (D.lst ((a9 0 ((n:Int)).toNat).map D.int)) else ab)=_;rw[Z_ (by omega),jt,qS]
def Ca{i:Nat}{f:EF}{ρ:bH}{d:D}(h:f (gR ρ)=aa d):iQ i f ρ=.nx (ρ.set i (.ow d)):=by unfold iQ;rw[h]
def Zo{i:Nat}{f:XF}{ρ ρ':bH}{d:D}(h:f ρ=aa (ρ',d)):jS i f ρ=.nx (ρ'.set i (.ro d)):=by unfold jS;rw[h]
def Zn{ρ:dC}{dr c:Q0e}{t:Int}{f g:EF}(hf:f ρ=aa (aG dr))(hg:g ρ=aa (.int t))(h1:aA 1 ρ=aa (.lst (c.map D.int)))(hc:c≠[])(t0:0<=t)(t1:t<(dr.length:Int)):∃k,aC fB (aC bI f g) (bP bT (aB (aA 1) aF)) ρ=aa (.int k)/\0<=k/\k<(c.length:Int):=by
 have hl:0<(c.length:Int):=by have:=a2s.2 hc;omega
 obtain⟨v,_,ev,_⟩:=pL (xs:=dr) t0 t1;exact⟨v%(c.length:Int),aN (x:=.int v) (y:=.int (c.length:Int)) (aN (x:=aG dr) (y:=.int t) hf hg (by unfold aG;rw[fQ,fZ,ev];rfl)) (cD h1 (by rw[fU,au])) (cJ hl),jk _ (by omega),k_ _ hl⟩
theorem Zm{n:Nat}{P:List (Int×Int)}{ρ:dC}(hn:n<=9)(hl:P.length<64)(h6:aA 6 ρ=aa (.int (n:Int)))(hb:benv 1 [11] ρ=[ab,aa (.lst (P.map pairD))]):
  bP dF (aB (aV 1 [11] (aQ (aB (aA 6) aF)) (g1 0) bO (bP dF (aB (bP eM (aB (aV 2 [0] (aZ (aA 1)) (g2 0 1) (tV (aC qB (aA 1) (aA 2))) (aA 0)) aF)) aF))) aF) ρ=aa (aH (yW.zS n P)):=by
 have hc0:gS (g1 0) bO (bP dF (aB (bP eM (aB (aV 2 [0] (aZ (aA 1)) (g2 0 1) (tV (aC qB (aA 1) (aA 2))) (aA 0)) aF)) aF)) (benv 1 [11] ρ) ((a9 0 n).map D.int)=aa ((a9 0 n).map λc:Int=>tupI (sortI ((P.filter λp:Int×Int=>Zv (p.2=c)).map kl))):=by
  rw[hb];refine bW D.int (λc:Int=>tupI (sortI ((P.filter λp:Int×Int=>Zv (p.2=c)).map kl))) (a9 0 n) λc hc=>⟨[aa (.int c),aa (.lst (P.map pairD))],rfl,?_⟩;refine cD (x:=aG (sortI ((P.filter λp=>Zv (p.2=c)).map kl))) (cD (dH (P.map pairD) rfl (by rw[au];omega) (cR pairD (λp=>Zv (p.2=c)) (λp=>D.int p.1) P λp _=>⟨[aa (.int p.1),aa (.int p.2),aa (.int c)],rfl,gC (aN (x:=.int p.2) (y:=.int c) rfl rfl dD) rfl,λ_=>rfl⟩)) ?_) rfl;have hlen:((P.filter λp=>Zv (p.2=c)).map kl).length<64:=by rw[au];exact ud (ic _ _) hl
  have:=sorted_ints hlen;rw[bx] at this;exact this
 refine cD (dH ((a9 0 n).map D.int) (mR h6 (by omega)) (by rw[au,aT];omega) hc0) ?_;unfold yW.zS aH;rw[bx];rfl
def Zl(ns:Q0e){mo:Int}(hmo:mo=5\/mo=6):∃x y:Q0a,Ord.Rows x/\Ord.Rows y/\x.length<=9/\y.length<=9/\nY [.jD ns,.int 0,.int mo,.int 100003]=.ok (.tup [aH x,aH y]):=by
 suffices h:∃d,nY [.jD ns,.int 0,.int mo,.int 100003]=.ok d /\∃x y:Q0a,(Ord.Rows x/\Ord.Rows y/\x.length<=9/\y.length<=9)/\d=.tup [aH x,aH y] by obtain⟨d,e,x,y,⟨a,b,c,dd⟩,rfl⟩:=h;exact⟨x,y,a,b,c,dd,e⟩
 unfold nY;obtain⟨c1,ec1⟩:=jU ns 0;obtain⟨xs,xl,x0,ex⟩:=iL c1 2 100003 (by decide) (by decide);obtain⟨w0,w1,rfl⟩:∃a b,xs=[a,b]:=by
  match xs,xl with
  |[a,b],_=>exact⟨a,b,rfl⟩
 obtain⟨_,ed,x,lx,rx,rfl⟩:=DZ ns 1 mo 120014 (by omega) (by omega);have hn:x.length<=6:=by omega
 obtain⟨c3,ec3⟩:=jU ns 3;obtain⟨dr,dl,d0,edr⟩:=iL c3 (x.length:Int) 140012 (by omega) (by omega);have dl:dr.length=x.length:=by omega
 obtain⟨u,hu,_,eu⟩:=w8 rx (by omega) (dr:=dr) (by omega);refine gG rfl ?_;refine a8 [.ro (.jD ns),.ro (.int 0),.ro (.int mo),.ro (.int 100003),.ro (aG [w0,w1]),.no,.no,.no,.no,.no,.no,.no] (cZ _ (gZ (bN rfl rfl ec1) rfl rfl ex) rfl) ?_;refine a8 [.ro (.jD ns),.ro (.int 0),.ro (.int mo),.ro (.int 100003),.ro (aG [w0,w1]),.ro (aH x),.no,.no,.no,.no,.no,.no] (cZ _ (pM rfl rfl rfl rfl ed) rfl) ?_;refine a8 [.ro (.jD ns),.ro (.int 0),.ro (.int mo),.ro (.int 100003),.ro (aG [w0,w1]),.ro (aH x),.ro (.int (x.length:Int)),.no,.no,.no,.no,.no] (cZ _ (cD rfl dS) rfl) ?_;refine a8 [.ro (.jD ns),.ro (.int 0),.ro (.int mo),.ro (.int 100003),.ro (aG [w0,w1]),.ro (aH x),.ro (.int (x.length:Int)),.ro (aG dr),.no,.no,.no,.no] (cZ _ (gZ (bN rfl rfl ec3) rfl rfl edr) rfl) ?_
 let st:List (List Int)->Sv->Sv->Sv->bH:=λy v9 v10 v11=>[.ro (.jD ns),.ro (.int 0),.ro (.int mo),.ro (.int 100003),.ro (aG [w0,w1]),.ro (aH x),.ro (.int (x.length:Int)),.ro (aG dr),.ro (aH y),v9,v10,v11]
 refine a8 (st (yZ x u) .no .no .no) (cZ _ (bN rfl rfl eu) rfl) ?_;have hw:∀y v9 v10 v11,aC fB (aC bI (aA 4) (eC (.int 0))) (eC (.int 8)) (bC (st y v9 v10 v11))=aa (.int (w0%8)):=λy v9 v10 v11=>aN (x:=.int w0) (y:=.int 8) (aN (x:=aG [w0,w1]) (y:=.int 0) rfl rfl rfl) rfl (cJ (by decide))
 let Q:bH->Prop:=λρ=>∃y v9 v10 v11,(Ord.Rows y/\y.length<=9)/\ρ=st y v9 v10 v11
 have q0:Q (st (yZ x u) .no .no .no):=⟨_,_,_,_,⟨qW rx hu,by rw[qV hu];omega⟩,rfl⟩;refine gF Q (uC (Zv (2<w0%8)) (gC (aN (hw _ _ _ _) rfl iE) rfl) (λ_=>?_) λ_=>mP q0) λρ ⟨y,v9,v10,v11,hy,e⟩=>?_
 ·-- any row
  refine fG (st (yZ x u) (.ow (.lst ((rg x.length).map D.int))) .no .no) (Ca (E9 rfl (by omega))) ?_;obtain⟨w,hw,ew⟩:=TC (n:=x.length) (ρ:=st (yZ x u) (.ow (.lst ((rg x.length).map D.int))) .no .no) (i:=9) (fr:=[9,7]) (it:=aQ (aB (aA 6) aF)) (e:=aC fB (aC bI (aA 2) (aA 0)) (bP bT (aB (aA 1) aF))) (by omega) rfl (by rw[mR (n:=x.length) rfl (by omega),qS]) λt ht c hc=>by obtain⟨t0,t1⟩:=eG.1 ht;obtain⟨k,e,k0,k1⟩:=Zn (ρ:=[aa (.int t),aa (.lst (c.map D.int)),aa (aG dr)]) (f:=aA 2) (g:=aA 0) (dr:=dr) (c:=c) (t:=t) rfl rfl rfl hc t0 (by omega);exact⟨_,k,rfl,e,k0,k1⟩
  refine fG (st (yZ x u) (.ow (.lst [])) (.ro (aG w)) .no) (Zo ew) (mO (aH (yZ x w)) (bN rfl rfl (E8 rx (by omega) hw)) ⟨yZ x w,_,_,_,⟨qW rx hw,by rw[qV hw];omega⟩,rfl⟩)
 subst e;refine gF Q (uC (Zv (w0%8=4)||Zv (w0%8=5)) (YC (gC (aN (hw _ _ _ _) rfl dD) rfl) (λh=>by rw[h,yz];exact gC (aN (hw _ _ _ _) rfl dD) rfl) (λh=>by rw[h];rfl)) (λ_=>?_) λ_=>mP ⟨y,v9,v10,v11,hy,rfl⟩) λρ ⟨y,v9,v10,v11,hy,e⟩=>?_
 ·-- turned and upside down
  obtain⟨z,rz,lz,ez,_⟩:=ZA rx (by omega);obtain⟨w,hw2,_,ew⟩:=w8 rz (by omega) (dr:=dr) (by omega);have hT:(T x).length<64:=fC.EI rx (by omega)
  let P:=(T x).map λp=>((x.length:Int)-1-p.2,(x.length:Int)-1-p.1)
  refine fG (st y v9 v10 (.ro (.lst (P.map pairD)))) (cZ _ (yW.Wg (λp=>((x.length:Int)-1-p.2,(x.length:Int)-1-p.1)) (l:=T x) (by omega) (by unfold aZ;rw[eR (x:=aH x) rfl (zU rx (by omega))];rfl) λp _=>rfl) rfl) ?_;refine fG (st z v9 v10 (.ro (.lst (P.map pairD)))) (cZ (aH z) ?_ rfl) (mO (aH (yZ z w)) (bN rfl rfl ew) ⟨yZ z w,_,_,_,⟨qW rz hw2,by rw[qV hw2];omega⟩,rfl⟩);rw[ez];exact Zm (by omega) (by rw[au];exact hT) rfl rfl
 subst e;refine gF Q (uC (Zv (5<w0%8)) (gC (aN (hw _ _ _ _) rfl iE) rfl) (λ_=>?_) λ_=>mP ⟨y,v9,v10,v11,hy,rfl⟩) λρ ⟨y,v9,v10,v11,hy,e⟩=>?_
 ·-- any order
  obtain⟨_,ed4,z,lz,rz,rfl⟩:=DZ ns 4 mo 160016 (by omega) (by omega);refine fG (st z v9 v10 v11) (cZ (aH z) (pM rfl rfl rfl rfl ed4) rfl) ?_;refine uC (Zv (w1%2=1)) (gC (aN (x:=.int (w1%2)) (y:=.int 1) (aN (x:=.int w1) (y:=.int 2) (aN (x:=aG [w0,w1]) (y:=.int 1) rfl rfl rfl) rfl (cJ (by decide))) rfl dD) rfl) (λ_=>?_) λ_=>mP ⟨z,v9,v10,v11,⟨rz,by omega⟩,rfl⟩;obtain⟨c5,ec5⟩:=jU ns 5;obtain⟨d5,Iu,_,ed5⟩:=iL c5 45 180024 (by decide) (by decide);have ht:Ord.tri x.length<=Ord.tri 6:=Ord.HK hn;have h15:Ord.tri 6=15:=by decide
  obtain⟨_,eo,t,lt,rt',rfl⟩:=DY d5 x.length 2 (by omega) (by have:d5.length=45:=Iu;omega);exact mO (aH t) (gZ (gZ (bN rfl rfl ec5) rfl rfl ed5) rfl rfl eo) ⟨t,v9,v10,v11,⟨rt',by omega⟩,rfl⟩
 .subst e;exact eW (.tup [aH x,aH y]) rfl ⟨x,y,⟨rx,hy.1,by omega,hy.2⟩,rfl⟩
def Wb(hf:f ρ=aa (aG dr))(hg:g ρ=aa (.int t))(t0:0<=t)(t1:t<(dr.length:Int))(hm:0<m):∃k,aC fB (aC bI f g) (eC (.int m)) ρ=aa (.int k):=by obtain⟨v,_,ev,_⟩:=pL (xs:=dr) t0 t1;exact⟨v%m,aN (x:=.int v) (y:=.int m) (aN (x:=aG dr) (y:=.int t) hf hg (by unfold aG;rw[fQ,fZ,ev];rfl)) rfl (cJ hm)⟩
def Wa(h1:f (gR ρ)=aa v)(h2:ρ[i]?=aa (.ow (.gA ks ds)))(h3:k (bC ρ)=aa kd)(h4:uS kd=aa kk)(h5:iH ks ds kk=ab)(h6:ds.length<mF):vS i (bB f) k ρ=.nx (ρ.set i (.ow (.gA (ks++[kk]) (ds++[v])))):=by unfold vS bB;rw[h1];simp only[cj,oo,h2,sF,h3,h4,h5,a16,true_and];rw[Z_ h6]
theorem LQ:∀r:Q0a,sC (r.map tupI)=ae
 |[]=>rfl
 |a::r=>by rw[bp,sC,LQ r,za];show sC (a.map D.int)=ae;exact LL.nW a
def Aw(h:f (gR ρ)=aa (.tup [a,b])):yT (bB f) (KP 1 2) ρ=.nx ((ρ.set 1 (.ro a)).set 2 (.ro b)):=by unfold yT bB;rw[h];rfl
def ZC(hx:Ord.Rows x)(hn:x.length<=9)(h:lay x y=aa v):v.length<=9:=by
 unfold lay at h;split at h
 .have:=(RS h).len;omega
 .cases h
end
end kB
namespace sA
open L3 L4
def d9:iP:=dA 2 2
  (bE (KO (tV (aC X3 (aA 1) (bP bT (aB (aA 0) aF)))) (aC bI (aA 0) (aA 1)) (eC (.int 0))))
def eA:iP:=dA 4 2
  (aJ (aY 2 (bP oM (aB (bP bT (aB (aA 0) aF)) (aB (bP bT (aB (aA 1) aF)) aF))))
  (aJ (cL (aQ (aB (aA 2) aF)) (iY 3)
   (fY (tV (aC G6 (aL d9 (aB (aA 0) (aB (aA 3) aF))) (aL d9 (aB (aA 1) (aB (aA 3) aF)))))
    (bE (aA 3))
    dG))
  (bE (eC .non))))
def eZ:iP:=dA 4 2
  (aJ (aY 2 (aL kB.m3 (aB (aA 0) (aB (aA 1) aF))))
  (aJ (fY (tV (aC BH (aA 2) (eC .non)))
   (bE (cB (aB (eC (.str "alike")) (aB (aA 2) aF))))
   dG)
  (aJ (aY 3 (aL eA (aB (aL LL.dN (aB (aA 0) aF)) (aB (aL LL.dN (aB (aA 1) aF)) aF))))
  (aJ (fY (tV (aC XW (aA 3) (eC .non)))
   (bE (cB (aB (eC (.str "same")) aF)))
   dG)
  (bE (cB (aB (eC (.str "apart")) (aB (aA 3) aF))))))))
open YS LL kB
section
variable{x y:Q0a}
def w9(hx:Ord.Rows x)(hn:x.length<=9):∀r∈x,r.length<=9:=λr hm=>gb (hx.short hm) hn
end
end sA
namespace K10
open L3 L4 YS LL
section
variable{x:Q0a}
def Qj{n i:Nat}(hn:n<=9)(hi:i<=9):Y2 n i<=362880:=by
 have h:∀(n:Fin 10) (i:Fin 10),Y2 n i<=362880:=by decide
 exact h ⟨n,by omega⟩ ⟨i,by omega⟩
def B_{i:Nat}(hx:x.length<=9)(hi:i<=9):(gls x i).length<=362880:=gb (LM i) (Qj hx hi)
def N5{α β:Type}(f:α->List β)(L:List α)(j:Nat):((L.take j).flatMap f).length<=(L.flatMap f).length:=by
 have e:L.flatMap f=(L.take j).flatMap f++(L.drop j).flatMap f:=by rw[<- uq,Fh]
 rw[e,ck];omega
def ZD(hx:x.length<=9)(hrw:∀r∈x,r.length<=9):jK [aH x]=.ok (.lst ((gls x x.length).map tupI)):=by
 unfold jK;have pb:∀i,i<=9->(gls x i).length<=362880:=λi hi=>B_ hx hi;have main:Rt ((aJ (aY 1 (fE (aB (cB aF) aF)))
  (aJ (cL (aQ (aB (bP bT (aB (aA 0) aF)) aF)) (iY 2)
   (aJ (iQ 3 (fE aF))
   (aJ (cL (aZ (aA 1)) (iY 4)
    (cL (aQ (aB (bP bT (aB (aA 0) aF)) aF)) (iY 5)
     (fY (kD (tV (aC (jO ae) (aA 5) (aA 4))) (tV (bP allM (aB (aV 1 [4] (aZ (aC bI (aA 0) (aA 5))) (g1 0) bO (aC (jO af) (aA 0) (aA 1))) aF))))
      (sX (nN 3 iI (bB (aC bL (aA 4) (cB (aB (aA 5) aF))))))
      dG)))
   (RD 3 (aY 1 (aA 3))))))
  (bE (aA 1)))) (eO 6 [aH x])) λd=>d=.lst ((gls x x.length).map tupI):=by
  refine a8 [.ro (aH x),.ro (.lst ((gls x 0).map tupI)),.no,.no,.no,.no] rfl ?_;refine gF (λρ=>∃v2 v3 v4 v5,ρ=[.ro (aH x),.ro (.lst ((gls x x.length).map tupI)),v2,v3,v4,v5]) ?_ λρ ⟨v2,v3,v4,v5,e⟩=>by subst e;exact eW _ rfl rfl
  refine gY x.length (λi ρ=>∃v2 v3 v4 v5,ρ=[.ro (aH x),.ro (.lst ((gls x i).map tupI)),v2,v3,v4,v5]) (args1 (cD rfl dS)) (by omega) ⟨_,_,_,_,rfl⟩ (λi ρ hi ⟨v2,v3,v4,v5,e⟩=>?_) λρ h=>h;subst e;refine⟨[.ro (aH x),.ro (.lst ((gls x i).map tupI)),.ro (.int i),v3,v4,v5],rfl,?_⟩;refine fG [.ro (aH x),.ro (.lst ((gls x i).map tupI)),.ro (.int i),.ow (.lst []),v4,v5] rfl ?_;refine wJ (λρ=>∃v4 v5,ρ=[.ro (aH x),.ro (.lst ((gls x i).map tupI)),.ro (.int i),.ow (.lst ((gls x (i+1)).map tupI)),v4,v5]) ?_ λρ hq1=>by obtain⟨v4,v5,e⟩:=hq1;subst e;exact mO (i:=1) (f:=aA 3) (ρ:=[.ro (aH x),.ro (.lst ((gls x i).map tupI)),.ro (.int i),.ro (.lst ((gls x (i+1)).map tupI)),v4,v5]) _ rfl ⟨_,_,_,_,rfl⟩
  have hlen:=pb i (by omega);refine mQ ((gls x i).map tupI) (λj ρ=>∃v4 v5,ρ=[.ro (aH x),.ro (.lst ((gls x i).map tupI)),.ro (.int i),.ow (.lst ((((gls x i).take j).flatMap λw=>lM x w x.length).map tupI)),v4,v5]) rfl ⟨_,_,rfl⟩ (λj d ρ hd ⟨v4,v5,e⟩=>?_) λρ ⟨v4,v5,e⟩=>⟨v4,v5,by rw[e,au,oq (bj _)];rfl⟩;subst e;rw[cf] at hd;obtain⟨w,hw,rfl⟩:=iy.1 hd;have hj:j<(gls x i).length:=(cg.1 hw).1;have hwl:=SG i w (ik hw);refine⟨[.ro (aH x),.ro (.lst ((gls x i).map tupI)),.ro (.int i),.ow (.lst ((((gls x i).take j).flatMap λw=>lM x w x.length).map tupI)),.ro (tupI w),v5],rfl,?_⟩;generalize hA:((gls x i).take j).flatMap (λw=>lM x w x.length)=A;have hAl:A.length<=362880:=by rw[<- hA];exact gb (N5 _ _ _) (pb (i+1) (by omega))
  have hnext:((gls x i).take (j+1)).flatMap (λw=>lM x w x.length)=A++lM x w x.length:=by rw[ue,hw,uq,hA];simp
  rw[hnext];refine gY x.length (λb ρ=>∃v5,ρ=[.ro (aH x),.ro (.lst ((gls x i).map tupI)),.ro (.int i),.ow (.lst ((A++lM x w b).map tupI)),.ro (tupI w),v5]) (args1 (cD rfl dS)) (by omega) ⟨v5,by unfold lM rdU;simp[a9]⟩ (λb ρ hb ⟨v5,e⟩=>?_) λρ ⟨v5,e⟩=>⟨_,v5,e⟩;subst e;refine⟨[.ro (aH x),.ro (.lst ((gls x i).map tupI)),.ro (.int i),.ow (.lst ((A++lM x w b).map tupI)),.ro (tupI w),.ro (.int b)],rfl,?_⟩;have hrow:row x (b:Int)∈x:=by unfold row;rw[show((b:Int)).toNat=b from jt b,ba hb];exact mf _
  refine uC (!w.contains (b:Int)&&(row x b).all λl=>w.contains l) ?_ (λhc=>?_) λhc=>?_
  .refine DW (b:=!w.contains (b:Int)) (gC (aN rfl rfl lH) rfl) (λh=>?_) λh=>by rw[h];rfl
   rw[h,lh];refine gC (d:=.bl ((row x b).all λl=>w.contains l)) (cD (x:=.lst (((row x b).map λl=>w.contains l).map D.bl)) ?_ ?_) rfl
   .rw [bx];have hrl:=hrw _ hrow;refine dH ((row x b).map D.int) ?_ (by rw[au];omega) ?_
    .unfold aZ;rw[aN (g:=bI) (a:=aA 0) (b:=aA 5) (x:=aH x) (y:=.int b) rfl rfl (iS (by omega) (by omega))];rfl
    .exact bW D.int (λl=>.bl (w.contains l)) _ λl _=>⟨[aa (.int l),aa (tupI w)],rfl,aN rfl rfl lH⟩
   .rw [vC];simp[q_,a4d]
  .refine ⟨_,Ax (d:=tupI (w++[(b:Int)])) (ds:=(A++lM x w b).map tupI) ?_ rfl (by rw[au,ck];have:(lM x w b).length<=b:=(by unfold lM;rw[au];exact YX w b);omega),.ro (.int b),?_⟩
   .refine aN (x:=tupI w) (y:=tupI [(b:Int)]) rfl rfl ?_;unfold tupI;rw[qJ (by simp;omega),e_]
   .have e6:lM x w (b+1)=lM x w b++[w++[(b:Int)]]:=by unfold lM;rw[EV,Z_ hc,e_];rfl
    rw[e6,<- mj,e_ (l₁:=A++lM x w b)];rfl
  .refine mP ⟨.ro (.int b),?_⟩;have e6:lM x w (b+1)=lM x w b:=by unfold lM;rw[EV,Zz (by rw[hc];decide),jh]
   rw[e6]
 obtain⟨d,e,rfl⟩:=gG rfl main;exact e
end
end K10
namespace K52
open L3 L4
def gJ:iP:=dA 1 1
  (bE (aV 1 [0] (aQ (aB (aC gT (bP bT (aB (aA 0) aF)) (eC (.int 1))) aF)) (g1 0) (tV (aC uR (aC bI (aA 1) (aA 0)) (aC bI (aA 1) (aC bL (aA 0) (eC (.int 1)))))) (aA 0)))
def hJ:iP:=dA 3 1
  (aJ (aY 1 (bP bT (aB (aA 0) aF)))
  (aJ (aY 2 (aV 1 [] (aZ (aL LL.jK (aB (aA 0) aF))) (g1 0) bO (bP bT (aB (aL gJ (aB (aA 0) aF)) aF))))
  (bE (aV 1 [1,2] (aQ (aB (eC (.int 10)) aF)) (g1 0) bO (bP HC (aB (aV 1 [1,0] (aZ (aA 2)) (g1 0) bO (aL LL.jJ (aB (aC gT (aC gT (aC bL (aA 2) (aA 1)) (eC (.int 1))) (aA 0)) (aB (aA 1) aF)))) aF))))))
def fL:iP:=dA 6 2
  (aJ (aY 2 (aL kB.jM (aB (aA 0) (aB (aA 1) aF))))
  (aJ (fY (tV (aC BH (aA 2) (eC .non)))
   (bE (cB (aB (eC (.str "alike")) (aB (aA 2) aF))))
   dG)
  (aJ (aY 3 (aL hJ (aB (aA 0) aF)))
  (aJ (aY 4 (aL hJ (aB (aA 1) aF)))
  (aJ (cL (aQ (aB (eC (.int 10)) aF)) (iY 5)
   (fY (tV (aC G6 (aC bI (aA 3) (aA 5)) (aC bI (aA 4) (aA 5))))
    (bE (cB (aB (eC (.str "apart")) (aB (aA 5) aF))))
    dG))
  (bE (cB (aB (eC (.str "same")) aF))))))))
def hV:iP:=dA 7 3
  (aJ (zL 3)
  (aJ (cL (aQ (aB (bP bT (aB (aA 0) aF)) aF)) (iY 4)
   (aJ (aY 5 (fE aF))
   (aJ (cL (aQ (aB (aA 4) aF)) (iY 6)
    (fY (G9 (tV (aC X3 (aC bI (aA 1) (aA 6)) (aC bI (aA 1) (aA 4)))) (tV (aC qB (aC fB (aC bI (aA 2) (aC gT (aC bL (aC bL (eC (.int 20)) (aC mulM (eC (.int 3)) (aA 4))) (aA 4)) (aA 6))) (eC (.int 2))) (eC (.int 1)))))
     (kE 5 (aC BI (aA 5) (aV 1 [5] (aZ (aC bL (aC l7 (aA 3) (aC bI (aA 0) (aA 6))) (fE (aB (aC bI (aA 0) (aA 6)) aF)))) (g1 0) (tV (aC (jO ae) (aA 0) (aA 1))) (aA 0))))
     dG))
   (vS 3 (bB (aA 5)) (aC bI (aA 0) (aA 4))))))
  (bE (bP dF (aB (aV 1 [3] (aQ (aB (bP bT (aB (aA 0) aF)) aF)) (g1 0) bO (bP dF (aB (bP eM (aB (aC l7 (aA 1) (aA 0)) aF)) aF))) aF)))))
def kO:iP:=dA 10 1
  (aJ (aY 1 (aL LL.dB (aB (aL LL.dY (aB (aA 0) (aB (eC (.int 7)) aF))) (aB (eC (.int 64)) (aB (eC (.int 600011)) aF)))))
  (aJ (aY 2 (aC bL (eC (.int 6)) (aC fB (aC bI (aA 1) (eC (.int 0))) (eC (.int 4)))))
  (aJ (iQ 3 (RE (pB (aB (aA 2) aF))))
  (aJ (cL (aQ (aB (aC fB (aC bI (aA 1) (eC (.int 1))) (eC (.int 4))) aF)) (iY 4)
   (aJ (aY 5 (aC fB (aC bI (aA 1) (aC bL (eC (.int 2)) (aA 4))) (aC gT (aA 2) (eC (.int 1)))))
   (yT (jR (cB (aB (aC bI (aA 3) (aC bL (aA 5) (eC (.int 1)))) (aB (aC bI (aA 3) (aA 5)) aF)))) (RF (yS 3 (aA 5)) (yS 3 (aC bL (aA 5) (eC (.int 1))))))))
  (aJ (iQ 6 (fE (aB (eC (.int 0)) aF)))
  (aJ (cL (aQ (aB (eC (.int 1)) (aB (aA 2) aF))) (iY 7)
   (aJ (jS 8 (jR (mq (aC uR (aC fB (aC bI (aA 1) (aC bL (eC (.int 10)) (aA 7))) (eC (.int 4))) (eC (.int 0))) (aC uR (aC BK (aA 6) (aC bI (aA 6) (sE (eC (.int 1))))) (eC (.int 2))))))
   (sX (nN 6 iI (jR (aC bL (aC bI (aA 6) (sE (eC (.int 1)))) (bP vR (aB (aA 8) aF))))))))
  (aJ (jS 9 (jR (aL hV (aB (aA 3) (aB (aA 6) (aB (aA 1) aF))))))
  (aJ (fY (tV (aC qB (aC fB (aC bI (aA 1) (eC (.int 6))) (eC (.int 4))) (eC (.int 1))))
   (bE (cB (aB (aA 9) (aB (aL kB.cH (aB (aA 9) (aB (aL LL.dB (aB (aL LL.dY (aB (aA 0) (aB (eC (.int 8)) aF))) (aB (aA 2) (aB (eC (.int 700001)) aF)))) aF))) aF))))
   dG)
  (aJ (aY 5 (aC fB (aC bI (aA 1) (eC (.int 7))) (aC gT (aA 2) (eC (.int 1)))))
  (aJ (yT (jR (cB (aB (aC bI (aA 3) (aC bL (aA 5) (eC (.int 1)))) (aB (aC bI (aA 3) (aA 5)) aF)))) (RF (yS 3 (aA 5)) (yS 3 (aC bL (aA 5) (eC (.int 1))))))
  (bE (cB (aB (aA 9) (aB (aL hV (aB (aA 3) (aB (aA 6) (aB (aA 1) aF)))) aF))))))))))))))
def z7:iP:=dA 3 1
  (aJ (yT (bB (aL kB.nY (aB (aA 0) (aB (eC (.int 0)) (aB (eC (.int 5)) (aB (eC (.int 100003)) aF)))))) (KP 1 2))
  (aJ (fY (tV (aC qB (aC fB (aC bI (aL LL.dB (aB (aL LL.dY (aB (aA 0) (aB (eC (.int 6)) aF))) (aB (eC (.int 1)) (aB (eC (.int 400009)) aF)))) (eC (.int 0))) (eC (.int 8))) (eC (.int 3))))
   (yT (bB (aL kO (aB (aA 0) aF))) (KP 1 2))
   dG)
  (aJ (fY (sD (tV (aL (LL.eP 6) (aB (aL sA.eZ (aB (aA 1) (aB (aA 2) aF))) (aB (aL fL (aB (aA 1) (aB (aA 2) aF))) aF)))))
   (bE (eC (.bl af)))
   dG)
  (bE (aL (LL.eP 6) (aB (aL sA.eZ (aB (aA 2) (aB (aA 1) aF))) (aB (aL fL (aB (aA 2) (aB (aA 1) aF))) aF)))))))
open YS LL kB
def TL(i:Int)(m:Nat):a9 i (m+1)=i::a9 (i+1) m:=by
 unfold a9;rw[ou,bp,bx];congr 1
 .omega
 .exact gf λk _=>by show i+((k+1:Nat):Int)=i+1+(k:Int);omega
theorem z8{g:Q1}{b:SF}{P:bH->Prop}{c:Nat->Bool}{dd:Nat->D}:∀(m i:Nat) (ρ:bH),P ρ ->
  (∀j ρ,i<=j->j<i+m->P ρ ->∃ρ1,g (.int (j:Int)) ρ=aa ρ1/\(c j=ae->b ρ1=.rt (dd j))/\(c j=af ->∃ρ2,b ρ1=.nx ρ2/\P ρ2)) ->
  (∃j,i<=j/\j<i+m/\c j=ae/\(∀k,i<=k->k<j->c k=af)/\eJ g b ((a9 (i:Int) m).map D.int) ρ=.rt (dd j))\/((∀k,i<=k->k<i+m->c k=af) /\∃ρ',eJ g b ((a9 (i:Int) m).map D.int) ρ=.nx ρ'/\P ρ')
 |0,i,ρ,h0,_=>.inr ⟨λk h1 h2=>by omega,ρ,rfl,h0⟩
 |m+1,i,ρ,h0,step=>by
  obtain⟨ρ1,e1,s1,s2⟩:=step i ρ (bj i) (by omega) h0;have el:∀o,b ρ1=o->eJ g b ((a9 (i:Int) (m+1)).map D.int) ρ=match o with | .nx ρ2=>eJ g b ((a9 ((i:Int)+1) m).map D.int) ρ2|o=>o:=λo e=>by rw[TL,bp];show(match g (.int (i:Int)) ρ with|none=>Out.no|some ρ1=>match b ρ1 with | .nx ρ2=>eJ g b ((a9 ((i:Int)+1) m).map D.int) ρ2|o=>o)=_;rw[e1,<- e]
  cases hc:c i with
  |true=>exact .inl ⟨i,bj i,by omega,hc,λk h1 h2=>by omega,by rw[el _ (s1 hc)]⟩
  |false =>
   obtain⟨ρ2,e2,p2⟩:=s2 hc;rw[el _ e2];rcases z8 m (i+1) ρ2 p2 λj ρ h1 h2=>step j ρ (by omega) (by omega) with⟨j,h1,h2,h3,h4,h5⟩|⟨h1,ρ',h2,h3⟩
   .exact .inl ⟨j,by omega,by omega,h3,λk k1 k2=>by
     by_cases z:k=i
     .subst z;exact hc
     .exact h4 k (by omega) k2,h5⟩
   .exact .inr ⟨λk k1 k2=>by
     by_cases z:k=i
     .subst z;exact hc
     .exact h1 k (by omega) (by omega),ρ',h2,h3⟩
theorem FA{t:AF}{g:Q1}{b:SF}{ρ:bH}{P:bH->Prop}{c:Nat->Bool}{dd:Nat->D}(n:Nat)(h:t (gR ρ)=aa [.int (n:Int)])(hn:n<4611686018427387904)(h0:P ρ)
  (step:∀j ρ,j<n->P ρ ->∃ρ1,g (.int (j:Int)) ρ=aa ρ1/\(c j=ae->b ρ1=.rt (dd j))/\(c j=af ->∃ρ2,b ρ1=.nx ρ2/\P ρ2)):
  (∃j,j<n/\c j=ae/\(∀k,k<j->c k=af)/\cL (aQ t) g b ρ=.rt (dd j))\/((∀k,k<n->c k=af) /\∃ρ',cL (aQ t) g b ρ=.nx ρ'/\P ρ'):=by
 have e:cL (aQ t) g b ρ=eJ g b ((a9 ((0:Nat):Int) n).map D.int) ρ:=by unfold cL aQ;rw[h,cj,mN hn];rfl
 rw[e];rcases z8 n 0 ρ h0 (λj ρ _ h2=>step j ρ (by omega)) with⟨j,_,h2,h3,h4,h5⟩|⟨h1,h2⟩
 .exact .inl ⟨j,by omega,h3,λk hk=>h4 k (by omega) hk,h5⟩
 .exact .inr ⟨λk hk=>h1 k (by omega) (by omega),h2⟩
theorem Bz:∀(a:Q0e) (d k:Nat),k<d->SV d a k=0
 |[],_,_,_=>rfl
 |s::a,d,k,h=>by show s*C k d+SV (d+1) a k=0;rw[Bz a (d+1) k (by omega),HW (by omega) (by omega)];omega
theorem IE:∀(m:Nat) (a:Q0e) (d k:Nat),k<d+m->SV d a k=((bh m).map λj=>a.getD j 0*C k (d+j)).sum
 |0,a,d,k,h=>Bz a d k (by omega)
 |m+1,[],d,k,h=>by
  have:((bh (m+1)).map λj=>([]:Q0e).getD j 0*C k (d+j))=(bh (m+1)).map λ_=>(0:Int):=gf λj _=>by simp
  rw[this,i6];rfl
 |m+1,s::a,d,k,h=>by show s*C k d+SV (d+1) a k=_;rw[IE m a (d+1) k (by omega),ou,bp,l_,bx];congr 1;refine congrArg a2k (gf λj _=>?_);show _=(s::a).getD (j+1) 0*C k (d+(j+1));rw[show d+(j+1)=d+1+j by omega];rfl
def wU{a b:Q0e}{k:Nat}(h:∀j,j<k->a.getD j 0=b.getD j 0):SV 0 a k-SV 0 b k=a.getD k 0-b.getD k 0:=by
 rw[IE (k+1) a 0 k (by omega),IE (k+1) b 0 k (by omega),Fq,e_,e_,yf,yf];have e:((bh k).map λj=>a.getD j 0*C (k:Int) (0+j))=(bh k).map λj=>b.getD j 0*C (k:Int) (0+j):=gf λj hj=>by rw[h j (d_.1 hj)]
 rw[e];show _+(a.getD k 0*C (k:Int) (0+k)+0)-(_+(b.getD k 0*C (k:Int) (0+k)+0))=_;rw[qq,Ci];omega
section
variable{x y:Q0a}
abbrev ct(x:Q0a)(k:Nat):Int:=DV x.length 0 (shares x) k
abbrev sx(x:Q0a)(k:Nat):Int:=(g6 x).getD k 0
def FC{k:Nat}(h:∀j,j<k->sx x j=sx y j):ct x k-ct y k=sx x k-sx y k:=by
 have:=wU (a:=g6 x) (b:=g6 y) h
 rwa [K25.EU,K25.EU] at this
def LR:∀k:Nat,(∀j,j<k->sx x j=sx y j) ->∀j,j<k->ct x j=ct y j:=λk h j hj=>by have:=FC (x:=x) (y:=y) (k:=j) λi hi=>h i (by omega);have:=h j hj;omega
def tH(x:Q0a):(g6 x).length=x.length+1:=by unfold g6;exact zW _ _ (mW _ _ _)
def By{k:Nat}(h:x.length<k):sx x k=0:=by show(g6 x).getD k 0=0;rw[fg,gg (by rw[tH];omega)];rfl
def V(x y:Q0a)(d:D):Prop:=(∃u,lay x y=aa u/\d=.tup [.str "alike",tupI u])\/(lay x y=ab/\((∃k:Nat,(k<10/\ct x k≠ct y k /\∀j,j<k->ct x j=ct y j)/\d=.tup [.str "apart",.int k])\/((∀k,k<10->ct x k=ct y k)/\d=.tup [.str "same"])))
def V_{d e:D}(h:V x y d)(h':V x y e):d=e:=by
 rcases h with⟨u,h1,rfl⟩|⟨h1,h⟩
 .rcases h' with⟨u',h2,rfl⟩|⟨h2,_⟩
  .rw [h1] at h2;cases h2;rfl
  .rw [h1] at h2;cases h2
 .rcases h' with⟨u',h2,_⟩|⟨_,h'⟩
  .rw [h1] at h2;cases h2
  .rcases h with⟨k,⟨a1,a2,a3⟩,rfl⟩|⟨a,rfl⟩<;>rcases h' with⟨m,⟨b1,b2,b3⟩,rfl⟩|⟨b,rfl⟩
   .have:k=m:=by
     rcases a2c k m with z|z|z
     .exact Zw (b3 k z) a2
     .exact z
     .exact Zw (a3 m z) b2
    rw[this]
   .exact Zw (b k a1) a2
   .exact Zw (a m b1) b2
   .rfl
def ZE(hx:Ord.Rows x)(hn:x.length<=9){d:D}(h:V x y d):wK 6 d:=by
 rcases h with⟨u,h1,rfl⟩|⟨_,⟨k,_,rfl⟩|⟨_,rfl⟩⟩
 .refine ⟨by show 2<=1000000;decide,λd hd=>?_⟩;rcases bz.1 hd with e|hd
  .rw [e];trivial
  .rw [cm.1 hd];exact HN (n:=3) (by have:=ZC hx hn h1;omega)
 .refine ⟨by show 2<=1000000;decide,λd hd=>?_⟩;rcases bz.1 hd with e|hd
  .rw [e];trivial
  .rw [cm.1 hd];trivial
 .exact ⟨by decide,λd hd=>by rw[cm.1 hd];trivial⟩
def FD{w:Q0e}{p:Nat}:sA.d9 [tupI w,.int p]=.ok (.int (w.getD p 0)):=by
 suffices h:∃d,sA.d9 [tupI w,.int p]=.ok d/\d=.int (w.getD p 0) by obtain⟨d,e,rfl⟩:=h;exact e
 unfold sA.d9;refine gG rfl ?_;have hc:tV (aC X3 (aA 1) (bP bT (aB (aA 0) aF))) (bC (eO 2 [tupI w,.int (p:Int)]))=aa (Zv ((p:Int)<w.length)):=gC (aN (x:=.int p) (y:=.int w.length) rfl (cD rfl (by unfold tupI;rw[jE,au])) nO) rfl;by_cases h:p<w.length
 .have e1:w.getD p 0=w[p]:=by rw[fg,ba h];rfl
  refine eW (.int w[p]) ?_ (by rw[e1]);unfold KO;rw[hc,Zx (by omega)];have e:bI (tupI w) (.int (p:Int))=aa (.int w[p]):=by unfold tupI;rw[lF];exact gH (ba h)
  show aC bI (aA 0) (aA 1) (bC (eO 2 [tupI w,.int (p:Int)]))=_;exact aN (x:=tupI w) (y:=.int (p:Int)) rfl rfl e
 .have e1:w.getD p 0=0:=by rw[fg,gg (by omega)];rfl
  refine eW (.int 0) ?_ (by rw[e1]);unfold KO;rw[hc,Zy (by omega)];rfl
def N6{v w:Q0e}(hv:v.length<=1000)(hw:w.length<=1000):(∃p:Nat,p<max v.length w.length/\v.getD p 0≠w.getD p 0/\(∀j,j<p->v.getD j 0=w.getD j 0)/\sA.eA [tupI v,tupI w]=.ok (.int p))\/((∀j,j<max v.length w.length->v.getD j 0=w.getD j 0)/\sA.eA [tupI v,tupI w]=.ok .non):=by
 have lt:∀(w:Q0e) (i:Nat) (ρ:dC),aA i ρ=aa (tupI w)->bP bT (aB (aA i) aF) ρ=aa (.int w.length):=λw i ρ h=>cD h (by unfold tupI;rw[jE,au])
 let n:=max v.length w.length
 have e0:aY 2 (bP oM (aB (bP bT (aB (aA 0) aF)) (aB (bP bT (aB (aA 1) aF)) aF))) (eO 4 [tupI v,tupI w])=.nx [.ro (tupI v),.ro (tupI w),.ro (.int (n:Int)),.no]:=by refine cZ (.int (n:Int)) (YB (lt v 0 _ rfl) (lt w 1 _ rfl) ?_) rfl;show aa (D.int (if(v.length:Int)<(w.length:Int) then(w.length:Int) else(v.length:Int)))=_;congr 2;split<;>omega
 have key:=FA (g:=iY 3) (b:=fY (tV (aC G6 (aL sA.d9 (aB (aA 0) (aB (aA 3) aF))) (aL sA.d9 (aB (aA 1) (aB (aA 3) aF))))) (bE (aA 3)) dG) (t:=aB (aA 2) aF) (ρ:=[.ro (tupI v),.ro (tupI w),.ro (.int (n:Int)),.no])
  (P:=λρ=>∃z,ρ=[.ro (tupI v),.ro (tupI w),.ro (.int (n:Int)),z]) (c:=λp=>Zv (v.getD p 0≠w.getD p 0)) (dd:=λp=>.int p) n (args1 rfl) (by omega) ⟨_,rfl⟩ λj ρ hj hq2=>by
   obtain⟨z,e⟩:=hq2;subst e;have et:tV (aC G6 (aL sA.d9 (aB (aA 0) (aB (aA 3) aF))) (aL sA.d9 (aB (aA 1) (aB (aA 3) aF)))) (bC [.ro (tupI v),.ro (tupI w),.ro (.int (n:Int)),.ro (.int (j:Int))])=aa (Zv (v.getD j 0≠w.getD j 0)) :=
    gC (aN (x:=.int (v.getD j 0)) (y:=.int (w.getD j 0)) (bN rfl rfl FD) (bN rfl rfl FD) lE) (by rw[dM];simp)
   refine⟨[.ro (tupI v),.ro (tupI w),.ro (.int (n:Int)),.ro (.int (j:Int))],rfl,λh=>uU (by rw[et,h]) rfl,λh=>⟨_,mC (by rw[et,h]) rfl,_,rfl⟩⟩
 rcases key with⟨j,h1,h2,h3,h4⟩|⟨h1,ρ',h2,z,rfl⟩
 .refine .inl ⟨j,h1,by simpa using h2,λi hi=>by simpa using h3 i hi,?_⟩;unfold sA.eA;refine eQ rfl ?_;unfold aJ;rw[e0];show(match cL _ _ _ _ with | .nx ρ'=>_|o=>o)=_;rw[h4]
 .refine .inr ⟨λi hi=>by simpa using h1 i hi,?_⟩;unfold sA.eA;refine eQ rfl ?_;unfold aJ;rw[e0];show(match cL _ _ _ _ with | .nx ρ'=>_|o=>o)=_;rw[h2];rfl
theorem Zk(hx:Ord.Rows x)(hy:Ord.Rows y)(hn:x.length<=9)(hm:y.length<=9):∃d,sA.eZ [aH x,aH y]=.ok d/\V x y d:=by
 unfold sA.eZ;refine gG rfl ?_;refine a8 [.ro (aH x),.ro (aH y),.ro (oW (lay x y)),.no] (cZ _ (bN rfl rfl (N2 hx hy hn hm)) rfl) ?_
 cases hl:lay x y with
 |some w=>exact qK (KZ ae (gC (d:=.bl ae) (aN (x:=tupI w) (y:=.non) rfl rfl rfl) rfl) (λ_=>eW _ rfl (.inl ⟨w,hl,rfl⟩)) λh=>by cases h)
 |none =>
  refine a8 [.ro (aH x),.ro (aH y),.ro .non,.no] (mC (gC (d:=.bl af) (aN (x:=.non) (y:=.non) rfl rfl rfl) rfl) rfl) ?_;have e1:=ER hn (sA.w9 hx hn);have e2:=ER hm (sA.w9 hy hm);have l1:=tH x;have l2:=tH y;rcases N6 (v:=g6 x) (w:=g6 y) (by omega) (by omega) with⟨p,h1,h2,h3,e⟩|⟨h1,e⟩
  .refine a8 [.ro (aH x),.ro (aH y),.ro .non,.ro (.int p)] (cZ _ (bN (eR rfl e1) (eR rfl e2) e) rfl) ?_;refine a8 [.ro (aH x),.ro (aH y),.ro .non,.ro (.int p)] (mC (gC (d:=.bl af) (aN (x:=.int p) (y:=.non) rfl rfl rfl) rfl) rfl) ?_;refine eW _ rfl (.inr ⟨hl,.inl ⟨p,⟨by omega,λz=>?_,LR p h3⟩,rfl⟩⟩);have:=FC (x:=x) (y:=y) (k:=p) h3;have h2:sx x p≠sx y p:=h2;omega
  .refine a8 [.ro (aH x),.ro (aH y),.ro .non,.ro .non] (cZ _ (bN (eR rfl e1) (eR rfl e2) e) rfl) ?_;refine qK (KZ ae (gC (d:=.bl ae) (aN (x:=.non) (y:=.non) rfl rfl rfl) rfl) (λ_=>eW _ rfl (.inr ⟨hl,.inr ⟨LR 10 λj hj=>?_,rfl⟩⟩)) λh=>by cases h);by_cases z:j<max (g6 x).length (g6 y).length
   .exact h1 j z
   .rw [By (x:=x) (by omega),By (x:=y) (by omega)]
def nZ{w:Q0e}(hw:w.length<=1000):gJ [tupI w]=.ok (aG (G8 w)):=by unfold gJ;exact eQ rfl (eF (Qk (.inl rfl) hw rfl rfl))
def TN{w:Q0e}(h:w∈gls x x.length):w.length=x.length/\((G8 w).length:Int)=dl (-1) w:=by obtain⟨h1,h2⟩:=nX h;exact⟨h1,Y1 λa ha=>((EX h2).2 a ha).1⟩
def z9(hx:Ord.Rows x)(hn:x.length<=9):hJ [aH x]=.ok (aG ((bh 10).map λk=>ct x k)):=by
 have hg:=K10.ZD hn (sA.w9 hx hn);have h9:=K10.B_ (x:=x) (i:=x.length) hn hn;unfold hJ
 let ms:List Int:=(gls x x.length).map λw=>((G8 w).length:Int)
 have lms:ms.length<=362880:=by show(yi _ _).length<=_;rw[au];exact h9
 refine eQ rfl (bM [.ro (aH x),.ro (.int x.length),.no] (cZ _ (cD rfl dS) rfl) (bM [.ro (aH x),.ro (.int x.length),.ro (aG ms)] (cZ (aG ms) ?_ rfl) (eF ?_)))
 .have e:aG ms=.lst ((gls x x.length).map λw=>D.int ((G8 w).length:Int)):=by unfold aG;rw[bx];rfl
  rw[e];refine dH ((gls x x.length).map tupI) (by unfold aZ;rw[eR (x:=aH x) rfl hg];rfl) (by rw[au];omega) (bW tupI (λw=>D.int ((G8 w).length:Int)) _ λw hw=>⟨[aa (tupI w)],rfl,cD (eR rfl (nZ (by have:=(TN hw).1;omega))) ?_⟩);unfold aG;rw[fU,au]
 .have e:aG ((bh 10).map λk=>ct x k)=.lst ((bh 10).map λk=>D.int (ct x k)):=by unfold aG;rw[bx];rfl
  rw[e];have er:aQ (aB (eC (.int 10)) aF) (bC [.ro (aH x),.ro (.int x.length),.ro (aG ms)])=aa ((bh 10).map λk:Nat=>D.int (k:Int)):=by rw[mR (n:=10) rfl (by decide)];rfl
  refine dH _ er (by simp) (bW (λk:Nat=>D.int (k:Int)) (λk=>D.int (ct x k)) (bh 10) λk hk=>⟨[aa (.int (k:Int)),aa (.int x.length),aa (aG ms)],rfl,?_⟩);have hk:=d_.1 hk;have ew:ct x k=(ms.map λd=>C ((k:Int)+x.length-1-d) x.length).sum:=by show DV x.length 0 (shares x) (k:Int)=_;rw[SM,bx];exact congrArg a2k (gf λw hw=>by show _=C ((k:Int)+x.length-1-((G8 w).length:Int)) x.length;rw[(TN hw).2])
  rw[ew];refine cD (x:=aG (ms.map λd=>C ((k:Int)+x.length-1-d) x.length)) ?_ sum_ints;have e2:aG (ms.map λd=>C ((k:Int)+x.length-1-d) x.length)=.lst (ms.map λd=>D.int (C ((k:Int)+x.length-1-d) x.length)):=by unfold aG;rw[bx];rfl
  rw[e2];refine dH (ms.map D.int) rfl (by rw[au];omega) (bW D.int (λd=>D.int (C ((k:Int)+x.length-1-d) x.length)) ms λd hd=>⟨[aa (.int d),aa (.int x.length),aa (.int (k:Int))],rfl,?_⟩);obtain⟨w,hw,rfl⟩:=de.1 hd;have l1:=Y0 w;have l2:=(TN hw).1;refine bN (x:=.int ((k:Int)+x.length-1-((G8 w).length:Int))) (y:=.int x.length) (aN (x:=.int ((k:Int)+x.length-1)) (y:=.int ((G8 w).length:Int)) (aN (x:=.int ((k:Int)+x.length)) (y:=.int 1) (aN (x:=.int (k:Int)) (y:=.int x.length) rfl rfl iJ) rfl iK) rfl iK) rfl (EN ?_ (by omega));unfold Bg;have:(1000:Nat)<2^210:=by decide+kernel
  omega
theorem N7(hx:Ord.Rows x)(hy:Ord.Rows y)(hn:x.length<=9)(hm:y.length<=9):∃d,fL [aH x,aH y]=.ok d/\V x y d:=by
 unfold fL;refine gG rfl ?_;refine a8 [.ro (aH x),.ro (aH y),.ro (oW (lay x y)),.no,.no,.no] (cZ _ (bN rfl rfl (E7 hx hy hn hm)) rfl) ?_
 cases hl:lay x y with
 |some w=>exact qK (KZ ae (gC (d:=.bl ae) (aN (x:=tupI w) (y:=.non) rfl rfl rfl) rfl) (λ_=>eW _ rfl (.inl ⟨w,hl,rfl⟩)) λh=>by cases h)
 |none =>
  let cs:List (List Int)->List Int:=λz=>(bh 10).map λk=>ct z k
  refine a8 [.ro (aH x),.ro (aH y),.ro .non,.no,.no,.no] (mC (gC (d:=.bl af) (aN (x:=.non) (y:=.non) rfl rfl rfl) rfl) rfl) ?_;refine a8 [.ro (aH x),.ro (aH y),.ro .non,.ro (aG (cs x)),.no,.no] (cZ _ (eR rfl (z9 hx hn)) rfl) ?_;refine a8 [.ro (aH x),.ro (aH y),.ro .non,.ro (aG (cs x)),.ro (aG (cs y)),.no] (cZ _ (eR rfl (z9 hy hm)) rfl) ?_;have at':∀(z:Q0a) (j:Nat),j<10->bI (aG (cs z)) (.int (j:Int))=aa (.int (ct z j)):=λz j hj=>by unfold aG;rw[fQ];refine gH ?_;show((bh 10).map λk=>ct z k)[j]?=_;rw[cf,js hj];rfl
  have key:=FA (g:=iY 5) (b:=fY (tV (aC G6 (aC bI (aA 3) (aA 5)) (aC bI (aA 4) (aA 5)))) (bE (cB (aB (eC (.str "apart")) (aB (aA 5) aF)))) dG) (t:=aB (eC (.int 10)) aF) (ρ:=[.ro (aH x),.ro (aH y),.ro .non,.ro (aG (cs x)),.ro (aG (cs y)),.no])
   (P:=λρ=>∃z,ρ=[.ro (aH x),.ro (aH y),.ro .non,.ro (aG (cs x)),.ro (aG (cs y)),z]) (c:=λp=>Zv (ct x p≠ct y p)) (dd:=λp=>.tup [.str "apart",.int p]) 10 (args1 rfl) (by decide) ⟨_,rfl⟩ λj ρ hj hq3=>by
    obtain⟨z,e⟩:=hq3;subst e;have et:tV (aC G6 (aC bI (aA 3) (aA 5)) (aC bI (aA 4) (aA 5))) (bC [.ro (aH x),.ro (aH y),.ro .non,.ro (aG (cs x)),.ro (aG (cs y)),.ro (.int (j:Int))])=aa (Zv (ct x j≠ct y j)) :=
     gC (aN (x:=.int (ct x j)) (y:=.int (ct y j)) (aN rfl rfl (at' x j hj)) (aN rfl rfl (at' y j hj)) lE) (by rw[dM];simp)
    refine⟨[.ro (aH x),.ro (aH y),.ro .non,.ro (aG (cs x)),.ro (aG (cs y)),.ro (.int (j:Int))],rfl,λh=>uU (by rw[et,h]) rfl,λh=>⟨_,mC (by rw[et,h]) rfl,_,rfl⟩⟩
  rcases key with⟨j,h1,h2,h3,h4⟩|⟨h1,ρ',h2,z,rfl⟩
  .refine qK ⟨_,h4,.inr ⟨hl,.inl ⟨j,⟨h1,by simpa using h2,λi hi=>by simpa using h3 i hi⟩,rfl⟩⟩⟩
  .exact a8 _ h2 (eW _ rfl (.inr ⟨hl,.inr ⟨λi hi=>by simpa using h1 i hi,rfl⟩⟩))
def FE{n:Nat}{word layers dr:Q0e}(hw:Full n word)(hn9:n<=9)(hll:layers.length=n)(drl:dr.length=64):∃x,Ord.Rows x/\x.length=n/\hV [aG word,aG layers,aG dr]=.ok (aH x):=by
 suffices h:∃d,hV [aG word,aG layers,aG dr]=.ok d /\∃x:Q0a,(Ord.Rows x/\x.length=n)/\d=aH x by obtain⟨d,e,x,⟨a,b⟩,rfl⟩:=h;exact⟨x,a,b,e⟩
 unfold hV;refine gG rfl ?_;refine a8 [.ro (aG word),.ro (aG layers),.ro (aG dr),.ow (.gA [] []),.no,.no,.no] rfl ?_;have hlw:=hw.len;have RO:=hw.nd;have hpw:word.Perm ((bh n).map λk:Nat=>(k:Int)):=tE hw;have HM:∀{us:Q0a} (t:Nat) (u:Q0e),Ord.Under word us t u->u.length<=n:=λ{us} t u h=>by rw[<- hlw];exact Ord.dW u word h.1 λa ha=>by obtain⟨s,_,_,h2,_⟩:=h.2 a ha;exact ik h2
 have lw:∀ρ:dC,aA 0 ρ=aa (aG word)->bP bT (aB (aA 0) aF) ρ=aa (.int (n:Int)):=λρ h=>cD h (by unfold aG;rw[fU,au,hlw])
 let st:D->Sv->Sv->Sv->bH:=λlow v6 v7 v8=>[.ro (aG word),.ro (aG layers),.ro (aG dr),.ow low,v6,v7,v8]
 refine gF (λρ=>∃(us:Q0a) (v6 v7 v8:Sv),us.length=n/\Ord.Good word us/\ρ=st (.gA (word.map bu) (us.map aG)) v6 v7 v8) ?_ ?_
 .refine gY n (λj ρ=>∃(us:Q0a) (v6 v7 v8:Sv),us.length=j/\Ord.Good word us/\ρ=st (.gA ((word.take j).map bu) (us.map aG)) v6 v7 v8) (args1 (lw _ rfl)) (by omega) ⟨[],_,_,_,rfl,(λt u e=>by simp at e),rfl⟩ ?_ ?_
  .rintro j _ hj ⟨us,v6,v7,v8,K1,hg,rfl⟩;refine⟨st (.gA ((word.take j).map bu) (us.map aG)) (.ro (.int (j:Int))) v7 v8,rfl,fG (st (.gA ((word.take j).map bu) (us.map aG)) (.ro (.int (j:Int))) (.ro (.lst [])) v8) rfl ?_⟩;refine wJ (λρ=>∃(u:Q0e) (v8:Sv),Ord.Under word us j u/\ρ=st (.gA ((word.take j).map bu) (us.map aG)) (.ro (.int (j:Int))) (.ro (aG u)) v8) ?_ ?_
   .refine gY j (λi ρ=>∃(u:Q0e) (v8:Sv),Ord.Under word us i u/\ρ=st (.gA ((word.take j).map bu) (us.map aG)) (.ro (.int (j:Int))) (.ro (aG u)) v8) rfl (by omega) ⟨[],_,⟨j7,λa ha=>(nomatch ha)⟩,rfl⟩ ?_ λρ h=>h;rintro i _ hi ⟨u,v8,hU,rfl⟩;obtain⟨x,hx⟩:∃x,word[i]?=aa x:=⟨_,ba (by omega)⟩;obtain⟨v,hv⟩:∃v,us[i]?=aa v:=⟨_,ba (by omega)⟩;have lv:=HM _ _ (hg i v hv);have lu:=HM _ _ hU
    let ρ2:bH:=st (.gA ((word.take j).map bu) (us.map aG)) (.ro (.int (j:Int))) (.ro (aG u)) (.ro (.int (i:Int)))
    have la:aC bI (aA 1) (aA 6) (bC ρ2)=aa (.int (at0 layers (i:Int))):=aN (x:=aG layers) (y:=.int (i:Int)) rfl rfl (tF (by omega) (by omega));have lb:aC bI (aA 1) (aA 4) (bC ρ2)=aa (.int (at0 layers (j:Int))):=aN (x:=aG layers) (y:=.int (j:Int)) rfl rfl (tF (by omega) (by omega));have eg:aC gT (aC bL (aC bL (eC (.int 20)) (aC mulM (eC (.int 3)) (aA 4))) (aA 4)) (aA 6) (bC ρ2)=aa (.int (20+3*(j:Int)+(j:Int)-(i:Int))) :=
     aN (x:=.int (20+3*(j:Int)+(j:Int))) (y:=.int (i:Int)) (aN (x:=.int (20+3*(j:Int))) (y:=.int (j:Int)) (aN (x:=.int 20) (y:=.int (3*(j:Int))) rfl (aN (x:=.int 3) (y:=.int (j:Int)) rfl rfl (mM (by decide))) iJ) rfl iJ) rfl iK
    obtain⟨k3,e3⟩:=Wb (ρ:=bC ρ2) (dr:=dr) (f:=aA 2) (t:=20+3*(j:Int)+(j:Int)-(i:Int)) (m:=2) rfl eg (by omega) (by omega) (by decide);refine⟨ρ2,rfl,?_⟩;refine uC (Zv (at0 layers (i:Int)<at0 layers (j:Int))||Zv (k3=1)) (YC (gC (aN la lb nO) rfl) (λh=>by rw[h,yz];exact gC (aN e3 rfl dD) rfl) (λh=>by rw[h];rfl)) (λ_=>?_) (λ_=>mP ⟨u,_,hU.mono (by omega),rfl⟩);have hf:=ic (λa=>!u.contains a) (v++[x]);have ex':aC bI (aA 0) (aA 6) (bC ρ2)=aa (.int x):=aN (x:=aG word) (y:=.int (i:Int)) rfl rfl (gH hx);have f2:aC bL (aC l7 (aA 3) (aC bI (aA 0) (aA 6))) (fE (aB (aC bI (aA 0) (aA 6)) aF)) (bC ρ2)=aa (.lst ((v++[x]).map D.int)):=by
     refine aN (x:=aG v) (y:=aG [x]) (aN (x:=.gA ((word.take j).map bu) (us.map aG)) (y:=.int x) rfl ex' ?_) ?_ ?_
     .show iH ((word.take j).map bu) (us.map aG) (bu x)=_;exact kG (a2O (Ff j word) RO) (DX hx hi) hv
     .unfold fE;rw[args1 ex'];rfl
     .unfold aG;rw[qI (by rw[au,au,md];omega),e_]
    have f3:aV 1 [5] (aZ (aC bL (aC l7 (aA 3) (aC bI (aA 0) (aA 6))) (fE (aB (aC bI (aA 0) (aA 6)) aF)))) (g1 0) (tV (aC (jO ae) (aA 0) (aA 1))) (aA 0) (bC ρ2)=aa (.lst (((v++[x]).filter λa=>!u.contains a).map D.int)) :=
     dH ((v++[x]).map D.int) (by unfold aZ;rw[f2];rfl) (by rw[au,ck,md];omega) (cR D.int (λa=>!u.contains a) D.int (v++[x]) λa _=>⟨[aa (.int a),aa (aG u)],rfl,gC (aN (x:=.int a) (y:=aG u) rfl rfl nU) rfl,λ_=>rfl⟩)
    have f4:aC BI (aA 5) (aV 1 [5] (aZ (aC bL (aC l7 (aA 3) (aC bI (aA 0) (aA 6))) (fE (aB (aC bI (aA 0) (aA 6)) aF)))) (g1 0) (tV (aC (jO ae) (aA 0) (aA 1))) (aA 0)) (bC ρ2)=aa (aG (u++(v++[x]).filter λa=>!u.contains a)):=by refine aN (x:=aG u) rfl f3 ?_;show BI (.lst (u.map D.int)) _=_;rw[DS (by simp only[au,ck,cy,me] at hf ⊢;omega),<- e_];rfl
    exact⟨_,TK f4,_,_,hU.step RO hg hx hv,rfl⟩
   .rintro _ ⟨u,v8,hU,rfl⟩;obtain⟨x,hx⟩:∃x,word[j]?=aa x:=⟨_,ba (by omega)⟩;refine⟨st (.gA ((word.take (j+1)).map bu) ((us++[u]).map aG)) (.ro (.int (j:Int))) (.ro (aG u)) v8,?_,us++[u],_,_,_,by simp[K1],hg.snoc (by rw[K1];exact hU),rfl⟩;have hno:iH ((word.take j).map bu) (us.map aG) (bu x)=ab:=sV λhm=>by
     obtain⟨t,ht⟩:=ni.mp hm;have htl:t<j:=by have:=(cg.mp ht).1;rw[jb] at this;omega
     rw[um htl] at ht;have:=Ord.pH RO ht hx;omega
    have e5:aC bI (aA 0) (aA 4) (bC (st (.gA ((word.take j).map bu) (us.map aG)) (.ro (.int (j:Int))) (.ro (aG u)) v8))=aa (.int x):=aN (x:=aG word) (y:=.int (j:Int)) rfl rfl (gH hx);rw[Wa (ks:=(word.take j).map bu) (ds:=us.map aG) (v:=aG u) (kd:=.int x) (kk:=bu x) rfl rfl e5 rfl hno (by rw[au];show us.length<16777216;omega)];rw[ue,hx,e_,e_];rfl
  .rintro _ ⟨us,v6,v7,v8,K1,hg,rfl⟩;exact⟨us,v6,v7,v8,K1,hg,by rw[oq (by omega)]⟩
 rintro _ ⟨us,v6,v7,v8,K1,hg,rfl⟩;have ec:∃rows:Q0a,rows.length=(bh n).length/\(∀(i:Nat) (b:Nat) (r:Q0e),(bh n)[i]?=aa b->rows[i]?=aa r ->∀(t:Nat) (u:Q0e),word[t]?=aa (b:Int)->us[t]?=aa u->r.Perm u/\r.Pairwise (· <= ·)) /\
   gS (g1 0) bO (bP dF (aB (bP eM (aB (aC l7 (aA 1) (aA 0)) aF)) aF)) [ab,aa (.gA (word.map bu) (us.map aG))] ((bh n).map λb:Nat=>D.int (b:Int))=aa (rows.map tupI):=by
  refine DU (λb:Nat=>D.int (b:Int)) tupI _ (bh n) λb hb=>?_;have hm:(b:Int)∈word:=hpw.mem_iff.mpr (de.mpr ⟨b,hb,rfl⟩);obtain⟨t,ht⟩:=ni.mp hm;obtain⟨u,hu2⟩:∃u,us[t]?=aa u:=⟨_,ba (by have:=(cg.mp ht).1;omega)⟩;have lu:=HM _ _ (hg t u hu2);refine⟨[aa (.int (b:Int)),aa (.gA (word.map bu) (us.map aG))],sortI u,rfl,?_,λt' u' e1 e2=>?_⟩
  .exact cD (x:=aG (sortI u)) (cD (x:=aG u) (aN (x:=.gA (word.map bu) (us.map aG)) (y:=.int (b:Int)) rfl rfl (kG RO ht hu2)) (sorted_ints (by omega))) rfl
  .have e:=Ord.pH RO e1 ht;subst e;rw[hu2] at e2;cases e2;exact⟨sortI_perm u,gI u⟩
 obtain⟨x,hr1,hr2,ec⟩:=ec;rw[jr] at hr1;have rx:Ord.Rows x:=hg.rows K1 hpw hr1 λb t r u e1 e2 e3=>hr2 b b r (by rw[js (by have:=(cg.mp e1).1;omega)]) e1 t u e2 e3;have e6:(a9 0 n).map D.int=(bh n).map λb:Nat=>D.int (b:Int):=by unfold a9;rw[bx];exact gf λb _=>by show D.int (0+(b:Int))=_;rw[jj]
 have e7:bP dF (aB (aV 1 [3] (aQ (aB (bP bT (aB (aA 0) aF)) aF)) (g1 0) bO (bP dF (aB (bP eM (aB (aC l7 (aA 1) (aA 0)) aF)) aF))) aF) (bC (st (.gA (word.map bu) (us.map aG)) v6 v7 v8))=aa (aH x) :=
  cD (dH ((a9 0 n).map D.int) (mR (n:=n) (lw _ rfl) (by omega)) (by rw[au,aT];omega) (by rw[e6];exact ec)) rfl
 exact eW (aH x) e7 ⟨x,⟨rx,hr1⟩,rfl⟩
def qX{n:Nat}{l m:Q0e}(h:Full n l)(p:m.Perm l):Full n m:=⟨by rw[p.length_eq,h.len],p.nodup_iff.2 h.nd,λa ha=>h.rng a (p.mem_iff.1 ha)⟩
def N8{n:Nat}{l:Q0e}(h:Full n l){A:Nat}(ha:A+1<n):Full n ((l.set A (at0 l ((A:Int)+1))).set (A+1) (at0 l (A:Int))):=by
 have hl:=h.len;have e:l=l.take A++l[A]::l[A+1]::l.drop (A+2):=by rw[<- pj (by omega),<- pj (by omega),Fh]
 have a0:at0 l (A:Int)=l[A]:=by unfold at0;rw[jt,ba (by omega)];rfl
 have a1:at0 l ((A:Int)+1)=l[A+1]:=by unfold at0;rw[show((A:Int)+1).toNat=A+1 by omega,ba (by omega)];rfl
 rw[a0,a1];generalize l[A]=p at e;generalize l[A+1]=q at e;have lt:(l.take A).length=A:=by rw[jb];omega
 generalize l.take A=u at e lt;generalize l.drop (A+2)=r at e;refine qX h ?_;rw[e,a2l _ _ (by omega),lt,yc,a2l _ _ (by omega),lt,Nat.add_sub_cancel_left];exact(a2M p q r).append_left u
theorem Au{i:Nat}{fk:EF}{ρ:bH}{l:Q0e}{k d:Int}(h0:l9 ρ[i]?=aa (l.map D.int))(hk:fk (bC ρ)=aa (.int k))(k0:0<=k)(k1:k<(l.length:Int)):
  yS i fk (.int d) ρ=aa (ρ.set i (.ow (aG (l.set k.toNat d)))):=by
 unfold yS;rw[h0,cj,hk,cj,show asInt (.int k)=aa k from rfl,cj,au,sS k0 k1];show aa (ρ.set i _)=aa (ρ.set i _);unfold aG;rw[List.map_set]
theorem LS{ns dr l:Q0e}{n:Nat}{v4 v6 v7 v8 v9:Sv}{A:Int}(h:Full n l)(a0:0<=A)(a1:A+1<(n:Int)):∃m,Full n m /\
  yT (jR (cB (aB (aC bI (aA 3) (aC bL (aA 5) (eC (.int 1)))) (aB (aC bI (aA 3) (aA 5)) aF)))) (RF (yS 3 (aA 5)) (yS 3 (aC bL (aA 5) (eC (.int 1))))) [.ro (.jD ns),.ro (aG dr),.ro (.int n),.ow (aG l),v4,.ro (.int A),v6,v7,v8,v9]=.nx [.ro (.jD ns),.ro (aG dr),.ro (.int n),.ow (aG m),v4,.ro (.int A),v6,v7,v8,v9]:=by
 have hl:=h.len;obtain⟨B,rfl⟩:∃B:Nat,A=(B:Int):=⟨A.toNat,by omega⟩;refine⟨_,N8 h (A:=B) (by omega),?_⟩;have et:cB (aB (aC bI (aA 3) (aC bL (aA 5) (eC (.int 1)))) (aB (aC bI (aA 3) (aA 5)) aF)) (bC [.ro (.jD ns),.ro (aG dr),.ro (.int n),.ow (aG l),v4,.ro (.int (B:Int)),v6,v7,v8,v9])=aa (.tup [.int (at0 l ((B:Int)+1)),.int (at0 l (B:Int))]) :=
  Qn (aN (x:=aG l) (y:=.int ((B:Int)+1)) rfl rfl (tF (by omega) (by omega))) (aN (x:=aG l) (y:=.int (B:Int)) rfl rfl (tF (by omega) (by omega)))
 have em:=Au (i:=3) (fk:=aA 5) (ρ:=[.ro (.jD ns),.ro (aG dr),.ro (.int n),.ow (aG l),v4,.ro (.int (B:Int)),v6,v7,v8,v9]) (l:=l) (k:=(B:Int)) (d:=at0 l ((B:Int)+1)) rfl rfl a0 (by omega);have em2:=Au (i:=3) (fk:=aC bL (aA 5) (eC (.int 1))) (ρ:=[.ro (.jD ns),.ro (aG dr),.ro (.int n),.ow (aG (l.set B (at0 l ((B:Int)+1)))),v4,.ro (.int (B:Int)),v6,v7,v8,v9]) (l:=l.set B (at0 l ((B:Int)+1))) (k:=(B:Int)+1) (d:=at0 l (B:Int)) rfl rfl (by omega) (by rw[gz];omega);rw[jt] at em;rw[show((B:Int)+1).toNat=B+1 by omega] at em2;unfold yT jR;rw[et,cj,Z_ (show(D.tup [.int (at0 l ((B:Int)+1)),.int (at0 l (B:Int))]).zJ=ae from rfl),cj];unfold RF t9;rw[cj,em,cj];show(match yS 3 (aC bL (aA 5) (eC (.int 1))) (.int (at0 l (B:Int))) [.ro (.jD ns),.ro (aG dr),.ro (.int n),.ow (aG (l.set B (at0 l ((B:Int)+1)))),v4,.ro (.int (B:Int)),v6,v7,v8,v9] with|some ρ'=>Out.nx ρ' | none=>.no)=_;rw[em2];rfl
def Bx{i:Nat}{f:EF}{ρ:bH}{d:D}(h:f (bC ρ)=aa d)(hd:d.zJ=ae):jS i (jR f) ρ=.nx (ρ.set i (.ro d)):=by unfold jS jR;rw[h,cj,Z_ hd]
def TQ{ds:List D}{d:D}:bI (.lst (ds++[d])) (.int (-1))=aa d:=by rw[fQ];unfold yN NJ;rw[Zz (by decide),Z_ (by rw[ck];simp;omega),cj,ck];show(ds++[d])[(-1+((ds.length+1:Nat):Int)).toNat]?=_;rw[show(-1+((ds.length+1:Nat):Int)).toNat=ds.length by omega];simp
def ZF(ns:Q0e):∃x y:Q0a,Ord.Rows x/\Ord.Rows y/\x.length<=9/\y.length<=9/\kO [.jD ns]=.ok (.tup [aH x,aH y]):=by
 suffices h:∃d,kO [.jD ns]=.ok d /\∃x y:Q0a,(Ord.Rows x/\Ord.Rows y/\x.length<=9/\y.length<=9)/\d=.tup [aH x,aH y] by obtain⟨d,e,x,y,⟨a,b,c,dd⟩,rfl⟩:=h;exact⟨x,y,a,b,c,dd,e⟩
 unfold kO;obtain⟨c7,ec7⟩:=jU ns 7;obtain⟨dr,drl,_,edr⟩:=iL c7 64 600011 (by decide) (by decide);have drl:dr.length=64:=drl;have dt:∀(ρ:dC) (f:EF) (j:Int),aA 1 ρ=aa (aG dr)->f ρ=aa (.int j)->0<=j->j<64->aC bI (aA 1) f ρ=aa (.int (at0 dr j)):=λρ f j e hf h0 h1=>aN (x:=aG dr) (y:=.int j) e hf (tF h0 (by omega));obtain⟨n,hn⟩:∃n:Nat,6+at0 dr 0%4=(n:Int):=⟨(6+at0 dr 0%4).toNat,by have:=jk (at0 dr 0) (show(4:Int)≠0 by decide);omega⟩;have n0:=jk (at0 dr 0) (show(4:Int)≠0 by decide);have n1:=k_ (at0 dr 0) (show(0:Int)<4 by decide);have hn9:n<=9:=by omega
 have hn6:6<=n:=by omega
 refine gG rfl ?_
 let st:Sv->Sv->Sv->Sv->Sv->Sv->Sv->bH:=λw k a l j f o=>[.ro (.jD ns),.ro (aG dr),.ro (.int (n:Int)),w,k,a,l,j,f,o]
 refine a8 [.ro (.jD ns),.ro (aG dr),.no,.no,.no,.no,.no,.no,.no,.no] (cZ _ (gZ (bN rfl rfl ec7) rfl rfl edr) rfl) ?_;refine a8 (st .no .no .no .no .no .no .no) (cZ (.int (n:Int)) (aN (x:=.int 6) (y:=.int (at0 dr 0%4)) rfl (aN (x:=.int (at0 dr 0)) (y:=.int 4) (dt _ _ 0 rfl rfl (by decide) (by decide)) rfl (cJ (by decide))) (by rw[iJ,hn])) rfl) ?_;have fr:Full n (rg n).reverse:=qX (lI n) (List.reverse_perm _);refine a8 (st (.ow (aG (rg n).reverse)) .no .no .no .no .no .no) ?_ ?_
 .refine Ca ?_;unfold RE;rw[E9 rfl hn9];show aa (D.lst ((rg n).map D.int).reverse)=_;unfold aG;rw[List.map_reverse]
 have am:∀(ρ:dC) (f:EF) (j:Int),aA 1 ρ=aa (aG dr)->aA 2 ρ=aa (.int (n:Int))->f ρ=aa (.int j)->0<=j->j<64 ->∃A:Int,(0<=A/\A+1<(n:Int))/\aC fB (aC bI (aA 1) f) (aC gT (aA 2) (eC (.int 1))) ρ=aa (.int A):=λρ f j e e2 hf h0 h1 =>
  ⟨at0 dr j%((n:Int)-1),⟨jk _ (by omega),by have:=k_ (at0 dr j) (show 0<(n:Int)-1 by omega);omega⟩,aN (dt ρ f j e hf h0 h1) (aN e2 rfl iK) (cJ (by omega))⟩
 -- the aEU
 refine gF (λρ=>∃w k a,Full n w/\ρ=st (.ow (aG w)) k a .no .no .no .no) ?_ λρ ⟨w,vk,va,hw,e⟩=>?_
 .have t0:=jk (at0 dr 1) (show(4:Int)≠0 by decide);have t1:=k_ (at0 dr 1) (show(0:Int)<4 by decide);refine gY (at0 dr 1%4).toNat (λ_ ρ=>∃w k a,Full n w/\ρ=st (.ow (aG w)) k a .no .no .no .no) (args1 (by rw[show(((at0 dr 1%4).toNat:Nat):Int)=at0 dr 1%4 by omega];exact aN (x:=.int (at0 dr 1)) (y:=.int 4) (dt _ _ 1 rfl rfl (by decide) (by decide)) rfl (cJ (by decide)))) (by omega) ⟨_,_,_,fr,rfl⟩ (λi ρ hi ⟨w,vk,va,hw,e⟩=>?_) λρ h=>h;subst e;obtain⟨A,⟨a0,a1⟩,ea⟩:=am (gR (st (.ow (aG w)) (.ro (.int (i:Int))) va .no .no .no .no)) (aC bL (eC (.int 2)) (aA 4)) (2+(i:Int)) rfl rfl rfl (by omega) (by omega);obtain⟨m,hm,em⟩:=LS (ns:=ns) (dr:=dr) (v4:=.ro (.int (i:Int))) (v6:=.no) (v7:=.no) (v8:=.no) (v9:=.no) hw a0 a1;exact⟨st (.ow (aG w)) (.ro (.int (i:Int))) va .no .no .no .no,rfl,fG (st (.ow (aG w)) (.ro (.int (i:Int))) (.ro (.int A)) .no .no .no .no) (cZ _ ea rfl) ⟨_,em,m,_,_,hm,rfl⟩⟩
 subst e
 -- the layers
 refine a8 (st (.ow (aG w)) vk va (.ow (aG [0])) .no .no .no) rfl ?_;refine gF (λρ=>∃l j f,l.length=n/\ρ=st (.ow (aG w)) vk va (.ow (aG l)) j f .no) ?_ λρ ⟨l,vj,vf,hl,e⟩=>?_
 .have er:aQ (aB (eC (.int 1)) (aB (aA 2) aF)) (gR (st (.ow (aG w)) vk va (.ow (aG [0])) .no .no .no))=aa ((a9 1 (n-1)).map D.int):=by rw[Wi (i:=1) (j:=(n:Int)) rfl rfl (by decide) (by omega),show((n:Int)-1).toNat=n-1 by omega]
  refine mQ ((a9 1 (n-1)).map D.int) (λi ρ=>∃l j f,l.length=i+1/\ρ=st (.ow (aG w)) vk va (.ow (aG l)) j f .no) er ⟨[0],_,_,rfl,rfl⟩ (λi d ρ hd ⟨l,vj,vf,hl,e⟩=>?_) λρ ⟨l,j,f,hl,e⟩=>⟨l,j,f,by rw[au,aT] at hl;omega,e⟩;subst e;have hi:i<n-1:=by
   have:=(cg.mp hd).1
   rwa [au,aT] at this
  rw[cf,jF hi] at hd;have hd:D.int (1+(i:Int))=d:=by simpa using hd
  subst hd
  let ρ1:=st (.ow (aG w)) vk va (.ow (aG l)) (.ro (.int (1+(i:Int)))) vf .no
  obtain⟨z,ez⟩:∃z,aC bI (aA 6) (sE (eC (.int 1))) (bC ρ1)=aa (.int z):=by
   rcases Gb l with e|⟨l',z,e⟩
   .rw [e] at hl;cases hl
   .refine ⟨z,aN (x:=aG l) (y:=.int (-1)) rfl rfl ?_⟩;rw[e];unfold aG;rw[List.concat_eq_append,e_];exact TQ
  obtain⟨b,eb⟩:∃b,mq (aC uR (aC fB (aC bI (aA 1) (aC bL (eC (.int 10)) (aA 7))) (eC (.int 4))) (eC (.int 0))) (aC uR (aC BK (aA 6) (aC bI (aA 6) (sE (eC (.int 1))))) (eC (.int 2))) (bC ρ1)=aa (.bl b):=by
   have g1:aC uR (aC fB (aC bI (aA 1) (aC bL (eC (.int 10)) (aA 7))) (eC (.int 4))) (eC (.int 0)) (bC ρ1)=aa (.bl (Zv (0<at0 dr (10+(1+(i:Int)))%4))):=aN (x:=.int (at0 dr (10+(1+(i:Int)))%4)) (y:=.int 0) (aN (x:=.int (at0 dr (10+(1+(i:Int))))) (y:=.int 4) (dt _ _ (10+(1+(i:Int))) rfl rfl (by omega) (by omega)) rfl (cJ (by decide))) rfl iE;unfold mq;rw[g1];by_cases q:0<at0 dr (10+(1+(i:Int)))%4
   .rw [Zx q];exact⟨ae,rfl⟩
   .rw [Zy q];refine⟨Zv (2<(lC l z:Int)),?_⟩;show aC uR _ _ _=_;refine aN (x:=.int (lC l z)) (y:=.int 2) (aN (x:=aG l) (y:=.int z) rfl ez ?_) rfl iE;show((intsOf (l.map D.int)).bind λns=>aa (D.int (lC ns z)))=_;rw[dZ];rfl
  let ρ2:=st (.ow (aG w)) vk va (.ow (aG l)) (.ro (.int (1+(i:Int)))) (.ro (.bl b)) .no
  have ez2:aC bI (aA 6) (sE (eC (.int 1))) (bC ρ2)=aa (.int z):=ez;refine⟨ρ1,rfl,fG ρ2 (Bx eb rfl) ⟨st (.ow (aG w)) vk va (.ow (aG (l++[z+if b=ae then 1 else 0]))) (.ro (.int (1+(i:Int)))) (.ro (.bl b)) .no,?_,_,_,_,by rw[ck,hl];rfl,rfl⟩⟩;have ev:aC bL (aC bI (aA 6) (sE (eC (.int 1)))) (bP vR (aB (aA 8) aF)) (bC ρ2)=aa (.int (z+if b=ae then 1 else 0)):=aN (x:=.int z) (y:=.int (if b=ae then 1 else 0)) ez2 (cD rfl rfl) iJ;have hx:jR (aC bL (aC bI (aA 6) (sE (eC (.int 1)))) (bP vR (aB (aA 8) aF))) ρ2=aa (ρ2,.int (z+if b=ae then 1 else 0)):=by unfold jR;rw[ev];rfl
  rw[fC.qb (fC.RW (ρ1:=ρ2) (ds0:=l.map D.int) (ds:=l.map D.int) rfl hx rfl (jT (by rw[au];omega)))];show Out.nx [.ro (.jD ns),.ro (aG dr),.ro (.int (n:Int)),.ow (aG w),vk,va,.ow (.lst (l.map D.int++[.int (z+if b=ae then 1 else 0)])),.ro (.int (1+(i:Int))),.ro (.bl b),.no]=_;show _=Out.nx [.ro (.jD ns),.ro (aG dr),.ro (.int (n:Int)),.ow (aG w),vk,va,.ow (aG (l++[z+if b=ae then 1 else 0])),.ro (.int (1+(i:Int))),.ro (.bl b),.no];unfold aG;rw[e_];rfl
 subst e;obtain⟨x,rx,lx,ex⟩:=FE hw hn9 hl drl;refine a8 (st (.ow (aG w)) vk va (.ow (aG l)) vj vf (.ro (aH x))) (Bx (gZ rfl rfl rfl ex) (LQ x)) ?_;obtain⟨c8,ec8⟩:=jU ns 8;obtain⟨mo,mol,_,emo⟩:=iL c8 (n:Int) 700001 (by omega) (by omega);obtain⟨u,hu,_,eu⟩:=w8 rx (by omega) (dr:=mo) (by omega);have e6:aC fB (aC bI (aA 1) (eC (.int 6))) (eC (.int 4)) (bC (st (.ow (aG w)) vk va (.ow (aG l)) vj vf (.ro (aH x))))=aa (.int (at0 dr 6%4)):=aN (x:=.int (at0 dr 6)) (y:=.int 4) (dt _ _ 6 rfl rfl (by decide) (by decide)) rfl (cJ (by decide));by_cases hk:at0 dr 6%4=1
 .refine qK (KZ ae (gC (aN e6 rfl dD) (by rw[dM,Zx hk])) (λ_=>?_) λh=>by cases h);exact eW (.tup [aH x,aH (yZ x u)]) (BR (args2 rfl (bN rfl (gZ (bN rfl rfl ec8) rfl rfl emo) eu)) (by simp)) ⟨x,yZ x u,⟨rx,qW rx hu,by omega,by rw[qV hu];omega⟩,rfl⟩
 .refine a8 (st (.ow (aG w)) vk va (.ow (aG l)) vj vf (.ro (aH x))) (mC (gC (aN e6 rfl dD) (by rw[dM,Zy hk])) rfl) ?_;obtain⟨A,⟨a0,a1⟩,ea⟩:=am (gR (st (.ow (aG w)) vk va (.ow (aG l)) vj vf (.ro (aH x)))) (eC (.int 7)) 7 rfl rfl rfl (by decide) (by decide);obtain⟨m,hm,em⟩:=LS (ns:=ns) (dr:=dr) (v4:=vk) (v6:=.ow (aG l)) (v7:=vj) (v8:=vf) (v9:=.ro (aH x)) hw a0 a1;refine a8 (st (.ow (aG w)) vk (.ro (.int A)) (.ow (aG l)) vj vf (.ro (aH x))) (cZ _ ea rfl) ?_;refine a8 (st (.ow (aG m)) vk (.ro (.int A)) (.ow (aG l)) vj vf (.ro (aH x))) em ?_;obtain⟨y,ry,ly,ey⟩:=FE hm hn9 hl drl;exact eW (.tup [aH x,aH y]) (BR (args2 rfl (gZ rfl rfl rfl ey)) (by simp)) ⟨x,y,⟨rx,ry,by omega,by omega⟩,rfl⟩
def TR(ns:Q0e)(hns:ns.length<=63):z7 [.jD ns]=.ok (.bl ae):=by
 unfold z7;obtain⟨x0,y0,rx0,ry0,lx0,ly0,e0⟩:=Zl ns (mo:=5) (.inl rfl);obtain⟨x1,y1,rx1,ry1,lx1,ly1,e1⟩:=ZF ns;obtain⟨c6,ec6⟩:=jU ns 6;obtain⟨d6,Ir,_,ed6⟩:=iL c6 1 400009 (by decide) (by decide);obtain⟨u,rfl⟩:∃u,d6=[u]:=by
  match d6,Ir with
  |[u],_=>exact⟨u,rfl⟩
 suffices h:∃d,dA 3 1 _ [.jD ns]=.ok d/\d=.bl ae by obtain⟨d,e,rfl⟩:=h;exact e
 refine gG rfl ?_;refine a8 [.ro (.jD ns),.ro (aH x0),.ro (aH y0)] (Aw (pM rfl rfl rfl rfl e0)) ?_;refine gF (λρ=>∃x y,(Ord.Rows x/\Ord.Rows y/\x.length<=9/\y.length<=9)/\ρ=[.ro (.jD ns),.ro (aH x),.ro (aH y)]) (uC (Zv (u%8=3)) (gC (aN (x:=.int (u%8)) (y:=.int 3) (aN (x:=.int u) (y:=.int 8) (aN (x:=aG [u]) (y:=.int 0) (gZ (bN rfl rfl ec6) rfl rfl ed6) rfl rfl) rfl (cJ (by decide))) rfl dD) rfl) (λ_=>⟨_,Aw (eR rfl e1),x1,y1,⟨rx1,ry1,lx1,ly1⟩,rfl⟩) λ_=>mP ⟨x0,y0,⟨rx0,ry0,lx0,ly0⟩,rfl⟩) λρ hq4=>?_;obtain⟨x,y,⟨rx,ry,lx,ly⟩,e⟩:=hq4;subst e;have go:∀{x y:Q0a},Ord.Rows x->Ord.Rows y->x.length<=9->y.length<=9 ->∃d,sA.eZ [aH x,aH y]=.ok d/\fL [aH x,aH y]=.ok d/\wK 6 d:=λ{x y} rx ry lx ly=>by obtain⟨d,h1,h2⟩:=Zk rx ry lx ly;obtain⟨e,h3,h4⟩:=N7 rx ry lx ly;have:=V_ h2 h4;subst this;exact⟨d,h1,h3,ZE rx lx h2⟩
 obtain⟨d,h1,h2,h3⟩:=go rx ry lx ly;obtain⟨e,g1,g2,g3⟩:=go ry rx ly lx;refine a8 [.ro (.jD ns),.ro (aH x),.ro (aH y)] (mC (tnE (b:=ae) (gC (bN (bN rfl rfl h1) (bN rfl rfl h2) (same_refl 6 d h3)) rfl) rfl) rfl) ?_;exact eW _ (bN (bN rfl rfl g1) (bN rfl rfl g2) (same_refl 6 e g3)) rfl
end
end K52
section
-- CHANGE: your row's module here,as the last of these rows
namespace L2
open PySem.Spec PyProof.Rows
abbrev Key:=Sum Int aj
noncomputable def AA:Key->ai->Bool
 |.inl k,v=>a0Z k v
 |.inr x,v=>a0Y x v
noncomputable def Qi(w:az):Key->Int
 |.inl k=>hashInt k
 |.inr x=>hashStr w x
theorem cU:∀{k:Key} {v:ai},AA k v=ae->(∃i t,k=bu i/\v=jv i t)\/(∃x t,k=ip x/\v=xm x t)
 |.inl i,v,h=>by obtain⟨t,e⟩:=Value.isInt_shape (k:=i) (v:=v) h;exact .inl ⟨i,t,rfl,e⟩
 |.inr x,v,h=>by obtain⟨t,e⟩:=Value.isStrOf_shape (x:=x) (v:=v) h;exact .inr ⟨x,t,rfl,e⟩
def N9(i:Int)(t:gy):AA (.inl i) (.int i t)=ae:=by simp[AA,a0Z]
def OA(x:aj)(t:gy):AA (.inr x) (.str x t)=ae:=by simp[AA,a0Y]
def Zj(a b:Int):Zv ((bu a:Key)=bu b)=(a == b):=by
 by_cases e:a=b
 .subst e;simp
 .have h:¬ (bu a:Key)=bu b:=λq=>e (xb q);rw[Zy h];exact(beq_eq_false_iff_ne.mpr e).symm
def Zi(a b:aj):Zv ((ip a:Key)=ip b)=Zv (a=b):=by
 by_cases e:a=b
 .subst e;simp
 .have h:¬ (ip a:Key)=ip b:=λq=>e (Cy q);rw[Zy h,Zy e]
def aC0(a:Int)(b:aj):Zv ((bu a:Key)=ip b)=af:=Zy (λq=>nomatch q)
def aC1(a:aj)(b:Int):Zv ((ip a:Key)=bu b)=af:=Zy (λq=>nomatch q)
def bA(prog:bf)(w:az):PySem.KeyKind prog w Key where
 is:=AA
 hash:=Qi w
 inj:=λv a b ha hb=>by
  rcases cU ha with⟨i,t,rfl,rfl⟩|⟨x,t,rfl,rfl⟩
  .rcases cU hb with⟨j,u,rfl,e⟩|⟨y,u,rfl,e⟩
   .injection e with e1 _;rw[e1]
   .exact nomatch e
  .rcases cU hb with⟨j,u,rfl,e⟩|⟨y,u,rfl,e⟩
   .exact nomatch e
   .injection e with e1 _;rw[e1]
 byValue:=λk v h=>by rcases cU h with⟨i,t,rfl,rfl⟩|⟨x,t,rfl,rfl⟩<;>rfl
 pyHash:=λhv h=>by
  rcases cU hv with⟨i,t,rfl,rfl⟩|⟨x,t,rfl,rfl⟩
  .exact wpAny_pyHash_int h
  .exact wpAny_pyHash_str h
 eqBool:=λhu hv h=>by
  rcases cU hu with⟨i,t,rfl,rfl⟩|⟨x,t,rfl,rfl⟩
  .rcases cU hv with⟨j,u,rfl,rfl⟩|⟨y,u,rfl,rfl⟩
   .rw [Zj] at h;exact a0r h
   .rw [aC0] at h;exact a07 i t y u _ _ _ _ h
  .rcases cU hv with⟨j,u,rfl,rfl⟩|⟨y,u,rfl,rfl⟩
   .rw [aC1] at h;exact a06 x t j u _ _ _ _ h
   .rw [Zi] at h;exact wpAny_eqBool_str h
 «strs»:=λk x t v h=>by
  rcases cU h with⟨i,u,rfl,e⟩|⟨y,u,rfl,e⟩
  .exact nomatch e
  .injection e with e1 _;subst e1;cases v<;>rfl
def FF(prog:bf)(w:az)(i:Int)(t:gy):(bA prog w).is (.inl i) (.int i t)=ae:=N9 i t
def FG(prog:bf)(w:az)(x:aj)(t:gy):(bA prog w).is (.inr x) (.str x t)=ae:=OA x t
abbrev N1:=List (Sum Key (List Key))
abbrev KX:=Sum Key N1
section
variable{prog:bf}{w:az}{K:Type}[dK:DecidableEq K](knd:KeyKind prog w K)
noncomputable def pT(h:a_):Sum K (List K)->ai->Prop
 |.inl k,v=>knd.is k v=ae
 |.inr ks,v=>∃b,v=.ref b/\IsTupleKey knd h ks b
inductive gK (h:a_):List (Sum K (List K))->List ai->Prop
 |nil:gK h [] []
 |cons {k:Sum K (List K)} {v:ai} {ks:List (Sum K (List K))} {vs:Q0f}:pT knd h k v->gK h ks vs->gK h (k::ks) (v::vs)
def hW(h:a_)(ks:List (Sum K (List K)))(a:ag):Prop:=∃o items n,h.get? a=aa o/\o.cls=.type "tuple" /\o.data=.seq items n/\gK knd h ks items.toList
variable{knd}
theorem pT.inj{h:a_}{v:ai}:∀{x y:Sum K (List K)},pT knd h x v->pT knd h y v->x=y
 |.inl a,.inl b,hx,hy=>by rw[knd.inj _ _ _ hx hy]
 |.inl a,.inr b,hx,⟨q,e,_⟩=>by subst e;exact Zw (knd.byValue _ _ hx) (by simp[carriedByValue])
 |.inr a,.inl b,⟨q,e,_⟩,hy=>by subst e;exact Zw (knd.byValue _ _ hy) (by simp[carriedByValue])
 |.inr a,.inr b,⟨q,e,hx⟩,⟨r,f,hy⟩=>by subst e;injection f with f;subst f;rw[hx.inj hy]
theorem gK.inj{h:a_}{x:List (Sum K (List K))}{vs:Q0f}(hx:gK knd h x vs):∀{y},gK knd h y vs->x=y:=by
 induction hx with
 |nil=>intro y hy;cases hy;rfl
 |cons h1 _ ih =>
  intro y hy
  cases hy with
  |cons h2 t2=>rw[h1.inj h2,ih t2]
def hW.typeIs{s:ak}{ks:List (Sum K (List K))}{a:ag}(x:hW knd s.heap ks a):s.TypeIs (.ref a) "tuple":=let ⟨o,_,_,ho,hc,_⟩:=x;⟨o,ho,hc⟩
def hW.inj{h:a_}{a:ag}{x y:List (Sum K (List K))}(hx:hW knd h x a)(hy:hW knd h y a):x=y:=by obtain⟨o,its,n,ho,_,hd,hi⟩:=hx;obtain⟨o',its',n',ho',_,hd',hi'⟩:=hy;rw[ho] at ho';cases ho';rw[hd] at hd';cases hd';exact hi.inj hi'
theorem hW.keeps{es ep}(x:hW knd h ks a)(ho:h.get? d=aa o)(hd:o.data=.dict es ep)(hs:qk d h h'):hW knd h' ks a:=by
 obtain⟨q,items,n,hq,hc,hi,his⟩:=x;have ne:a≠d:=λz=>by subst z;rw[hq] at ho;cases ho;rw[hi] at hd;cases hd
 refine⟨q,items,n,(hs.2 a ne).trans hq,hc,hi,?_⟩;have go:∀{ks:List (Sum K (List K))} {vs:Q0f},gK knd h ks vs->gK knd h' ks vs:=by
  intro ks vs t
  induction t with
  |nil=>exact .nil
  | @cons k v ks vs h1 _ ih =>
   refine .cons ?_ ih
   cases k with
   |inl k=>exact h1
   |inr k=>obtain⟨b,e,hb⟩:=h1;exact⟨b,e,hb.keeps ho hd hs⟩
 exact go his
noncomputable def qY(knd:KeyKind prog w K):Sum K (List K)->Int
 |.inl k=>knd.hash k
 |.inr ks=>tupleKeyHash knd ks
noncomputable def kP:Sum K (List K)->Nat
 |.inl _=>1
 |.inr ks=>ks.length+1
def xA(knd:KeyKind prog w K)(ks:List (Sum K (List K))):Int:=reduceHash (a1K (ks.map (qY knd)))
def n5(ks:List (Sum K (List K))):Nat:=(ks.map kP).sum+1
variable{s:ak}{A:bq}{E:Q0c}
theorem OB(hu:A.units<cc)(hk:pT knd s.heap k v)(h:Q (qY knd k) {s with toks:=s.toks+kP k}):ax (ay prog w) A (pyHash v) Q E s:=by
 cases k with
 |inl k=>exact knd.pyHash hk h
 |inr k =>
  obtain⟨b,e,hb⟩:=hk;subst e;exact wpAny_pyHash_tuple hu hb h
def xB(x:IsTupleKey knd h ks b):∃items,h.IsTuple b items:=by obtain⟨o,items,n,ho,hc,hd,_⟩:=x;exact⟨items,o,ho,hc,n,hd⟩
end
section
variable{P:bf}{w:az}{A:bq}{E:Q0c}{s:ak}
theorem ZG(hu:A.units<cc)(hx:pT (bA P w) s.heap x u)(hy:pT (bA P w) s.heap y v)(h:Q (Zv (x=y)) s):ax (ay P w) A (eqBool u v) Q E s:=by
 cases x with
 |inl x =>
  cases y with
  |inl y =>
   refine(bA P w).eqBool hx hy ?_;rw[show Zv (x=y)=Zv ((bu x:Sum Key (List Key))=bu y) by simp];exact h
  |inr y =>
   obtain⟨b,e,hb⟩:=hy;subst e;obtain⟨its,hb⟩:=xB hb;rw[show Zv ((bu x:Sum Key (List Key))=ip y)=af by simp] at h;rcases cU hx with⟨i,t,rfl,rfl⟩|⟨i,t,rfl,rfl⟩
   .exact a3j i t hb hu P w E Q h
   .exact a3d i t hb hu P w E Q h
 |inr x =>
  obtain⟨a,e,ha⟩:=hx;subst e
  cases y with
  |inl y =>
   obtain⟨its,ha⟩:=xB ha;rw[show Zv ((ip x:Sum Key (List Key))=bu y)=af by simp] at h;rcases cU hy with⟨i,t,rfl,rfl⟩|⟨i,t,rfl,rfl⟩
   .exact a3c i t ha hu P w E Q h
   .exact a3b i t ha hu P w E Q h
  |inr y =>
   obtain⟨b,e,hb⟩:=hy;subst e;refine wpAny_eqBool_tuple hu ha hb ?_;rw[show Zv (x=y)=Zv ((ip x:Sum Key (List Key))=ip y) by simp];exact h
theorem AB:∀(rest:Q0f) (left:List (Sum Key (List Key))) (b:Array Int) (s:ak) (R:Array Int->ak->Prop),A.units<cc->gK (bA P w) s.heap left rest ->
  (∀b':Array Int,b'.toList=b.toList++left.map (qY (bA P w))->R b' {s with toks:=s.toks+(left.map kP).sum}) ->
  ax (ay P w) A (forIn rest b λx r=>do
   let r' <- pyHash x
   pure (ml (r.push r'))) R E s
 |[],left,b,s,R,hu,t,k=>by cases t;exact bb (k b (by simp))
 |v::rest,left,b,s,R,hu,t,k=>by
  cases t with
  | @cons kk _ ks _ h1 h2 =>
   rw[qw];refine av (av (OB hu h1 (bb ?_)));refine AB rest ks _ _ _ hu h2 λb' e=>?_;have:=k b' (by rw[e];simp);simpa[a2g] using this
def OC{ks:List (Sum Key (List Key))}{a:ag}{Q:Int->ak->Prop}(hu:A.units+1<cc)(hk:hW (bA P w) s.heap ks a)(h:Q (xA (bA P w) ks) {s with toks:=s.toks+n5 ks}):ax (ay P w) A (pyHash (.ref a)) Q E s:=by
 have hT:=hk.typeIs;obtain⟨o,its,n,ho,_,hd,hi⟩:=hk;have sl:=F.slot_tuple_hash;unfold pyHash pyHashByItsType
 wp_walk using wpAny_cRoomFor_or (.inr (by omega)),Dc hT sl.lookup,(wpAny_callSpecialIfBoundUnlessNone?_slot hT sl (iq sl hT F.entry_tuple_hash ?_ (F.args_tuple_hash_1 _)))
 rw[hd];refine bb (bb (av ?_));rw[<- a27];refine AB its.toList ks #[] s _ hu hi λb eb=>?_;dsimp only;rw[eb,uh];unfold xA reduceHash at h;refine wpAny_ret_mkInt ?_;have e2:s.toks+(ks.map kP).sum+1=s.toks+n5 ks:=by unfold n5;omega
 show ax (ay P w) A (pyHashByItsType.reduced _) Q E {s with toks:=s.toks+(ks.map kP).sum+1};rw[e2];unfold pyHashByItsType.reduced;generalize a1K (ks.map (qY (bA P w)))=z at h ⊢;by_cases hz:(Zv (-(2^63:Int)<=z)&&Zv (z<2^63))=ae
 .rw [Z_ hz] at h ⊢;exact bb h
 .rw [Zz hz] at h ⊢;refine av (ny ?_);exact bb h
theorem eq_loop:∀(x y:List (Sum Key (List Key))) (xs ys:Q0f) (R:Option Fin×Unit->ak->Prop),A.units<cc->gK (bA P w) s.heap x xs->gK (bA P w) s.heap y ys ->
  (x≠y->R (aa (.done (.ret (.bool af))),()) s)->((x=y↔xs.length=ys.length)->R (ab,()) s) ->
  ax (ay P w) A (forIn (xs.zip ys) ((ab,()):Option Fin×Unit) λp _=>do
   let c <- eqBool p.1 p.2
   if(!c)=ae then do
    let q <- ret (oj af)
    pure (a20 (aa q,()))
   else pure (ml (ab,()))) R E s
 |[],y,xs,ys,R,hu,hx,hy,k1,k2=>by cases hx;refine bb (k2 ?_);cases hy<;>simp
 |kx::x,[],xs,ys,R,hu,hx,hy,k1,k2=>by cases hx;cases hy;exact bb (k2 (by simp))
 |kx::x,ky::y,xs,ys,R,hu,hx,hy,k1,k2=>by
  cases hx with
  | @cons _ u _ xs hx1 hx2 =>
   cases hy with
   | @cons _ v _ ys hy1 hy2 =>
    rw[Fe,qw];refine av (av (ZG hu hx1 hy1 ?_));by_cases hk:kx=ky
    .subst hk;rw[Zx rfl,Zz (by decide)];refine bb (eq_loop x y xs ys R hu hx2 hy2 (λn=>k1 (by simpa using n)) λe=>k2 ?_);simpa using e
    .rw [Zy hk,Z_ (by decide)];exact av (bb (bb (bb (k1 (by simp[hk])))))
def ZH{x y:List (Sum Key (List Key))}{a b:ag}{Q:Bool->ak->Prop}(hu:A.units+1<cc)(hx:hW (bA P w) s.heap x a)(hy:hW (bA P w) s.heap y b)(h:Q (Zv (x=y)) s):ax (ay P w) A (eqBool (.ref a) (.ref b)) Q E s:=by
 have tx:=hx.typeIs;have ty:=hy.typeIs;have sl:=a1i;by_cases hab:a=b
 .subst hab;rw[hx.inj hy,Zx rfl] at h;exact qf _ P w E Q h
 .obtain ⟨oa,xs,na,hoa,_,hda,hia⟩:=hx;obtain⟨oc,ys,nb,hob,_,hdb,hib⟩:=hy;unfold eqBool;rw[Zz (by simpa using hab)];have hu0:A.units<cc:=by omega
  apply ju;apply av;refine(wpAny_richCompare_same_room (op:=.Eq) tx ty sl (iq sl tx F.entry_tuple_eq ?_ (F.args_tuple_eq_2 _ _)) hu0);unfold Builtin.«tuple.__eq__»
  wp_walk using Dh ty a0D,a0b hoa hda,a0b hob hdb
  refine eq_loop x y xs.toList ys.toList _ hu hia hib (λn=>?_) λe=>?_
  .rw [Zy n] at h;exact bb ⟨_,rfl,(λz=>nomatch z),kb h⟩
  .refine bb ⟨_,rfl,(λz=>nomatch z),?_⟩;have e2:(xs.size == ys.size)=Zv (x=y):=by
    by_cases q:x=y
    .rw [Zx q];simpa using e.1 q
    .rw [Zy q];simpa using λz=>q (e.2 z)
   show ax (ay P w) A (truthOfDropped (.bool (xs.size == ys.size))) Q E s;rw[e2];exact kb h
theorem xC:∀(vs:Q0f) (R:Option Bool×Unit->ak->Prop),(∀v∈vs,∀Q:Bool->ak->Prop,Q ae s->ax (ay P w) A (eqIsQuiet d v) Q E s)->R (ab,()) s ->
  ax (ay P w) A (forIn vs ((ab,()):Option Bool×Unit) λy _=>do
   let c <- eqIsQuiet d y
   if(!c)=ae then pure (a20 (aa af,()))
   else pure (ml (ab,()))) R E s
 |[],R,hq,k=>bb k
 |v::vs,R,hq,k=>by rw[qw];refine av (av (hq v cp _ ?_));rw[Zz (by decide)];exact bb (xC vs R (λu hu=>hq u (dq _ hu)) k)
theorem AD(tx:s.TypeIs (cx a) "tuple")(ho:s.heap.get? a=aa o)(hd:o.data=.seq xs n)(hq:∀v∈xs.toList,∀Q:Bool->ak->Prop,Q ae s->ax (ay P w) A (eqIsQuiet d v) Q E s)(h:Q ae s):
  ax (ay P w) A (eqIsQuiet (d+1) (.ref a)) Q E s:=by
 have sl:=a1i;unfold eqIsQuiet;refine av (Dc tx sl.lookup ?_);show ax (ay P w) A (isInstance (.ref a) (.type "tuple") >>= _) _ _ s;refine av (Dh tx a0D ?_);rw[Zz (by decide)];dsimp only;refine av (Dd ho hd (av ?_));show ax _ _ (forIn xs _ _) _ _ s;rw[<- a27];exact xC xs.toList _ hq (bb h)
def IF{x:List (Sum Key (List Key))}{a:ag}{Q:Bool->ak->Prop}(hx:hW (bA P w) s.heap x a)(h:Q ae s):ax (ay P w) A (eqIsQuiet 8 (.ref a)) Q E s:=by
 have tx:=hx.typeIs;obtain⟨o,xs,n,ho,_,hd,hi⟩:=hx;refine AD (d:=7) tx ho hd ?_ h;have go:∀{ks:List (Sum Key (List Key))} {vs:Q0f},gK (bA P w) s.heap ks vs ->∀v∈vs,∀Q:Bool->ak->Prop,Q ae s->ax (ay P w) A (eqIsQuiet 7 v) Q E s:=by
  intro ks vs t
  induction t with
  |nil=>intro v hv;cases hv
  | @cons k v ks vs h1 _ ih =>
   intro u hu Q k0;rcases bz.1 hu with e|hu
   .subst e
    cases k with
    |inl k =>
     rw[a0H _ ((bA P w).byValue _ _ h1)];exact bb k0
    |inr k =>
     obtain⟨b,e,hb⟩:=h1;subst e;have tb:=hb.typeIs;obtain⟨o',xs',n',ho',_,hd',hi'⟩:=hb;refine AD (d:=6) tb ho' hd' (λv' hv' Q' k'=>?_) k0;rw[a0H _ (hi'.byValue v' hv')];exact bb k'
   .exact ih u hu Q k0
 exact go hi
def iO(P:bf)(w:az):HeapKind P w (List (Sum Key (List Key))) where
 is:=hW (bA P w)
 hash:=xA (bA P w)
 draws:=n5
 room:=λA=>A.units+1<cc
 inj:=λhx hy=>hx.inj hy
 keeps:=λx ho he hs=>x.keeps ho he hs
 pyHash:=λhu hk h=>OC hu hk h
 eqBool:=λhu hx hy h=>ZH hu hx hy h
 quiet:=λhk h=>IF hk h
def nest_room(hu:A.units+2<cc):(iO P w).room A.in1:=hu
end
inductive V where
 |non|bl (b:Bool)|int (i:Int)|str (x:aj)|IG (b:Array UInt8)|flt (b:UInt64)|ref (a:ag)|ty (n:String)
 deriving DecidableEq
noncomputable def RelV:V->ai->Prop
 |.non,u=>u=ke
 |.bl b,u=>u=oj b
 |.int i,u=>∃t,u=jv i t
 |.str x,u=>∃t,u=xm x t
 |.IG b,u=>∃t,u=Value.bytes b t
 |.flt b,u=>∃t,u=a00 b t
 |.ref a,u=>u=cx a
 |.ty n,u=>u=m_ n
abbrev Vals:List V->List ai->Prop:=gm RelV
def Vals.length{xs:List V}{us:Q0f}(r:Vals xs us):xs.length=us.length:=qh r
theorem Vals.get:∀{xs:List V} {us:Q0f} {i:Nat} {x:V},Vals xs us->xs[i]?=aa x ->∃u,us[i]?=aa u/\RelV x u
 |_,_,_,_,.nil,e=>by simp at e
 |_,_,0,_,.cons r _,e=>by simp at e;subst e;exact⟨_,rfl,r⟩
 |_,_,i+1,x,.cons _ t,e=>by obtain⟨u,h1,h2⟩:=Vals.get (i:=i) (x:=x) t (by simpa using e);exact⟨u,by simpa using h1,h2⟩
theorem Vals.set{x:V}{u:ai}(r:RelV x u):∀{xs:List V} {us:Q0f} (i:Nat),Vals xs us->Vals (xs.set i x) (us.set i u)
 |_,_,_,.nil=>.nil
 |_,_,0,.cons _ t=>.cons r t
 |_,_,i+1,.cons q t=>.cons q (Vals.set r i t)
theorem Vals.append:∀{xs ys:List V} {us ws:Q0f},Vals xs us->Vals ys ws->Vals (xs++ys) (us++ws)
 |_,_,_,_,.nil,s=>s
 |_,_,_,_,.cons r t,s=>.cons r (Vals.append t s)
theorem Vals.take:∀{xs:List V} {us:Q0f} (n:Nat),Vals xs us->Vals (xs.take n) (us.take n)
 |_,_,0,_=>.nil
 |_,_,_+1,.nil=>.nil
 |_,_,n+1,.cons r t=>.cons r (Vals.take n t)
theorem Vals.drop:∀{xs:List V} {us:Q0f} (n:Nat),Vals xs us->Vals (xs.drop n) (us.drop n)
 |_,_,0,r=>r
 |_,_,_+1,.nil=>.nil
 |_,_,n+1,.cons _ t=>Vals.drop n t
def m4:Option V->Option ai->Prop
 |some v,aa u=>RelV v u
 |none,ab=>True
 |_,_=>False
def KV{κ:Type}:List (κ×V)->List (κ×ai)->Prop:=gm λ(p:κ×V) (q:κ×ai)=>p.1=q.1/\RelV p.2 q.2
noncomputable def kV:Key->V
 |.inl i=>.int i
 |.inr x=>.str x
inductive HO where
 |lst (xs:List V)
 |tup (xs:List V)
 |dK (kvs:List (Key×V))|dT (kvs:List (List Key×V))
 |dX (o:aw) (kvs:List (KX×V×V))
 |set (S:Int->Bool) (n:Nat)
 |ins (C dx:ag) (fs:List (aj×V))
 |own (x:ag)
 |xd (fs:List (aj×V))
 |met (f x:ag)
 |rng (lo hi:Int)
 |xD (o:aw) (u:HO)
 |OD (q:aj)
 |ext (φ:a_->Prop)
abbrev Hp:=ag->Option HO
def upd(H:Hp)(a:ag)(o:HO):Hp:=λb=>if b=a then aa o else H b
def aP{H:Hp}{a:ag}{o:HO}:upd H a o a=aa o:=by unfold upd;rw[Z_ rfl]
def aW{H:Hp}{a b:ag}{o:HO}(h:b≠a):upd H a o b=H b:=by unfold upd;rw[Zz h]
def Bw{H:Hp}{a b:ag}{o u:HO}(h:H a=aa o)(h':H b=aa u)(d:o≠u):a≠b:=by intro e;subst e;rw[h] at h';exact d (c_ h')
theorem bK{H:Hp}{a b:ag}{o:HO}(h:H a=aa o)(h':H b=ab):a≠b:=by intro e;subst e;rw[h] at h';cases h'
def xE(H:Hp):Sum Key (List Key)->V->Prop
 |.inl k,v=>v=kV k
 |.inr ks,v=>∃b,v=.ref b/\H b=aa (.tup (ks.map kV))
def m5(H:Hp)(ks:N1)(a:ag):Prop:=∃vs,H a=aa (.tup vs)/\gm (xE H) ks vs
def xF(P:bf)(w:az)(H:Hp)(o:aw)(kvs:List (KX×V×V)):Prop:=o.ExactDict /\∃es ep,o.data=.dict es ep /\
 ((∃vs:List (Key×ai),gm (λ(p:KX×V×V) (q:Key×ai)=>p.1=.inl q.1/\p.2.1=kV q.1/\RelV p.2.2 q.2) kvs vs/\KeysOf (bA P w) es/\Pairs (bA P w) es.toList vs/\(vs.map (·.1)).Nodup) \/
  ∃xs:List (N1×ag×ai),gm (λ(p:KX×V×V) (q:N1×ag×ai)=>p.1=.inr q.1/\p.2.1=.ref q.2.1/\m5 H q.1 q.2.1/\RelV p.2.2 q.2.2) kvs xs/\es.toList=xs.map (entryOfKey (iO P w))/\(xs.map (·.1)).Nodup)
theorem Paired.wu{α β:Type}{F G:α->β->Prop}:∀{l₁:List α} {l₂:List β},gm F l₁ l₂->(∀a b,F a b->G a b)->gm G l₁ l₂
 |_,_,.nil,_=>.nil
 |_,_,.cons r t,f=>.cons (f _ _ r) (Paired.wu t f)
theorem m5.stay{H H':Hp}{ks:N1}{a:ag}(h:m5 H ks a)(ht:∀b xs,H b=aa (.tup xs)->H' b=aa (.tup xs)):m5 H' ks a:=by
 obtain⟨vs,e,r⟩:=h;refine⟨vs,ht _ _ e,Paired.wu r λk v q=>?_⟩
 cases k with
 |inl k=>exact q
 |inr k=>obtain⟨b,e,q⟩:=q;exact⟨b,e,ht _ _ q⟩
def xF.stay{P:bf}{w:az}{H H':Hp}{o:aw}{kvs:List (KX×V×V)}(h:xF P w H o kvs)(ht:∀b xs,H b=aa (.tup xs)->H' b=aa (.tup xs)):xF P w H' o kvs:=by
 obtain⟨x,es,ep,e,h⟩:=h;refine⟨x,es,ep,e,?_⟩;rcases h with h|⟨xs,r,h1,h2⟩
 .exact .inl h
 .exact .inr ⟨xs,Paired.wu r λp q z=>⟨z.1,z.2.1,z.2.2.1.stay ht,z.2.2.2⟩,h1,h2⟩
def DL(h:a_)(a:ag):Prop:=∀o,h.get? a=aa o->o.dict=ab
def DL.at{h h':a_}{a:ag}{o:aw}(n:DL h a)(e:h.get? a=aa o)(e':h'.get? a=aa o):DL h' a:=λu q=>by rw[e'] at q;cases q;exact n _ e
def DL.new(h:a_)(its:Array ai){n:Nat}:DL (h.push {cls:=.type "tuple",data:=.seq its n}) h.objs.size:=λu q=>by rw[gc h rfl] at q;cases q;rfl
def DL.is(e:h.get? a=aa o)(d:o.dict=ab):DL h a:=λu q=>by rw[e] at q;cases q;exact d
abbrev aC3(oc:aw):HO:=.xD oc (.ext λ_=>True)
def LU(H:Hp)(q:aj)(ps:Array ai):Prop:=TriplesOk ps.toList /\
 ∀pos cv,codeAmong pos ps.toList=aa cv ->∃c oc vs t,cv=.ref c/\H c=aa (aC3 oc)/\oc.data=.fields vs/\vs[1]?=aa (.str q t)
theorem LU.stay{H H':Hp}{q:aj}{ps:Array ai}(h:LU H q ps)(hf:∀b o u,H b=aa (.xD o u)->H' b=aa (.xD o u)):LU H' q ps :=
 ⟨h.1,λpos cv e=>let ⟨c,oc,vs,t,e1,e2,e3⟩:=h.2 pos cv e;⟨c,oc,vs,t,e1,hf _ _ _ e2,e3⟩⟩
section
variable(P:bf)(w:az)
def dO(H:Hp)(h:a_)(a:ag):HO->Prop
 |.lst xs=>xs.length<=bc /\∃(its:Q0f) (n:Nat),Vals xs its/\h.get? a=aa {cls:=.type "list",data:=.seq its.toArray n}
 |.tup xs=>xs.length<=bc /\∃its:Q0f,Vals xs its/\gr h a its.toArray/\DL h a
 |.dK kvs=>kvs.length<=bc/\(a == sysModules)=af /\∃vs,KV kvs vs/\h.DictOf (bA P w) a vs
 |.dT kvs=>kvs.length<=bc/\(a == sysModules)=af /\∃xs:List (List Key×ag×ai),
   gm (λ(p:List Key×V) (q:List Key×ag×ai)=>p.1=q.1/\H q.2.1=aa (.tup (p.1.map kV))/\RelV p.2 q.2.2) kvs xs /\
   ∃o es ep,h.get? a=aa o/\o.ExactDict/\o.data=.dict es ep/\es.toList=xs.map (entryOfKey (tupleKind (bA P w)))/\(xs.map (·.1)).Nodup
 |.dX o kvs=>kvs.length<=bc/\(a == sysModules)=af/\h.get? a=aa o/\xF P w H o kvs
 |.set S n=>h.SetOf (intKind P w) a S n
 |.ins C dx fs=>H dx=aa (.own a)/\fs.length<=1000/\dx≠a/\h.get? a=aa (instObj C dx) /\
   ∃mA,h.Ns1 dx mA/\(∀f,m4 (fs.lookup f) (mA f))/\a0L mA (fs.map (·.1))
 |.own _=>∃o,h.get? a=aa o
 |.xd fs=>∃mA,h.Ns1 a mA /\∀f,m4 (fs.lookup f) (mA f)
 |.rng lo hi=>∃t u v,h.get? a=aa {cls:=.type "range",data:=.fields #[.int lo t,.int hi u,.int 1 v]}
 |.xD o u=>h.get? a=aa o/\dO H h a u
 |.OD q=>∃ps:Array ai,h.get? a=aa {cls:=.none,data:=.fields ps}/\LU H q ps
 |.met f x=>h.get? a=aa (methodObj (.ref f) (.ref x))
 |.ext φ=>φ h/\(∃o,h.get? a=aa o) /\∀h1 h2:a_,φ h1->(∀o,h1.get? a=aa o->h2.get? a=aa o)->φ h2
def oR(H:Hp)(h:a_):Prop:=∀a o,H a=aa o->dO P w H h a o
end
section
variable{P:bf}{w:az}{H H':Hp}{h h':a_}{a:ag}{o:HO}
theorem dO.lt(x:dO P w H h a o):a<h.objs.size:=by
 cases o with
 |lst xs=>obtain⟨_,_,_,_,e⟩:=x;exact b_ e
 |tup xs=>obtain⟨_,_,_,p,_⟩:=x;exact p.lt
 |dK kvs=>obtain⟨_,_,_,_,o,_,_,e,_⟩:=x;exact b_ e
 |dT kvs=>obtain⟨_,_,_,_,o,_,_,e,_⟩:=x;exact b_ e
 |dX ob kvs=>obtain⟨_,_,e,_⟩:=x;exact b_ e
 |set S n=>obtain⟨o,_,_,_,e,_⟩:=x;exact b_ e
 |ins C dx fs=>obtain⟨_,_,_,e,_⟩:=x;exact b_ e
 |own y=>obtain⟨_,e⟩:=x;exact b_ e
 |xd fs=>obtain⟨_,⟨_,_,_,e,_⟩,_⟩:=x;exact b_ e
 |rng lo hi=>obtain⟨_,_,_,e⟩:=x;exact b_ e
 |xD ob u=>obtain⟨e,_⟩:=x;exact b_ e
 |OD q=>obtain⟨ps,e,_⟩:=x;exact b_ e
 |met f y=>exact b_ (show h.get? a=aa _ from x)
 |ext φ=>obtain⟨_,⟨_,e⟩,_⟩:=x;exact b_ e
theorem Paired.wt{α β:Type}{F G:α->β->Prop}:∀{l₁:List α} {l₂:List β},gm F l₁ l₂->(∀a b,F a b->G a b)->gm G l₁ l₂
 |_,_,.nil,_=>.nil
 |_,_,.cons r t,f=>.cons (f _ _ r) (Paired.wt t f)
theorem dO.stay(x:dO P w H h a o)(k:∀b u,(b=a\/H b=aa (.own a))->h.get? b=aa u->h'.get? b=aa u)
  (ho:∀b,H b=aa (.own a)->H' b=aa (.own a)) (ht:∀b xs,H b=aa (.tup xs)->H' b=aa (.tup xs)) (hf:∀b o u,H b=aa (.xD o u)->H' b=aa (.xD o u):=by exact λ_ _ _ q=>q):dO P w H' h' a o:=by
 induction o with
 |lst xs=>obtain⟨z,its,n,r,e⟩:=x;exact⟨z,its,n,r,k _ _ (.inl rfl) e⟩
 |tup xs=>obtain⟨z,its,r,⟨ob,e,c⟩,nd⟩:=x;exact⟨z,its,r,⟨ob,k _ _ (.inl rfl) e,c⟩,nd.at e (k _ _ (.inl rfl) e)⟩
 |dK kvs=>obtain⟨z,y,vs,r,ob,es,ep,e,c⟩:=x;exact⟨z,y,vs,r,ob,es,ep,k _ _ (.inl rfl) e,c⟩
 |dT kvs =>
  obtain⟨z,y,xs,r,ob,es,ep,e,c⟩:=x;exact⟨z,y,xs,Paired.wt r λp q z=>⟨z.1,ht _ _ z.2.1,z.2.2⟩,ob,es,ep,k _ _ (.inl rfl) e,c⟩
 |dX ob kvs=>obtain⟨z,y,e,c⟩:=x;exact⟨z,y,k _ _ (.inl rfl) e,c.stay ht⟩
 |set S n=>obtain⟨ob,es,ep,t,e,c⟩:=x;exact⟨ob,es,ep,t,k _ _ (.inl rfl) e,c⟩
 |ins C dx fs =>
  obtain⟨d,z,ne,e,mA,⟨od,es,ep,e2,c⟩,r⟩:=x;exact⟨ho _ d,z,ne,k _ _ (.inl rfl) e,mA,⟨od,es,ep,k _ _ (.inr d) e2,c⟩,r⟩
 |own y=>obtain⟨ob,e⟩:=x;exact⟨ob,k _ _ (.inl rfl) e⟩
 |xd fs=>obtain⟨mA,⟨od,es,ep,e,c⟩,r⟩:=x;exact⟨mA,⟨od,es,ep,k _ _ (.inl rfl) e,c⟩,r⟩
 |rng lo hi=>obtain⟨t,u,v,e⟩:=x;exact⟨t,u,v,k _ _ (.inl rfl) e⟩
 |xD ob u ih=>obtain⟨e,q⟩:=x;exact⟨k _ _ (.inl rfl) e,ih q⟩
 |OD q=>obtain⟨ps,e,r⟩:=x;exact⟨ps,k a _ (.inl rfl) e,r.stay hf⟩
 |met f y =>
  have e:h.get? a=aa (methodObj (.ref f) (.ref y)):=x;show h'.get? a=aa (methodObj (.ref f) (.ref y));exact k a _ (.inl rfl) e
 |ext φ=>obtain⟨p,⟨o,e⟩,st⟩:=x;exact⟨st _ _ p λo q=>k _ _ (.inl rfl) q,⟨o,k _ _ (.inl rfl) e⟩,st⟩
def oR.lt(x:oR P w H h)(e:H a=aa o):a<h.objs.size:=(x a o e).lt
theorem oR.fresh(x:oR P w H h)(e:h.objs.size<=a):H a=ab:=by
 cases q:H a with
 |none=>rfl
 |some u=>exact Zw (f_ (x.lt q) e) (ib _)
def oR.kept(x:oR P w H h)(k:∀b u,h.get? b=aa u->h'.get? b=aa u):oR P w H h':=λa o e =>
 (x a o e).stay (λb u _ q=>k b u q) (λ_ q=>q) λ_ _ q=>q
def oR.laid(x:oR P w H h)(k:∀b u,h.get? b=aa u->h'.get? b=aa u)(hp:h.objs.size<=a)(new:dO P w (upd H a o) h' a o):oR P w (upd H a o) h':=λb u e=>by
 have hn:=x.fresh hp;by_cases hb:b=a
 .subst hb;rw[aP] at e;cases e;exact new
 .rw [aW hb] at e;exact(x b u e).stay (λc v _ q=>k c v q) (λc q=>by rw[aW (bK q hn)];exact q) (λc xs q=>by rw[aW (bK q hn)];exact q) λc o u q=>by rw[aW (bK q hn)];exact q
end
def Rd(H:Hp)(a:ag)(u:HO):Prop:=H a=aa u \/∃o,H a=aa (.xD o u)
theorem Rd.ok{P:bf}{w:az}{H:Hp}{h:a_}{a:ag}{u:HO}(r:Rd H a u)(x:oR P w H h):dO P w H h a u:=by
 rcases r with r|⟨o,r⟩
 .exact x a u r
 .obtain ⟨_,q⟩:=x a _ r;exact q
def Mut:Option HO->Prop
 |some (.lst _)=>True
 |some (.dK _)=>True
 |some (.dT _)=>True
 |some (.dX _ _)=>True
 |some (.set _ _)=>True
 |some (.ins _ _ _)=>True
 |some (.ext _)=>True
 |_=>False
section
variable{P:bf}{w:az}{H:Hp}{h h':a_}{x e:ag}{o':HO}
theorem oR.write(ok:oR P w H h)(mu:Mut (H x))(he:e=x\/H e=aa (.own x))(k:∀b u,b≠e->h.get? b=aa u->h'.get? b=aa u)(heo:∃u,h'.get? e=aa u)
  (new:dO P w (upd H x o') h' x o'):oR P w (upd H x o') h':=λb u q=>by
 have As:∀c y,H c=aa (.own y)->c≠x:=λc y r z=>by subst z;rw[r] at mu;exact mu
 have Qh:∀c xs,H c=aa (.tup xs)->c≠x:=λc xs r z=>by subst z;rw[r] at mu;exact mu
 by_cases hb:b=x
 .subst hb;rw[aP] at q;cases q;exact new
 .rw [aW hb] at q;by_cases hbe:b=e
  .have q':H b=aa (.own x):=by
    rcases he with z|z
    .exact Zw (hbe.trans z) hb
    .rw [hbe];exact z
   rw[q] at q';cases q';obtain⟨v,hv⟩:=heo;exact⟨v,by rw[hbe];exact hv⟩
  .refine (ok b u q).stay (λc v hc r=>k c v ?_ r) (λc r=>by rw[aW (As c b r)];exact r) (λc xs r=>by rw[aW (Qh c xs r)];exact r) λc o u r=>by rw[aW λz=>by subst z;rw[r] at mu;exact mu];exact r
   rcases hc with rfl|hc
   .exact hbe
   .rintro rfl;rcases he with z|z
    .exact As c b hc z
    .rw [hc] at z;cases z;exact hb rfl
end
structure Un (fs ex:List ag) (H H':Hp) (h h':a_):Prop where
 keep:∀b o,h.get? b=aa o->H b=ab->b∉fs->b∉ex->h'.get? b=aa o
 slot:∀b o,h.get? b=aa o->H b=ab->b∈fs->b∉ex ->∃sl,h'.get? b=aa {o with slots:=sl}
 free:∀b o,h.get? b=aa o->H b=ab->b∉ex->H' b=ab
 there:∀b o,h.get? b=aa o->b∉ex ->∃o',h'.get? b=aa o'
 tups:∀b xs,H b=aa (.tup xs)->H' b=aa (.tup xs)
 y3:∀b o u,H b=aa (.xD o u)->H' b=aa (.xD o u)
 xG:∀b q,H b=aa (.OD q)->H' b=aa (.OD q)
section
variable{fs fs' ex ex':List ag}{H H1 H2:Hp}{h h1 h2 h':a_}{a x e:ag}{o:HO}
def Un.any(u:Un fs ex H H1 h h1){b:ag}{ob:aw}(q:h.get? b=aa ob)(n:H b=ab)(hx:b∉ex):∃sl,h1.get? b=aa {ob with slots:=sl}:=by
 by_cases hb:b∈fs
 .exact u.slot b ob q n hb hx
 .exact ⟨ob.slots,u.keep b ob q n hb hx⟩
def Un.kept(k:∀b u,h.get? b=aa u->h'.get? b=aa u):Un fs ex H H h h' :=
 ⟨λb ob q _ _ _=>k b ob q,λb ob q _ _ _=>⟨ob.slots,k b ob q⟩,λ_ _ _ n _=>n,λb ob q _=>⟨ob,k b ob q⟩,λ_ _ q=>q,λ_ _ _ q=>q,λ_ ps q=>q⟩
def Un.refl:Un fs ex H H h h:=Un.kept λ_ _ q=>q
theorem Un.laid(k:∀b u,h.get? b=aa u->h'.get? b=aa u)(hp:h.objs.size<=a)(hn:H a=ab):Un fs ex H (upd H a o) h h' where
 keep:=λb u q _ _ _=>k b u q
 slot:=λb u q _ _ _=>⟨u.slots,k b u q⟩
 free:=λb u q n _=>by rw[aW (gd (f_ (b_ q) hp))];exact n
 there:=λb u q _=>⟨u,k b u q⟩
 tups:=λb xs q=>by rw[aW (bK q hn)];exact q
 y3:=λb u xs q=>by rw[aW (bK q hn)];exact q
 xG:=λb ps q=>by rw[aW (bK q hn),q]
def Un.write(mu:Mut (H x))(he:e=x\/H e=aa (.own x))(k:∀b u,b≠e->h.get? b=aa u->h'.get? b=aa u)(heo:∃u,h'.get? e=aa u):Un fs ex H (upd H x o) h h':=by
 have hx:∀b,H b=ab->b≠x:=λb n z=>by subst z;rw[n] at mu;exact mu
 have hb:∀b,H b=ab->b≠e:=λb n z=>by
  subst z;rcases he with r|r
  .exact hx b n r
  .rw [n] at r;cases r
 have hm:∀b u,H b=aa u->¬ Mut (aa u)->b≠x:=λb u q nm z=>by subst z;rw[q] at mu;exact nm mu
 refine⟨λb u q n _ _=>k b u (hb b n) q,λb u q n _ _=>⟨u.slots,k b u (hb b n) q⟩,λb u q n _=>by rw[aW (hx b n)];exact n,λb u q _=>?_,
  λb xs q=>by rw[aW (hm b _ q λz=>z)];exact q,λb u xs q=>by rw[aW (hm b _ q λz=>z)];exact q,λb ps q=>by rw[aW (hm b _ q λz=>z),q]⟩
 by_cases hbe:b=e
 .subst hbe;exact heo
 .exact ⟨u,k b u hbe q⟩
end
def trk(h:a_)(H:Hp):List ag:=(bh h.objs.size).filter λa=>(H a).isSome
def y4(h:a_)(H:Hp):a_:=PySem.W.hideAll h (trk h H)
def OE(h:a_)(H:Hp):(y4 h H).objs.size=h.objs.size:=PySem.W.hideAll_size _ _
def TU(e:h.get? b=aa o)(n:H b=ab):(y4 h H).get? b=aa o :=
 PySem.W.hideAll_get _ e λhm=>by have q:(H b).isSome=ae:=(dm.mp hm).2;rw[n] at q;simp at q
theorem ZI(e:(y4 h H).get? b=aa o):h.get? b=aa o/\H b=ab:=by
 have e':h.get? b=aa o:=PySem.W.of_hideAll (trk h H) e;refine⟨e',?_⟩
 cases q:H b with
 |none=>rfl
 |some x =>
  have hm:b∈trk h H:=dm.mpr ⟨d_.mpr (b_ e'),by simp[q]⟩;have z:(y4 h H).get? b=ab:=PySem.W.hideAll_none (trk h H) hm;rw[z] at e;cases e
structure Mod (K:ao) (mg:Q0d) (base:a_):Prop where
 kin:K.In base
 glob:base.Ns h_ mg
 blt:∃mb,base.Ns builtinsNs mb /\∀x:aj,x ≠ "__name__"->mb x=bootBuiltins x
 nolimit:base.NoLimit
 bm:∃bm ob,mg "__builtins__"=aa (.ref bm)/\bm≠builtinsNs/\base.get? bm=aa ob/\ob.cls=.type "module" /\ob.dict=aa builtinsNs/\ob.data=.plain
def TV:List aj:=["going_of","count_of_chain","cut_paper","downsets","strictest_chains"]
def ZJ(x:aj):aj:=x++".<locals>.<lambda>"
def fH(K:ao):List (aj×ag×ag):=TV.filterMap λx=>(Dv K x).map λp=>(x,p.1,p.2)
def ZK(K:ao)(base:a_)(H:Hp):Prop:=∀t∈fH K,CodeHd base t.2.1 t.2.2/\H t.2.2=aa (.OD (ZJ t.1))
structure Cx where
 prog:bf
 w:az
 K:ao
 mg:aj->Option ai
 base:a_
 A:bq
 N:List aj
 s₀:ak
 H₀:Hp
 env:fz
 outer:List fz
 stack:List fz
 ex:List ag
 fn:aj->Bool
 calm:Bool
 pn:List (ag×aw)
 xe:ai->ak->Prop
abbrev Zu(x:aj):Prop:=(x == ("__debug__":aj))=af
abbrev Zt(x:aj):Prop:=(x == ("__classdict__":aj))=af
abbrev Zs(X:Cx)(e:ar)(l:List ar):Prop:=aq (e::l) X.env=(af,eval e X.env)::aq l X.env
abbrev Zr(X:Cx)(x:aj):Prop:=X.fn x=ae\/X.env.scope.names.lookup x=aa .local
abbrev Zq(X:Cx)(cpos:bg)(e:ar):Prop:=((dg cpos (aq [e] X.env)).all (λx=>!x.1)&&(backToKw cpos (ir [] X.env)).all (λx=>x.1.isSome) && Zv ([e].length+([]:List fw).length+(if([]:List fw).isEmpty then 0 else 1)<30))=ae
abbrev Zp(X:Cx)(i:ar):Prop:=∀x,foldedSetIterable i X.env x=pure x
abbrev Si(X:Cx)(e:ar)(x:aj)(p q:bg):Prop:=ft e (aa (.Name x p)) q.line X.env=pure af
abbrev Rv(X:Cx)(elt tg iter:ar)(ifs:List ar)(sc:gk)(pos:bg)(x:aj)(pos' spos:bg):Prop:=ft (.ListComp elt [⟨tg,iter,ifs,0⟩] sc pos) (aa (.Name x pos')) spos.line X.env=pure ae
abbrev H0(X:Cx)(x y:aj)(px py:bg):Prop:=(cq [.Name x px,.Name y py] X.env).map (·.2)=assign (.Name x px) X.env::(cq [.Name y py] X.env).map (·.2)
abbrev gV(X:Cx)(y:aj)(py:bg):Prop:=(cq [.Name y py] X.env).map (·.2)=assign (.Name y py) X.env::(cq [] X.env).map (·.2)
abbrev Q0h(X:Cx)(x y:aj)(px py:bg):Prop:=(cq [.Name x px,.Name y py] X.env).findIdx? (·.1)=ab
abbrev Q0i(X:Cx)(x y:aj)(px py:bg):Prop:=(cq [.Name x px,.Name y py] X.env).length=2
abbrev Q0j(p q:bg):Prop:=(p.endLine == q.line)=ae
abbrev Q0k(X:Cx)(p:bg)(l:List ar):Prop:=(dg p (aq l X.env)).any (·.1)=af
def frs(l:List fz):List ag:=l.filterMap (·.frame)
abbrev Cx.fs(X:Cx):List ag:=frs X.outer
def y6(sc:gk)(x:aj):Prop:=sc.names.lookup x=aa .local\/sc.names.lookup x=aa .cell\/sc.names.lookup x=aa .free
def Loc(sc:gk)(x:aj):Prop:=sc.names.lookup x=aa .local\/sc.names.lookup x=aa .cell
def Look(env:fz)(h:a_)(m:Q0d)(x:aj)(u:ai):Prop :=
 (env.kindOf x=aa .local/\m x=aa u)\/((env.kindOf x=aa .cell\/env.kindOf x=aa .free) /\∃c,env.cells.lookup x=aa c/\h.IsCell c (aa u))
structure Cx.Ok (X:Cx):Prop where
 mod:Mod X.K X.mg X.base
 kind:X.env.scope.kind=.function
 glob:X.env.globals=h_
 blt:X.env.builtins=builtinsNs
 above:X.s₀.heap.objs.size<=X.env.locals
 inj:∀x y c,X.env.cells.lookup x=aa c->X.env.cells.lookup y=aa c->x=y
 has:∀x,(X.env.kindOf x=aa .cell\/X.env.kindOf x=aa .free) ->∃c,X.env.cells.lookup x=aa c
 cab:∀x c,X.fn x=ae->X.env.cells.lookup x=aa c->X.s₀.heap.objs.size<=c
 hd:X.calm=ae->X.A.handled=ab
 frames:X.A.frames=aa X.stack
 stk:X.stack=X.outer\/(X.stack=X.env::X.outer/\X.env.frame=aa X.env.locals)
 exf:∀b∈X.ex,b≠X.env.locals /\∀x c,X.env.cells.lookup x=aa c->c≠b
 bs:∀b o,X.base.get? b=aa o->X.s₀.heap.get? b=aa o/\X.H₀ b=ab
 ZL:X.base.objs.size<=X.s₀.heap.objs.size
 TX:∀b o,X.base.get? b=aa o->b∉X.ex
 ZM:∀b∈X.ex,b∉X.fs
 xH:X.s₀.heap.FunFrames X.base X.outer
 frf:∀b∈X.fs,X.H₀ b=ab
 tab:ZK X.K X.base X.H₀
structure Inv (X:Cx) (pins:Q0b) (σ:List (Option V)) (H:Hp) (s:ak):Prop where
 ok:X.Ok
 os:s.os=X.s₀.os
 bare:lp s.gens
 base:Un X.fs X.ex X.H₀ H X.s₀.heap s.heap
 loc:∃m,s.heap.Ns X.env.locals m /\∀(i:Nat) (x:aj) (v:V),X.N[i]?=aa x->σ[i]?=aa (aa v)->y6 X.env.scope x ->∃u,RelV v u/\Look X.env s.heap m x u
 cell:∀x c,X.env.cells.lookup x=aa c ->∃v,s.heap.IsCell c v
 free:H X.env.locals=ab
 m6:∀x c,X.env.cells.lookup x=aa c->H c=ab
 pin:∀p∈X.pn++pins,s.heap.get? p.1=aa p.2/\H p.1=ab/\p.1≠X.env.locals/\p.1∉X.fs /\∀v,p.2.data≠.cell v
 hok:oR X.prog X.w H s.heap
 len:σ.length=X.N.length
section
variable{X:Cx}{pins:Q0b}{σ:List (Option V)}{H H':Hp}{s:ak}{h':a_}
def Cx.Ok.Qg(ok:X.Ok)(e:X.base.get? b=aa o):b∉X.fs:=λhb=>by have:=(ok.xH.mem hb).1;rw[e] at this;cases this
def Inv.bs(I:Inv X pins σ H s):∀b o,X.base.get? b=aa o->s.heap.get? b=aa o/\H b=ab:=λb o e =>
 ⟨I.base.keep b o (I.ok.bs b o e).1 (I.ok.bs b o e).2 (I.ok.Qg e) (I.ok.TX b o e),I.base.free b o (I.ok.bs b o e).1 (I.ok.bs b o e).2 (I.ok.TX b o e)⟩
def Inv.bk(I:Inv X pins σ H s):∀b o,X.base.get? b=aa o->s.heap.get? b=aa o:=λb o e=>(I.bs b o e).1
def Inv.mod(I:Inv X pins σ H s):Mod X.K X.mg X.base:=I.ok.mod
def Inv.tab(I:Inv X pins σ H s):ZK X.K X.base H:=λt ht=>⟨(I.ok.tab t ht).1,I.base.xG _ _ (I.ok.tab t ht).2⟩
def Inv.B8(I:Inv X pins σ H s):X.K.In s.heap:=I.ok.mod.kin.keeps I.bk
def Inv.fr(I:Inv X pins σ H s):∃m,Fr X.base X.env.locals s.heap m :=
 let ⟨m,hn,_⟩:=I.loc
 ⟨m,hn,I.bk,gb I.ok.ZL I.ok.above⟩
def Inv.lt(I:Inv X pins σ H s):X.env.locals<s.heap.objs.size:=let ⟨_,hn,_⟩:=I.loc;hn.lt
def Inv.sz(I:Inv X pins σ H s):X.s₀.heap.objs.size<=s.heap.objs.size:=gb I.ok.above (km I.lt)
def Inv.Qf(I:Inv X pins σ H s)(h:s.heap.objs.size<=a):a∉X.fs:=λhb=>by obtain⟨_,o,ho,_⟩:=I.ok.xH.mem hb;exact Zw (f_ (b_ ho) (gb I.sz h)) (ib _)
def Inv.cne(I:Inv X pins σ H s):∀x c,X.env.cells.lookup x=aa c->c≠X.env.locals:=λx c e z=>by obtain⟨v,o,ho,hd⟩:=I.cell x c e;obtain⟨m,⟨o',es,ep,ho',hd',_⟩,_⟩:=I.loc;rw[z,ho'] at ho;cases ho;rw[hd'] at hd;cases hd
def Inv.xH(I:Inv X pins σ H s):s.heap.FunFrames X.base X.outer:=by
 have all:∀(l:List fz),(∀b∈frs l,b∈X.fs)->X.s₀.heap.FunFrames X.base l->s.heap.FunFrames X.base l:=by
  intro l
  induction l with
  |nil=>intro _ _;trivial
  |cons env r ih =>
   intro hs hl;obtain⟨hk,⟨L,o,hf,hn,ho,hd⟩,hr⟩:=hl;have hL:L∈X.fs:=hs L (by unfold frs;rw[ph,hf];exact cp);obtain⟨sl,e⟩:=I.base.slot L o ho (I.ok.frf L hL) hL λz=>I.ok.ZM L z hL;exact⟨hk,⟨L,_,hf,hn,e,hd⟩,ih (λb hb=>hs b (by unfold frs;rw[ph,hf];exact dq _ hb)) hr⟩
 exact all X.outer (λ_ hb=>hb) I.ok.xH
def Inv.stack(I:Inv X pins σ H s):s.heap.FunFrames X.base X.stack:=by
 rcases I.ok.stk with e|⟨e,hf⟩
 .rw [e];exact I.xH
 .rw [e];obtain⟨m,hn,_⟩:=I.loc;refine .cons (by rw[I.ok.kind];decide) hf hn ?_ I.xH;exact Heap.get?_none_of_le (gb I.ok.ZL I.ok.above)
def Inv.xI(I:Inv X pins σ H s):∀b∈frs X.stack,b∈X.env.locals::X.fs:=λb hb=>by
 rcases I.ok.stk with e|⟨e,hf⟩
 .rw [e] at hb;exact dq _ hb
 .rw [e] at hb;unfold frs at hb;rw[ph,hf] at hb;exact hb
def Inv.LV(I:Inv X pins σ H s):∀b∈frs X.stack,H b=ab:=λb hb=>by
 rcases bz.mp (I.xI b hb) with e|hb
 .rw [e];exact I.free
 .obtain ⟨_,o,ho,_⟩:=I.ok.xH.mem hb;exact I.base.free b o ho (I.ok.frf b hb) λz=>I.ok.ZM b z hb
theorem Inv.step{g':Array GenState}{t':Nat}{d':Drawn}{ch:List ag}(I:Inv X pins σ H s)
  (hch:∀b∈ch,(b∈X.ex\/X.s₀.heap.objs.size<=b)/\b≠X.env.locals/\(∀x c,X.env.cells.lookup x=aa c->c≠b) /\∀p∈X.pn++pins,p.1≠b)
  (keep:∀b o,b≠X.env.locals->b∉X.fs->b∉ch->s.heap.get? b=aa o->H b=ab->h'.get? b=aa o)
  (slot:∀b o,b≠X.env.locals->b∈X.fs->b∉ch->s.heap.get? b=aa o->H b=ab ->∃sl,h'.get? b=aa {o with slots:=sl}) (free:∀b o,b∉ch->s.heap.get? b=aa o->H b=ab->H' b=ab)
  (there:∀b o,b∉ch->s.heap.get? b=aa o ->∃o',h'.get? b=aa o')
  (tups:∀b xs,H b=aa (.tup xs)->H' b=aa (.tup xs)) (y3:∀b o u,H b=aa (.xD o u)->H' b=aa (.xD o u)) (xG:∀b q,H b=aa (.OD q)->H' b=aa (.OD q))
  (ns:∀m,s.heap.Ns X.env.locals m->h'.Ns X.env.locals m) (hok:oR X.prog X.w H' h') (hg:lp g'):
  Inv X pins σ H' {s with heap:=h',gens:=g',drawn:=d',toks:=t' }:=by
 have neL:∀b o,X.s₀.heap.get? b=aa o->b≠X.env.locals:=λb o e=>gd (f_ (b_ e) I.ok.above);have neC:∀b o,X.s₀.heap.get? b=aa o->b∉X.ex->b∉ch:=λb o e hx hb=>by
  rcases(hch b hb).1 with z|z
  .exact hx z
  .exact Zw (f_ (b_ e) z) (ib _)
 have cellK:∀x c,X.env.cells.lookup x=aa c ->∀v,s.heap.IsCell c v->h'.IsCell c v:=λx c e v hq5=>by
  obtain⟨o,ho,hd⟩:=hq5;have nch:c∉ch:=λz=>(hch c z).2.2.1 x c e rfl;by_cases hc:c∈X.fs
  .obtain ⟨sl,q⟩:=slot c o (I.cne x c e) hc nch ho (I.m6 x c e);exact⟨_,q,hd⟩
  .exact ⟨o,keep c o (I.cne x c e) hc nch ho (I.m6 x c e),hd⟩
 refine⟨I.ok,I.os,hg,⟨λb o e n hb hx=>?_,λb o e n hb hx=>?_,λb o e n hx=>?_,λb o e hx=>?_,λb xs e=>tups b xs (I.base.tups b xs e),λb o xs e=>y3 b o xs (I.base.y3 b o xs e),λb ps e=>xG b ps (I.base.xG b ps e)⟩,?_,λx c e=>?_,?_,λx c e=>?_,λp hp=>?_,hok,I.len⟩
 .exact keep b o (neL b o e) hb (neC b o e hx) (I.base.keep b o e n hb hx) (I.base.free b o e n hx)
 .obtain ⟨sl,e1⟩:=I.base.slot b o e n hb hx;obtain⟨sl',e2⟩:=slot b _ (neL b o e) hb (neC b o e hx) e1 (I.base.free b o e n hx);exact⟨sl',e2⟩
 .obtain ⟨o',e1⟩:=I.base.there b o e hx;exact free b o' (neC b o e hx) e1 (I.base.free b o e n hx)
 .obtain ⟨o',e1⟩:=I.base.there b o e hx;exact there b o' (neC b o e hx) e1
 .obtain ⟨m,hn,hl⟩:=I.loc;refine⟨m,ns m hn,λi x v e1 e2 e3=>?_⟩;obtain⟨u,r,l⟩:=hl i x v e1 e2 e3;refine⟨u,r,?_⟩;rcases l with l|⟨k,c,e,z⟩
  .exact .inl l
  .exact .inr ⟨k,c,e,cellK x c e _ z⟩
 .obtain ⟨v,z⟩:=I.cell x c e;exact⟨v,cellK x c e v z⟩
 .obtain ⟨m,⟨o,_,_,ho,_⟩,_⟩:=I.loc;exact free _ o (λz=>(hch _ z).2.1 rfl) ho I.free
 .obtain ⟨v,o,ho,hd⟩:=I.cell x c e;exact free c o (λz=>(hch c z).2.2.1 x c e rfl) ho (I.m6 x c e)
 .obtain ⟨e,n,ne,nf,d⟩:=I.pin p hp;have nch:p.1∉ch:=λz=>(hch p.1 z).2.2.2 p hp rfl;exact⟨keep p.1 p.2 ne nf nch e n,free p.1 p.2 nch e n,ne,nf,d⟩
def Inv.un{t':Nat}(I:Inv X pins σ H s)(u:Un X.fs [] H H' s.heap h')(hok:oR X.prog X.w H' h'):Inv X pins σ H' {s with heap:=h',toks:=t' }:=by
 obtain⟨m,⟨o,es,ep,ho,r⟩,_⟩:=id I.loc;obtain⟨sl,hL⟩:=u.any ho I.free (by simp);exact I.step (g':=s.gens) (d':=s.drawn) (ch:=[]) (λ_ z=>nomatch z) (λb o _ hb _ e n=>u.keep b o e n hb (by simp)) (λb o _ hb _ e n=>u.slot b o e n hb (by simp)) (λb o _ e n=>u.free b o e n (by simp)) (λb o _ e=>u.there b o e (by simp)) u.tups u.y3 u.xG (λm' hm=>by obtain⟨o',es',ep',ho',r'⟩:=hm;rw[ho] at ho';cases ho';exact⟨_,es',ep',hL,r'⟩) hok I.bare
theorem Inv.call{g':Array GenState}{t':Nat}{d':Drawn}{ch:List ag}(I:Inv X pins σ H s)(u:Un (frs X.stack) ch H H' s.heap h')(hok:oR X.prog X.w H' h')(hg:lp g')
  (hch:∀b∈ch,(b∈X.ex\/X.s₀.heap.objs.size<=b)/\b≠X.env.locals/\(∀x c,X.env.cells.lookup x=aa c->c≠b) /\∀p∈X.pn++pins,p.1≠b):
  Inv X pins σ H' {s with heap:=h',gens:=g',drawn:=d',toks:=t' }:=by
 obtain⟨m,⟨o,es,ep,ho,r⟩,_⟩:=id I.loc;obtain⟨sl,hL⟩:=u.any ho I.free λz=>(hch _ z).2.1 rfl;exact I.step (ch:=ch) hch (λb o hL hb hc e n=>u.keep b o e n (λz=>(bz.mp (I.xI b z)).elim hL hb) hc) (λb o _ _ hc e n=>u.any e n hc) (λb o hc e n=>u.free b o e n hc) (λb o hc e=>u.there b o e hc) u.tups u.y3 u.xG (λm' hm=>by obtain⟨o',es',ep',ho',r'⟩:=hm;rw[ho] at ho';cases ho';exact⟨_,es',ep',hL,r'⟩) hok hg
theorem Inv.turned{t':Nat}{it:ag}(I:Inv X pins σ H s)(k:∀b o,b≠it->s.heap.get? b=aa o->h'.get? b=aa o)(hn:H it=ab)(hL:it≠X.env.locals)
  (h1:it∈X.ex\/X.s₀.heap.objs.size<=it) (h2:∀x c,X.env.cells.lookup x=aa c->c≠it) (h3:∀p∈X.pn++pins,p.1≠it):Inv X pins σ H {s with heap:=h',toks:=t' }:=by
 have nit:∀b u,H b=aa u->b≠it:=λb u e z=>by rw[z,hn] at e;cases e
 refine I.step (g':=s.gens) (d':=s.drawn) (ch:=[it]) (λb hb=>?_) (λb o _ _ hc e _=>k b o (λz=>hc (by simp[z])) e) (λb o _ _ hc e _=>⟨o.slots,k b o (λz=>hc (by simp[z])) e⟩) (λ_ _ _ _ n=>n)
  (λb o hc e=>⟨o,k b o (λz=>hc (by simp[z])) e⟩) (λ_ _ e=>e) (λ_ _ _ e=>e) (λb ps e=>e) (λm hm=>?_) (λb u e=>?_) I.bare
 .have e:b=it:=by simpa using hb
  subst e;exact⟨h1,hL,h2,h3⟩
 .obtain ⟨o,es,ep,ho,r⟩:=hm;exact⟨o,es,ep,k _ o (dh hL) ho,r⟩
 .refine (I.hok b u e).stay (λc v hc q=>k c v ?_ q) (λ_ q=>q) λ_ _ q=>q;rcases hc with z|z
  .rw [z];exact nit b u e
  .exact nit c _ z
def Inv.tok(I:Inv X pins σ H s)(t:Nat):Inv X pins σ H {s with toks:=t}:=I.un (h':=s.heap) (t':=t) Un.refl I.hok
def Inv.kept(I:Inv X pins σ H s)(k:∀b u,s.heap.get? b=aa u->h'.get? b=aa u):Inv X pins σ H {s with heap:=h',toks:=t' }:=I.un (Un.kept k) (I.hok.kept k)
theorem Inv.laid{a:ag}{o:HO}{t':Nat}(I:Inv X pins σ H s)(k:∀b u,s.heap.get? b=aa u->h'.get? b=aa u)(hp:s.heap.objs.size<=a)(new:dO X.prog X.w (upd H a o) h' a o):
  Inv X pins σ (upd H a o) {s with heap:=h',toks:=t' }:=I.un (Un.laid k hp (I.hok.fresh hp)) (I.hok.laid k hp new)
theorem Inv.write(I:Inv X pins σ H s)(mu:Mut (H x))(he:e=x\/H e=aa (.own x))(k:∀b u,b≠e->s.heap.get? b=aa u->h'.get? b=aa u)(heo:∃u,h'.get? e=aa u)
  (new:dO X.prog X.w (upd H x o) h' x o):Inv X pins σ (upd H x o) {s with heap:=h',toks:=t' }:=I.un (Un.write mu he k heo) (I.hok.write mu he k heo new)
def Inv.weak(I:Inv X pins σ H s)(hl:σ'.length=σ.length)(w:∀(i:Nat) v,σ'[i]?=aa (aa v)->σ[i]?=aa (aa v)):Inv X pins σ' H s :=
 ⟨I.ok,I.os,I.bare,I.base,let ⟨m,hn,hl'⟩:=I.loc;⟨m,hn,λi x v e1 e2 e3=>hl' i x v e1 (w i v e2) e3⟩,I.cell,I.free,I.m6,I.pin,I.hok,hl.trans I.len⟩
def Inv.LW(I:Inv X pins σ H s)(h:∀p∈TY,s.heap.get? p.1=aa p.2/\H p.1=ab/\p.1≠X.env.locals/\p.1∉X.fs /\∀v,p.2.data≠.cell v):Inv X TY σ H s :=
 ⟨I.ok,I.os,I.bare,I.base,I.loc,I.cell,I.free,I.m6,λp hp=>(gu.mp hp).elim (λz=>I.pin p (kr _ z)) (h p),I.hok,I.len⟩
def FH{N:Q0g}(hN:N.Nodup){i j:Nat}{x:aj}(a:N[i]?=aa x)(b:N[j]?=aa x):i=j:=by obtain⟨h1,e1⟩:=cg.mp a;obtain⟨h2,e2⟩:=cg.mp b;exact(yj hN).mp (e1.trans e2.symm)
theorem AE{M:Model}{A:bq}{E:Q0c}{i:Nat}{x:aj}{v:V}{u:ai}{Q:Unit->ak->Prop}(I:Inv X pins σ H s)(hN:X.N.Nodup)(hi:X.N[i]?=aa x)(hx:Loc X.env.scope x)(r:RelV v u)
  (h:∀s',Inv X pins (σ.set i (aa v)) H s'->(∃a,qk a s.heap s'.heap/\(a=X.env.locals\/X.env.cells.lookup x=aa a))->Q () s') (hf:Zr X x:=by first|exact .inl rfl|exact .inr rfl|assumption):ax M A (storeName X.env x u) Q E s:=by
 obtain⟨m,hn,hl⟩:=id I.loc;have hcls:(X.env.scope.kind == .class||(X.env.scope.kind == .module&&X.env.locals !=X.env.globals))=af:=by rw[I.ok.kind];rfl
 have hiσ:i<σ.length:=by rw[I.len];exact(cg.mp hi).1
 have cne:=I.cne;have tracked:∀{a:ag} {h':a_},(∃o,s.heap.get? a=aa o/\H a=ab)->qk a s.heap h'->oR X.prog X.w H h':=λ{a h'} ha hs b ob e=>by
  obtain⟨_,_,hfree⟩:=ha;refine(I.hok b ob e).stay (λc w' hc q=>(hs.2 c ?_).trans q) (λ_ q=>q) λ_ _ q=>q;rintro rfl;rcases hc with rfl|hc
  .rw [hfree] at e;cases e
  .rw [hfree] at hc;cases hc
 rcases hx with hk|hk
 .refine wpAny_storeName_local hk hn (λh' hn' hs=>?_) hcls;obtain⟨oL,_,_,hoL,_⟩:=id hn;refine h _ ⟨I.ok,I.os,I.bare,⟨λb o e n hb hx=>?_,λb o e n hb hx=>?_,I.base.free,λb o e hx=>?_,I.base.tups,I.base.y3,I.base.xG⟩,⟨_,hn',λj y v' e1 e2 e3=>?_⟩,λy c e=>?_,I.free,I.m6,λp hp=>?_,tracked ⟨oL,hoL,I.free⟩ hs,by simpa using I.len⟩ ⟨_,hs,.inl rfl⟩
  .exact (hs.2 b (gd (f_ (b_ e) I.ok.above))).trans (I.base.keep b o e n hb hx)
  .obtain ⟨sl,e1⟩:=I.base.slot b o e n hb hx;exact⟨sl,(hs.2 b (gd (f_ (b_ e) I.ok.above))).trans e1⟩
  .obtain ⟨o',e1⟩:=I.base.there b o e hx;exact⟨o',(hs.2 b (gd (f_ (b_ e) I.ok.above))).trans e1⟩
  .by_cases hj:j=i
   .subst hj;rw[hi] at e1;cases e1;rw[ku hiσ] at e2;cases e2;exact⟨u,r,.inl ⟨hk,by simp⟩⟩
   .rw [je (dh hj)] at e2;obtain⟨u',r',q⟩:=hl j y v' e1 e2 e3;refine⟨u',r',?_⟩;rcases q with⟨k,e⟩|⟨k,c,e,z⟩
    .refine .inl ⟨k,?_⟩;have:y≠x:=λe=>hj (FH hN e1 (e▸hi));simp[this,e]
    .exact .inr ⟨k,c,e,z.sameBut hs (cne y c e)⟩
  .obtain ⟨w',z⟩:=I.cell y c e;exact⟨w',z.sameBut hs (cne y c e)⟩
  .obtain ⟨e,n,ne,nf,d⟩:=I.pin p hp;exact⟨(hs.2 p.1 ne).trans e,n,ne,nf,d⟩
 .have hfn:X.fn x=ae:=by
   rcases hf with z|z
   .exact z
   .rw [z] at hk;cases hk
  obtain⟨c,hc⟩:=I.ok.has x (.inl hk);obtain⟨w',z⟩:=I.cell x c hc;refine wpAny_storeName_cell I.ok.kind hk hc z (λh' hc' hs=>?_);obtain⟨oc,hoc,Qd⟩:=id z;refine h {s with heap:=h' } ⟨I.ok,I.os,I.bare,⟨λb o e n hb hx=>?_,λb o e n hb hx=>?_,I.base.free,λb o e hx=>?_,I.base.tups,I.base.y3,I.base.xG⟩,⟨m,hn.sameBut hs (dh (cne x c hc)),λj y v' e1 e2 e3=>?_⟩,λy c' e=>?_,I.free,I.m6,λp hp=>?_,tracked ⟨oc,hoc,I.m6 x c hc⟩ hs,by simpa using I.len⟩ ⟨c,hs,.inr hc⟩
  .exact (hs.2 b (gd (f_ (b_ e) (I.ok.cab x c hfn hc)))).trans (I.base.keep b o e n hb hx)
  .obtain ⟨sl,e1⟩:=I.base.slot b o e n hb hx;exact⟨sl,(hs.2 b (gd (f_ (b_ e) (I.ok.cab x c hfn hc)))).trans e1⟩
  .obtain ⟨o',e1⟩:=I.base.there b o e hx;exact⟨o',(hs.2 b (gd (f_ (b_ e) (I.ok.cab x c hfn hc)))).trans e1⟩
  .by_cases hj:j=i
   .subst hj;rw[hi] at e1;cases e1;rw[ku hiσ] at e2;cases e2;exact⟨u,r,.inr ⟨.inl hk,c,hc,hc'⟩⟩
   .rw [je (dh hj)] at e2;obtain⟨u',r',q⟩:=hl j y v' e1 e2 e3;refine⟨u',r',?_⟩;rcases q with q|⟨k,c',e,z'⟩
    .exact .inl q
    .refine .inr ⟨k,c',e,z'.sameBut hs ?_⟩;rintro rfl;exact hj (FH hN e1 (I.ok.inj _ _ _ e hc▸hi))
  .by_cases hcc:c'=c
   .subst hcc;exact⟨_,hc'⟩
   .obtain ⟨w2,z2⟩:=I.cell y c' e;exact⟨w2,z2.sameBut hs hcc⟩
  .obtain ⟨e,n,ne,nf,d⟩:=I.pin p hp;refine⟨(hs.2 p.1 ?_).trans e,n,ne,nf,d⟩;intro q;rw[q,hoc] at e;have q':oc=p.2:=c_ e;exact d w' (by rw[<- q'];exact Qd)
theorem FI(I:Inv X pins σ H s)(hN:X.N.Nodup)(hi:X.N[i]?=aa x)(hx:Loc X.env.scope x)(r:RelV v u)
  (h:∀s',Inv X pins (σ.set i (aa v)) H s'->Q () s') (hf:Zr X x:=by first|exact .inl rfl|exact .inr rfl|assumption):ax M A (storeName X.env x u) Q E s :=
 AE I hN hi hx r (λs' I' _=>h s' I') hf
theorem Inv.call'(I:Inv X pins σ H s)(ho:s'.os=s.os)(u:Un (frs X.stack) ch H H' s.heap s'.heap)(hok:oR X.prog X.w H' s'.heap)(hg:lp s'.gens)
  (hch:∀b∈ch,(b∈X.ex\/X.s₀.heap.objs.size<=b)/\b≠X.env.locals/\(∀x c,X.env.cells.lookup x=aa c->c≠b) /\∀p∈X.pn++pins,p.1≠b):Inv X pins σ H' s':=by
 obtain⟨h',g',d',t',o'⟩:=s';have e:o'=s.os:=ho;subst e;exact I.call (g':=g') (t':=t') (d':=d') u hok hg hch
end
abbrev XK:=ai->Option ag->Hp->Prop
abbrev St:=List (Option V)
abbrev VK:=V->Hp->Prop
abbrev TE:=St->Hp->VK->Prop
abbrev TT:=St->Hp->(Bool->Hp->Prop)->Prop
abbrev TA:=St->Hp->(List V->Hp->Prop)->Prop
structure Ends where
 nx:St->Hp->Prop
 rt:VK
 bk:St->Hp->Prop:=λ_ _=>False
 ct:St->Hp->Prop:=λ_ _=>False
abbrev TS:=Ends->St->Hp->Prop
def EP(X:Cx)(pins:Q0b)(σ:St)(Q:VK)(u:ai)(s':ak):Prop:=∃v H',Inv X pins σ H' s'/\RelV v u/\Q v H'
def TP(X:Cx)(pins:Q0b)(σ:St)(Q:Bool->Hp->Prop)(b:Bool)(s':ak):Prop:=∃H',Inv X pins σ H' s'/\Q b H'
def AP(X:Cx)(pins:Q0b)(σ:St)(Q:List V->Hp->Prop)(us:Q0f)(s':ak):Prop:=∃vs H',Inv X pins σ H' s'/\Vals vs us/\Q vs H'
def SP(X:Cx)(pins:Q0b)(D:Ends)(f:Flow)(s':ak):Prop :=
 match f with
 |.next=>∃σ' H',Inv X pins σ' H' s'/\D.nx σ' H'
 |.brk=>∃σ' H',Inv X pins σ' H' s'/\D.bk σ' H'
 |.cont=>∃σ' H',Inv X pins σ' H' s'/\D.ct σ' H'
 |.ret u=>∃v σ' H',Inv X pins σ' H' s'/\RelV v u/\D.rt v H'
def PE(X:Cx)(e:ar)(t:TE):Prop :=
 ∀(pins:Q0b) (s:ak) (σ:St) (H:Hp) (Q:VK),Inv X pins σ H s->t σ H Q->ax (ay X.prog X.w) X.A (eval e X.env) (EP X pins σ Q) X.xe s
def PT(X:Cx)(e:ar)(t:TT):Prop :=
 ∀(pins:Q0b) (s:ak) (σ:St) (H:Hp) (Q:Bool->Hp->Prop),Inv X pins σ H s->t σ H Q->ax (ay X.prog X.w) X.A (isTrue e X.env (eval e X.env)) (TP X pins σ Q) X.xe s
def PW(X:Cx)(e:ar)(t:TT):Prop :=
 ∀(whole:Sem ai) (pins:Q0b) (s:ak) (σ:St) (H:Hp) (Q:Bool->Hp->Prop),Inv X pins σ H s->t σ H Q->ax (ay X.prog X.w) X.A (isTrue e X.env whole) (TP X pins σ Q) X.xe s
def PW.pt(h:PW X e t):PT X e t:=h _
def PA(X:Cx)(es:List ar)(t:TA):Prop :=
 ∀(pos:bg) (pins:Q0b) (s:ak) (σ:St) (H:Hp) (Q:List V->Hp->Prop),Inv X pins σ H s->t σ H Q->ax (ay X.prog X.w) X.A (spliced (dg pos (aq es X.env))) (AP X pins σ Q) X.xe s
def PS(X:Cx)(st:cz)(t:TS):Prop :=
 ∀(pins:Q0b) (s:ak) (σ:St) (H:Hp) (D:Ends),Inv X pins σ H s->t D σ H->ax (ay X.prog X.w) X.A (exec st X.env) (SP X pins D) X.xe s
def y7(X:Cx)(st:List cz)(t:TS):Prop :=
 ∀(pins:Q0b) (s:ak) (σ:St) (H:Hp) (D:Ends),Inv X pins σ H s->t D σ H->ax (ay X.prog X.w) X.A (execs st X.env) (SP X pins D) X.xe s
def eK{α:Type}{t:Sem α}{Q Q':α->ak->Prop}{M:Model}{A:bq}{E:Q0c}{s:ak}(h:ax M A t Q E s)(hQ:∀a s,Q a s->Q' a s):ax M A t Q' E s:=mv h hQ λ_ _ x=>x
section
variable{X:Cx}
def IH(i:Nat):TE:=λσ H Q=>∃v,σ[i]?=aa (aa v)/\Q v H
def tC(v:V):TE:=λ_ H Q=>Q v H
def lN(hN:X.N[i]?=aa x)(hv:y6 X.env.scope x)(hd:Zu x:=by decide)(hcd:Zt x:=by decide):PE X (.Name x pos) (IH i):=by
 intro pins s σ H Q I h;obtain⟨v,e,h⟩:=h;obtain⟨m,hn,hl⟩:=I.loc;obtain⟨u,r,l⟩:=hl i x v hN e hv;have fin:EP X pins σ Q u s:=⟨v,H,I,r,h⟩;rcases l with⟨hk,hm⟩|⟨hk,c,hc,hcell⟩
 .exact Di (wpAny_loadName_local I.ok.kind hk hn hm fin) hd
 .rcases hk with hk|hk
  .exact Di (wpAny_loadName_cell I.ok.kind hk hc hcell fin) hd
  .exact Di (wpAny_loadName_free I.ok.kind hk hc hcell fin hcd) hd
def aC6{i j pos}:PE X (.Constant (.int i) j pos) (tC (.int i)):=λ_ _ _ H _ I h=>wpAny_Constant_int ⟨.int i,H,I.tok _,⟨_,rfl⟩,h⟩
def Vz{b j pos}:PE X (.Constant (.bool b) j pos) (tC (.bl b)):=λ_ _ _ H _ I h=>Constant_bool ⟨.bl b,H,I,rfl,h⟩
def aC7{j pos}:PE X (.Constant .none j pos) (tC .non):=λ_ _ _ H _ I h=>Constant_none ⟨.non,H,I,rfl,h⟩
def aC8{x j pos}:PE X (.Constant (.str x) j pos) (tC (.str x)):=λ_ _ _ H _ I h=>Calls.Constant_str ⟨.str x,H,I.tok _,⟨_,rfl⟩,h⟩
def Gl(X:Cx)(x:aj):Prop:=X.env.kindOf x=aa .globalImplicit
theorem ZN(I:Inv X pins σ H s)(hg:Gl X x)(hm:X.mg x=aa u)(h:Q u s)
  (hd:Zu x:=by decide):ax (ay X.prog X.w) X.A (eval (.Name x pos) X.env) Q E s :=
 a1I I.ok.kind hg (Calls.loadGlobal_global (by rw[I.ok.glob];exact I.mod.glob.keeps I.bk) hm h) hd
theorem m7(I:Inv X pins σ H s)(hg:Gl X x)(hm:X.mg x=ab)(hv:bootBuiltins x=aa u)(h:Q u s)
  (hn:x ≠ "__name__":=by decide) (hd:Zu x:=by decide):ax (ay X.prog X.w) X.A (eval (.Name x pos) X.env) Q E s:=by
 obtain⟨mb,h1,h2⟩:=I.mod.blt;exact a1I I.ok.kind hg (Calls.loadGlobal_builtin (by rw[I.ok.glob];exact I.mod.glob.keeps I.bk) hm (by rw[I.ok.blt];exact h1.keeps I.bk) ((h2 x hn).trans hv) h) hd
def ZO(hg:Gl X x)(hm:X.mg x=ab)(hv:bootBuiltins x=aa u)(r:RelV v u)(hn:x ≠ "__name__":=by decide)(hd:Zu x:=by decide):PE X (.Name x pos) (tC v) :=
 λ_ _ _ H _ I h=>m7 I hg hm hv ⟨v,H,I,r,h⟩ hn hd
variable{a b:ar}{ta tb:TE}{pos:bg}
def PC(X:Cx)(op:CmpOp)(a b:ar)(t:TE):Prop :=
 ∀(pins:Q0b) (s:ak) (σ:St) (H:Hp) (Q:VK),Inv X pins σ H s->t σ H Q ->
  ax (ay X.prog X.w) X.A (eval a X.env) (λv s₁=>ax (ay X.prog X.w) X.A (eval b X.env) (λu s₂=>ax (ay X.prog X.w) X.A (compareOp op v u) (EP X pins σ Q) X.xe s₂) X.xe s₁) X.xe s
def tB(t:TE):TT:=λσ H Q=>t σ H λx H1=>∃c,x=.bl c/\Q c H1
def aC9{op:CmpOp}{t:TE}(h:PC X op a b t)(h1:behindInMarks op b=af:=by first|exact aEy _ (by decide) (by decide)|rfl):PT X (.Compare a [op] [b] pos) (tB t):=by intro pins s σ H Q I hw;refine a0l (eK (h pins s σ H _ I hw) λv s1 h1=>eK h1 λu s2 h2=>eK h2 λc s3 ⟨x,H1,I1,r1,q1⟩=>?_) h1;obtain⟨d,rfl,q⟩:=q1;cases r1;exact kb ⟨H1,I1,q⟩
variable{tA tB':TT}{rest:List ar}
def kD(t u:TT):TT:=λσ H Q=>t σ H λc H1=>if c=ae then u σ H1 Q else Q af H1
def G9(t u:TT):TT:=λσ H Q=>t σ H λc H1=>if c=ae then Q ae H1 else u σ H1 Q
def sD(t:TT):TT:=λσ H Q=>t σ H λc H1=>Q (!c) H1
theorem ZP(ha:PT X a tA):PW X (.BoolOp .And [a] pos) tA:=by
 intro wh pins s σ H Q I h;refine isTrue_and (eK (ha pins s σ H Q I h) λc s1 e=>?_)
 cases c with
 |true=>exact isTrue_and_nil e
 |false=>exact e
theorem Zh(ha:PT X a tA):PW X (.BoolOp .Or [a] pos) tA:=by
 intro wh pins s σ H Q I h;refine isTrue_or (eK (ha pins s σ H Q I h) λc s1 e=>?_)
 cases c with
 |false=>exact isTrue_or_nil e
 |true=>exact e
theorem Zg(ha:PT X a tA)(hb:PW X (.BoolOp .And (b::rest) pos) tB'):PW X (.BoolOp .And (a::b::rest) pos) (kD tA tB'):=by
 intro wh pins s σ H Q I h;refine isTrue_and (eK (ha pins s σ H _ I h) λc s1 ⟨H1,I1,q1⟩=>?_)
 cases c with
 |true=>exact hb wh pins s1 σ H1 Q I1 q1
 |false=>exact⟨H1,I1,q1⟩
theorem Vy(ha:PT X a tA)(hb:PW X (.BoolOp .Or (b::rest) pos) tB'):PW X (.BoolOp .Or (a::b::rest) pos) (G9 tA tB'):=by
 intro wh pins s σ H Q I h;refine isTrue_or (eK (ha pins s σ H _ I h) λc s1 ⟨H1,I1,q1⟩=>?_)
 cases c with
 |true=>exact⟨H1,I1,q1⟩
 |false=>exact hb wh pins s1 σ H1 Q I1 q1
def Zf(ha:PT X a tA):PT X (.UnaryOp .Not a pos) (sD tA):=by intro pins s σ H Q I h;exact isTrue_not (ha pins s σ H (λc H1=>Q (!c) H1) I h)
def Vs(ta tb:TE):TE:=λσ H Q=>ta σ H λx H1=>∃c,x=.bl c/\if c=ae then tb σ H1 Q else Q (.bl af) H1
def Qc(ta tb:TE):TE:=λσ H Q=>ta σ H λx H1=>∃c,x=.bl c/\if c=ae then Q (.bl ae) H1 else tb σ H1 Q
def Vr(ta:TE):TE:=λσ H Q=>ta σ H λx H1=>∃c,x=.bl c/\Q (.bl (!c)) H1
def Ze{op}(h:PE X a t):PE X (.BoolOp op [a] pos) t:=λpins s σ H Q I hw=>BoolOp_one (h pins s σ H Q I hw)
theorem Zd(ha:PE X a ta)(hb:PE X (.BoolOp .And (b::rest) pos) tb):PE X (.BoolOp .And (a::b::rest) pos) (Vs ta tb):=by
 intro pins s σ H Q I h;refine BoolOp_and (eK (ha pins s σ H _ I h) λv s1 ⟨x,H1,I1,r1,q1⟩=>?_);obtain⟨c,rfl,q1⟩:=q1;cases r1;refine kb ?_
 cases c with
 |true=>exact hb pins s1 σ H1 Q I1 q1
 |false=>exact⟨.bl af,H1,I1,rfl,q1⟩
theorem Vq(ha:PE X a ta)(hb:PE X (.BoolOp .Or (b::rest) pos) tb):PE X (.BoolOp .Or (a::b::rest) pos) (Qc ta tb):=by
 intro pins s σ H Q I h;refine BoolOp_or (eK (ha pins s σ H _ I h) λv s1 ⟨x,H1,I1,r1,q1⟩=>?_);obtain⟨c,rfl,q1⟩:=q1;cases r1;refine kb ?_
 cases c with
 |false=>exact hb pins s1 σ H1 Q I1 q1
 |true=>exact⟨.bl ae,H1,I1,rfl,q1⟩
def Zc(ha:PE X a ta):PE X (.UnaryOp .Not a pos) (Vr ta):=by intro pins s σ H Q I h;refine UnaryOp_ (eK (ha pins s σ H _ I h) λv s1 ⟨x,H1,I1,r1,q1⟩=>?_);obtain⟨c,rfl,q1⟩:=q1;cases r1;exact not_of (kb ⟨.bl (!c),H1,I1,rfl,q1⟩)
def Hc(t:TT)(ta tb:TE):TE:=λσ H Q=>t σ H λc H1=>if c=ae then ta σ H1 Q else tb σ H1 Q
theorem TZ{c:ar}(hc:PT X c tA)(ha:PE X a ta)(hb:PE X b tb):PE X (.IfExp c a b pos) (Hc tA ta tb):=by
 intro pins s σ H Q I h;refine wpAny_IfExp (eK (hc pins s σ H _ I h) λd s1 ⟨H1,I1,q1⟩=>?_)
 cases d with
 |true=>exact ha pins s1 σ H1 Q I1 q1
 |false=>exact hb pins s1 σ H1 Q I1 q1
end
def eE(K:ao)(H:Hp)(a:ag)(xs:List V):Prop :=
 Rd H a (.lst xs) \/
  ∃(o:aw) (its:Array ai) (n:Nat),K.lookup a=aa o/\o.cls=.type "list" /\o.dict=ab/\o.data=.seq its n/\its.size<=bc/\Vals xs its.toList
def fS(K:ao)(H:Hp)(a:ag)(xs:List V):Prop :=
 Rd H a (.tup xs) \/
  ∃(o:aw) (its:Array ai) (n:Nat),K.lookup a=aa o/\o.cls=.type "tuple" /\o.data=.seq its n/\its.size<=bc/\Vals xs its.toList
noncomputable def Qb:ai->Option V
 |.none=>aa .non
 |.bool b=>aa (.bl b)
 |.int i _=>aa (.int i)
 |.str x _=>aa (.str x)
 |.bytes b _=>aa (.IG b)
 |.float b _=>aa (.flt b)
 |.ref a=>aa (.ref a)
 |.type n=>aa (.ty n)
 |_=>ab
theorem RelV.abs(r:RelV x u):Qb u=aa x:=by
 cases x with
 |non=>cases r;rfl
 |bl _=>cases r;rfl
 |int _=>obtain⟨t,rfl⟩:=r;rfl
 |str _=>obtain⟨t,rfl⟩:=r;rfl
 |IG _=>obtain⟨t,rfl⟩:=r;rfl
 |flt _=>obtain⟨t,rfl⟩:=r;rfl
 |ref _=>cases r;rfl
 |ty _=>cases r;rfl
def RelV.inj{x y:V}{u:ai}(r:RelV x u)(q:RelV y u):x=y:=c_ (r.abs.symm.trans q.abs)
theorem Vals.inj:∀{xs ys:List V} {us:Q0f},Vals xs us->Vals ys us->xs=ys
 |_,_,_,.nil,.nil=>rfl
 |_,_,_,.cons r t,.cons r' t'=>by rw[r.inj r',Vals.inj t t']
section
variable{X:Cx}{pins:Q0b}{σ:St}{H:Hp}{s:ak}{a:ag}{xs ys:List V}
def eE.of{K:ao}(h:H a=aa (.lst xs)):eE K H a xs:=.inl (.inl h)
def fS.of{K:ao}(h:H a=aa (.tup xs)):fS K H a xs:=.inl (.inl h)
def Inv.list(I:Inv X pins σ H s)(h:eE X.K H a xs):∃its:Q0f,Vals xs its/\PlainL s.heap a its.toArray/\xs.length<=bc:=by
 rcases h with h|⟨o,its,n,hk,hc,hd,hs,hz,r⟩
 .obtain ⟨z,its,n,r,e⟩:=h.ok I.hok;exact⟨its,r,⟨_,n,e,rfl,rfl,rfl⟩,z⟩
 .refine ⟨its.toList,r,⟨o,n,I.B8 a o hk,hc,hd,by simpa using hs⟩,?_⟩;have e:=r.length;simp only[Gu] at e;omega
def Inv.tuple(I:Inv X pins σ H s)(h:fS X.K H a xs):∃its:Q0f,Vals xs its/\gr s.heap a its.toArray/\xs.length<=bc:=by
 rcases h with h|⟨o,its,n,hk,hc,hs,hz,r⟩
 .obtain ⟨z,its,r,p,_⟩:=h.ok I.hok;exact⟨its,r,p,z⟩
 .refine ⟨its.toList,r,⟨o,I.B8 a o hk,hc,n,by simpa using hs⟩,?_⟩;have e:=r.length;simp only[Gu] at e;omega
def Inv.fX(I:Inv X pins σ H s)(h:eE X.K H a xs)(h':eE X.K H a ys):xs=ys:=by
 obtain⟨its,r,⟨o,n,e,_,_,d⟩,_⟩:=I.list h;obtain⟨its',r',⟨o',n',e',_,_,d'⟩,_⟩:=I.list h';rw[e] at e';cases e';rw[d] at d';injection d' with d1 _;have:its=its':=by simpa using congrArg a25 d1
 subst this;exact r.inj r'
def Inv.jB(I:Inv X pins σ H s)(h:fS X.K H a xs)(h':fS X.K H a ys):xs=ys:=by
 obtain⟨its,r,⟨o,e,_,n,d⟩,_⟩:=I.tuple h;obtain⟨its',r',⟨o',e',_,n',d'⟩,_⟩:=I.tuple h';rw[e] at e';cases e';rw[d] at d';injection d' with d1 _;have:its=its':=by simpa using congrArg a25 d1
 subst this;exact r.inj r'
end
abbrev Cx.wish(X:Cx)(E:Q0c):Cx:={X with xe:=E}
abbrev Cx.ZQ(X:Cx):Cx:=X.wish λ_ _=>False
def Cx.Ok.wish{X:Cx}(ok:X.Ok)(E:Q0c):(X.wish E).Ok :=
 ⟨ok.mod,ok.kind,ok.glob,ok.blt,ok.above,ok.inj,ok.has,ok.cab,ok.hd,ok.frames,ok.stk,ok.exf,ok.bs,ok.ZL,ok.TX,ok.ZM,ok.xH,ok.frf,ok.tab⟩
def Cx.Ok.m8{X:Cx}{E:Q0c}(ok:(X.wish E).Ok):X.Ok :=
 ⟨ok.mod,ok.kind,ok.glob,ok.blt,ok.above,ok.inj,ok.has,ok.cab,ok.hd,ok.frames,ok.stk,ok.exf,ok.bs,ok.ZL,ok.TX,ok.ZM,ok.xH,ok.frf,ok.tab⟩
section
variable{X:Cx}{pins:Q0b}{σ:St}{H:Hp}{s:ak}{E:Q0c}
def Inv.wish(I:Inv X pins σ H s)(E:Q0c):Inv (X.wish E) pins σ H s:=⟨I.ok.wish E,I.os,I.bare,I.base,I.loc,I.cell,I.free,I.m6,I.pin,I.hok,I.len⟩
def Inv.m8(I:Inv (X.wish E) pins σ H s):Inv X pins σ H s:=⟨I.ok.m8,I.os,I.bare,I.base,I.loc,I.cell,I.free,I.m6,I.pin,I.hok,I.len⟩
theorem SP.m8{D:Ends}{f:Flow}{s':ak}(h:SP (X.wish E) pins D f s'):SP X pins D f s':=by
 cases f with
 |next=>obtain⟨σ',H',I,q⟩:=h;exact⟨σ',H',I.m8,q⟩
 |brk=>obtain⟨σ',H',I,q⟩:=h;exact⟨σ',H',I.m8,q⟩
 |cont=>obtain⟨σ',H',I,q⟩:=h;exact⟨σ',H',I.m8,q⟩
 |ret u=>obtain⟨v,σ',H',I,r,q⟩:=h;exact⟨v,σ',H',I.m8,r,q⟩
def y7.ZQ{st:List cz}{t:TS}(h:y7 X.ZQ st t):y7 X st t:=λpins s σ H D I hw =>
 mv (h pins s σ H D (I.wish _) hw) (λ_ _ q=>q.m8) λ_ _ z=>jl z
variable{st:cz}{rest:List cz}{t u:TS}{e:ar}{te:TE}{pos:bg}
def Vp:TS:=λD σ H=>D.nx σ H
def OG(t u:TS):TS:=λD σ H=>t {D with nx:=u D} σ H
def ZR:y7 X [] Vp:=λ_ _ σ H _ I h=>xh ⟨σ,H,I,h⟩
theorem xJ(h1:PS X st t)(h2:y7 X rest u):y7 X (st::rest) (OG t u):=by
 intro pins s σ H D I h;refine a0q (eK (h1 pins s σ H {D with nx:=u D} I h) λf s1 q=>?_)
 cases f with
 |next =>
  obtain⟨σ',H',I',q⟩:=q;exact h2 pins s1 σ' H' D I' q
 |ret v=>exact q
 |brk=>exact q
 |cont=>exact q
theorem LX(h1:PS X st t):y7 X [st] t:=by
 intro pins s σ H D I h;refine a0q (eK (h1 pins s σ H D I h) λf s1 q=>?_)
 cases f with
 |next=>exact xh q
 |ret v=>exact q
 |brk=>exact q
 |cont=>exact q
def Inv.quiet(I:Inv X pins σ H s):interactive X.env=af:=by simp[interactive,I.ok.kind]
def Vo(te:TE):TS:=λD σ H=>te σ H λ_ H1=>D.nx σ H1
def LY(he:PE X e te)(hs:ft e ab pos.line X.env=pure af:=by rfl):PS X (.Expr e pos) (Vo te):=by intro pins s σ H D I h;exact wpAny_Expr_any (eK (he pins s σ H _ I h) λv s1 ⟨x,H1,I1,r1,q1⟩=>⟨σ,H1,I1,q1⟩) I.quiet hs
def An(te:TE):TS:=λD σ H=>te σ H D.rt
def T2(he:PE X e te):PS X (.Return (aa e) pos) (An te):=by intro pins s σ H D I h;exact wpAny_Return_some (eK (he pins s σ H _ I h) λv s1 ⟨x,H1,I1,r1,q1⟩=>⟨x,σ,H1,I1,r1,q1⟩)
def Qa(c:TT)(t u:TS):TS:=λD σ H=>c σ H λb H1=>if b=ae then t D σ H1 else u D σ H1
theorem Vn(hc:PT X c tc)(ha:y7 X a t)(hb:y7 X b u):PS X (.If c a b pos) (Qa tc t u):=by
 intro pins s σ H D I h;refine wpAny_If (eK (hc pins s σ H _ I h) λd s1 ⟨H1,I1,q1⟩=>?_)
 cases d with
 |true=>exact ha pins s1 σ H1 D I1 q1
 |false=>exact hb pins s1 σ H1 D I1 q1
end
abbrev TG:=V->St->Hp->(St->Hp->Prop)->Prop
abbrev TGs:=List V->St->Hp->(St->Hp->Prop)->Prop
def PG(X:Cx)(target:ar)(t:TG):Prop :=
 ∀(pins:Q0b) (s:ak) (σ:St) (H:Hp) (v:V) (u:ai) (Q:St->Hp->Prop),Inv X pins σ H s->RelV v u->t v σ H Q ->
  ax (ay X.prog X.w) X.A (assign target X.env u) (λ_ s'=>∃σ' H',Inv X pins σ' H' s'/\Q σ' H') X.xe s
def PGs(X:Cx)(ts:List ar)(t:TGs):Prop :=
 ∀(pins:Q0b) (s:ak) (σ:St) (H:Hp) (vs:List V) (us:Q0f) (Q:St->Hp->Prop),Inv X pins σ H s->Vals vs us->t vs σ H Q ->
  ax (ay X.prog X.w) X.A (assignInOrder ((cq ts X.env).map (·.2)) us) (λ_ s'=>∃σ' H',Inv X pins σ' H' s'/\Q σ' H') X.xe s
abbrev Am:=V->V->V->Hp->(Hp->Prop)->Prop
def Al(X:Cx)(t:Am):Prop :=
 ∀(pins:Q0b) (s:ak) (σ:St) (H:Hp) (o i v:V) (ov iv u:ai) (Q:Hp->Prop),Inv X pins σ H s->RelV o ov->RelV i iv->RelV v u->t o i v H Q ->
  ax (ay X.prog X.w) X.A (setItem ov iv u) (λ_ s'=>∃H',Inv X pins σ H' s'/\Q H') X.xe s
section
variable{X:Cx}{pos:bg}
def T4(i:Nat):TG:=λv σ H Q=>Q (σ.set i (aa v)) H
def n6(hN:X.N.Nodup)(hi:X.N[i]?=aa x)(hx:Loc X.env.scope x)(hf:Zr X x:=by first|exact .inl rfl|exact .inr rfl|assumption):PG X (.Name x pos) (T4 i):=by intro pins s σ H v u Q I r h;exact a0t (FI I hN hi hx r (λs' I'=>⟨_,H,I',h⟩) hf)
def P_:TGs:=λvs σ H Q=>vs=[]/\Q σ H
def Vm(t:TG)(u:TGs):TGs:=λvs σ H Q=>∃v r,vs=v::r/\t v σ H λσ' H'=>u r σ' H' Q
def B9:PGs X [] P_:=by intro pins s σ H vs us Q I r h;obtain⟨e,h⟩:=h;subst e;cases r;exact assignInOrder_nil ⟨σ,H,I,h⟩
theorem kQ(h1:PG X e t)(h2:PGs X es u)
  (hs:(cq (e::es) X.env).map (·.2)=assign e X.env::(cq es X.env).map (·.2):=by rfl):PGs X (e::es) (Vm t u):=by
 intro pins s σ H vs us Q I r h;obtain⟨v,vr,e1,h⟩:=h;subst e1
 cases r with
 |cons r rr =>
  rw[hs];refine assignInOrder_cons (eK (h1 pins s σ H _ _ _ I r h) λ_ s1 ⟨σ1,H1,I1,q1⟩=>?_);exact h2 pins s1 σ1 H1 _ _ Q I1 rr q1
def Pz(K:ao)(n:Nat)(t:TGs):TG:=λv σ H Q=>∃a xs,v=.ref a/\fS K H a xs/\xs.length=n/\t xs σ H Q
theorem II(hc:X.calm=ae)(h:PGs X es t)
  (hn:(cq es X.env).length=n:=by rfl) (hst:(cq es X.env).findIdx? (·.1)=ab:=by rfl):PG X (.Tuple es k pos) (Pz X.K n t):=by
 intro pins s σ H v u Q I r hw;obtain⟨a,xs,e1,hq,hl,hw⟩:=hw;subst e1;cases r;obtain⟨its,rv,ht,hz⟩:=I.tuple hq;refine assign_Tuple_tuple (I.ok.hd hc) ht (by simp[hn,<- hl,rv.length]) hst λh' hx=>?_;have I1:Inv X pins σ H {s with heap:=h' }:=I.kept (t':=s.toks) λb o e=>hx b o (gd (b_ e)) e;exact h pins _ σ H xs _ Q I1 (by simpa using rv) hw
def Py(to ti:TE)(t:Am):TG:=λv σ H Q=>to σ H λo H1=>ti σ H1 λi H2=>t o i v H2 λH3=>Q σ H3
theorem T5(ho:PE X o to)(hi:PE X i ti)(hs:Al X t)
  (ha:∀v,assign (.Subscript o i pos) X.env v=(do
   let ov <- holding [v] (eval o X.env)
   let iv <- holding [v,ov] (eval i X.env)
   standAt pos
   holding [v,ov,iv] (setItem ov iv v)
   release [v,ov,iv] []):=by intro _;rfl):PG X (.Subscript o i pos) (Py to ti t):=by
 intro pins s σ H v u Q I r h;rw[ha];refine av (ju (eK (ho pins s σ H _ I h) λov s1 ⟨x,H1,I1,r1,q1⟩=>?_));refine av (ju (eK (hi pins s1 σ H1 _ I1 q1) λiv s2 ⟨y,H2,I2,r2,q2⟩=>?_));refine av (C_ (av (ju (eK (hs pins s2 σ H2 x y v ov iv u _ I2 r1 r2 r q2) λ_ s3 ⟨H3,I3,q3⟩=>?_))));exact wpAny_release ⟨σ,H3,I3,q3⟩
def wm(te:TE)(g:TG):TS:=λD σ H=>te σ H λx H1=>g x σ H1 D.nx
def T6(he:PE X e te)(hg:PG X tg g)(hs:swapsWithSole [tg] e pos.line X.env=pure af:=by rfl)(hw:swappedStores [tg] e X.env=pure ab:=by rfl)
  (h1:(cq [tg] X.env).map (·.2)=[assign tg X.env]:=by rfl):PS X (.Assign [tg] e pos) (wm te g):=by
 intro pins s σ H D I h;refine wpAny_Assign_stores (eK (he pins s σ H _ I h) λv s1 ⟨x,H1,I1,r1,q1⟩=>?_) hs hw;rw[h1];exact eK (hg pins s1 σ H1 x v _ I1 r1 q1) λ_ s2 q=>q
def pU(hN:X.N.Nodup)(hi:X.N[i]?=aa x)(hx:Loc X.env.scope x)(he:PE X e te)(hs:Si X e x pos' pos:=by rfl)(hf:Zr X x:=by first|exact .inl rfl|exact .inr rfl|assumption):
  PS X (.Assign [.Name x pos'] e pos) (wm te (T4 i)):=by
 intro pins s σ H D I h;refine wpAny_Assign_Name (eK (he pins s σ H _ I h) λv s1 ⟨y,H1,I1,r1,q1⟩=>?_) hs;exact FI I1 hN hi hx r1 (λs2 I2=>⟨_,H1,I2,q1⟩) hf
def Zb(c:TT)(tb:TS):TS:=λD σ H=>∃W:Nat->St->Hp->Prop,(∃m,W m σ H) /\∀m σ H,W m σ H ->
 c σ H λb H1=>if b=ae then ∃N:St->Hp->Prop,(∀σ' H',N σ' H' ->∃m',m'<m/\W m' σ' H')/\tb {D with nx:=N,ct:=N,bk:=D.nx} σ H1 else D.nx σ H1
theorem T7(hp:qg (ay X.prog X.w) X.A X.env X.xe)(hc:PT X c tc)(hb:y7 X body tb):PS X (.While c body [] pos) (Zb tc tb):=by
 intro pins s σ H D I h;obtain⟨W,⟨m0,w0⟩,turn⟩:=h;refine wpAny_While (codeAny_whileLoop (λn s'=>∃σ' H',Inv X pins σ' H' s'/\W n σ' H') ?_ m0 ⟨σ,H,I,w0⟩);rintro n s1 ⟨σ1,H1,I1,w1⟩;refine nz hp (eK (hc pins s1 σ1 H1 _ I1 (turn n σ1 H1 w1)) λb s2 ⟨H2,I2,q2⟩=>?_)
 cases b with
 |true =>
  obtain⟨N,hN,q2⟩:=q2;rw[Z_ rfl];refine nz hp (eK (hb pins s2 σ1 H2 _ I2 q2) λf s3 q3=>?_)
  cases f with
  |next =>
   obtain⟨σ3,H3,I3,n3⟩:=q3;obtain⟨m',hm,w3⟩:=hN σ3 H3 n3;exact⟨m',hm,σ3,H3,I3,w3⟩
  |cont =>
   obtain⟨σ3,H3,I3,n3⟩:=q3;obtain⟨m',hm,w3⟩:=hN σ3 H3 n3;exact⟨m',hm,σ3,H3,I3,w3⟩
  |brk=>exact q3
  |ret v=>exact q3
 |false =>
  rw[Zz bt];exact xh ⟨σ1,H2,I2,q2⟩
end
structure It where
 go:Nat->Hp->Prop
 yld:Nat->Hp->V->Hp->Prop
 stop:Nat->Hp->Prop
def oG(X:Cx)(pins:Q0b)(H:Hp)(b:ag):Prop :=
 H b=ab/\b≠X.env.locals/\b∉X.fs/\(b∈X.ex\/X.s₀.heap.objs.size<=b)/\(∀x c,X.env.cells.lookup x=aa c->c≠b) /\∀p∈X.pn++pins,p.1≠b
def Inv.CA(I:Inv X pins σ H s)(hb:s.heap.objs.size<=b)(hn:H' b=ab):oG X pins H' b:=by
 refine⟨hn,iz (f_ I.lt hb),I.Qf hb,.inr (gb I.sz hb),λx c e z=>?_,λp hp z=>?_⟩
 .obtain ⟨v,q⟩:=I.cell x c e;exact Zw (f_ q.lt (by rw[z];exact hb)) (ib _)
 .exact Zw (f_ (b_ (I.pin p hp).1) (by rw[z];exact hb)) (ib _)
structure Turn (P:bf) (w:az) (K:ao) (tg:ar) (J:It) (fp:List ag) (it:ag) (tn:Nat->a_->Prop):Prop where
 mem:it∈fp
 obj:∀i h,tn i h ->∀b∈fp,∃o,h.get? b=aa o /\∀v,o.data≠.cell v
 keep:∀i h h',tn i h->(∀b∈fp,∀o,h.get? b=aa o->h'.get? b=aa o)->tn i h'
 item:∀(X:Cx),X.prog=P->X.w=w->X.K=K->X.calm=ae ->∀(i:Nat) (pins:Q0b) (s:ak) (σ:St) (H:Hp) (E:Q0c),Inv X pins σ H s->(∀b∈fp,oG X pins H b)->tn i s.heap->J.go i H ->
  ax (ay P w) X.A (pyNext (.ref it)) (λr s1=>∃u,r=aa u /\
   ax (ay P w) X.A (letOwnedTupleGo tg (.ref it) u) (λ_ s2=>∃x H',Inv X pins σ H' s2/\RelV x u/\J.yld i H x H'/\tn (i+1) s2.heap /\∀b∈fp,H' b=ab) E s1) E s
 done:∀(X:Cx),X.prog=P->X.w=w->X.K=K->X.calm=ae ->∀(i:Nat) (pins:Q0b) (s:ak) (σ:St) (H:Hp) (E:Q0c),Inv X pins σ H s->(∀b∈fp,oG X pins H b)->tn i s.heap->J.stop i H ->
  ax (ay P w) X.A (pyNext (.ref it)) (λr s1=>r=ab/\Inv X pins σ H s1) E s
 self:∀(A:bq) (i:Nat) (s:ak) (Q:Q0c) (E:Q0c),tn i s.heap->Q (.ref it) s->ax (ay P w) A (pyIter (.ref it)) Q E s
abbrev TI:=St->Hp->(It->Hp->Prop)->Prop
def PIE(X:Cx)(pins:Q0b)(σ:St)(tg:ar)(R:It->Hp->Prop)(itv:ai)(s2:ak):Prop :=
 ∃(it:ag) (fp:List ag) (tn:Nat->a_->Prop) (J:It) (H':Hp),itv=.ref it/\Inv X pins σ H' s2/\Turn X.prog X.w X.K tg J fp it tn/\tn 0 s2.heap/\(∀b∈fp,oG X pins H' b)/\R J H'
def PI(X:Cx)(tg iter:ar)(wi:TI):Prop :=
 ∀(pins:Q0b) (s:ak) (σ:St) (H:Hp) (R:It->Hp->Prop),Inv X pins σ H s->wi σ H R ->
  ax (ay X.prog X.w) X.A (eval iter X.env) (λv s1=>ax (ay X.prog X.w) X.A (pyIter v) (PIE X pins σ tg R) X.xe s1) X.xe s
theorem T8(ho:s.heap.get? it=aa o)(hc:o.cls=.type n)(hd:o.data=.fields vs)
  (hn:["enumerate","zip","dict_itemiterator","dict_reverseitemiterator","odict_iterator","itertools.zip_longest","itertools.pairwise"].contains n=af) (hQ:Q () s):ax M A (letOwnedTupleGo tg (.ref it) u) Q E s:=by
 unfold letOwnedTupleGo;cases tg<;>first
  |exact bb hQ
  | (cases u<;>first
    |exact bb hQ
    | (refine av (wpAny_load ho ?_)
       rw[hc,hd];show ax M A (if(["enumerate","zip","dict_itemiterator","dict_reverseitemiterator","odict_iterator","itertools.zip_longest","itertools.pairwise"].contains n&&vs[0]? == aa (rawInt _))=ae then _ else _) Q E s;rw[Zz (by intro h;rw[hn,y_] at h;cases h)];exact bb hQ))
def Itl(K:ao)(a:ag):It :=
 ⟨λi H=>∃xs x,eE K H a xs/\xs[i]?=aa x,λi H x H'=>H'=H /\∀xs,eE K H a xs->xs[i]?=aa x,λi H=>∃xs,eE K H a xs/\xs.length<=i⟩
def Itt(K:ao)(a:ag):It :=
 ⟨λi H=>∃xs x,fS K H a xs/\xs[i]?=aa x,λi H x H'=>H'=H /\∀xs,fS K H a xs->xs[i]?=aa x,λi H=>∃xs,fS K H a xs/\xs.length<=i⟩
def Itr(lo:Int)(n:Nat):It:=⟨λi _=>i<n,λi H x H'=>H'=H/\x=.int (lo+i),λi _=>n<=i⟩
theorem OH{P:bf}{w:az}{K:ao}{tg:ar}(a it:ag):Turn P w K tg (Itl K a) [it] it (λi h=>h.IsListIter it a i) where
 mem:=by simp
 obj:=λi h st b hb=>by
  have e:b=it:=by simpa using hb
  subst e;obtain⟨o,e,c,d⟩:=st;exact⟨o,e,λv z=>by rw[d] at z;cases z⟩
 keep:=λi h h' st k=>st.at λo e=>k it (by simp) o e
 item:=by intro X hP hw hK hc i pins s σ H E I hf st hg;subst hP hw hK;obtain⟨xs,x,hq,hx⟩:=hg;obtain⟨its,rv,p,hz⟩:=I.list hq;obtain⟨u,hu,ru⟩:=rv.get hx;obtain⟨f0,f1,f2,f3,f4,f5⟩:=hf it (by simp);refine wpAny_pyNext_list_item st p.isList (x:=u) (by simpa using hu) λh' st' sb=>?_;have I1:Inv X pins σ H {s with heap:=h' }:=I.turned (t':=s.toks) (λb o hb e=>(sb.2 b hb).trans e) f0 f1 f3 f4 f5;obtain⟨o,e,c,d⟩:=id st';exact⟨u,rfl,T8 (s:={s with heap:=h' }) e c d (by decide) ⟨x,H,I1,ru,⟨rfl,λys hy=>by rw[I.fX hy hq];exact hx⟩,st',λb hb=>(hf b hb).1⟩⟩
 done:=by intro X hP hw hK hc i pins s σ H E I hf st hg;subst hP hw hK;obtain⟨xs,hq,hx⟩:=hg;obtain⟨its,rv,p,hz⟩:=I.list hq;obtain⟨f0,f1,f2,f3,f4,f5⟩:=hf it (by simp);have hl:=rv.length;exact wpAny_pyNext_list_end (I.ok.hd hc) st p.isList (by simp;omega) λh' eb=>⟨rfl,I.turned (t':=s.toks) (λb o hb e=>eb b o hb e) f0 f1 f3 f4 f5⟩
 self:=λ_ _ _ _ _ st h=>wpAny_pyIter_listiter st h
theorem IJ{P:bf}{w:az}{K:ao}{tg:ar}(a it:ag):Turn P w K tg (Itt K a) [it] it (λi h=>h.IsTupleIter it a i) where
 mem:=by simp
 obj:=λi h st b hb=>by
  have e:b=it:=by simpa using hb
  subst e;obtain⟨o,e,c,d⟩:=st;exact⟨o,e,λv z=>by rw[d] at z;cases z⟩
 keep:=λi h h' st k=>st.at λo e=>k it (by simp) o e
 item:=by intro X hP hw hK hc i pins s σ H E I hf st hg;subst hP hw hK;obtain⟨xs,x,hq,hx⟩:=hg;obtain⟨its,rv,p,hz⟩:=I.tuple hq;obtain⟨u,hu,ru⟩:=rv.get hx;obtain⟨f0,f1,f2,f3,f4,f5⟩:=hf it (by simp);refine wpAny_pyNext_tuple_item st (show s.heap.IsTuple a its.toArray from p) (x:=u) (by simpa using hu) λh' st' sb=>?_;have I1:Inv X pins σ H {s with heap:=h' }:=I.turned (t':=s.toks) (λb o hb e=>(sb.2 b hb).trans e) f0 f1 f3 f4 f5;obtain⟨o,e,c,d⟩:=id st';exact⟨u,rfl,T8 (s:={s with heap:=h' }) e c d (by decide) ⟨x,H,I1,ru,⟨rfl,λys hy=>by rw[I.jB hy hq];exact hx⟩,st',λb hb=>(hf b hb).1⟩⟩
 done:=by intro X hP hw hK hc i pins s σ H E I hf st hg;subst hP hw hK;obtain⟨xs,hq,hx⟩:=hg;obtain⟨its,rv,p,hz⟩:=I.tuple hq;obtain⟨f0,f1,f2,f3,f4,f5⟩:=hf it (by simp);have hl:=rv.length;exact wpAny_pyNext_tuple_end (I.ok.hd hc) st (show s.heap.IsTuple a its.toArray from p) (by simp;omega) λh' eb=>⟨rfl,I.turned (t':=s.toks) (λb o hb e=>eb b o hb e) f0 f1 f3 f4 f5⟩
 self:=λ_ _ _ _ _ st h=>wpAny_pyIter_tupleiter st h
theorem IK{P:bf}{w:az}{K:ao}{tg:ar}(it:ag)(lo:Int)(n:Nat):Turn P w K tg (Itr lo n) [it] it (λi h=>a1d h it (lo+(i:Nat)*1) ((n:Int)-(i:Nat)) 1) where
 mem:=by simp
 obj:=λi h st b hb=>by
  have e:b=it:=by simpa using hb
  subst e;exact⟨_,st,λv z=>by have z':Data.fields _=Data.cell v:=z;cases z'⟩
 keep:=λi h h' st k=>k it (by simp) _ st
 item:=by intro X hP hw hK hc i pins s σ H E I hf st hg;subst hP hw hK;obtain⟨f0,f1,f2,f3,f4,f5⟩:=hf it (by simp);have W:=Walks.range (prog:=X.prog) (w:=X.w) (I.ok.hd hc) it lo 1 n;refine W.item i s _ _ hg st λv h' tk hv st' kk=>?_;obtain⟨t,rfl⟩:=hv;have I1:Inv X pins σ H {s with heap:=h',toks:=tk}:=I.turned (λb o hb e=>kk b o (by simpa using hb) e) f0 f1 f3 f4 f5;refine⟨_,rfl,T8 (s:={s with heap:=h',toks:=tk}) (n:="range_iterator") st' rfl rfl (by decide) ⟨.int (lo+i),H,I1,⟨t,?_⟩,⟨rfl,rfl⟩,st',λb hb=>(hf b hb).1⟩⟩;rw[Gi]
 done:=by intro X hP hw hK hc i pins s σ H E I hf st hg;subst hP hw hK;obtain⟨f0,f1,f2,f3,f4,f5⟩:=hf it (by simp);exact wpAny_pyNext_range_end (I.ok.hd hc) st (by have:n<=i:=hg;omega) λh' eb=>⟨rfl,I.turned (t':=s.toks) (λb o hb e=>eb b o hb e) f0 f1 f3 f4 f5⟩
 self:=λ_ _ _ _ _ st h=>wpAny_pyIter_rangeiter st h
section
variable{X:Cx}{tg:ar}
theorem FJ{pins:Q0b}{σ:St}{H:Hp}{s:ak}{R:It->Hp->Prop}{E:Q0c}{lo hi:Int}{t u v:gy}{tk:Nat}(I:Inv X pins σ H s)(h1:-(2^62)<=lo)(h2:lo<2^62)(h3:-(2^62)<=hi)(h4:hi<2^62)
  (q:R (Itr lo (hi-lo).toNat) H):ax (ay X.prog X.w) X.A (pyIter (.ref s.heap.objs.size)) (PIE X pins σ tg R) E {s with heap:=s.heap.push {cls:=.type "range",data:=.fields #[.int lo t,.int hi u,.int 1 v]},toks:=tk}:=by
 refine wpAny_pyIter_range (IsRange.new ..) (small_one h1 h2 h3 h4) ?_;have I1:Inv X pins σ H {s with heap:=s.heap.push {cls:=.type "range",data:=.fields #[.int lo t,.int hi u,.int 1 v]},toks:=tk}:=I.kept λb o e=>di _ e;refine⟨(s.heap.push {cls:=.type "range",data:=.fields #[.int lo t,.int hi u,.int 1 v]}).objs.size,[(s.heap.push {cls:=.type "range",data:=.fields #[.int lo t,.int hi u,.int 1 v]}).objs.size],_,_,H,rfl,
  I1.kept (t':=tk) λb o e=>di _ e,IK _ lo (hi-lo).toNat,?_,λb hb=>?_,q⟩
 .have e1:lo+((0:Nat):Int)*1=lo:=by simp
  have e2:(((hi-lo).toNat:Nat):Int)-((0:Nat):Int)=a1N lo hi 1:=by rw[a0A];split<;>omega
  show a1d _ _ (lo+((0:Nat):Int)*1) ((((hi-lo).toNat:Nat):Int)-((0:Nat):Int)) 1;rw[e1,e2];exact gc _ rfl
 .have e:b=(s.heap.push {cls:=.type "range",data:=.fields #[.int lo t,.int hi u,.int 1 v]}).objs.size:=by simpa using hb
  subst e;exact I1.CA (bj _) (I1.hok.fresh (bj _))
def Vl(ta:TA):TI:=λσ H R=>ta σ H λvs H1=>∃j:Int,vs=[.int j] /\ -(2^62)<=j/\j<2^62/\R (Itr 0 j.toNat) H1
def Vk(ta:TA):TI:=λσ H R=>ta σ H λvs H1=>∃i j:Int,vs=[.int i,.int j]/\(-(2^62)<=i/\i<2^62 /\ -(2^62)<=j/\j<2^62)/\R (Itr i (j-i).toNat) H1
theorem OJ{a:ar}{ta:TA}{p pos:bg}(hg:Gl X "range")(hm:X.mg "range"=ab)(ha:PA X [a] ta)(hs:aq [a] X.env=[(af,eval a X.env)]:=by rfl):PI X tg (.Call (.Name "range" p) [a] [] pos) (Vl ta):=by
 intro pins s σ H R I h;refine ub (m7 I hg hm Es (qp (eK (ha pos pins s σ H _ I h) λus s1 ⟨vs,H1,I1,r1,q1⟩=>?_) hs rfl));obtain⟨j,e,q1,q2,q⟩:=q1;subst e
 cases r1 with
 |cons r rr =>
  cases rr;obtain⟨t,rfl⟩:=r;exact a0I (FJ I1 (by omega) (by omega) q1 q2 (by simpa using q))
theorem OK(hg:Gl X "range")(hm:X.mg "range"=ab)(ha:PA X [a,b] ta)(hs:aq [a,b] X.env=[(af,eval a X.env),(af,eval b X.env)]:=by rfl)(hs2:aq [b] X.env=[(af,eval b X.env)]:=by rfl):
  PI X tg (.Call (.Name "range" p) [a,b] [] pos) (Vk ta):=by
 intro pins s σ H R I h;refine ub (m7 I hg hm Es (qp (eK (ha pos pins s σ H _ I h) λus s1 ⟨vs,H1,I1,r1,q1⟩=>?_) (by rw[hs,hs2]) (by rw[hs2];rfl)));obtain⟨i,j,e,⟨q1,q2,q3,q4⟩,q⟩:=q1;subst e
 cases r1 with
 |cons r rr =>
  cases rr with
  |cons r' rr =>
   cases rr;obtain⟨t,rfl⟩:=r;obtain⟨t',rfl⟩:=r';exact call_range_2 (FJ I1 q1 q2 q3 q4 q)
def Qt(wi:TI)(g:TG)(tb:TS):TS:=λD σ H=>wi σ H λJ H1=>∃W:Nat->Nat->St->Hp->Prop,(∃m,W 0 m σ H1) /\∀i m σ H,W i m σ H ->
 (J.stop i H/\D.nx σ H)\/(J.go i H /\∃N:St->Hp->Prop,(∀σ' H',N σ' H' ->∃m',m'<m/\W (i+1) m' σ' H') /\∀x H',J.yld i H x H'->g x σ H' λσ2 H2=>tb {D with nx:=N,ct:=N,bk:=D.nx} σ2 H2)
def xK(fp:List ag)(h:a_):List (ag×aw):=fp.filterMap λb=>(h.get? b).map λo=>(b,o)
def lO(hb:b∈fp)(e:h.get? b=aa o):(b,o)∈xK fp h:=yh.mpr ⟨b,hb,by rw[e];rfl⟩
theorem OL(hp:p∈xK fp h):p.1∈fp/\h.get? p.1=aa p.2:=by
 obtain⟨b,hb,e⟩:=yh.mp hp
 cases q:h.get? b with
 |none=>rw[q] at e;cases e
 |some o =>
  rw[q] at e;have e':(b,o)=p:=c_ e;subst e';exact⟨hb,q⟩
def Inv.pinned(I:Inv X pins σ H s)(hf:∀b∈fp,oG X pins H b)(ho:∀b∈fp,∃o,s.heap.get? b=aa o /\∀v,o.data≠.cell v):Inv X (pins++xK fp s.heap) σ H s :=
 I.LW λp hp=>(gu.mp hp).elim (λz=>I.pin p (il _ z)) λz=>by obtain⟨hb,e⟩:=OL z;obtain⟨f0,f1,f2,_⟩:=hf p.1 hb;obtain⟨o,e',d⟩:=ho p.1 hb;rw[e] at e';cases e';exact⟨e,f0,f1,f2,d⟩
def Inv.qZ(I:Inv X (pins++pl) σ H s):Inv X pins σ H s:=I.LW λp hp=>I.pin p (il _ (kr _ hp))
theorem Za(hp:qg (ay X.prog X.w) X.A X.env X.xe)(hc:X.calm=ae)(hi:PI X tg iter wi)(hg:PG X tg g)(hb:y7 X body tb)
  (hs:Zp X iter:=by intro _;rfl):PS X (.For tg iter body [] pos) (Qt wi g tb):=by
 intro pins s σ H D I h;refine wpAny_For (eK (hi pins s σ H _ I h) λv s1 h1=>eK h1 λitv s2 h2=>?_) hs;obtain⟨it,fp,tn,J,H2,e,I2,T,st2,f2,W,⟨m0,w0⟩,turn⟩:=h2;subst e
 -- what stays ae of the iterator's objects through the loop
 have stat:∀{H':Hp},(∀b∈fp,H' b=ab) ->∀b∈fp,oG X pins H' b:=λhn b hb=>⟨hn b hb,(f2 b hb).2⟩;refine codeAny_forLoop_any (λn s'=>∃i σ' H',Inv X pins σ' H' s'/\tn i s'.heap/\(∀b∈fp,H' b=ab)/\W i n σ' H') ?_ m0 ⟨0,σ,H2,I2,st2,λb hb=>(f2 b hb).1,w0⟩;rintro n s3 ⟨i,σ3,H3,I3,st3,fr3,w3⟩;rcases turn i n σ3 H3 w3 with⟨stop,qn⟩|⟨go,N,hN,step⟩
 .refine nz hp (eK (T.done X rfl rfl rfl hc i pins s3 σ3 H3 X.xe I3 (stat fr3) st3 stop) λr s4 ⟨hr,I4⟩=>?_);subst hr;exact xh ⟨σ3,H3,I4,qn⟩
 .refine nz hp (eK (T.item X rfl rfl rfl hc i pins s3 σ3 H3 X.xe I3 (stat fr3) st3 go) λr s4 ⟨u,hr,h4⟩=>?_);subst hr;refine nz hp (eK h4 λ_ s5 ⟨x,H5,I5,r5,y5,st5,fr5⟩=>?_);have I5':=I5.pinned (stat fr5) (T.obj _ _ st5);refine nz hp (eK (hg _ s5 σ3 H5 x u _ I5' r5 (step x H5 y5)) λ_ s6 ⟨σ6,H6,I6,q6⟩=>?_);refine nz hp (eK (hb _ s6 σ6 H6 _ I6 q6) λf s7 q7=>?_);have again:∀{σ7:St} {H7:Hp},Inv X (pins++xK fp s5.heap) σ7 H7 s7->N σ7 H7 ->∃m,m<n /\∃i σ' H',Inv X pins σ' H' s7/\tn i s7.heap/\(∀b∈fp,H' b=ab)/\W i m σ' H':=λ{σ7 H7} I7 n7=>by obtain⟨m',hm,w7⟩:=hN σ7 H7 n7;refine⟨m',hm,i+1,σ7,H7,I7.qZ,T.keep _ _ _ st5 λb hb o e=>(I7.pin (b,o) (il _ (il _ (lO hb e)))).1,λb hb=>?_,w7⟩;obtain⟨o,e,d⟩:=T.obj _ _ st5 b hb;exact(I7.pin (b,o) (il _ (il _ (lO hb e)))).2.1
  cases f with
  |next=>obtain⟨σ7,H7,I7,n7⟩:=q7;exact again I7 n7
  |cont=>obtain⟨σ7,H7,I7,n7⟩:=q7;exact again I7 n7
  |brk=>obtain⟨σ7,H7,I7,q7⟩:=q7;exact⟨σ7,H7,I7.qZ,q7⟩
  |ret v=>obtain⟨x7,σ7,H7,I7,r7,q7⟩:=q7;exact⟨x7,σ7,H7,I7.qZ,r7,q7⟩
end
abbrev R2:=V->V->Hp->VK->Prop
def k9(X:Cx)(f:ai->ai->Sem ai)(r:R2):Prop :=
 ∀(pins:Q0b) (s:ak) (σ:St) (H:Hp) (x y:V) (v u:ai) (Q:VK),Inv X pins σ H s->RelV x v->RelV y u->r x y H Q ->
  ax (ay X.prog X.w) X.A (f v u) (EP X pins σ Q) X.xe s
def UnR(X:Cx)(f:ai->Sem ai)(r:V->Hp->VK->Prop):Prop :=
 ∀(pins:Q0b) (s:ak) (σ:St) (H:Hp) (x:V) (v:ai) (Q:VK),Inv X pins σ H s->RelV x v->r x H Q ->
  ax (ay X.prog X.w) X.A (f v) (EP X pins σ Q) X.xe s
def fM(X:Cx)(f:ai)(r:List V->Hp->VK->Prop):Prop :=
 ∀(pins:Q0b) (s:ak) (σ:St) (H:Hp) (xs:List V) (us:Q0f) (Q:VK),Inv X pins σ H s->Vals xs us->r xs H Q ->
  ax (ay X.prog X.w) X.A (call f us) (EP X pins σ Q) X.xe s
def Qs(X:Cx)(r:V->Hp->(Bool->Hp->Prop)->Prop):Prop :=
 ∀(pins:Q0b) (s:ak) (σ:St) (H:Hp) (x:V) (v:ai) (Q:Bool->Hp->Prop),Inv X pins σ H s->RelV x v->r x H Q ->
  ax (ay X.prog X.w) X.A (truthy v) (TP X pins σ Q) X.xe s
def p_(r:R2)(ta tb:TE):TE:=λσ H Q=>ta σ H λx H1=>tb σ H1 λy H2=>r x y H2 Q
def Ha(r:V->Hp->VK->Prop)(ta:TE):TE:=λσ H Q=>ta σ H λx H1=>r x H1 Q
def rI(C:Int->Int->Prop)(g:Int->Int->V):R2:=λx y H Q=>∃i j,x=.int i/\y=.int j/\C i j/\Q (g i j) H
def XY(g:Int->Int->V):R2:=λx y H Q=>∃i j,x=.int i/\y=.int j/\Q (g i j) H
def rU(g:Int->V):V->Hp->VK->Prop:=λx H Q=>∃i,x=.int i/\Q (g i) H
section
variable{X:Cx}{a b c:ar}{ta tb tc:TE}{pos:bg}
theorem wj(ha:PE X a ta)(hb:PE X b tb){pins:Q0b}{s:ak}{σ:St}{H:Hp}{R:V->V->Hp->Prop}(I:Inv X pins σ H s)
  (h:ta σ H λx H1=>tb σ H1 λy H2=>R x y H2) {Q:Q0c} {f:ai->ai->Sem ai}
  (hf:∀v u s2 x y H2,Inv X pins σ H2 s2->RelV x v->RelV y u->R x y H2->ax (ay X.prog X.w) X.A (f v u) Q X.xe s2):
  ax (ay X.prog X.w) X.A (eval a X.env) (λv s₁=>ax (ay X.prog X.w) X.A (eval b X.env) (λu s₂=>ax (ay X.prog X.w) X.A (f v u) Q X.xe s₂) X.xe s₁) X.xe s:=by
 refine eK (ha pins s σ H _ I h) λv s1 hq6=>?_;obtain⟨x,H1,I1,r1,q1⟩:=hq6;refine eK (hb pins s1 σ H1 _ I1 q1) λu s2 hq7=>?_;obtain⟨y,H2,I2,r2,q2⟩:=hq7;exact hf v u s2 x y H2 I2 r1 r2 q2
def T9{op:Operator}{r:R2}(ho:k9 X (binaryOp op) r)(ha:PE X a ta)(hb:PE X b tb):PE X (.BinOp a op b pos) (p_ r ta tb):=by intro pins s σ H Q I h;exact wpAny_BinOp (wj ha hb I h λv u s2 x y H2 I2 rx ry q=>ho pins s2 σ H2 x y v u Q I2 rx ry q)
def Vj(ho:UnR X (unaryOp op) r)(ha:PE X a ta):PE X (.UnaryOp op a pos) (Ha r ta):=by intro pins s σ H Q I h;exact UnaryOp_ (eK (ha pins s σ H _ I h) λv s1 ⟨x,H1,I1,r1,q1⟩=>ho pins s1 σ H1 x v Q I1 r1 q1)
theorem opI{f:ai->ai->Sem ai}{C:Int->Int->Prop}{g:Int->Int->Int}
  (rule:∀(i j:Int) (t u:gy) (s:ak) (Q:Q0c) (E:Q0c),C i j->Q (.int (g i j) s.toks) {s with toks:=s.toks+1}->ax (ay X.prog X.w) X.A (f (.int i t) (.int j u)) Q E s):
  k9 X f (rI C λi j=>.int (g i j)):=by
 intro pins s σ H x y v u Q I rx ry h;obtain⟨i,j,rfl,rfl,hc,q⟩:=h;obtain⟨t,rfl⟩:=rx;obtain⟨t',rfl⟩:=ry;exact rule i j t t' s _ _ hc ⟨.int (g i j),H,I.tok _,⟨_,rfl⟩,q⟩
theorem Ak{f:ai->ai->Sem ai}{g:Int->Int->Int}
  (rule:∀(i j:Int) (t u:gy) (s:ak) (Q:Q0c) (E:Q0c),Q (.int (g i j) s.toks) {s with toks:=s.toks+1}->ax (ay X.prog X.w) X.A (f (.int i t) (.int j u)) Q E s):
  k9 X f (XY λi j=>.int (g i j)):=by
 intro pins s σ H x y v u Q I rx ry h;obtain⟨i,j,rfl,rfl,q⟩:=h;obtain⟨t,rfl⟩:=rx;obtain⟨t',rfl⟩:=ry;exact rule i j t t' s _ _ ⟨.int (g i j),H,I.tok _,⟨_,rfl⟩,q⟩
theorem wg{f:ai->ai->Sem ai}{g:Int->Int->Bool}
  (rule:∀(i j:Int) (t u:gy) (s:ak) (Q:Q0c) (E:Q0c),Q (.bool (g i j)) s->ax (ay X.prog X.w) X.A (f (.int i t) (.int j u)) Q E s):
  k9 X f (XY λi j=>.bl (g i j)):=by
 intro pins s σ H x y v u Q I rx ry h;obtain⟨i,j,rfl,rfl,q⟩:=h;obtain⟨t,rfl⟩:=rx;obtain⟨t',rfl⟩:=ry;exact rule i j t t' s _ _ ⟨.bl (g i j),H,I,rfl,q⟩
def Aj(i j:Int):Prop:=0<j/\j<1073741824
def Ai(i j:Int):Prop:=0<=j/\j<=1000000/\i.natAbs<2^64
def ZS(i j:Int):Prop:=(-(2^64)<i/\i<2^64)\/(-(2^64)<j/\j<2^64)
def ZS.ok{i j:Int}(h:ZS i j):tu i j:=by
 rcases h with⟨h1,h2⟩|⟨h1,h2⟩
 .exact .of_left (a0E h1 h2)
 .exact .of_right (a0E h1 h2)
def Y_:k9 X (binaryOp .Add) (XY λi j=>.int (i+j)):=Ak λ_ _ _ _ _ _ _ q=>add_int q
def Yz:k9 X (binaryOp .Sub) (XY λi j=>.int (i-j)):=Ak λ_ _ _ _ _ _ _ q=>sub_int q
def ZT:k9 X (binaryOp .FloorDiv) (rI Aj λi j=>.int (i/j)):=opI λi j _ _ _ _ _ hc q=>by have h1:(0:Int)<j:=hc.1;have h2:j<1073741824:=hc.2;exact floordiv_int (by omega) (by rw[Int.fdiv_eq_ediv_of_nonneg i (by omega)];exact q) (.inl (PyProof.noPylong_small (by omega)))
def Yy:k9 X (binaryOp .Mod) (rI (λ_ j=>0<j) λi j=>.int (i%j)):=opI λi j _ _ _ _ _ hc q=>by have h1:(0:Int)<j:=hc;exact mod_int' (by omega) (by rw[Int.fmod_eq_emod_of_nonneg i (by omega)];exact q)
def Yx:k9 X (binaryOp .Pow) (rI Ai λi j=>.int (i^j.toNat)):=opI λ_ _ _ _ _ _ _ hc q=>pow_int_small hc.1 hc.2.1 hc.2.2 q
theorem unI{f:ai->Sem ai}{g:Int->Int}
  (rule:∀(i:Int) (t:gy) (s:ak) (Q:Q0c) (E:Q0c),Q (.int (g i) s.toks) {s with toks:=s.toks+1}->ax (ay X.prog X.w) X.A (f (.int i t)) Q E s):
  UnR X f (rU λi=>.int (g i)):=by
 intro pins s σ H x v Q I rx h;obtain⟨i,rfl,q⟩:=h;obtain⟨t,rfl⟩:=rx;exact rule i t s _ _ ⟨.int (g i),H,I.tok _,⟨_,rfl⟩,q⟩
def Yw:UnR X (unaryOp .USub) (rU λi=>.int (-i)):=unI λ_ _ _ _ _ q=>neg_int q
end
noncomputable def we:V->V->Bool
 |.non,.non=>ae | .non,.int _=>ae | .int _,.non=>ae | .non,.bl _=>ae | .bl _,.non=>ae | .non,.str _=>ae | .str _,.non=>ae
 |.int _,.int _=>ae | .bl _,.bl _=>ae | .str _,.str _=>ae | .IG _,.IG _=>ae
 |.int _,.str _=>ae | .str _,.int _=>ae | .bl _,.str _=>ae | .str _,.bl _=>ae
 |_,_=>af
def ze:R2:=λx y H Q=>we x y=ae/\Q (.bl (Zv (x=y))) H
def uw:R2:=λx y H Q=>we x y=ae/\Q (.bl (!Zv (x=y))) H
def CB:Zv (V.int i=V.int j)=(i == j):=by rw[g_];simp
def IL:Zv (V.bl i=V.bl j)=(i == j):=by rw[g_];simp
def CC:Zv (V.str i=V.str j)=(i == j):=by rw[g_];simp
def LZ:Zv (V.IG i=V.IG j)=(i.toList == j.toList):=by rw[g_];cases i;cases j;simp
section
variable{X:Cx}{a b c:ar}{ta tb tc:TE}{pos:bg}
def cC(I:Inv X pins σ H s)(q:Q (.bl k) H)(e:k=k'):EP X pins σ Q (.bool k') s:=by subst e;exact⟨.bl k,H,I,rfl,q⟩
theorem Bv:k9 X (compareOp .Eq) ze:=by
 intro pins s σ H x y v u Q I rx ry h;obtain⟨hs,q⟩:=h
 cases x with
 |non =>
  cases rx
  cases y with
  |non=>cases ry;exact a3E (cC I q (by simp))
  |bl j=>cases ry;exact a3G (cC I q (by simp))
  |int j=>obtain⟨t',rfl⟩:=ry;exact a3F (cC I q (by simp))
  |str j=>obtain⟨t',rfl⟩:=ry;exact a3D (cC I q (by simp))
  |_=>exact Zw (show af=ae from hs) bt
 |bl i =>
  cases rx
  cases y with
  |non=>cases ry;exact a3I (cC I q (by simp))
  |bl j=>cases ry;exact eq_bool (cC I q IL)
  |str j=>obtain⟨t',rfl⟩:=ry;exact a3Q (cC I q (by simp))
  |_=>exact Zw (show af=ae from hs) bt
 |int i =>
  obtain⟨t,rfl⟩:=rx
  cases y with
  |non=>cases ry;exact a3H (cC I q (by simp))
  |int j=>obtain⟨t',rfl⟩:=ry;exact eq_int (cC I q CB)
  |str j=>obtain⟨t',rfl⟩:=ry;exact a3P (cC I q (by simp))
  |_=>exact Zw (show af=ae from hs) bt
 |str i =>
  obtain⟨t,rfl⟩:=rx
  cases y with
  |non=>cases ry;exact a3C (cC I q (by simp))
  |bl j=>cases ry;exact a3O (cC I q (by simp))
  |int j=>obtain⟨t',rfl⟩:=ry;exact a3N (cC I q (by simp))
  |str j=>obtain⟨t',rfl⟩:=ry;exact eq_str (cC I q CC)
  |_=>exact Zw (show af=ae from hs) bt
 |IG i =>
  obtain⟨t,rfl⟩:=rx
  cases y with
  |IG j=>obtain⟨t',rfl⟩:=ry;exact PySem.W.eq_bytes (cC I q LZ)
  |_=>exact Zw (show af=ae from hs) bt
 |_=>cases y<;>exact Zw (show af=ae from hs) bt
theorem Bu:k9 X (compareOp .NotEq) uw:=by
 intro pins s σ H x y v u Q I rx ry h;obtain⟨hs,q⟩:=h
 cases x with
 |non =>
  cases rx
  cases y with
  |non=>cases ry;exact a3x (cC I q (by simp))
  |bl j=>cases ry;exact a3z (cC I q (by simp))
  |int j=>obtain⟨t',rfl⟩:=ry;exact a3y (cC I q (by simp))
  |str j=>obtain⟨t',rfl⟩:=ry;exact a3w (cC I q (by simp))
  |_=>exact Zw (show af=ae from hs) bt
 |bl i =>
  cases rx
  cases y with
  |non=>cases ry;exact a3B (cC I q (by simp))
  |bl j=>cases ry;exact ne_bool (cC I q (congrArg not IL))
  |str j=>obtain⟨t',rfl⟩:=ry;exact a3M (cC I q (by simp))
  |_=>exact Zw (show af=ae from hs) bt
 |int i =>
  obtain⟨t,rfl⟩:=rx
  cases y with
  |non=>cases ry;exact a3A (cC I q (by simp))
  |int j=>obtain⟨t',rfl⟩:=ry;exact ne_int (cC I q (congrArg not CB))
  |str j=>obtain⟨t',rfl⟩:=ry;exact a3L (cC I q (by simp))
  |_=>exact Zw (show af=ae from hs) bt
 |str i =>
  obtain⟨t,rfl⟩:=rx
  cases y with
  |non=>cases ry;exact a3v (cC I q (by simp))
  |bl j=>cases ry;exact a3K (cC I q (by simp))
  |int j=>obtain⟨t',rfl⟩:=ry;exact a3J (cC I q (by simp))
  |str j=>obtain⟨t',rfl⟩:=ry;exact ne_str (cC I q (congrArg not CC))
  |_=>exact Zw (show af=ae from hs) bt
 |IG i =>
  obtain⟨t,rfl⟩:=rx
  cases y with
  |IG j=>obtain⟨t',rfl⟩:=ry;exact PySem.W.ne_bytes (cC I q (congrArg not LZ))
  |_=>exact Zw (show af=ae from hs) bt
 |_=>cases y<;>exact Zw (show af=ae from hs) bt
def Vi:k9 X (compareOp .Lt) (XY λi j=>.bl (Zv (i<j))):=wg λ_ _ _ _ _ _ _ q=>lt_int q
def Bt:k9 X (compareOp .Gt) (XY λi j=>.bl (Zv (j<i))):=wg λ_ _ _ _ _ _ _ q=>gt_int q
def Vh:k9 X (compareOp .GtE) (XY λi j=>.bl (Zv (j<=i))):=wg λ_ _ _ _ _ _ _ q=>ge_int q
def UA:k9 X (compareOp .Is) (λx y H Q=>y=.non/\Q (.bl (Zv (x=.non))) H):=by
 intro pins s σ H x y v u Q I rx ry h;obtain⟨rfl,q⟩:=h;cases ry;refine is_none_gen (cC I q ?_);cases x<;>first
  | (cases rx;rfl)
  | (obtain⟨t,rfl⟩:=rx;rfl)
def ZU:k9 X (compareOp .IsNot) (λx y H Q=>y=.non/\Q (.bl (!Zv (x=.non))) H):=by
 intro pins s σ H x y v u Q I rx ry h;obtain⟨rfl,q⟩:=h;cases ry;refine isnot_none_gen (cC I q ?_);cases x<;>first
  | (cases rx;rfl)
  | (obtain⟨t,rfl⟩:=rx;rfl)
def k9.or(h:k9 X f r)(h':k9 X f r'):k9 X f (λx y H Q=>r x y H Q\/r' x y H Q):=by
 intro pins s σ H x y v u Q I rx ry q;rcases q with q|q
 .exact h pins s σ H x y v u Q I rx ry q
 .exact h' pins s σ H x y v u Q I rx ry q
def h8(b:ar)(h:op≠.In:=by decide)(h2:op≠.NotIn:=by decide):behindInMarks op b=af:=by
 have e1:(op == CmpOp.In)=af:=by cases op<;>first|rfl|exact Zw rfl h
 have e2:(op == CmpOp.NotIn)=af:=by cases op<;>first|rfl|exact Zw rfl h2
 cases b<;>simp[behindInMarks,e1,e2]
def ZV{op:CmpOp}{r:R2}(ho:k9 X (compareOp op) r)(ha:PE X a ta)(hb:PE X b tb)(hm:behindInMarks op b=af):PE X (.Compare a [op] [b] pos) (p_ r ta tb):=by intro pins s σ H Q I h;exact wpAny_Compare1 (wj ha hb I h λv u s2 x y H2 I2 rx ry q=>ho pins s2 σ H2 x y v u Q I2 rx ry q) hm
def MA(t:TE):TT:=λσ H Q=>t σ H λx H'=>∃k,x=.bl k/\Q k H'
theorem ZW(ho:k9 X (compareOp op) r)(ha:PE X a ta)(hb:PE X b tb)(hm:behindInMarks op b=af):PT X (.Compare a [op] [b] pos) (MA (p_ r ta tb)):=by
 intro pins s σ H Q I h;refine a0l (eK (ha pins s σ H _ I h) λv s1 ⟨x,H1,I1,r1,q1⟩=>eK (hb pins s1 σ H1 _ I1 q1) λu s2 ⟨y,H2,I2,r2,q2⟩ =>
  eK (ho pins s2 σ H2 x y v u _ I2 r1 r2 q2) λc s3 ⟨z,H3,I3,r3,k,e,q3⟩=>?_) hm
 subst e;cases r3;exact kb ⟨H3,I3,q3⟩
def Ag(K:ao)(x:V)(H:Hp)(k:Bool):Prop :=
 match x with
 |.non=>k=af
 |.bl b=>k=b
 |.int i=>k=(i !=0)
 |.str y=>y.length<=bc/\k=((y.length:Int) !=0)
 |.IG y=>y.size<=bc/\k=((y.size:Int) !=0)
 |.ref p=>(∃xs,eE K H p xs/\k=!xs.isEmpty)\/(∃xs,fS K H p xs/\k=!xs.isEmpty) \/∃kvs,H p=aa (.dK kvs)/\k=!kvs.isEmpty
 |_=>False
def IM{κ:Type}{kvs:List (κ×V)}{vs:List (κ×ai)}(r:KV kvs vs):(!vs.isEmpty)=!kvs.isEmpty:=by cases r<;>rfl
def lP{xs:List V}{its:Q0f}(r:Vals xs its):(!its.toArray.isEmpty)=!xs.isEmpty:=by cases r<;>simp
def xM:(bc:Nat)<2^63:=by rw[gp];decide
theorem Yv:Qs X (λx H Q=>∃k,Ag X.K x H k/\Q k H):=by
 intro pins s σ H x v Q I rx h;obtain⟨k,e,q⟩:=h;have hl:=xM;have hs:bc=16777216:=gp
 cases x with
 |non =>
  cases rx;have e':k=af:=e;subst e';exact truthy_none ⟨H,I,q⟩
 |bl b =>
  cases rx;have e':k=b:=e;subst e';exact kb ⟨H,I,q⟩
 |int i =>
  obtain⟨t,rfl⟩:=rx;have e':k=(i !=0):=e;subst e';exact PySem.P.truthy_int ⟨H,I,q⟩
 |str y =>
  obtain⟨t,rfl⟩:=rx;obtain⟨hy,e'⟩:y.length<=bc/\k=((y.length:Int) !=0):=e;subst e';exact PySem.P.truthy_str (by omega) ⟨H,I.tok _,q⟩
 |IG y =>
  obtain⟨t,rfl⟩:=rx;obtain⟨hy,e'⟩:y.size<=bc/\k=((y.size:Int) !=0):=e;subst e';exact PySem.W.truthy_bytes (by omega) ⟨H,I.tok _,q⟩
 |ref p =>
  cases rx;have e':(∃xs,eE X.K H p xs/\k=!xs.isEmpty)\/(∃xs,fS X.K H p xs/\k=!xs.isEmpty) \/∃kvs,H p=aa (.dK kvs)/\k=!kvs.isEmpty:=e;rcases e' with⟨xs,hx,e'⟩|⟨xs,hx,e'⟩|⟨kvs,hx,e'⟩
  .subst e';obtain⟨its,r,pl,hz⟩:=I.list hx;have hlen:=r.length;exact a0c pl.isList (by simp only[cn];omega) ⟨H,I.tok _,by rw[lP r];exact q⟩
  .subst e';obtain⟨its,r,pl,hz⟩:=I.tuple hx;have hlen:=r.length;exact a1P pl (by simp only[cn];omega) ⟨H,I.tok _,by rw[lP r];exact q⟩
  .subst e';obtain⟨hz,hS,vs,r,m⟩:kvs.length<=bc/\(p == sysModules)=af /\∃vs,KV kvs vs/\s.heap.DictOf (bA X.prog X.w) p vs:=I.hok p _ hx;have hlen:kvs.length=vs.length:=qh r;exact wpAny_truthy_dict hS m (by omega) ⟨H,I.tok _,by rw[IM r];exact q⟩
 |_=>exact(show False from e).elim
theorem UB(ha:PE X a ta)(he:∀whole,isTrue a X.env whole=(do let v <- whole;standAt a.pos;holding [v] (truthy v))):
  PT X a (λσ H Q=>ta σ H λx H'=>∃k,Ag X.K x H' k/\Q k H'):=by
 intro pins s σ H Q I h;exact isTrue_plain (eK (ha pins s σ H _ I h) λv s1 ⟨x,H1,I1,r1,q1⟩=>Yv pins s1 σ H1 x v Q I1 r1 q1) (he _)
def IP:k9 X (binaryOp .Add) (λx y H Q=>∃i j,x=.str i/\y=.str j/\i.length+j.length<=bc/\Q (.str (i++j)) H):=by intro pins s σ H x y v u Q I rx ry h;obtain⟨i,j,rfl,rfl,hz,q⟩:=h;obtain⟨t,rfl⟩:=rx;obtain⟨t',rfl⟩:=ry;exact add_str (λt' tk=>⟨.str (i++j),H,I.tok _,⟨_,rfl⟩,q⟩) hz
theorem vals1(r:Vals [x] us):∃u,us=[u]/\RelV x u:=by
 cases r with
 |cons r1 r2=>cases r2;exact⟨_,rfl,r1⟩
theorem vals2(r:Vals [x,y] us):∃u w',us=[u,w']/\RelV x u/\RelV y w':=by
 cases r with
 |cons r1 r2 =>
  cases r2 with
  |cons r3 r4=>cases r4;exact⟨_,_,rfl,r1,r3⟩
def OM:fM X (.type "int") (λxs H Q=>(∃i,xs=[.int i]/\Q (.int i) H) \/∃k,xs=[.bl k]/\Q (.int (if k then 1 else 0)) H):=by
 intro pins s σ H xs us Q I r h;rcases h with⟨i,rfl,q⟩|⟨k,rfl,q⟩
 .obtain ⟨u,rfl,t,rfl⟩:=vals1 r;exact call_int_int ⟨.int i,H,I,⟨_,rfl⟩,q⟩
 .obtain ⟨u,rfl,r1⟩:=vals1 r;cases r1;exact call_int_bool ⟨.int (if k then 1 else 0),H,I.tok _,⟨_,rfl⟩,q⟩
end
structure wd (h:a_) (x dx C:ag) (mA:Q0d):Prop where
 obj:h.get? x=aa (instObj C dx)
 ns:h.Ns1 dx mA
 ne:dx≠x
def ON{h:a_}{dx:ag}{mA:Q0d}(n:h.Ns1 dx mA):∃od,h.get? dx=aa od /\∀name,lookIn name od=aa (mA name):=by
 obtain⟨o,es,ep,ho,hd,hk,_,hm⟩:=n;refine⟨o,ho,λname=>?_⟩;have e:=hm name;unfold nsFind findBy at e;rw[<- Array.find?_toList] at e;unfold lookIn;rw[hd];dsimp only;split
 .rename_i y q;rw[q] at e;exact congrArg aa e
 .rename_i q;rw[q] at e;have a:es.toList.any (·.refKey)=af:=by rw[List.any_eq_false];intro y hy;obtain⟨z,t,hkey⟩:=hk y (Array.mem_toList_iff.mp hy);simp[a3R,hkey]
  have a':¬ es.toList.any (·.refKey)=ae:=by rw[a];exact bt
  rw[Zz a'];exact congrArg aa e
def wd.look(I:wd h x dx C mA):∃od,PySem.W.InstAt h x (instObj C dx) C (aa od) /\∀name,lookIn name od=aa (mA name) :=
 let ⟨od,ho,hl⟩:=ON I.ns
 ⟨od,⟨I.obj,rfl,rfl,ho⟩,hl⟩
theorem m4.some_of(r:m4 (aa v) o):∃u,o=aa u/\RelV v u:=by
 cases o with
 |none=>exact(show False from r).elim
 |some u=>exact⟨u,rfl,r⟩
section
variable{P:bf}{w:az}{H H':Hp}{h h':a_}{a C dx:ag}{fs fs':List (aj×V)}
def ZX(hok:oR P w H h)(e:H a=aa (.ins C dx fs)):∃mA,wd h a dx C mA/\(∀f,m4 (fs.lookup f) (mA f))/\a0L mA (fs.map (·.1))/\fs.length<=1000/\H dx=aa (.own a):=by obtain⟨d,z,ne,ob,mA,n,r,q⟩:=(show dO P w H h a (.ins C dx fs) from hok a _ e);exact⟨mA,⟨ob,n,ne⟩,r,q,z,d⟩
end
structure Cls (K:ao) (C:ag):Prop where
 pg:a0N K C Str.empty=ae
 hd:PySem.W.hasDictIn K C=ae
 po:PySem.W.plainOver K C=ae
 sa:a0R K (.ref C) "__setattr__"=aa (aa (.builtin "object.__setattr__"))
def Cls.get{K:ao}{C:ag}(c:Cls K C)(f:aj):a0N K C f=ae:=c.pg
section
variable{X:Cx}{pins:Q0b}{σ:St}{H:Hp}{s:ak}{A:bq}{E:Q0c}{Q:Q0c}{c:ai}{b:Bool}
inductive rA (K:ao) (H:Hp):V->ai->Prop where
 |non:rA K H .non (.type "NoneType")
 |bl (x:Bool):rA K H (.bl x) (.type "bool")
 |int (i:Int):rA K H (.int i) (.type "int")
 |str (x:aj):rA K H (.str x) (.type "str")
 |flt (x:UInt64):rA K H (.flt x) (.type "float")
 |lst {a:ag} {xs:List V} (e:H a=aa (.lst xs)):rA K H (.ref a) (.type "list")
 |xD {a:ag} {o:aw} {xs:List V} (e:H a=aa (.xD o (.lst xs))):rA K H (.ref a) (.type "list")
 |tup {a:ag} {xs:List V} (e:H a=aa (.tup xs)):rA K H (.ref a) (.type "tuple")
 |dK {a:ag} {kvs:List (Key×V)} (e:H a=aa (.dK kvs)):rA K H (.ref a) (.type "dict")
 |dT {a:ag} {kvs:List (List Key×V)} (e:H a=aa (.dT kvs)):rA K H (.ref a) (.type "dict")
 |ins {a C dx:ag} {fs:List (aj×V)} (e:H a=aa (.ins C dx fs)) (cl:Cls K C) (ha:a0R K (.ref C) "__class__"=aa (aa (.builtin "object.__class__")))
   (hn:PySem.W.specialIn K (.builtin "object.__class__") "__get__"=aa (aa (.builtin "getset_descriptor.__get__"))) (htk:PySem.W.takesIn K (.builtin "object.__class__")=aa ae)
   (hm:PySem.W.mroIn K C (.type "object")=aa ae):rA K H (.ref a) (.ref C)
theorem OO(I:Inv X pins σ H s)(rx:RelV x u)(ty:rA X.K H x t)(e:kitOne X.K t c=aa b)(h:∀tk,Q (.bool b) {s with toks:=tk}):
  ax (ay X.prog X.w) A (call (.builtin "isinstance") [u,c]) Q E s:=by
 cases ty with
 |non=>cases (show u=ke from rx);exact iu PySem.W.kitx_none I.B8 jm e (λz=>nomatch z) h
 |bl y=>cases (show u=oj y from rx);exact iu PySem.W.kitx_bool I.B8 jm e (λz=>nomatch z) h
 |int i=>obtain⟨t,q⟩:=(show ∃t,u=jv i t from rx);cases q;exact iu PySem.W.kitx_int I.B8 jm e (λz=>nomatch z) h
 |str y=>obtain⟨t,q⟩:=(show ∃t,u=xm y t from rx);cases q;exact iu PySem.W.kitx_str I.B8 jm e (λz=>nomatch z) h
 |flt y=>obtain⟨t,q⟩:=(show ∃t,u=a00 y t from rx);cases q;exact iu PySem.W.kitx_float I.B8 jm e (λz=>nomatch z) h
 | @lst a xs ea =>
  cases (show u=cx a from rx);obtain⟨_,_,n,_,h1⟩:=(show dO X.prog X.w H s.heap a (.lst xs) from I.hok a _ ea);exact iu Dw I.B8 ⟨_,h1,rfl⟩ e (λz=>nomatch z) h
 | @xD a ob xs ea =>
  cases (show u=cx a from rx);obtain⟨_,_,_,n,_,h1⟩:=(show dO X.prog X.w H s.heap a (.xD ob (.lst xs)) from I.hok a _ ea);exact iu Dw I.B8 ⟨_,h1,rfl⟩ e (λz=>nomatch z) h
 | @tup a xs ea =>
  cases (show u=cx a from rx);obtain⟨_,_,_,p,_⟩:=(show dO X.prog X.w H s.heap a (.tup xs) from I.hok a _ ea);obtain⟨o,h1,h2,_⟩:=p;exact iu a0P I.B8 ⟨o,h1,h2⟩ e (λz=>nomatch z) h
 | @dK a kvs ea =>
  cases (show u=cx a from rx);obtain⟨_,_,vs,_,p⟩:=(show dO X.prog X.w H s.heap a (.dK kvs) from I.hok a _ ea);obtain⟨o,es,ep,h1,h2,_⟩:=p;exact iu a0Q I.B8 ⟨o,h1,h2.1⟩ e (λz=>nomatch z) h
 | @dT a kvs ea =>
  cases (show u=cx a from rx);obtain⟨_,_,xs,_,o,es,ep,h1,h2,_⟩:=(show dO X.prog X.w H s.heap a (.dT kvs) from I.hok a _ ea);exact iu a0Q I.B8 ⟨o,h1,h2.1⟩ e (λz=>nomatch z) h
 | @ins a C dx fs ea cl ha hn htk hm =>
  cases (show u=cx a from rx);obtain⟨mA,O,_⟩:=ZX I.hok ea;obtain⟨od,J,_⟩:=O.look;exact iu (PySem.W.kitx_own (cl.get _) cl.hd ha hn htk hm) I.B8 J e (λz=>nomatch z) h
end
structure gL (k:Nat) (A:bq):Prop where
 hd:A.handled=ab
 dp:A.depth+3*k+5<recursionLimit
 un:A.units+16*k+200<cc
def gL.mono(r:gL k A)(h:j<=k):gL j A:=⟨r.hd,by have:=r.dp;omega,by have:=r.un;omega⟩
def gL.deeper(r:gL (k+1) A)(env:fz):gL k (A.deeper env) :=
 ⟨r.hd,by have:=r.dp;show A.depth+1+3*k+5<_;omega,by have:=r.un;show A.units+3+16*k+200<_;omega⟩
def gL.depth(r:gL k A):A.depth<recursionLimit:=by have:=r.dp;omega
def gL.units(r:gL k A):A.units+64<cc:=by have:=r.un;omega
def OP:TA:=λ_ H Q=>Q [] H
def FK(ta:TE)(tr:TA):TA:=λσ H Q=>ta σ H λx H1=>tr σ H1 λxs H2=>Q (x::xs) H2
section
variable{X:Cx}{e:ar}{es:List ar}{te:TE}{t:TA}{pos:bg}
def m9:PA X [] OP:=λ_ _ _ _ H Q I h=>a1E ⟨[],H,I,.nil,h⟩
def iF(ha:PE X e te)(hr:PA X es t)(hs:Zs X e es:=by rfl):PA X (e::es) (FK te t):=by intro pos pins s σ H Q I h;rw[hs];show ax _ _ (spliced ((af,eval e X.env)::dg pos (aq es X.env))) _ _ s;refine a1F (eK (ha pins s σ H _ I h) λu s1 ⟨x,H1,I1,r1,q1⟩=>?_);exact eK (hr pos pins s1 σ H1 _ I1 q1) λus s2 hq8=>by obtain⟨xs,H2,I2,r2,q2⟩:=hq8;exact⟨x::xs,H2,I2,.cons r1 r2,q2⟩
def Qr(t:TA):TE:=λσ H Q=>t σ H λxs H1=>xs.length<=bc /\∀p,H1 p=ab->Q (.ref p) (upd H1 p (.tup xs))
def Qq(t:TA):TE:=λσ H Q=>t σ H λxs H1=>xs.length<=bc /\∀p,H1 p=ab->Q (.ref p) (upd H1 p (.lst xs))
def Yu{x1}(h:PA X es t):PE X (.Tuple es x1 pos) (Qr t):=by intro pins s σ H Q I hq;refine wpAny_Tuple_spliced (eK (h pos pins s σ H _ I hq) λus s1 ⟨xs,H1,I1,r,z,q⟩=>⟨by rw[<- r.length];exact z,?_⟩);have hf:H1 s1.heap.objs.size=ab:=I1.hok.fresh (bj _);refine⟨.ref s1.heap.objs.size,upd H1 s1.heap.objs.size (.tup xs),I1.laid (t':=s1.toks) (λb u e=>di _ e) (bj _) ?_,rfl,q _ hf⟩;exact⟨z,us,r,⟨_,gc _ rfl,rfl,_,rfl⟩,DL.new _ _⟩
def Yt(h:PA X es t):PE X (.List es pos) (Qq t):=by intro pins s σ H Q I hq;refine wpAny_List_spliced (eK (h pos pins s σ H _ I hq) λus s1 ⟨xs,H1,I1,r,z,q⟩=>⟨by rw[<- r.length];exact z,?_⟩);have hf:H1 s1.heap.objs.size=ab:=I1.hok.fresh (bj _);refine⟨.ref s1.heap.objs.size,upd H1 s1.heap.objs.size (.lst xs),I1.laid (t':=s1.toks) (λb u e=>di _ e) (bj _) ?_,rfl,q _ hf⟩;exact⟨z,us,0,r,gc _ rfl⟩
end
abbrev Sp:=List V->Hp->VK->XK->Prop
abbrev MB:=List fz->Hp->ak->XK->ai->ak->Prop
structure ZY (P:bf) (w:az) (K:ao) (mg:Q0d) (base:a_) (A:bq) (outer:List fz) (s:ak) (H:Hp):Prop where
 frames:A.frames=aa outer
 mod:Mod K mg base
 bs:∀b o,base.get? b=aa o->s.heap.get? b=aa o/\H b=ab
 ZL:base.objs.size<=s.heap.objs.size
 xH:s.heap.FunFrames base outer
 frf:∀b∈frs outer,H b=ab
 hok:oR P w H s.heap
 bare:lp s.gens
 tab:ZK K base H
def CE(outer:List fz)(P:bf)(w:az)(H:Hp)(s:ak)(Q:VK)(u:ai)(s':ak):Prop :=
 ∃v H',s'.os=s.os/\lp s'.gens/\Un (frs outer) [] H H' s.heap s'.heap/\oR P w H' s'.heap/\RelV v u/\Q v H'
def CR(CX:MB)(outer:List fz)(P:bf)(w:az)(H:Hp)(s:ak)(Q:VK)(E:XK)(r:Result)(s':ak):Prop :=
 match r with
 |.ok (.ret u)=>CE outer P w H s Q u s'
 |.ok _=>False
 |.error e=>CX outer H s E e s'
structure lQ (P:bf) (w:az) (K:ao) (mg:Q0d) (base:a_) (CX:MB) (k:Nat) (f:ag) (fd:gq) (ps:Q0g) (sp:Sp):Prop where
 len:∀vs H Q E,sp vs H Q E->vs.length=ps.length
 run:∀(A:bq) (outer:List fz) (s:ak) (H:Hp) (args:Args) (us:Q0f) (vs:List V) (Q:VK) (E:XK),gL k A->ZY P w K mg base A outer s H->qo s fd args (ps.zip us)->Vals vs us->sp vs H Q E ->
  mx (ay P w) A (.call (.ref f) args) (CR CX outer P w H s Q E) s
theorem lQ.mono{P:bf}{w:az}{K:ao}{mg:Q0d}{base:a_}{CX:MB}{j k:Nat}{f:ag}{fd:gq}{ps:Q0g}{sp:Sp}(F:lQ P w K mg base CX j f fd ps sp)(h:j<=k):
  lQ P w K mg base CX k f fd ps sp:=⟨F.len,λA outer s H args us vs Q E hr=>F.run A outer s H args us vs Q E (hr.mono h)⟩
section
variable{X:Cx}{pins:Q0b}{σ:St}{H:Hp}{s s':ak}
def Inv.env0(I:Inv X pins σ H s):ZY X.prog X.w X.K X.mg X.base X.A X.stack s H :=
 ⟨I.ok.frames,I.ok.mod,I.bs,gb I.ok.ZL I.sz,I.stack,I.LV,I.hok,I.bare,I.tab⟩
def Inv.after(I:Inv X pins σ H s)(h:CE X.stack X.prog X.w H s Q u s'):EP X pins σ Q u s':=by obtain⟨v,H',os,bare,un,hok,r,q⟩:=h;obtain⟨hh,g,d,t,os'⟩:=s';obtain rfl:os'=s.os:=os;exact⟨v,H',I.call (h':=hh) (g':=g) (d':=d) (t':=t) (ch:=[]) un hok bare (λb z=>Zw z (by simp)),r,q⟩
end
def Bs(sp:Sp)(dvs:List V)(E:XK)(t:TA):TE:=λσ H Q=>t σ H λvs H1=>sp (vs++dvs) H1 Q E
def Binds(K:ao)(fd:gq)(ps:Q0g)(ds:Q0f):Prop :=
 ∀(s:ak) (us:Q0f),K.In s.heap->(us++ds).length=ps.length->qo s fd ⟨us,[]⟩ (ps.zip (us++ds))
def Binds.all{K:ao}{fd:gq}{ps:Q0g}(h:∀us:Q0f,us.length=ps.length->bindArgs fd ⟨us,[]⟩=pure (ps.zip us)):Binds K fd ps []:=λs us _ hl=>by rw[jh] at hl ⊢;exact .of_eq (h us hl)
def Passes(CX:MB)(X:Cx)(E:XK):Prop:=∀(pins:Q0b) (σ:St) (H:Hp) (s:ak) (e:ai) (s':ak),Inv X pins σ H s->CX X.stack H s E e s'->X.xe e s'
section
variable{X:Cx}{CX:MB}{k:Nat}{f C:ag}{fd:gq}{ps:Q0g}{sp:Sp}{dvs:List V}{ds:Q0f}{E:XK}{x m:aj}{p pos apos:bg}{e o:ar}{es:List ar}{ta:TE}{t:TA}
theorem Ys(F:lQ X.prog X.w X.K X.mg X.base CX k f fd ps sp)(hr:gL k X.A)(hb:Binds X.K fd ps ds)(hd:Vals dvs ds)(hx:Passes CX X E)
  (I:Inv X pins σ H s) (r:Vals vs us) (h:sp (vs++dvs) H Q E):ax (ay X.prog X.w) X.A (call (.ref f) us) (EP X pins σ Q) X.xe s:=by
 have r2:Vals (vs++dvs) (us++ds):=r.append hd;have hl:(us++ds).length=ps.length:=by rw[<- r2.length];exact F.len _ _ _ _ h
 refine wpAny_call (Dt (F.run X.A X.stack s H ⟨us,[]⟩ (us++ds) (vs++dvs) Q E hr I.env0 (hb s us I.B8 hl) r2 h) λr s' hq=>?_)
 cases r with
 |error e=>exact hx pins σ H s e s' I hq
 |ok fl =>
  cases fl with
  |ret u=>exact I.after hq
  |next=>exact jl hq
  |brk=>exact jl hq
  |cont=>exact jl hq
theorem CD(F:lQ X.prog X.w X.K X.mg X.base CX k f fd ps sp)(hr:gL k X.A)(hg:Gl X x)(hm:X.mg x=aa (.ref f))(hk:keepIn X.K (.ref f)=ae)(hb:Binds X.K fd ps ds)(hd:Vals dvs ds)(hx:Passes CX X E)
  (ha:PA X (e::es) t) (hdb:Zu x:=by decide) (he:Zs X e es:=by rfl) (hpl:Q0k X pos es:=by rfl):
  PE X (.Call (.Name x p) (e::es) [] pos) (Bs sp dvs E t):=by
 intro pins s σ H Q I h;refine Dj (ZN I hg hm ?_ hdb);refine PySem.W.callWith_K (h₀:=X.base) I.ok.mod.kin hk (eK (ha pos pins s σ H _ I h) λus s1 ⟨vs,H1,I1,r,q⟩=>⟨I1.B8,?_⟩) he hpl;exact Ys F hr hb hd hx I1 r q
end
structure i7 (N P:Q0g) (sc:gk):Prop where
 kind:sc.kind=.function
 co:sc.isCoroutine=af
 gen:sc.isGenerator=af
 nd:N.Nodup
 pre:N.take P.length=P
 par:∀x∈P,sc.names.lookup x=aa .local\/sc.names.lookup x=aa .cell
 Yr:∀y∈sc.names,y.2≠.free
theorem AG{kindOf:aj->Option ij}{x:aj}:∀{binds:List (aj×ai)} {m:Q0d},(∀v,(x,v)∉binds)->bindL kindOf binds m x=m x
 |[],_,_=>rfl
 | (n,v)::r,m,h=>by
  unfold bindL;rw[AG λw hw=>h w (dq _ hw)];split
  .have:x≠n:=by rintro rfl;exact h v cp
   simp[this]
  .rfl
theorem AH{kindOf:aj->Option ij}{x:aj}:∀{binds:List (aj×ai)} {m:Q0d},(∀v,(x,v)∉binds)->bindC kindOf binds m x=m x
 |[],_,_=>rfl
 | (n,v)::r,m,h=>by
  unfold bindC;rw[AH λw hw=>h w (dq _ hw)];split
  .rfl
  .have:x≠n:=by rintro rfl;exact h v cp
   simp[this]
theorem AI{kindOf:aj->Option ij}{x:aj}{v:ai}:∀{P:Q0g} {vs:Q0f} {i:Nat} {m:Q0d},P.Nodup->P[i]?=aa x->vs[i]?=aa v->kindOf x=aa .local ->
  bindL kindOf (P.zip vs) m x=aa v
 |[],_,_,_,_,h,_,_=>by simp at h
 |_::_,[],_,_,_,_,h,_=>by simp at h
 |p::P,w::vs,0,m,nd,h1,h2,hk=>by simp at h1 h2;subst h1;subst h2;show bindL kindOf ((p,w)::P.zip vs) m p=_;unfold bindL;rw[AG λv hv=>(ma.mp nd).1 (uf hv).1,Z_ hk];simp
 |p::P,w::vs,i+1,m,nd,h1,h2,hk=>by show bindL kindOf ((p,w)::P.zip vs) m x=_;unfold bindL;exact AI (i:=i) (ma.mp nd).2 (by simpa using h1) (by simpa using h2) hk
theorem AJ{kindOf:aj->Option ij}{x:aj}{v:ai}:∀{P:Q0g} {vs:Q0f} {i:Nat} {m:Q0d},P.Nodup->P[i]?=aa x->vs[i]?=aa v->kindOf x≠aa .local ->
  bindC kindOf (P.zip vs) m x=aa v
 |[],_,_,_,_,h,_,_=>by simp at h
 |_::_,[],_,_,_,_,h,_=>by simp at h
 |p::P,w::vs,0,m,nd,h1,h2,hk=>by simp at h1 h2;subst h1;subst h2;show bindC kindOf ((p,w)::P.zip vs) m p=_;unfold bindC;rw[AH λv hv=>(ma.mp nd).1 (uf hv).1,Zz hk];simp
 |p::P,w::vs,i+1,m,nd,h1,h2,hk=>by show bindC kindOf ((p,w)::P.zip vs) m x=_;unfold bindC;exact AJ (i:=i) (ma.mp nd).2 (by simpa using h1) (by simpa using h2) hk
def start(N:Q0g)(vs:List V):St:=vs.map aa++fq (N.length-vs.length) ab
def xN(CX:MB)(P:bf)(w:az)(K:ao)(mg:Q0d)(base:a_)(N:Q0g)(qual:aj)(scope:gk)(f:ag)(cd:ai)(A:bq)(outer:List fz)(s:ak)(H:Hp)(E:XK):Cx where
 prog:=P
 w:=w
 K:=K
 mg:=mg
 base:=base
 A:=A.deeper (envOfC qual scope s.heap.objs.size f cd)
 N:=N
 s₀:=s
 H₀:=H
 env:=envOfC qual scope s.heap.objs.size f cd
 outer:=outer
 stack:=envOfC qual scope s.heap.objs.size f cd::outer
 ex:=[]
 calm:=ae
 fn:=λ_=>ae
 pn:=[]
 xe:=λe s'=>ax (ay P w) (A.deeper (envOfC qual scope s.heap.objs.size f cd)) (leaving (envOfC qual scope s.heap.objs.size f cd) e) (λ_ s''=>CX outer H s E e s'') (λe' s''=>CX outer H s E e' s'') s'
def FL{sc:gk}{n:Nat}{x:aj}(h:sc.names.lookup x=aa .cell):∃c,(cellsFrom n sc.names []).lookup x=aa c:=by have q:=a0S sc.names n [] (.inl h);exact Option.isSome_iff_exists.mp q
theorem OQ{CX:MB}{P:bf}{w:az}{K:ao}{mg:Q0d}{base:a_}{N ps:Q0g}{qual:aj}{scope:gk}{f:ag}{cd:ai}{A:bq}{outer:List fz}{s s1:ak}{H:Hp}{E:XK}{us:Q0f}{vs:List V}
  (S:i7 N ps scope) (hd:A.handled=ab) (e0:ZY P w K mg base A outer s H) (hl:vs.length=ps.length) (r:Vals vs us)
  (x:InCallC s s.heap.objs.size (bindL (envOfC qual scope s.heap.objs.size f cd).kindOf (ps.zip us) λ_=>ab) (cellsFrom (s.heap.objs.size+1) scope.names []) (bindC (envOfC qual scope s.heap.objs.size f cd).kindOf (ps.zip us) λ_=>ab) s1):
  Inv (xN CX P w K mg base N qual scope f cd A outer s H E) [] (start N vs) H s1:=by
 have hpl:ps.length<=N.length:=by have:=congrArg oz S.pre;rw[jb] at this;omega
 obtain⟨h1,tk,rfl,hk⟩:=x.done;have noA:∀b:ag,b∉(xN CX P w K mg base N qual scope f cd A outer s H E).ex:=λb z=>Zw (show b∈([]:List ag) from z) (by simp);refine⟨⟨e0.mod,S.kind,rfl,rfl,bj _,λy z c h1 h2=>?_,λy hy=>?_,λy c _ h=>?_,λ_=>hd,Around.frames_deeper e0.frames,.inr ⟨rfl,rfl⟩,λb z=>Zw z (noA b),e0.bs,e0.ZL,λb _ _=>noA b,λb z=>Zw z (noA b),e0.xH,e0.frf,e0.tab⟩,
  rfl,e0.bare,Un.kept hk,⟨_,x.toInCall.ns,λi y v h1 h2 h3=>?_⟩,λy c h=>⟨_,x.cell y c h⟩,e0.hok.fresh (bj _),λy c h=>?_,λp hp=>Zw (show p∈([]:Q0b) from hp) (by simp),e0.hok.kept hk,?_⟩
 .exact a0C x.apart (kc h1) (kc h2)
 .have hy:scope.names.lookup y=aa .cell\/scope.names.lookup y=aa .free:=hy;rcases hy with hy|hy
  .exact FL hy
  .exact Zw rfl (S.Yr _ (kc hy))
 .exact km (x.above y c (kc h))
 .have hi:i<vs.length:=by
   unfold start at h2;by_cases hi:i<vs.length
   .exact hi
   .rw [jf (by simpa using hi)] at h2;rw[mh] at h2;split at h2<;>cases h2
  have ha:vs[i]?=aa v:=by
   unfold start at h2;rw[jg (by simpa using hi),cf] at h2
   cases e:vs[i]? with
   |none=>rw[e] at h2;cases h2
   |some a=>rw[e] at h2;cases h2;rfl
  obtain⟨u,hu,rv⟩:=r.get ha;have hp:ps[i]?=aa y:=by rw[<- S.pre,um (by omega)];exact h1
  have ndP:ps.Nodup:=by rw[<- S.pre];exact S.nd.sublist (Ff _ _)
  refine⟨u,rv,?_⟩;rcases S.par y (ik hp) with k|k
  .exact .inl ⟨k,AI ndP hp hu k⟩
  .obtain ⟨c,e⟩:=FL (n:=s.heap.objs.size+1) k;refine .inr ⟨.inl k,c,e,?_⟩;have q:=x.cell y c e;rw[AJ ndP hp hu (by show scope.names.lookup y≠_;rw[k];decide)] at q;exact q
 .exact e0.hok.fresh (km (x.above y c (kc h)))
 .unfold start;show _=N.length;rw[ck,au,nk];omega
theorem Vg{CX:MB}{P:bf}{w:az}{K:ao}{mg:Q0d}{base:a_}{k:Nat}{f:ag}{name qual:aj}{params:Arguments}{body:List cz}{scope:gk}{dV kV doc pm cdv ct oc:ai}{an od:Option ag}
  {osl:Array (Option ai)} {N ps:Q0g} {sp:Sp} (lk:K.lookup f=aa ⟨oc,od,.func (fnOf name qual params body scope dV kV doc pm an cdv ct),osl⟩) (hcd:codeIn K cdv qual=ae) (S:i7 N ps scope)
  (len:∀vs H Q E,sp vs H Q E->vs.length=ps.length)
  (hbody:∀(A:bq) (outer:List fz) (s:ak) (H:Hp) (vs:List V) (Q:VK) (E:XK),gL k (A.deeper (envOfC qual scope s.heap.objs.size f cdv))->sp vs H Q E ->
   ∃t,y7 (xN CX P w K mg base N qual scope f cdv A outer s H E) body t/\t {nx:=λ_ H'=>Q .non H',rt:=Q} (start N vs) H):
  lQ P w K mg base CX (k+1) f (fnOf name qual params body scope dV kV doc pm an cdv ct) ps sp:=by
 refine⟨len,λA outer s H args us vs Q E hr e0 hb r hsp=>?_⟩;have hl:=len _ _ _ _ hsp;have KX:K.In s.heap:=e0.mod.kin.keeps λb o e=>(e0.bs b o e).1;have lim:s.heap.NoLimit:=e0.mod.nolimit.keeps λb o e=>(e0.bs b o e).1;have hkind:∀y∈ps.zip us,scope.names.lookup y.1=aa .local\/(scope.names.lookup y.1=aa .cell/\((cellsFrom (s.heap.objs.size+1) scope.names []).lookup y.1).isSome=ae):=λ⟨n,v⟩ hy=>by
  rcases S.par n (uf hy).1 with q|q
  .exact .inl q
  .exact .inr ⟨q,a0S _ _ _ (.inl q)⟩
 refine codeAny_call_function hr.depth (KX _ _ lk) rfl S.co S.gen rfl (PySem.W.codeRec_of KX hcd) (hb _ _ _ _ ?_);refine wpAny_newFunctionEnv_cells S.kind hkind λenv he s1 x=>?_;subst he;refine⟨lim.keeps x.toInCall.keep,codeAny_func ?_⟩;obtain⟨t,ht,hq⟩:=hbody A outer s H vs Q E (hr.deeper _) hsp;have I:Inv (xN CX P w K mg base N qual scope f cdv A outer s H E) [] (start N vs) H s1:=OQ S hr.hd e0 hl r x;refine mv (ht [] s1 (start N vs) H _ I hq) (λfl s' hs=>?_) λe s' hs=>hs;have fin:∀{σ':St} {H':Hp} {v:V} {u:ai},Inv (xN CX P w K mg base N qual scope f cdv A outer s H E) [] σ' H' s'->RelV v u->Q v H'->CE outer P w H s Q u s' :=
  λ{σ' H' v u} J rv q=>⟨v,H',J.os,J.bare,J.base,J.hok,rv,q⟩
 cases fl with
 |ret u =>
  obtain⟨v,σ',H',J,rv,q⟩:=hs;exact fin J rv q
 |next =>
  obtain⟨σ',H',J,q⟩:=hs;exact fin (v:=V.non) (u:=ke) J rfl q
 |brk =>
  obtain⟨_,_,_,q⟩:=hs;exact jl q
 |cont =>
  obtain⟨_,_,_,q⟩:=hs;exact jl q
section
variable{X:Cx}{x:aj}{p pos:bg}{e:ar}{es:List ar}{t:TA}{id T:String}{r:List V->Hp->VK->Prop}
def rh(r:List V->Hp->VK->Prop)(t:TA):TE:=λσ H Q=>t σ H λvs H1=>r vs H1 Q
def rB(hc:fM X (.builtin id) r)(hg:Gl X x)(hm:X.mg x=ab)(hv:bootBuiltins x=aa (.builtin id))(ha:PA X (e::es) t)(hn:x ≠ "__name__":=by decide)(hdb:Zu x:=by decide)
  (he:Zs X e es:=by rfl) (hpl:Q0k X pos es:=by rfl):PE X (.Call (.Name x p) (e::es) [] pos) (rh r t):=by
 intro pins s σ H Q I h;refine Dj (m7 I hg hm hv ?_ hn hdb);exact a3Z (eK (ha pos pins s σ H _ I h) λus s1 ⟨vs,H1,I1,r1,q1⟩=>hc pins s1 σ H1 vs us Q I1 r1 q1) he hpl
def AK(hc:fM X (.type T) r)(hg:Gl X x)(hm:X.mg x=ab)(hv:bootBuiltins x=aa (.type T))(ha:PA X (e::es) t)(hn:x ≠ "__name__":=by decide)(hdb:Zu x:=by decide)
  (he:Zs X e es:=by rfl) (hpl:Q0k X pos es:=by rfl):PE X (.Call (.Name x p) (e::es) [] pos) (rh r t):=by
 intro pins s σ H Q I h;refine Dj (m7 I hg hm hv ?_ hn hdb);exact qp (eK (ha pos pins s σ H _ I h) λus s1 ⟨vs,H1,I1,r1,q1⟩=>hc pins s1 σ H1 vs us Q I1 r1 q1) he hpl
end
end L2
namespace HT
open PyProof.Rows
section
open PySem.SeqAt

open PySem.MeetsSeq PySem.MeetsSeq2 PySem.MeetsSeq3
end
section
variable{prog:bf}{w:az}{A:bq}{E:Q0c}{s:ak}
theorem ZZ(ht:gr s.heap t vs.toArray)(hb:gr s.heap b ws.toArray)(hv:vs≠[])
  (h1:ws=[]->Q (.ref t) s) (h2:ws≠[]->Q (.ref s.heap.objs.size) {s with heap:=s.heap.push {cls:=.type "tuple",data:=.seq (vs++ws).toArray} })
  (hsz:vs.length+ws.length<=bc):ax (ay prog w) A (binaryOp .Add (.ref t) (.ref b)) Q E s:=by
 obtain⟨⟨cls,dd,data,sl⟩,ho,hc,n,hd⟩:=id ht;obtain⟨⟨cls2,dd2,data2,sl2⟩,ho2,hc2,n2,hd2⟩:=id hb;simp only at hc hd hc2 hd2;subst hc hd hc2 hd2;have e:vs.toArray++ws.toArray=(vs++ws).toArray:=by simp
 by_cases hw:ws=[]
 .exact Ds ⟨_,ho,rfl⟩ ⟨_,ho2,rfl⟩ Dq Dl Eg Ek (El _ _)
   (tuple_addW1 t b vs.toArray ws.toArray n n2 dd dd2 sl sl2 (by simpa using hv) (by simp[hw])) ⟨ho,ho2,h1 hw⟩
 .refine Ds ⟨_,ho,rfl⟩ ⟨_,ho2,rfl⟩ Dq Dl Eg Ek (El _ _)
   (tuple_addW2 t b vs.toArray ws.toArray n n2 dd dd2 sl sl2 (by simpa using hv) (by simpa using hw) (by rw[cn,cn];exact hsz)) ⟨ho,ho2,?_⟩
  rw[e];exact h2 hw
noncomputable def gD(n d:Nat):Option Int->Nat
 |none=>d
 |some v=>if v<0 then(v+(n:Int)).toNat else min v.toNat n
theorem Yq(n d:Nat)(hd:d<=n)(o:Option Int):gD n d o<=n:=by
 cases o with
 |none=>exact hd
 |some v =>
  show(if v<0 then(v+(n:Int)).toNat else min v.toNat n)<=n;by_cases hv:v<0
  .rw [Z_ hv];omega
  .rw [Zz hv];exact a2b _ _
def MC(v:Int)(n d:Nat):(if v<0 then max (v+(n:Int)) 0 else min v (n:Int))=((gD n d (aa v):Nat):Int):=by
 show(if v<0 then max (v+(n:Int)) 0 else min v (n:Int))=(((if v<0 then(v+(n:Int)).toNat else min v.toNat n):Nat):Int);by_cases hv:v<0
 .simp only[Z_ hv];omega
 .simp only[Zz hv];omega
def IQ(lo hi:Option Int)(n:Nat):En lo hi 1 (n:Int)=(((gD n 0 lo:Nat):Int),((gD n n hi:Nat):Int)):=by
 have h1:¬ ((1:Int)<0):=by omega
 unfold En;simp only[h1,if_false];refine jz ?_ ?_
 .cases lo with
  |none=>rfl
  |some v=>exact MC v n 0
 .cases hi with
  |none=>rfl
  |some v=>exact MC v n n
def IS(i j:Nat):xw (i:Int) (j:Int) 1=j-i:=by
 unfold xw;have h1:(1:Int)>0:=by omega
 simp only[h1,if_true,a2Z];split<;>omega
theorem xO(p:kh v o)(h:Q o s):ax (ay prog w) A (a3T v) Q E s:=by
 cases p with
 |none=>exact a1S h
 |int i t=>exact slicePart_int h
theorem kR{sl:ag}{vl vu:ai}{lo hi:Option Int}{n:Nat}{Q:Int×Int×Nat->ak->Prop}(hs:s.heap.IsSliceOf sl vl vu .none)(pl:kh vl lo)(pu:kh vu hi)
  (h:Q (((gD n 0 lo:Nat):Int),1,gD n n hi-gD n 0 lo) s):ax (ay prog w) A (a1M (.ref sl) (pure (n:Int))) Q E s:=by
 obtain⟨os,hos,hcs,hds⟩:=id hs;unfold a1M a3U;refine av (av (n_ hos hds (x:=vl) rfl (av (n_ hos hds (x:=vu) rfl (av (n_ hos hds (x:=.none) rfl (bb ?_)))))));refine av (a1S ?_);show ax _ _ (if((1:Int) == 0)=ae then _ else _) _ _ s;rw[Zz (by decide)];refine av (xO pl (av (xO pu (av (bb ?_)))));show ax _ _ (match En lo hi 1 (n:Int) with|(lo,hi)=>pure (lo,(1:Int),xw lo hi 1)) _ _ s;rw[IQ lo hi n];show ax _ _ (pure (((gD n 0 lo:Nat):Int),(1:Int),xw ((gD n 0 lo:Nat):Int) ((gD n n hi:Nat):Int) 1)) _ _ s;rw[IS];exact bb h
def UC(xs:Array ai)(i k:Nat):((bh k).filterMap λ(m:Nat)=>xs[((i:Int)+(m:Int)*1).toNat]?).toArray=((xs.toList.drop i).take k).toArray:=by
 have e:(λ(m:Nat)=>xs[((i:Int)+(m:Int)*1).toNat]?)=λm=>xs[i+m]?:=by
  funext m
  have:((i:Int)+(m:Int)*1).toNat=i+m:=by omega
  rw[this]
 rw[e];have:=pick_run xs i k;rw[yq] at this;have e2:((λx=>xs[x]?)∘λx=>i+x)=λm=>xs[i+m]?:=rfl;rw[e2] at this;rw[this]
theorem rC{t sl:ag}{items:Array ai}{vl vu:ai}{lo hi:Option Int}{Q:Q0c}(ht:gr s.heap t items)(hs:s.heap.IsSliceOf sl vl vu .none)(pl:kh vl lo)(pu:kh vu hi)
  (hw:¬ (gD items.size 0 lo=0/\gD items.size items.size hi=items.size))
  (h:Q (.ref s.heap.objs.size) {s with heap:=s.heap.push {cls:=.type "tuple",data:=.seq ((items.toList.drop (gD items.size 0 lo)).take (gD items.size items.size hi-gD items.size 0 lo)).toArray} })
  (hsz:items.size<=bc):ax (ay prog w) A (getItem (.ref t) (.ref sl)) Q E s:=by
 have MD:sizeOk (.seq ((items.toList.drop (gD items.size 0 lo)).take (gD items.size items.size hi-gD items.size 0 lo)).toArray):=by show((items.toList.drop (gD items.size 0 lo)).take (gD items.size items.size hi-gD items.size 0 lo)).toArray.size<=bc;rw[cn,jb,ui,Gu];omega
 have hj:gD items.size items.size hi<=items.size:=Yq _ _ (bj _) hi;obtain⟨os,hos,hcs,hds⟩:=id hs;have Il:s.TypeIs (.ref sl) "slice":=⟨os,hos,hcs⟩;unfold getItem
 try with_reducible refine ju ?_
 first|refine av (bb ?_)|skip
 refine av (a0h ht.typeIs (by decide) ?_);refine av (qc (name:=xn "__getitem__") ht.typeIs om
  (iq om ht.typeIs a1X ?_ (a11 _ _)))
 show ax _ _ (a1J (.ref t) >>= _) _ _ s;refine av (a1O ht ?_);refine av (Cz Il ?_);rw[Z_ (by decide)];refine av (kR hs pl pu ?_);have hno:¬ ((((gD items.size 0 lo:Nat):Int) == 0&&(1:Int) == 1&&(gD items.size items.size hi-gD items.size 0 lo) == items.size)=ae):=by intro q;rw[gn,gn] at q;have q1:((gD items.size 0 lo:Nat):Int)=0:=eq_of_beq q.1.1;have q2:gD items.size items.size hi-gD items.size 0 lo=items.size:=eq_of_beq q.2;exact hw ⟨by omega,by omega⟩
 show ax _ _ (if(((gD items.size 0 lo:Nat):Int) == 0&&(1:Int) == 1&&(gD items.size items.size hi-gD items.size 0 lo) == items.size)=ae then _ else _) _ _ s;rw[Zz hno,UC]
 first
  |exact av (m:=xv _) (tj (bb ⟨_,rfl,bb h⟩) MD)
  |exact av (m:=xv _) (tj (av (bb (bb ⟨_,rfl,bb h⟩))) MD)
  |exact av (av (m:=xv _) (tj (bb (bb ⟨_,rfl,bb h⟩)) MD))
  |exact av (av (m:=xv _) (tj (bb ⟨_,rfl,bb h⟩) MD))
end
end HT
namespace L2
open PySem.Spec PyProof.Rows
abbrev TO:=St->Hp->(Option Int->Hp->Prop)->Prop
def PO(X:Cx)(e:Option ar)(t:TO):Prop :=
 ∀(pins:Q0b) (s:ak) (σ:St) (H:Hp) (Q:Option Int->Hp->Prop),Inv X pins σ H s->t σ H Q ->
  ax (ay X.prog X.w) X.A (evalPart e X.env) (λu s'=>∃o H',Inv X pins σ H' s'/\kh u o/\Q o H') X.xe s
def Z0:TO:=λ_ H Q=>Q ab H
def Vf(t:TE):TO:=λσ H Q=>t σ H λx H1=>∃i,x=.int i/\Q (aa i) H1
theorem intsAre_of:∀{us:Q0f},Vals (ns.map V.int) us->jy us ns:=by
 induction ns with
 |nil=>intro us r;rw[j_] at r;cases r;exact .nil
 |cons n ns ih =>
  intro us r;rw[bp] at r
  cases r with
  |cons r1 r2 =>
   obtain⟨t,e⟩:=r1;subst e;exact .cons n t (ih r2)
section
variable{X:Cx}{e:ar}{te:TE}{lo hi:Option ar}{tl th:TO}{pos p2:bg}
def Z1:PO X ab Z0:=by intro pins s σ H Q I h;rw[Dr];exact bb ⟨ab,H,I,.none,h⟩
def Z2(h:PE X e te):PO X (aa e) (Vf te):=by intro pins s σ H Q I hw;rw[a0G];refine eK (h pins s σ H _ I hw) λu s1 hq9=>?_;obtain⟨x,H1,I1,r1,q1⟩:=hq9;obtain⟨i,rfl,q⟩:=q1;obtain⟨t,rfl⟩:=r1;exact⟨aa i,H1,I1,.int i t,q⟩
def SlR(X:Cx)(r:V->Option Int->Option Int->Hp->VK->Prop):Prop :=
 ∀(pins:Q0b) (s:ak) (σ:St) (H:Hp) (x:V) (v vl vu:ai) (lo hi:Option Int) (sl:ag) (Q:VK),Inv X pins σ H s->RelV x v->s.heap.IsSliceOf sl vl vu .none->kh vl lo->kh vu hi->r x lo hi H Q ->
  ∃T id,typeLookup (.type T) "__getitem__"=pure (aa (.builtin id))/\s.TypeIs v T/\ax (ay X.prog X.w) X.A (getItem v (.ref sl)) (EP X pins σ Q) X.xe s
def SlR.or(h:SlR X r)(h':SlR X r'):SlR X (λx lo hi H Q=>r x lo hi H Q\/r' x lo hi H Q):=by
 intro pins s σ H x v vl vu lo hi sl Q I rx hs pl pu q;rcases q with q|q
 .exact h pins s σ H x v vl vu lo hi sl Q I rx hs pl pu q
 .exact h' pins s σ H x v vl vu lo hi sl Q I rx hs pl pu q
def Hb(r:V->Option Int->Option Int->Hp->VK->Prop)(te:TE)(tl th:TO):TE:=λσ H Q=>te σ H λx H1=>tl σ H1 λl H2=>th σ H2 λu H3=>r x l u H3 Q
def UD(hr:SlR X r)(he:PE X e te)(hl:PO X lo tl)(hu:PO X hi th):PE X (.Subscript e (.Slice lo hi ab p2) pos) (Hb r te tl th):=by intro pins s σ H Q I h;refine x_ (eK (he pins s σ H _ I h) λv s1 ⟨x,H1,I1,r1,q1⟩=>?_);refine a0u (eK (hl pins s1 σ H1 _ I1 q1) λvl s2 ⟨l,H2,I2,pl,q2⟩=>eK (hu pins s2 σ H2 _ I2 q2) λvu s3 ⟨u,H3,I3,pu,q3⟩=>?_);rw[Dr];refine bb ?_;have I4:Inv X pins σ H3 {s3 with heap:=s3.heap.push {cls:=.type "slice",data:=.fields #[vl,vu,.none]} }:=I3.kept (t':=s3.toks) λb ob q=>di _ q;obtain⟨T,id,hT,ht,hg⟩:=hr pins {s3 with heap:=s3.heap.push {cls:=.type "slice",data:=.fields #[vl,vu,.none]} } σ H3 x v vl vu l u s3.heap.objs.size Q I4 r1 (a1f ..) pl pu q3;show ax (ay X.prog X.w) X.A (subscriptTail e (.Slice lo hi ab p2) v (.ref s3.heap.objs.size)) (EP X pins σ Q) X.xe {s3 with heap:=s3.heap.push {cls:=.type "slice",data:=.fields #[vl,vu,.none]} };exact tail_any (ops:=[.ref s3.heap.objs.size,v]) ht hT hg (by with_unfolding_all rfl)
def FN(xs:List V)(lo hi:Option Int):List V:=(xs.drop (HT.gD xs.length 0 lo)).take (HT.gD xs.length xs.length hi-HT.gD xs.length 0 lo)
def uF(xs:List V)(lo hi:Option Int):(FN xs lo hi).length<=xs.length:=by unfold FN;rw[jb,ui];omega
def Px(K:ao):V->Option Int->Option Int->Hp->VK->Prop:=λx lo hi H Q=>∃a xs,x=.ref a/\fS K H a xs /\
 ¬ (HT.gD xs.length 0 lo=0/\HT.gD xs.length xs.length hi=xs.length) /\∀p,H p=ab->Q (.ref p) (upd H p (.tup (FN xs lo hi)))
def Yp:SlR X (Px X.K):=by
 intro pins s σ H x v vl vu lo hi sl Q I rx hs pl pu h;obtain⟨a,xs,rfl,hx,hw,q⟩:=h;cases rx;obtain⟨its,r,ht,hz⟩:=I.tuple hx;have hlen:its.toArray.size=xs.length:=by rw[cn];exact r.length.symm
 refine⟨"tuple",_,om.lookup,ht.typeIs,?_⟩;refine HT.rC ht hs pl pu (by rw[hlen];exact hw) ?_ (by rw[hlen];exact hz);rw[hlen];refine⟨.ref s.heap.objs.size,_,I.laid (t':=s.toks) (o:=.tup (FN xs lo hi)) (λb ob q=>di _ q) (bj _) ?_,rfl,q _ (I.hok.fresh (bj _))⟩;exact⟨gb (uF xs lo hi) hz,_,(r.drop (HT.gD xs.length 0 lo)).take (HT.gD xs.length xs.length hi-HT.gD xs.length 0 lo),Ew _ _,DL.new _ _⟩
def Ve(K:ao):R2:=λx y H Q=>∃a b xs ys,x=.ref a/\y=.ref b/\fS K H a xs/\fS K H b ys/\xs≠[]/\xs.length+ys.length<=bc /\
 (ys=[]->Q (.ref a) H)/\(ys≠[] ->∀p,H p=ab->Q (.ref p) (upd H p (.tup (xs++ys))))
theorem Vals.CF(r:Vals xs us):us=[]↔xs=[]:=by
 cases r with
 |nil=>simp
 |cons _ _=>simp
def Z3:k9 X (binaryOp .Add) (Ve X.K):=by intro pins s σ H x y v u Q I rx ry h;obtain⟨a,b,xs,ys,rfl,rfl,ha,hb,hx,hz,q1,q2⟩:=h;cases rx;cases ry;obtain⟨its,r1,p1,_⟩:=I.tuple ha;obtain⟨its2,r2,p2,_⟩:=I.tuple hb;refine HT.ZZ p1 p2 (λz=>hx (r1.CF.mp z)) (λz=>⟨.ref a,H,I,rfl,q1 (r2.CF.mp z)⟩) (λz=>?_) (by rw[<- r1.length,<- r2.length];exact hz);refine⟨.ref s.heap.objs.size,_,I.laid (t':=s.toks) (o:=.tup (xs++ys)) (λb ob q=>di _ q) (bj _) ?_,rfl,q2 (λw=>z (r2.CF.mpr w)) _ (I.hok.fresh (bj _))⟩;exact⟨by rw[ck];exact hz,_,r1.append r2,Ew _ _,DL.new _ _⟩
end
def ME(n:Nat)(i:Int):Option Nat:=if 0<=i then(if i<n then aa i.toNat else ab) else if -(n:Int)<=i then aa (i+n).toNat else ab
def uW{α:Type}(xs:List α)(i:Int):Option α:=(ME xs.length i).bind λj=>xs[j]?
def CG(h:ME n i=aa j):seqIndex? i n=aa j/\j<n /\ -(n:Int)<=i/\i<n:=by
 unfold ME at h;by_cases h0:0<=i
 .rw [Z_ h0] at h;by_cases h1:i<n
  .rw [Z_ h1] at h;have e:i.toNat=j:=c_ h;exact⟨by rw[Dm h0 h1,e],by omega,by omega,h1⟩
  .rw [Zz h1] at h;cases h
 .rw [Zz h0] at h;by_cases h1:-(n:Int)<=i
  .rw [Z_ h1] at h;have e:(i+n).toNat=j:=c_ h;exact⟨by rw[Dp (by omega) h1,e],by omega,h1,by omega⟩
  .rw [Zz h1] at h;cases h
theorem MF{α:Type}{xs:List α}{i:Int}{v:α}(h:uW xs i=aa v):∃j,seqIndex? i xs.length=aa j/\xs[j]?=aa v/\j<xs.length /\ -(xs.length:Int)<=i/\i<xs.length:=by
 unfold uW at h
 cases e:ME xs.length i with
 |none=>rw[e] at h;cases h
 |some j =>
  rw[e] at h;obtain⟨h1,h2,h3,h4⟩:=CG e;exact⟨j,h1,h,h2,h3,h4⟩
def CH(b:ar):Prop:=∀o i,subscripted b af o i=operate [o,i] (getItem o i)
def IxR(X:Cx)(r:R2):Prop :=
 ∀(value slice:ar) (pins:Q0b) (s:ak) (σ:St) (H:Hp) (x y:V) (v u:ai) (Q:VK),Inv X pins σ H s->RelV x v->RelV y u->r x y H Q ->
  subscripted slice af v u=operate [v,u] (getItem v u)->ax (ay X.prog X.w) X.A (subscriptTail value slice v u) (EP X pins σ Q) X.xe s
def MtR(X:Cx)(id:String)(r:V->List V->Hp->VK->Prop):Prop :=
 ∀(pins:Q0b) (s:ak) (σ:St) (H:Hp) (x:V) (xs:List V) (v:ai) (us:Q0f) (Q:VK),Inv X pins σ H s->RelV x v->Vals xs us->r x xs H Q ->
  ax (ay X.prog X.w) X.A (call (.builtin id) (v::us)) (EP X pins σ Q) X.xe s
section
variable{X:Cx}{a b:ar}{ta tb:TE}{pos:bg}
def IxR.or(h:IxR X r)(h':IxR X r'):IxR X (λx y H Q=>r x y H Q\/r' x y H Q):=by
 intro value slice pins s σ H x y v u Q I rx ry q hs;rcases q with q|q
 .exact h value slice pins s σ H x y v u Q I rx ry q hs
 .exact h' value slice pins s σ H x y v u Q I rx ry q hs
def Vd(hr:IxR X r)(ha:PE X a ta)(hb:PE X b tb)(hs:CH b):PE X (.Subscript a b pos) (p_ r ta tb):=by intro pins s σ H Q I h;exact x_ (wj ha hb I h λv u s2 x y H2 I2 rx ry q=>hr a b pins s2 σ H2 x y v u Q I2 rx ry q (hs _ _))
def Ar(K:ao):R2:=λx y H Q=>∃p xs i v,x=.ref p/\y=.int i/\eE K H p xs/\uW xs i=aa v/\Q v H
def Aq(K:ao):R2:=λx y H Q=>∃p xs i v,x=.ref p/\y=.int i/\fS K H p xs/\uW xs i=aa v/\Q v H
def Z4:IxR X (Ar X.K):=by
 intro value slice pins s σ H x y v u Q I rx ry h hs;obtain⟨p,xs,i,z,rfl,rfl,hq,he,q⟩:=h;cases rx;obtain⟨t,rfl⟩:=ry;obtain⟨its,r,pl,hz⟩:=I.list hq;obtain⟨j,h1,h2,h3,h4,h5⟩:=MF he;obtain⟨w,ew,IT⟩:=r.get h2;have hl:=r.length;have hn:=xM;have fin:EP X pins σ Q w s:=⟨z,H,I,IT,q⟩;by_cases h0:0<=i
 .have hj:i.toNat=j:=by rw[Dm h0 h5] at h1;exact c_ h1
  exact item_listR pl.isList h0 (by omega) (by rw[hj];simpa using ew) fin hs
 .have hj:(i+(its.toArray.size:Int)).toNat=j:=by rw[Dp (by omega) h4] at h1;rw[cn,<- hl];exact c_ h1
  exact a1Q (x:=w) pl.isList.typeIs a0z.lookup
   (wpAny_getItem_list_neg (Q:=λr s'=>r=w/\EP X pins σ Q r s') pl.isList (by omega) (by rw[cn]<;>omega) (by omega) (by rw[hj];simpa using ew) ⟨rfl,fin⟩) hs
def Yh:IxR X (Aq X.K):=by
 intro value slice pins s σ H x y v u Q I rx ry h hs;obtain⟨p,xs,i,z,rfl,rfl,hq,he,q⟩:=h;cases rx;obtain⟨t,rfl⟩:=ry;obtain⟨its,r,pl,hz⟩:=I.tuple hq;obtain⟨j,h1,h2,h3,h4,h5⟩:=MF he;obtain⟨w,ew,IT⟩:=r.get h2;have hl:=r.length;have hn:=xM;have fin:EP X pins σ Q w s:=⟨z,H,I,IT,q⟩;exact a1Q (x:=w) pl.typeIs om.lookup
  (getItem_tuple (j:=j) (Q:=λr s'=>r=w/\EP X pins σ Q r s') pl (by omega) (by omega) (by rw[cn,<- hl];exact h1) (by simpa using ew) ⟨rfl,fin⟩) hs
def IU(its:Q0f)(n j:Nat)(u:ai):jn (·.setIfInBounds j u) {cls:=.type "list",data:=.seq its.toArray n}={cls:=.type "list",data:=.seq (its.set j u).toArray n}:=by simp[jn]
theorem Inv.lst{pins:Q0b}{σ:St}{H:Hp}{s:ak}{p:ag}{xs:List V}(I:Inv X pins σ H s)(h:H p=aa (.lst xs)):
  ∃(its:Q0f) (n:Nat),Vals xs its/\s.heap.get? p=aa {cls:=.type "list",data:=.seq its.toArray n}/\xs.length<=bc:=by
 obtain⟨z,its,n,r,e⟩:=I.hok p _ h;exact⟨its,n,r,e,z⟩
theorem Inv.Yg{pins:Q0b}{σ:St}{H:Hp}{s:ak}{p:ag}{xs ys:List V}{its its':Q0f}{n n':Nat}{f:aw->aw}(I:Inv X pins σ H s)(h:H p=aa (.lst xs))
  (ho:s.heap.get? p=aa {cls:=.type "list",data:=.seq its.toArray n}) (hf:f {cls:=.type "list",data:=.seq its.toArray n}={cls:=.type "list",data:=.seq its'.toArray n' }) (r:Vals ys its') (hz:ys.length<=bc) (t:Nat):
  Inv X pins σ (upd H p (.lst ys)) {s with heap:=s.heap.update p f,toks:=t}:=by
 have e:(s.heap.update p f).get? p=aa {cls:=.type "list",data:=.seq its'.toArray n' }:=by rw[t_ f ho (by rw[hf]<;>rfl),hf]
 refine I.write (x:=p) (e:=p) (by rw[h];trivial) (.inl rfl) (λb u hb q=>(Ee _ _ (dh hb)).trans q) ⟨_,e⟩ ?_;exact⟨hz,its',n',r,e⟩
def Vx:V->V->V->Hp->(Hp->Prop)->Prop:=λo i v H Q=>∃p xs k j,o=.ref p/\i=.int k/\H p=aa (.lst xs)/\ME xs.length k=aa j/\Q (upd H p (.lst (xs.set j v)))
def set_list:Al X Vx:=by
 intro pins s σ H o i v ov iv u Q I ro ri rv h;obtain⟨p,xs,k,j,rfl,rfl,hp,hj,q⟩:=h;cases ro;obtain⟨t,rfl⟩:=ri;obtain⟨its,n,r,ho,hz⟩:=I.lst hp;obtain⟨h1,h2,h3,h4⟩:=CG hj;have hl:=r.length;have hn:=xM;have I':Inv X pins σ (upd H p (.lst (xs.set j v))) {s with heap:=s.heap.update p (jn (·.setIfInBounds j u))} :=
  I.Yg hp ho (IU its n j u) (r.set rv j) (by rw[gz];exact hz) s.toks
 by_cases h0:0<=k
 .have hk:k.toNat=j:=by rw[Dm h0 h4] at h1;exact c_ h1
  exact PySem.W.ki_setAt ho h0 (by omega) (by rw[cn,<- hl];exact h4) (by rw[hk];exact⟨_,I',q⟩)
 .have hk:(k+(its.toArray.size:Int)).toNat=j:=by rw[Dp (by omega) h3] at h1;rw[cn,<- hl];exact c_ h1
  exact PySem.W.ki_setBack ho (by omega) (by rw[cn,<- hl];exact h3) (by omega) (by rw[hk];exact⟨_,I',q⟩)
def CI(lo hi:Option Int)(n:Nat):(sliceBounds lo hi ab n).1=((HT.gD n 0 lo:Nat):Int)/\(sliceBounds lo hi ab n).2.1=((HT.gD n n hi:Nat):Int)/\(sliceBounds lo hi ab n).2.2=1:=by
 refine⟨?_,?_,rfl⟩
 .cases lo with
  |none=>simp[sliceBounds,HT.gD]
  |some i =>
   simp only[sliceBounds,HT.gD,a17,show(1:Int)>0 by decide,if_true];by_cases h:i<0
   .simp only[h,if_true]<;>omega
   .simp only[h,if_false]<;>omega
 .cases hi with
  |none=>simp[sliceBounds,HT.gD]
  |some i =>
   simp only[sliceBounds,HT.gD,a17,show(1:Int)>0 by decide,if_true];by_cases h:i<0
   .simp only[h,if_true]<;>omega
   .simp only[h,if_false]<;>omega
def y9(its:Q0f)(lo hi:Option Int):slicePick its.toArray lo hi ab=((its.drop (HT.gD its.length 0 lo)).take (HT.gD its.length its.length hi-HT.gD its.length 0 lo)).toArray:=by obtain⟨h1,h2,h3⟩:=CI lo hi its.toArray.size;unfold slicePick;rw[h1,h2,h3];simp only[sliceRange_one,pick_run,cn]<;>rfl
def Pw(K:ao):V->Option Int->Option Int->Hp->VK->Prop:=λx lo hi H Q=>∃a xs,x=.ref a/\eE K H a xs /\∀p,H p=ab->Q (.ref p) (upd H p (.lst (FN xs lo hi)))
theorem Z5:SlR X (Pw X.K):=by intro pins s σ H x v vl vu lo hi sl Q I rx hs pl pu h;obtain⟨a,xs,rfl,hx,q⟩:=h;cases rx;obtain⟨its,r,ht,hz⟩:=I.list hx;have hlen:=r.length;refine⟨"list",_,a0z.lookup,ht.isList.typeIs,?_⟩;refine a0o ht.isList hs pl pu .none (by simp) ?_ (by rw[cn]<;>omega);rw[y9,<- hlen];refine⟨.ref s.heap.objs.size,_,I.laid (t':=s.toks) (o:=.lst (FN xs lo hi)) (λb ob q=>di _ q) (bj _) ?_,rfl,q _ (I.hok.fresh (bj _))⟩;exact⟨gb (uF xs lo hi) hz,_,0,(r.drop (HT.gD xs.length 0 lo)).take (HT.gD xs.length xs.length hi-HT.gD xs.length 0 lo),gc _ rfl⟩
noncomputable def rD:V->Bool
 |.non=>ae
 |.bl _=>ae
 |.int _=>ae
 |.str _=>ae
 |_=>af
noncomputable def eqV:V->V->Bool
 |.non,.non=>ae
 |.bl a,.bl b=>a == b
 |.bl a,.int b=>(if a then 1 else 0) == b
 |.int a,.bl b=>a == (if b then 1 else 0)
 |.int a,.int b=>a == b
 |.str a,.str b=>a == b
 |_,_=>af
theorem Yf(ry:RelV y u)(rx:RelV x v)(fy:rD y=ae)(fx:rD x=ae):kg A s u v (eqV y x):=by
 cases y with
 |non =>
  cases ry
  cases x with
  |non=>cases rx;exact qf _
  |bl b=>cases rx;exact a3i b
  |int b=>obtain⟨t,rfl⟩:=rx;exact a3h b t
  |str b=>obtain⟨t,rfl⟩:=rx;exact a3g b t
  |_=>exact Zw (show af=ae from fx) bt
 |bl a =>
  cases ry
  cases x with
  |non=>cases rx;exact a3n a
  |bl b=>cases rx;exact a3p a b
  |int b=>obtain⟨t,rfl⟩:=rx;exact a3o a b t
  |str b=>obtain⟨t,rfl⟩:=rx;exact a3m a b t
  |_=>exact Zw (show af=ae from fx) bt
 |int a =>
  obtain⟨t',rfl⟩:=ry
  cases x with
  |non=>cases rx;exact a3k a t'
  |bl b=>cases rx;exact a3l a t' b
  |int b=>obtain⟨t,rfl⟩:=rx;exact Ec a t' b t
  |str b=>obtain⟨t,rfl⟩:=rx;exact a07 a t' b t
  |_=>exact Zw (show af=ae from fx) bt
 |str a =>
  obtain⟨t',rfl⟩:=ry
  cases x with
  |non=>cases rx;exact a3e a t'
  |bl b=>cases rx;exact a3f a t' b
  |int b=>obtain⟨t,rfl⟩:=rx;exact a06 a t' b t
  |str b=>obtain⟨t,rfl⟩:=rx;exact Ea a t' b t
  |_=>exact Zw (show af=ae from fx) bt
 |_=>exact Zw (show af=ae from fy) bt
def IV(x:V)(u:ai):Bool:=match u with
 |.none=>eqV .non x
 |.bool b=>eqV (.bl b) x
 |.int i _=>eqV (.int i) x
 |.str z _=>eqV (.str z) x
 |_=>af
theorem UE(r:RelV y u)(f:rD y=ae):IV x u=eqV y x:=by
 cases y with
 |non=>cases r;rfl
 |bl b=>cases r;rfl
 |int i=>obtain⟨t,rfl⟩:=r;rfl
 |str z=>obtain⟨t,rfl⟩:=r;rfl
 |_=>exact Zw (show af=ae from f) bt
theorem rE:∀{xs:List V} {us:Q0f},Vals xs us->xs.all rD=ae->us.any (IV x)=xs.any λy=>eqV y x
 |_,_,.nil,_=>rfl
 |y::xs,u::us,.cons r t,f=>by rw[kz,gn] at f;rw[ji,ji,UE r f.1,rE t f.2]
theorem nA(rx:RelV x v)(fx:rD x=ae):∀{xs:List V} {us:Q0f},Vals xs us->xs.all rD=ae ->∀u∈us,kg A s u v (IV x u)
 |_,_,.nil,_=>λu hu=>by cases hu
 |y::xs,u::us,.cons r t,f=>λu' hu=>by
  rw[kz,gn] at f;rcases bz.mp hu with rfl|hu
  .rw [UE r f.1];exact Yf r rx f.1 fx
  .exact nA rx fx t f.2 u' hu
def inV(x:V)(xs:List V):Bool:=xs.any λy=>eqV y x
def ux(K:ao)(neg:Bool):R2:=λx y H Q=>∃p xs,y=.ref p/\(eE K H p xs\/fS K H p xs)/\rD x=ae/\xs.all rD=ae/\Q (.bl (if neg then !inV x xs else inV x xs)) H
def OR:k9 X (compareOp .In) (ux X.K af):=by
 intro pins s σ H x y v u Q I rx ry h;obtain⟨p,xs,rfl,hq,fx,fs,q⟩:=h;cases ry;rcases hq with hq|hq
 .obtain ⟨its,r,pl,hz⟩:=I.list hq;refine a04 (IV x) pl.isList (λw hw=>nA rx fx r fs w (by simpa using hw)) ⟨.bl _,H,I,rfl,?_⟩;rw[show its.toArray.any (IV x)=its.any (IV x) by simp,rE r fs];exact q
 .obtain ⟨its,r,pl,hz⟩:=I.tuple hq;refine a03 (IV x) pl (λw hw=>nA rx fx r fs w (by simpa using hw)) ⟨.bl _,H,I,rfl,?_⟩;rw[show its.toArray.any (IV x)=its.any (IV x) by simp,rE r fs];exact q
def CJ:k9 X (compareOp .NotIn) (ux X.K ae):=by
 intro pins s σ H x y v u Q I rx ry h;obtain⟨p,xs,rfl,hq,fx,fs,q⟩:=h;cases ry;rcases hq with hq|hq
 .obtain ⟨its,r,pl,hz⟩:=I.list hq;refine a02 (IV x) pl.isList (λw hw=>nA rx fx r fs w (by simpa using hw)) ⟨.bl _,H,I,rfl,?_⟩;rw[show its.toArray.any (IV x)=its.any (IV x) by simp,rE r fs];exact q
 .obtain ⟨its,r,pl,hz⟩:=I.tuple hq;refine a01 (IV x) pl (λw hw=>nA rx fx r fs w (by simpa using hw)) ⟨.bl _,H,I,rfl,?_⟩;rw[show its.toArray.any (IV x)=its.any (IV x) by simp,rE r fs];exact q
def CK:fM X (.builtin "len") (λxs H Q=>∃p ys,xs=[.ref p]/\(eE X.K H p ys\/fS X.K H p ys)/\Q (.int ys.length) H):=by
 intro pins s σ H xs us Q I r h;obtain⟨p,ys,rfl,hq,q⟩:=h;obtain⟨u,rfl,rx⟩:=vals1 r;cases rx;have hn:=xM;rcases hq with hq|hq
 .obtain ⟨its,r',pl,hz⟩:=I.list hq;have hlen:=r'.length;exact Calls.call_len_list pl.isList (by simp only[cn]<;>omega) ⟨.int ys.length,H,I.tok _,⟨s.toks+1,by rw[cn,hlen]⟩,q⟩
 .obtain ⟨its,r',pl,hz⟩:=I.tuple hq;have hlen:=r'.length;exact len_tuple pl (by simp only[cn]<;>omega) ⟨.int ys.length,H,I.tok _,⟨s.toks+1,by rw[cn,hlen]⟩,q⟩
theorem zA:fM X (.type "tuple") (λxs H Q=>∃p ys,xs=[.ref p]/\((eE X.K H p ys /\∀l,H l=ab->Q (.ref l) (upd H l (.tup ys)))\/(fS X.K H p ys/\Q (.ref p) H))):=by
 intro pins s σ H xs us Q I r h;obtain⟨p,ys,rfl,h⟩:=h;obtain⟨u,rfl,rx⟩:=vals1 r;cases rx;rcases h with⟨hq,q⟩|⟨hq,q⟩
 .obtain ⟨its,r',pl,hz⟩:=I.list hq;have hlen:=r'.length;refine call_tuple_list pl.isList (λh' kp=>?_) (by simp only[cn]<;>omega);have I1:Inv X pins σ H {s with heap:=h' }:=I.kept (t':=s.toks) kp;have I2:Inv X pins σ (upd H h'.objs.size (.tup ys)) {s with heap:=h'.push {cls:=.type "tuple",data:=.seq its.toArray} } :=
   I1.laid (t':=s.toks) (λb o e=>di _ e) (bj _) (show dO X.prog X.w _ _ _ (.tup ys) from⟨hz,its,r',Ew _ _,DL.new _ _⟩)
  exact⟨.ref h'.objs.size,_,I2,rfl,q _ (I1.hok.fresh (bj _))⟩
 .obtain ⟨its,r',pl,hz⟩:=I.tuple hq;exact call_tuple_same pl ⟨.ref p,H,I,rfl,q⟩
def tyV(K:ao)(T:String)(x:V)(H:Hp):Prop:=match x with
 |.str _=>T="str"
 |.int _=>T="int"
 |.ref p=>(T="list" /\∃xs,eE K H p xs)\/(T="tuple" /\∃o,K.lookup p=aa o/\o.cls=.type "tuple" /\o.dict=ab) \/
   (T="dict" /\((∃kvs,H p=aa (.dK kvs)) \/∃kvs,H p=aa (.dT kvs)))\/(T="set" /\∃S n,H p=aa (.set S n))\/(T="tuple" /\∃xs,H p=aa (.tup xs))
 |_=>False
theorem Ye(I:Inv X pins σ H s)(r:RelV x v)(ty:tyV X.K T x H):
  s.TypeIs v T /\∀a,v=.ref a ->∃ob,s.heap.get? a=aa ob/\ob.dict=ab:=by
 cases x with
 |str z =>
  obtain⟨t,rfl⟩:=r;cases (show T="str" from ty);exact⟨typeIs_str s z t,λ_ e=>nomatch e⟩
 |int i =>
  obtain⟨t,rfl⟩:=r;cases (show T="int" from ty);exact⟨Dk s i t,λ_ e=>nomatch e⟩
 |ref p =>
  cases r;rcases ty with⟨rfl,xs,hq⟩|⟨rfl,o,hk,hc,hd⟩|⟨rfl,hk⟩|⟨rfl,S,n,hk⟩|⟨rfl,xs,hk⟩
  .obtain ⟨its,_,pl,_⟩:=I.list hq;refine⟨pl.isList.typeIs,λa e=>?_⟩;cases e;obtain⟨o,n,e,c,hd,_⟩:=pl;exact⟨o,e,hd⟩
  .refine ⟨⟨o,I.B8 p o hk,hc⟩,λa e=>?_⟩;cases e;exact⟨o,I.B8 _ o hk,hd⟩
  .have z:∃o,s.heap.get? p=aa o/\o.ExactDict:=by
    rcases hk with⟨kvs,hk⟩|⟨kvs,hk⟩
    .obtain ⟨_,_,_,_,o,_,_,e,ex,_⟩:=I.hok p _ hk;exact⟨o,e,ex⟩
    .obtain ⟨_,_,_,_,o,_,_,e,ex,_⟩:=I.hok p _ hk;exact⟨o,e,ex⟩
   obtain⟨o,e,ex⟩:=z;refine⟨⟨o,e,ex.1⟩,λa e2=>?_⟩;cases e2;exact⟨o,e,ex.2.1⟩
  .obtain ⟨o,_,_,_,e,ex,_⟩:=I.hok p _ hk;refine⟨⟨o,e,ex.1⟩,λa e2=>?_⟩;cases e2;exact⟨o,e,ex.2.1⟩
  .obtain ⟨_,_,_,⟨o,e,c,_⟩,nd⟩:=I.hok p _ hk;refine⟨⟨o,e,c⟩,λa e2=>?_⟩;cases e2;exact⟨o,e,nd _ e⟩
 |_=>exact jl ty
def qa(K:ao)(T:String)(r:V->List V->Hp->VK->Prop)(to:TE)(t:TA):TE:=λσ H Q=>to σ H λx H1=>tyV K T x H1/\t σ H1 λxs H2=>r x xs H2 Q
variable{o e:ar}{es:List ar}{to:TE}{t:TA}{name:aj}{apos cpos:bg}{T id:String}{r:V->List V->Hp->VK->Prop}
theorem MG(pa:PlainAttrs T)(slot:Slot T name id)(hty:typeOf (.builtin id)=pure (.type "method_descriptor"))(hm:MtR X id r)(ho:PE X o to)(ha:PA X (e::es) t)
  (hbase:attributeBase o name X.env (eval o X.env)=eval o X.env:=by rfl)
  (hfew:((dg cpos (aq (e::es) X.env)).all (λx=>!x.1)&&(backToKw cpos (ir [] X.env)).all (λx=>x.1.isSome)
   && Zv ((e::es).length+([]:List fw).length+(if([]:List fw).isEmpty then 0 else 1)<30))=ae:=by rfl)
  (hline:Q0j apos cpos:=by rfl) (hs:Zs X e es:=by rfl) (hplain:Q0k X cpos es:=by rfl):
  PE X (.Call (.Attribute o name apos) (e::es) [] cpos) (qa X.K T r to t):=by
 intro pins s σ H Q I h;refine wpAny_Call_method_late hbase hfew hline rfl (eK (ho pins s σ H _ I h) λv s1 ⟨x,H1,I1,r1,ty,q1⟩=>?_);obtain⟨h1,h2⟩:=Ye I1 r1 ty;refine⟨T,id,pa,slot,hty,h1,h2,?_⟩;have hA:=ha cpos pins s1 σ H1 _ I1 q1;rw[hs] at hA ⊢;refine Em (by show(af||(dg cpos (aq es X.env)).any (·.1))=af;rw[hplain]<;>rfl) (a1G ?_);exact eK hA λus s2 Pu=>by obtain⟨vs,H2,I2,r2,q2⟩:=Pu;exact hm pins s2 σ H2 x vs v us Q I2 r1 r2 q2
end
def MtM(X:Cx)(id:String)(r:V->List V->Hp->VK->Prop):Prop :=
 ∀(pins:Q0b) (s:ak) (σ:St) (H:Hp) (x:V) (xs:List V) (v:ai) (us:Q0f) (Q:VK),Inv X pins σ H s->RelV x v->Vals xs us->r x xs H Q ->
  ax (ay X.prog X.w) X.A (call (.builtin id) (v::us)) (EP X pins σ Q) X.xe s
theorem Vals.one:∀{x:V} {us:Q0f},Vals [x] us ->∃u,us=[u]/\RelV x u
 |_,_,.cons r .nil=>⟨_,rfl,r⟩
theorem Vals.eraseIdx:∀{xs:List V} {us:Q0f} (i:Nat),Vals xs us->Vals (xs.eraseIdx i) (us.eraseIdx i)
 |_,_,_,.nil=>.nil
 |_,_,0,.cons _ t=>t
 |_,_,i+1,.cons r t=>.cons r (Vals.eraseIdx i t)
theorem Vals.rep(h:Vals xs us):∀k:Nat,Vals (fq k xs).flatten (fq k us).flatten
 |0=>.nil
 |k+1=>by rw[i_,i_,pf,pf];exact Vals.append h (Vals.rep h k)
theorem AL{α:Type}:∀(l:List α) (i:Nat),(l.eraseIdx i).length<=l.length
 |[],_=>bj _
 |_::_,0=>lr _
 |_::r,i+1=>Nat.succ_le_succ (AL r i)
theorem foldl_rep(its:Q0f):∀(k:Nat) (acc:Q0f),
  Fz (λx1 x2=>x1++x2) acc.toArray (fq k its.toArray)=(acc++(fq k its).flatten).toArray
 |0,acc=>by simp
 |k+1,acc=>by
  have e:acc.toArray++its.toArray=(acc++its).toArray:=by simp
  have e2:(acc++its)++(fq k its).flatten=acc++(fq (k+1) its).flatten:=by rw[i_,pf,mj]
  rw[<- e2,<- foldl_rep its k (acc++its),<- e,i_,pd]
section
variable{X:Cx}{pins:Q0b}{σ:St}{H:Hp}{s:ak}{l b:ag}{xs ys zs:List V}
theorem Inv.v_{its its':Q0f}{n:Nat}{f:Array ai->Array ai}{t':Nat}(I:Inv X pins σ H s)(hH:H l=aa (.lst xs))
  (e:s.heap.get? l=aa {cls:=.type "list",data:=.seq its.toArray n}) (hf:f its.toArray=its'.toArray) (hv:Vals ys its') (hz:ys.length<=bc):
  Inv X pins σ (upd H l (.lst ys)) {s with heap:=s.heap.update l (jn f),toks:=t' }:=by
 have q:=a3t e f;rw[hf] at q;refine I.write (x:=l) (e:=l) (by rw[hH];exact trivial) (.inl rfl) (λb' u hb hu=>(Ee s.heap (jn f) (dh hb)).trans hu) ⟨_,q⟩ ?_;exact⟨hz,its',_,hv,q⟩
theorem Inv.vz(I:Inv X pins σ H s)(hv:Vals ys its)(hz:ys.length<=bc):
  Inv X pins σ (upd H s.heap.objs.size (.lst ys)) {s with heap:=s.heap.push {cls:=.type "list",data:=.seq its.toArray},toks:=t' } :=
 I.laid (λ_ _ q=>di _ q) (bj _) ⟨hz,its,0,hv,gc _ rfl⟩
def Inv.fresh(I:Inv X pins σ H s):H s.heap.objs.size=ab:=I.hok.fresh (bj _)
def Inv.tJ(I:Inv X pins σ H s)(hH:H l=aa (.lst xs)):xs.length<=bc /\∃(its:Q0f) (n:Nat),Vals xs its/\xs.length=its.length/\s.heap.get? l=aa {cls:=.type "list",data:=.seq its.toArray n}:=by obtain⟨z,its,n,r,e⟩:=I.hok l _ hH;exact⟨z,its,n,r,r.length,e⟩
def FO{n:Nat}(h:n<=bc):xx n=af:=by unfold xx;exact Zy (by omega)
def MH:V->List V->Hp->VK->Prop:=λx vs H Q=>∃l xs y,x=.ref l/\vs=[y]/\H l=aa (.lst xs)/\xs.length<bc/\Q .non (upd H l (.lst (xs++[y])))
def AM:MtM X "list.append" MH:=by intro pins s σ H x vs v us Q I rx rv h;obtain⟨l,xs,y,rfl,rfl,hH,hz,q⟩:=h;cases rx;obtain⟨u,rfl,ru⟩:=rv.one;obtain⟨z,its,n,r,hl,e⟩:=I.tJ hH;refine my a1m ⟨_,e,rfl⟩ F.entry_list_append (F.args_list_append_2 _ _) (PySem.list_append l its.toArray n u (by rw[cn];omega)) ⟨e,?_⟩;refine⟨.non,_,I.v_ (its':=its++[u]) hH e (by simp) (r.append (.cons ru .nil)) ?_,rfl,q⟩;rw[ck,md];omega
def MI:V->List V->Hp->VK->Prop:=λx vs H Q=>∃l b xs zs,x=.ref l/\vs=[.ref b]/\H l=aa (.lst xs)/\H b=aa (.lst zs)/\xs.length+zs.length<=bc/\Q .non (upd H l (.lst (xs++zs)))
def OS:MtM X "list.extend" MI:=by
 intro pins s σ H x vs v us Q I rx rv h;obtain⟨l,b,xs,zs,rfl,rfl,hH,hB,hz,q⟩:=h;cases rx;obtain⟨u,rfl,ru⟩:=rv.one;cases ru;obtain⟨z,its,n,r,hl,e⟩:=I.tJ hH;obtain⟨z2,its2,n2,r2,hl2,e2⟩:=I.tJ hB;have hsz:its.toArray.size+its2.toArray.size<=bc:=by rw[cn,cn];omega
 have UG:¬ (!its.toArray.isEmpty&&xx (its.toArray.size+its2.toArray.size))=ae:=by rw[FO hsz,Bool.and_false];exact bt
 refine my a1k ⟨_,e,rfl⟩ F.entry_list_extend (F.args_list_extend_2 _ _)
  (a3X l its.toArray n b its2.toArray n2 UG (by rw[cn];omega) (by omega)) ⟨e,e2,?_⟩
 refine⟨.non,_,I.v_ (its':=its++its2) hH e (by simp) (r.append r2) ?_,rfl,q⟩;rw[ck];omega
def xP:V->List V->Hp->VK->Prop:=λx vs H Q=>∃l xs i k y,x=.ref l/\vs=[.int i]/\H l=aa (.lst xs) /\ -(2^63)<=i/\i<2^63/\seqIndex? i xs.length=aa k/\xs[k]?=aa y/\Q y (upd H l (.lst (xs.eraseIdx k)))
def FP:MtM X "list.pop" xP:=by
 intro pins s σ H x vs v us Q I rx rv h;obtain⟨l,xs,i,k,y,rfl,rfl,hH,h1,h2,hk,hy,q⟩:=h;cases rx;obtain⟨u,rfl,ru⟩:=rv.one;obtain⟨t,rfl⟩:=ru;obtain⟨z,its,n,r,hl,e⟩:=I.tJ hH;obtain⟨w,hw,IT⟩:=r.get hy;refine my Eh ⟨_,e,rfl⟩ F.entry_list_pop (F.args_list_pop_2 _ _)
  (a3q l its.toArray n i t k w (a0F h1 h2) (by rw[cn,<- hl];exact hk) (by rw[<- Gv];exact hw) (by rw[cn];omega)) ⟨e,?_⟩
 refine⟨y,_,I.v_ (its':=its.eraseIdx k) hH e ?_ (r.eraseIdx k) ?_,IT,q⟩
 .show its.toArray.eraseIdxIfInBounds k=(its.eraseIdx k).toArray;rw[List.eraseIdxIfInBounds_toArray]
 .have:=AL xs k;omega
def Ap:R2:=λx y H Q=>∃l b xs zs,x=.ref l/\y=.ref b/\H l=aa (.lst xs)/\H b=aa (.lst zs)/\xs.length+zs.length<=bc /\∀p,H p=ab->Q (.ref p) (upd H p (.lst (xs++zs)))
def UH:k9 X (binaryOp .Add) Ap:=by
 intro pins s σ H x y v u Q I rx ry h;obtain⟨l,b,xs,zs,rfl,rfl,hH,hB,hz,q⟩:=h;cases rx;cases ry;obtain⟨z,its,n,r,hl,e⟩:=I.tJ hH;obtain⟨z2,its2,n2,r2,hl2,e2⟩:=I.tJ hB;refine PySem.P.add_list e e2 ?_ (by rw[cn,cn];omega);have ea:its.toArray++its2.toArray=(its++its2).toArray:=by simp
 rw[ea];exact⟨.ref _,_,I.vz (t':=s.toks) (r.append r2) (by rw[ck];omega),rfl,q _ I.fresh⟩
def Pr:R2:=λx y H Q=>∃l k xs,x=.ref l/\y=.int k/\H l=aa (.lst xs) /\ -(2^63)<=k/\k<2^63/\xs.length*k.toNat<=bc /\
 ∀p,H p=ab->Q (.ref p) (upd H p (.lst (fq k.toNat xs).flatten))
theorem len_rep{α:Type}(xs:List α)(k:Nat):(fq k xs).flatten.length=k*xs.length:=by
 induction k with
 |zero=>simp
 |succ k ih=>rw[i_,pf,ck,ih,Fb,Nat.add_comm]
def Yd:k9 X (binaryOp .Mult) Pr:=by
 intro pins s σ H x y v u Q I rx ry h;obtain⟨l,k,xs,rfl,rfl,hH,h1,h2,hz,q⟩:=h;cases rx;obtain⟨t,rfl⟩:=ry;obtain⟨z,its,n,r,hl,e⟩:=I.tJ hH;have hlen:its.toArray.size*k.toNat<=bc:=by rw[cn,<- hl];exact hz
 have hcap:¬ its.toArray.size*k.toNat>(2^63-1)/8:=by
  have:(bc:Nat)<=(2^63-1)/8:=by decide
  omega
 have hfit:¬ (!Builtin.List.listFitsIndex k)=ae:=by rw[a0F h1 h2];exact bt
 have UG:¬ xx (its.toArray.size*k.toNat)=ae:=by rw[FO hlen];exact bt
 have hnew:Fz (λx1 x2=>x1++x2) #[] (fq (if its.toArray.isEmpty=ae then 0 else k.toNat) its.toArray)=(fq k.toNat its).flatten.toArray:=by
  have f0:∀m:Nat,Fz (λx1 x2=>x1++x2) #[] (fq m its.toArray)=(fq m its).flatten.toArray:=λm=>by have:=foldl_rep its m [];rw[uh] at this;exact this
  rw[f0]
  cases its with
  |nil=>simp
  |cons a r'=>rw[Zz (by simp)]
 refine wpAny_binaryOp_repeat_ref (T:="list") (U:="int") (by decide) ⟨_,e,rfl⟩ (λs'=>Dk s' k t) noFill_list_mul F.fills_int_mul a1n repeat_list F.slot_int_index.lookup
  (my a1n (Dk s k t) F.entry_int_rmul (F.args_int_rmul_2 _ _) (int___rmul___int_list k t l its.toArray n)
   ⟨e,rfl,⟨_,e,rfl⟩,my F.slot_list_mul ⟨_,e,rfl⟩ F.entry_list_mul (F.args_list_mul_2 _ _) (a3Y l its.toArray n k t hfit hcap UG) ⟨e,?_⟩⟩)
 rw[hnew];exact⟨.ref _,_,I.vz (t':=s.toks) (r.rep k.toNat) (by rw[len_rep,Nat.mul_comm];exact hz),rfl,q _ I.fresh⟩
end
section
variable{prog:bf}{w:az}{A:bq}{E:Q0c}{s:ak}
set_option maxRecDepth 100000 in
end
end L2
namespace Z6
open PySem.W PySem.Calls PyProof.Rows
theorem uX:∀(ns:Q0e) (vs:Q0f),WellAll P h vs (ns.map a0U)->jy vs ns:=by
 intro ns
 induction ns with
 |nil =>
  intro vs w;rw[j_] at w;cases w;exact .nil
 |cons n ns ih =>
  intro vs w;rw[bp] at w
  cases w with
  |cons a b =>
   cases a;exact .cons _ _ (ih _ b)
theorem OT{l:qe}{n:Nat}(hn:l.most=aa n){P:Params}{h:a_}{args:List WData}{vals:Q0f}
  (hpre:l.row.toRowW.claim.pre args=ae) (hwl:WellAll P h vals args):
  ∃a vs ns,vals=[cx a]/\args=[WData.list (ns.map a0U)]/\h.get? a=aa {cls:=.type "list",data:=.seq vs.toArray}/\jy vs ns/\ns.length<=n:=by
 have hsh:WShape.hasAll [] args [.list .int]=ae:=(pre_splitW hpre).1;have hc:l.pre.holds [] {args:=args}=ae:=(pre_splitW hpre).2;obtain⟨d,r,rfl,h1,h2⟩:=hasAllW_cons hsh;obtain rfl:=hasAllW_nil h2;obtain⟨xs,rfl,h3⟩:=hasW_list h1;obtain⟨ns,rfl⟩:=items_int h3;have hlen:ns.length<=n:=by
  unfold OpenLaw.pre at hc;have h4:(WTm.not (.lt (.lit (.int (n:Int))) (.len (.arg 0)))).holds [] {args:=[.list (ns.map .int)]}=ae:=by have h4:=(holds_andW hc).1;rw[hn] at h4;exact h4
  have h5:=condW_of h4 (w_not (w_lt w_lit (w_len_list (w_arg rfl))));rw[au] at h5;refine Nat.le_of_not_lt λq=>?_;have q':(n:Int)<((ns.length:Nat):Int):=by omega
  first
   | (rw[Zx q'] at h5;exact Zw h5 (by decide))
   | (simp at h5;omega)
 cases hwl with
 |cons w1 w2 =>
  cases w2
  cases w1 with
  |list ho hall=>exact⟨_,_,ns,rfl,rfl,ho,uX ns _ hall,hlen⟩
def OU(l:qe)(args:List WData):l.row.toRowW.claim.post args (.bool ae) args=ae :=
 postW_of (r:=l.row.toRowW) (X:=(ae == ae))
  (show a0T [] (.bool ae) .bool=ae by first|rfl|decide|simp[a0T,WShape.arms,WShape.armsAll])
  (show(WTm.eq .res (.lit (.bool ae))).value [] {args:=args,res:=aa (.bool ae),after:=args}=aa (.bool (ae == ae)) from w_eq_bool (w_res rfl) w_lit) rfl
theorem FQ{l:qe}{n:Nat}{q:bf}{loose:Q0g}{XP:(aj->Option ai)->a_->Prop}{YP:az->a_->Prop}{d:DefRec}
  (hn:l.most=aa n) (hdf:d.params.defaults=[])
  (call:∀(w:az) (s₀ s₁:ak) (mg mb:Q0d) (fa:ag) (o:aw) (pm cd doc:ai) (a:ag) (vs:Q0f) (ns:Q0e),
   Ground q loose [] XP w s₀ mg mb s₁.heap->YP w s₁.heap ->
   s₁.heap.get? fa=aa o->o.data=.func (docDef d.name d.params d.body d.scope pm cd doc)->s₁.heap.CodeRec cd d.name->mg d.name=aa (.ref fa) ->
   s₁.heap.get? a=aa {cls:=.type "list",data:=.seq vs.toArray}->jy vs ns->ns.length<=n->s₁.gens=#[] ->
   mx (ay l.prog w) callerA (.call (.ref fa) ⟨[.ref a],[]⟩) (λr s'=>r=.ok (.ret (.bool ae))/\OldK s₁.heap s'.heap/\s'.os=s₁.os/\lp s'.gens) s₁):
  D_ q loose XP YP l.row.toRowW d [] (λf vs=>Du f vs):=by
 intro w s₀ s₁ mg mb G Y fa o pm cd doc dV kV ho hd hcd hD hmg hg args vals as hpre hlay hrd hwl hlo;obtain rfl:dV=.none:=Dflts.none hD hdf;obtain rfl:kV=.none:=Dflts.noKw hD;obtain⟨a,vs,ns,rfl,rfl,hobj,hints,hlen⟩:=OT hn hpre hwl;refine enter_call (Dt (call w s₀ s₁ mg mb fa o pm cd doc a vs ns G Y ho (fd_plain hd) hcd hmg hobj hints hlen hg) λr s' hq=>?_);obtain⟨rfl,h2,h3,h4⟩:=hq;exact⟨.inl ⟨.bool ae,.bool ae,[],rfl,λ_=>rfl,.bool ae,OU l _,λ_=>⟨Gf,λ_ hm=>(nomatch hm)⟩⟩,h2,h3,h4⟩
section
variable{prog:bf}{w:az}{A:bq}{E:Q0c}{s:ak}{K:ao}
def xQ(h:a_):a_:={h with objs:=#[]}
theorem pV(h:a_)(b:ag):(xQ h).get? b=ab:=by
 cases e:(xQ h).get? b with
 |none=>rfl
 |some o=>exact Zw (b_ e) (Nat.not_lt_zero _)
def ledger(h:a_)(L d:ag):List (ag×aw):=(bh h.objs.size).filterMap λa=>if a=L\/a=d then ab else(h.get? a).map λo=>(a,o)
def fN:(a,o)∈ledger h L d↔a≠L/\a≠d/\h.get? a=aa o:=by
 unfold ledger;rw[yh]
 constructor
 .rintro ⟨b,_,e⟩;split at e
  .cases e
  .rename_i hb;obtain⟨o',ho,e'⟩:=iy.mp e;cases e';exact⟨λq=>hb (.inl q),λq=>hb (.inr q),ho⟩
 .rintro ⟨n1,n2,ho⟩;refine⟨a,d_.mpr (b_ ho),?_⟩;rw[Zz (show ¬ (a=L\/a=d) from λq=>q.elim n1 n2),ho]<;>rfl
def UI(n:h.Ns L m):Fr (xQ h) L h m :=
 ⟨n,λb o e=>(by rw[pV] at e;cases e),jq _⟩
end
end Z6
namespace L2
open PySem.Spec PyProof.Rows
theorem n8:∀{vs:Q0f} {ns:Q0e},jy vs ns->Vals (ns.map V.int) vs
 |_,_,.nil=>.nil
 |_,_,.cons n t h=>.cons ⟨t,rfl⟩ (n8 h)
def Only(H:Hp):Prop:=∀b,H b=ab\/(∃o xs,H b=aa (.xD o (.lst xs))) \/∃q,H b=aa (.OD q)
structure TabsOk (K:ao) (q:bf):Prop where
 nd:((fH K).map (·.2.2)).Nodup
 rc:∀t∈fH K,∃e,(recsOf q).find? (λe=>e.name == t.1)=aa e
theorem IW{K:ao}{t:aj×ag×ag}(h:t∈fH K):Dv K t.1=aa (t.2.1,t.2.2):=by
 obtain⟨x,_,e⟩:=yh.mp h
 cases q:Dv K x with
 |none=>rw[q] at e;cases e
 |some p=>rw[q] at e;cases e;exact q
def IX(K:ao)(a:ag)(u:Option HO):Hp:=λb=>if b=a then u else((fH K).find? λt=>t.2.2 == b).map λt=>.OD (ZJ t.1)
theorem OV{l:List (aj×ag×ag)}(nd:(l.map (·.2.2)).Nodup){t:aj×ag×ag}(h:t∈l):l.find? (λu=>u.2.2 == t.2.2)=aa t:=by
 induction l with
 |nil=>cases h
 |cons u l ih =>
  rw[bp,ma] at nd;rw[gw];by_cases e:(u.2.2 == t.2.2)=ae
  .rw [e];rcases bz.1 h with z|z
   .rw [z]
   .exact Zw (de.2 ⟨t,z,(eq_of_beq e).symm⟩) nd.1
  .rw [a24] at e;rw[e];rcases bz.1 h with z|z
   .rw [z,beq_self_eq_true] at e;cases e
   .exact ih nd.2 z
theorem UJ{P:bf}{w:az}{K:ao}{mg mb:Q0d}{CX:MB}{k:Nat}{fa a:ag}{fd:gq}{x:aj}{sp:Sp}{s₁:ak}{vs:Q0f}{ns:Q0e}
  (KX:K.In s₁.heap) (hns:s₁.heap.Ns h_ mg) (hb:s₁.heap.Ns builtinsNs mb) (hbb:∀x:aj,x ≠ "__name__"->mb x=bootBuiltins x) (hlim:s₁.heap.NoLimit)
  (hbm:∃bm ob,mg "__builtins__"=aa (.ref bm)/\bm≠builtinsNs/\s₁.heap.get? bm=aa ob/\ob.cls=.type "module" /\ob.dict=aa builtinsNs/\ob.data=.plain)
  (hT:∀t∈fH K,CodeHd s₁.heap t.2.1 t.2.2/\s₁.heap.get? t.2.2=aa (tabObj #[])) (hnd:((fH K).map (·.2.2)).Nodup) (hnt:noTabs K=ae) (hg:s₁.gens=#[])
  (ha:s₁.heap.get? a=aa {cls:=.type "list",data:=.seq vs.toArray}) (hi:jy vs ns) (hl:ns.length<=bc) (hr:gL k callerA)
  (F:∀base:a_,K.In base->base.Ns h_ mg->lQ P w K mg base CX k fa fd [x] sp) (hbind:∀(s:ak) (u:ai),qo s fd ⟨[u],[]⟩ [(x,u)])
  (hsp:∀H:Hp,Only H->eE K H a (ns.map V.int)->sp [.ref a] H (λv _=>v=.bl ae) λ_ _ _=>False)
  (u_:∀H e s',CX [] H s₁ (λ_ _ _=>False) e s'->False):
  mx (ay P w) callerA (.call (.ref fa) ⟨[.ref a],[]⟩) (λr s'=>r=.ok (.ret (.bool ae))/\OldK s₁.heap s'.heap/\s'.os=s₁.os/\lp s'.gens) s₁:=by
 have rv:=n8 hi;have lenV:=hi.length;have neA:∀t∈fH K,t.2.2≠a:=λt ht z=>by have e:=(hT t ht).2;rw[z,ha] at e;cases e
 -- a tracked address: the script or a table
 have core:∀u:Option HO,(u=ab \/∃o xs,u=aa (.xD o (.lst xs)))->eE K (IX K a u) a (ns.map V.int)->(∀v,u=aa v->dO P w (IX K a u) s₁.heap a v)->(u≠ab->K.lookup a=ab) ->
   mx (ay P w) callerA (.call (.ref fa) ⟨[.ref a],[]⟩) (λr s'=>r=.ok (.ret (.bool ae))/\OldK s₁.heap s'.heap/\s'.os=s₁.os/\lp s'.gens) s₁:=by
  intro u hu hS Ao hK;obtain⟨H,eH⟩:∃H,IX K a u=H:=⟨_,rfl⟩;have yN:∀t∈fH K,H t.2.2=aa (.OD (ZJ t.1)):=λt ht=>by rw[<- eH];unfold IX;rw[Zz (neA t ht),OV hnd ht];rfl
  have tK:∀b,H b=ab\/(b=a/\H b=u/\u≠ab) \/∃t∈fH K,t.2.2=b/\H b=aa (.OD (ZJ t.1)):=λb=>by
   by_cases hb:b=a
   .cases hu2:u with
    |none=>left;rw[<- eH];unfold IX;rw[Z_ hb,hu2]
    |some v=>right;left;refine⟨hb,?_,by simp⟩;rw[<- eH];unfold IX;rw[Z_ hb,hu2]
   .cases q:(fH K).find? λt=>t.2.2 == b with
    |none=>left;rw[<- eH];unfold IX;rw[Zz hb,q];rfl
    |some t =>
     have e1:t.2.2=b:=eq_of_beq (List.find?_some (p:=λt:aj×ag×ag=>t.2.2 == b) q);have e2:=List.mem_of_find?_eq_some q;exact .inr (.inr ⟨t,e2,e1,by rw[<- e1];exact yN t e2⟩)
  rw[eH] at hS Ao;have hO:Only H:=λb=>by
   rcases tK b with z|⟨_,z,_⟩|⟨t,_,_,z⟩
   .exact .inl z
   .rcases hu with y|⟨o,xs,y⟩
    .exact .inl (z.trans y)
    .exact .inr (.inl ⟨o,xs,z.trans y⟩)
   .exact .inr (.inr ⟨_,z⟩)
  have hok:oR P w H s₁.heap:=λb v e=>by
   rcases tK b with z|⟨rfl,z,_⟩|⟨t,ht,rfl,z⟩
   .rw [z] at e;cases e
   .exact Ao v (by rw[<- z];exact e)
   .rw [z] at e;cases e;exact⟨#[],(hT t ht).2,trivial,λpos cv e=>by cases e⟩
  -- an object that is neither the script nor a table is not tracked
  have UK:∀{b:ag} {o:aw},s₁.heap.get? b=aa o->o.cls≠.none->(∀ys n,o.data≠.seq ys n)->H b=ab:=λ{b o} e hc hs=>by
   rcases tK b with z|⟨rfl,_,_⟩|⟨t,ht,rfl,z⟩
   .exact z
   .rw [ha] at e;cases e;exact Zw rfl (hs _ _)
   .rw [(hT t ht).2] at e;cases e;exact Zw rfl hc
  have nsN:∀{b:ag} {o:aw} {es:Array qm} {ep:Nat},s₁.heap.get? b=aa o->o.data=.dict es ep->H b=ab:=λ{b o es ep} e d=>by
   rcases tK b with z|⟨rfl,_,_⟩|⟨t,ht,rfl,z⟩
   .exact z
   .rw [ha] at e;cases e;cases d
   .rw [(hT t ht).2] at e;cases e;cases d
  have vH:∀{b:ag} {o:aw},s₁.heap.get? b=aa o->H b=ab->(y4 s₁.heap H).get? b=aa o:=λe n=>TU e n;have nsK:∀{b:ag} {m:Q0d},s₁.heap.Ns b m->(y4 s₁.heap H).Ns b m:=λ{b m} ⟨o,es,ep,e,d,r⟩=>⟨o,es,ep,vH e (nsN e d),d,r⟩;have zo:K.In (y4 s₁.heap H):=λb o e=>vH (KX b o e) (by
   rcases tK b with z|⟨rfl,_,z⟩|⟨t,ht,rfl,z⟩
   .exact z
   .rw [hK z] at e;cases e
   .have e2:=KX _ o e;rw[(hT t ht).2] at e2;cases e2;have h2:=gx.mp hnt (t.2.2,tabObj #[]) (PySem.W.mem_of_lookupK e);exact Zw (show af=ae from h2) bt)
  have hM:Mod K mg (y4 s₁.heap H):=⟨zo,nsK hns,⟨mb,nsK hb,hbb⟩,let ⟨mc,h1,h2⟩:=hlim;⟨mc,nsK h1,h2⟩,
   let ⟨bm,ob,b1,b2,b3,b4,b5,b6⟩:=hbm;⟨bm,ob,b1,b2,vH b3 (UK b3 (by rw[b4];nofun) λys n z=>by rw[b6] at z;cases z),b4,b5,b6⟩⟩
  have Pq:ZK K (y4 s₁.heap H) H:=λt ht=>by obtain⟨o,vs',file,tf,flags,tg,inF,text,tt,e1,r1,r2,r3⟩:=(hT t ht).1;exact⟨⟨o,vs',file,tf,flags,tg,inF,text,tt,vH e1 (UK e1 (by rw[r1];nofun) λys n z=>by rw[r2] at z;cases z),r1,r2,r3⟩,yN t ht⟩
  have e0:ZY P w K mg (y4 s₁.heap H) callerA [] s₁ H:=⟨rfl,hM,λb o e=>ZI e,nh (OE _ _),trivial,λb hb=>Zw (show b∈([]:List ag) from hb) (by simp),hok,.of_eq hg,Pq⟩;refine Dt ((F _ zo (nsK hns)).run callerA [] s₁ H ⟨[.ref a],[]⟩ [.ref a] [.ref a] _ _ hr e0 (hbind s₁ (.ref a)) (.cons rfl .nil) (hsp H hO hS)) λr s' h=>?_
  cases r with
  |error e=>exact(u_ H e s' h).elim
  |ok fl =>
   cases fl with
   |next=>exact jl h
   |brk=>exact jl h
   |cont=>exact jl h
   |ret v =>
    obtain⟨y,H',os,bare,un,hok',r',q⟩:=h;have q':y=.bl ae:=q;subst q';obtain rfl:v=oj ae:=r';have old:∀b o,s₁.heap.get? b=aa o->asItWas s₁.heap s'.heap b o /\∃o',s'.heap.get? b=aa o':=λb o e=>by
     rcases tK b with z|⟨rfl,z,hne⟩|⟨t,ht,rfl,z⟩
     .have k:=un.keep b o e z (by intro z;exact Zw (show b∈([]:List ag) from z) (by simp)) (by simp);exact⟨.inl k,o,k⟩
     .rcases hu with y|⟨ob,xs,y⟩
      .exact Zw y hne
      .have z1:=z.trans y;have z2:=un.y3 b ob _ z1;obtain⟨e1,_⟩:=hok b _ z1;obtain⟨e2,_⟩:=hok' b _ z2;rw[e] at e1;cases e1;exact⟨.inl e2,o,e2⟩
     .obtain ⟨ps,e2,_⟩:=hok' _ _ (un.xG _ _ z);have e1:=(hT t ht).2;rw[e] at e1;cases e1;exact⟨.inr (.inl ⟨((hT t ht).1.tab (hT t ht).2).isCodeTable,rfl,#[],ps,rfl,by rw[e2,Array.empty_append]⟩),_,e2⟩
    exact⟨rfl,⟨λb o e=>(old b o e).1,λb o e=>(old b o e).2⟩,os,bare⟩
 cases hk:K.lookup a with
 |some o =>
  -- the script is one of the module's own objects
  have e:=KX a o hk;rw[ha] at e;cases e;exact core ab (.inl rfl) (.inr ⟨_,vs.toArray,_,hk,rfl,rfl,rfl,by rw[cn,lenV];exact hl,by simpa using rv⟩) (λv z=>by cases z) λz=>Zw rfl z
 |none =>
  refine core (aa (.xD {cls:=.type "list",data:=.seq vs.toArray} (.lst (ns.map V.int)))) (.inr ⟨_,_,rfl⟩) (.inl (.inr ⟨{cls:=.type "list",data:=.seq vs.toArray},Z_ rfl⟩)) (λv z=>?_) λ_=>hk;cases z;exact⟨ha,by rw[au];exact hl,vs,_,rv,ha⟩
abbrev KOf{K:ao}{h:a_}(_:K.In h):ao:=K
theorem Z7{l:qe}{n k:Nat}{q:bf}{loose:Q0g}{XP:(aj->Option ai)->a_->Prop}{YP:az->a_->Prop}{d:DefRec}{K:Params->ao}{CX:az->MB}{sp:az->Sp}{x:aj}
  (hn:l.most=aa n) (hn2:n<=bc) (hdf:d.params.defaults=[]) (hr:gL k callerA)
  (hY:∀(w:az) (h:a_),YP w h->(K w.params).In h)
  (rm:∀w:az,TabsOk (K w.params) q) (hnt:∀w:az,noTabs (K w.params)=ae)
  (F:∀(w:az) (mg:Q0d) (fa:ag) (h:a_),(K w.params).In h->h.Ns h_ mg->mg d.name=aa (.ref fa) ->
   ∃fd:gq,(∀(s:ak) (u:ai),qo s fd ⟨[u],[]⟩ [(x,u)]) /\
    ∀base:a_,(K w.params).In base->base.Ns h_ mg->lQ l.prog w (K w.params) mg base (CX w) k fa fd [x] (sp w))
  (hsp:∀(w:az) (H:Hp) (a:ag) (ns:Q0e),ns.length<=n->Only H->eE (K w.params) H a (ns.map V.int)->sp w [.ref a] H (λv _=>v=.bl ae) λ_ _ _=>False)
  (u_:∀(w:az) (H:Hp) (s:ak) (e:ai) (s':ak),CX w [] H s (λ_ _ _=>False) e s'->False):
  D_ q loose XP YP l.row.toRowW d [] (λf vs=>Du f vs):=by
 refine Z6.FQ hn hdf λw s₀ s₁ mg mb fa o pm cd doc a vs ns G Y ho hd hcd hmg hobj hints hlen hg=>?_;have KX:=hY w _ Y;obtain⟨fd,hb,hF⟩:=F w mg fa _ KX G.T.g hmg;have hT:∀t∈fH (K w.params),CodeHd s₁.heap t.2.1 t.2.2/\s₁.heap.get? t.2.2=aa (tabObj #[]):=λt ht=>by obtain⟨e,he⟩:=(rm w).rc t ht;exact PySem.W.tab_of G.T KX he (IW ht)
 exact UJ KX G.T.g G.T.b G.T.builtins G.T.nolimit G.T.bmain hT (rm w).nd (hnt w) hg hobj hints (gb hlen hn2) hr hF hb (λH hO hS=>hsp w H a ns hlen hO hS) λH e s'=>u_ w H s₁ e s'
noncomputable def rF(s:cz):Arguments:=match s with
 |.FunctionDef _ a _ _ _ _ _ _ _ _=>a
 |_=>{posonlyargs:=[],args:=[],vararg:=ab,kwonlyargs:=[],kw_defaults:=[],kwarg:=ab,defaults:=[]}
noncomputable def gM(s:cz):List cz:=match s with
 |.FunctionDef _ _ b _ _ _ _ _ _ _=>b
 |_=>[]
noncomputable def bV(s:cz):gk:=match s with
 |.FunctionDef _ _ _ _ _ _ sc _ _ _=>sc
 |_=>{kind:=.function,names:=[],isGenerator:=af,isCoroutine:=af}
abbrev cK:MB:=λ_ _ _ _ _ _=>False
abbrev E0:XK:=λ_ _ _=>False
def UL:Passes cK X E0:=λ_ _ _ _ _ _ _ h=>h.elim
structure Fun (K:ao) (x qual:aj) (st:cz) (f:ag) (fd:gq):Prop where
 ex:∃(oc:ai) (od:Option ag) (kV doc pm:ai) (an:Option ag) (cdv ct:ai) (osl:Array (Option ai)),
  fd=fnOf x qual (rF st) (gM st) (bV st) .none kV doc pm an cdv ct/\K.lookup f=aa ⟨oc,od,.func fd,osl⟩/\codeIn K cdv qual=ae
 kp:keepIn K (.ref f)=ae
section
variable{P:bf}{w:az}{K:ao}{mg:Q0d}{base:a_}
theorem Fun.ok{x qual:aj}{st:cz}{f:ag}{fd:gq}{N ps:Q0g}{k:Nat}{sp:Sp}(F:Fun K x qual st f fd)(S:i7 N ps (bV st))(len:∀vs H Q E,sp vs H Q E->vs.length=ps.length)
  (hbody:∀(cdv:ai) (A:bq) (outer:List fz) (s:ak) (H:Hp) (vs:List V) (Q:VK) (E:XK),gL k (A.deeper (envOfC qual (bV st) s.heap.objs.size f cdv))->sp vs H Q E ->
   ∃t,y7 (xN cK P w K mg base N qual (bV st) f cdv A outer s H E).ZQ (gM st) t/\t {nx:=λ_ H'=>Q .non H',rt:=Q} (start N vs) H):lQ P w K mg base cK (k+1) f fd ps sp:=by
 obtain⟨oc,od,kV,doc,pm,an,cdv,ct,osl,rfl,lk,hcd⟩:=F.ex;refine Vg lk hcd S len λA outer s H vs Q E hr hsp=>?_;obtain⟨t,h,q⟩:=hbody cdv A outer s H vs Q E hr hsp;exact⟨t,h.ZQ,q⟩
theorem Yc{x qual:aj}{st:cz}{f:ag}{oc:ai}{od an:Option ag}{osl:Array (Option ai)}{kV doc pm cdv ct:ai}(l:K.lookup f=aa ⟨oc,od,.func (fnOf x qual (rF st) (gM st) (bV st) .none kV doc pm an cdv ct),osl⟩)
  (c:codeIn K cdv qual=ae) (k:keepIn K (.ref f)=ae):Fun K x qual st f (fnOf x qual (rF st) (gM st) (bV st) .none kV doc pm an cdv ct):=⟨⟨oc,od,kV,doc,pm,an,cdv,ct,osl,rfl,l,c⟩,k⟩
end
def Same(H H':Hp):Prop:=∀b o,H b=aa o->H' b=aa o
def Same.refl(H:Hp):Same H H:=λ_ _ h=>h
def Same.trans{H H1 H2:Hp}(a:Same H H1)(b:Same H1 H2):Same H H2:=λc o h=>b c o (a c o h)
theorem Same.free{H H':Hp}(e:Same H H'){l:ag}(h:H' l=ab):H l=ab:=by
 cases q:H l with
 |none=>rfl
 |some o =>
  rw[e l o q] at h;cases h
section
variable{κ:Type}[DecidableEq κ]
def mD(kvs:List (κ×V))(k:κ):Option V:=(kvs.find? λkv=>Zv (kv.1=k)).map (·.2)
def putK(kvs:List (κ×V))(k:κ)(v:V):List (κ×V) :=
 if(kvs.any λkv=>Zv (kv.1=k))=ae then kvs.map (λkv=>if kv.1=k then(kv.1,v) else kv) else kvs++[(k,v)]
def xR{p:κ×V}{r:List (κ×V)}{k:κ}(e:p.1=k):mD (p::r) k=aa p.2:=by simp[mD,gw,e]
def xS{p:κ×V}{r:List (κ×V)}{k:κ}(e:¬ p.1=k):mD (p::r) k=mD r k:=by simp[mD,gw,e]
theorem xT(k:κ):∀kvs:List (κ×V),(kvs.any λkv=>Zv (kv.1=k))=(mD kvs k).isSome
 |[]=>rfl
 |p::r=>by
  rw[ji];by_cases e:p.1=k
  .simp only[xR e,Zx e,a23,Option.isSome_some]
  .rw [xS e,Zy e,yz];exact xT k r
def uG(kvs:List (κ×V))(k:κ)(v:V):(putK kvs k v).length<=kvs.length+1:=by
 unfold putK;split
 .rw [au];omega
 .rw [ck,cy,me];omega
def UM{kvs:List (κ×V)}{k:κ}(v:V)(h:mD kvs k=ab):putK kvs k v=kvs++[(k,v)]:=by unfold putK;rw[xT,h];exact Zz (by decide)
theorem m4.n9(r:m4 o u):o.isSome=u.isSome:=by
 cases o with
 |none=>cases u with
  |none=>rfl
  |some _=>exact(show False from r).elim
 |some _=>cases u with
  |none=>exact(show False from r).elim
  |some _=>rfl
theorem m4.getD{o:Option V}{u:Option ai}{d:V}{d':ai}(r:m4 o u)(rd:RelV d d'):RelV (o.getD d) (u.getD d'):=by
 cases o with
 |none=>cases u with
  |none=>exact rd
  |some _=>exact(show False from r).elim
 |some _=>cases u with
  |none=>exact(show False from r).elim
  |some _=>exact r
theorem KV.val{kvs:List (κ×V)}{vs:List (κ×ai)}(r:KV kvs vs)(k:κ):m4 (mD kvs k) (valueAt vs k):=by
 unfold KV at r
 induction r with
 |nil=>exact jm
 | @cons p q ps qs h t ih =>
  obtain⟨h1,h2⟩:=h;by_cases e:p.1=k
  .have e':q.1=k:=h1.symm.trans e;have b:valueAt (q::qs) k=aa q.2:=by simp[valueAt,gw,e']
   rw[xR e,b];exact h2
  .have e':¬ q.1=k:=λz=>e (h1.trans z);have b:valueAt (q::qs) k=valueAt qs k:=by simp[valueAt,gw,e']
   rw[xS e,b];exact ih
theorem KV.any{kvs:List (κ×V)}{vs:List (κ×ai)}(r:KV kvs vs)(k:κ):(kvs.any λkv=>Zv (kv.1=k))=vs.any λkv=>Zv (kv.1=k):=by
 unfold KV at r
 induction r with
 |nil=>rfl
 |cons h t ih=>rw[ji,ji,ih,h.1]
theorem KV.repl(r:KV kvs vs)(k:κ)(ry:RelV y u):
  KV (kvs.map λkv=>if kv.1=k then(kv.1,y) else kv) (vs.map λkv=>if kv.1=k then(kv.1,u) else kv):=by
 unfold KV at r ⊢
 induction r with
 |nil=>exact .nil
 | @cons p q ps qs h t ih =>
  rw[bp,bp];refine .cons ?_ ih;obtain⟨h1,h2⟩:=h;by_cases e:p.1=k
  .rw [Z_ e,Z_ (h1.symm.trans e)];exact⟨h1,ry⟩
  .rw [Zz e,Zz (λz=>e (h1.trans z))];exact⟨h1,h2⟩
def KV.put(r:KV kvs vs)(k:κ)(ry:RelV y u):KV (putK kvs k y) (stored vs k u):=by
 unfold putK stored;rw[r.any k];by_cases e:(vs.any λkv=>Zv (kv.1=k))=ae
 .rw [Z_ e,Z_ e];exact r.repl k ry
 .rw [Zz e,Zz e];exact xo r ⟨rfl,ry⟩
def KV.length{kvs:List (κ×V)}{vs:List (κ×ai)}(r:KV kvs vs):kvs.length=vs.length:=qh r
end
theorem rG(r:RelV (kV k) u):(bA P w).is k u=ae:=by
 cases k with
 |inl i=>obtain⟨t,e⟩:=(show ∃t,u=jv i t from r);subst e;exact FF P w i t
 |inr x=>obtain⟨t,e⟩:=(show ∃t,u=xm x t from r);subst e;exact FG P w x t
theorem AN:∀{ks:List Key} {us:Q0f},Vals (ks.map kV) us->ItemsAre (bA P w) ks us
 |[],_,r=>by rw[j_] at r;cases r;exact .nil
 |k::ks,_,r=>by
  rw[bp] at r
  cases r with
  |cons h t=>exact .cons (rG h) (AN t)
abbrev KT(H:Hp):List (List Key×V)->List (List Key×ag×ai)->Prop:=gm λp q=>p.1=q.1/\H q.2.1=aa (.tup (p.1.map kV))/\RelV p.2 q.2.2
theorem KT.val{H:Hp}{kvs:List (List Key×V)}{xs:List (List Key×ag×ai)}(r:KT H kvs xs)(k:List Key):m4 (mD kvs k) ((atKey xs k).map (·.2)):=by
 induction r with
 |nil=>exact jm
 | @cons p q ps qs h t ih =>
  obtain⟨h1,_,h2⟩:=h;by_cases e:p.1=k
  .have e':q.1=k:=h1.symm.trans e;have b:atKey (q::qs) k=aa q.2:=by simp[atKey,gw,e']
   rw[xR e,b];exact h2
  .have e':¬ q.1=k:=λz=>e (h1.trans z);have b:atKey (q::qs) k=atKey qs k:=by simp[atKey,gw,e']
   rw[xS e,b];exact ih
theorem KT.repl(r:KT H kvs xs)(k:List Key)(ry:RelV y u):
  KT H (kvs.map λkv=>if kv.1=k then(kv.1,y) else kv) (xs.map (putAt k u)):=by
 induction r with
 |nil=>exact .nil
 | @cons p q ps qs h t ih =>
  rw[bp,bp];refine .cons ?_ ih;obtain⟨h1,h2,h3⟩:=h;unfold putAt;by_cases e:p.1=k
  .rw [Z_ e,Z_ (h1.symm.trans e)];exact⟨h1,h2,ry⟩
  .rw [Zz e,Zz (λz=>e (h1.trans z))];exact⟨h1,h2,h3⟩
theorem KT.put(r:KT H kvs xs)(k:List Key)(hb:H b=aa (.tup (k.map kV)))(ry:RelV y u):
  KT H (putK kvs k y) (storedH xs k b u):=by
 have e:(kvs.any λkv=>Zv (kv.1=k))=(atKey xs k).isSome:=by rw[xT,(r.val k).n9,yb]
 unfold putK storedH;rw[e];by_cases q:(atKey xs k).isSome=ae
 .rw [Z_ q,Z_ q];exact r.repl k ry
 .rw [Zz q,Zz q];exact xo r ⟨rfl,hb,ry⟩
def KT.keeps(r:KT H kvs xs)(ht:∀b ys,H b=aa (.tup ys)->H' b=aa (.tup ys)):KT H' kvs xs :=
 Paired.wt r λ_ _ z=>⟨z.1,ht _ _ z.2.1,z.2.2⟩
section
variable{P:bf}{w:az}{H:Hp}{h:a_}{a:ag}
def Br(ok:oR P w H h)(e:Rd H a u):dO P w H h a u:=e.ok ok
def UN(ok:oR P w H h)(e:Rd H a (.dK kvs)):kvs.length<=bc/\(a == sysModules)=af /\∃vs,KV kvs vs/\h.DictOf (bA P w) a vs :=
 show dO P w H h a (.dK kvs) from Br ok e
def Vw(ok:oR P w H h)(e:H a=aa (.dK kvs)):kvs.length<=bc/\(a == sysModules)=af /\∃vs,KV kvs vs/\h.DictOf (bA P w) a vs:=UN ok (.inl e)
def CL(ok:oR P w H h)(e:H a=aa (.tup (ks.map kV))):(tupleKind (bA P w)).is h ks a:=by obtain⟨_,its,r,⟨o,h1,h2,n,h3⟩,_⟩:=(show dO P w H h a (.tup (ks.map kV)) from ok a _ e);exact⟨o,its.toArray,n,h1,h2,h3,by simpa using AN r⟩
theorem UO(ok:oR P w H h)(e:Rd H a (.dT kvs)):kvs.length<=bc/\(a == sysModules)=af /\
  ∃xs,KT H kvs xs/\h.DictOfH (tupleKind (bA P w)) a xs:=by
 obtain⟨z,y,xs,r,o,es,ep,h1,h2,h3,h4,h5⟩:=(show dO P w H h a (.dT kvs) from Br ok e);refine⟨z,y,xs,r,o,es,ep,h1,h2,h3,h4,λx hx=>?_,h5⟩;have all:∀{l:List (List Key×V)} {m:List (List Key×ag×ai)},KT H l m ->∀x∈m,(tupleKind (bA P w)).is h x.1 x.2.1:=by
  intro l m q
  induction q with
  |nil=>intro x hx;exact nomatch hx
  | @cons p q ps qs hq t ih =>
   intro x hx;rcases bz.mp hx with e|hx
   .subst e;exact CL ok (by rw[<- hq.1];exact hq.2.1)
   .exact ih x hx
 exact all r x hx
theorem Vv(ok:oR P w H h)(e:H a=aa (.dT kvs)):kvs.length<=bc/\(a == sysModules)=af /\
  ∃xs,KT H kvs xs/\h.DictOfH (tupleKind (bA P w)) a xs:=UO ok (.inl e)
end
def OW(H:Hp)(a:ag)(y:V)(r:Option V):Prop :=
 (∃kvs k,Rd H a (.dK kvs)/\y=kV k/\r=mD kvs k) \/∃kvs k b,Rd H a (.dT kvs)/\y=.ref b/\H b=aa (.tup (k.map kV))/\r=mD kvs k
def UP(H:Hp)(a:ag)(y v:V)(H':Hp):Prop :=
 (∃kvs k,H a=aa (.dK kvs)/\y=kV k/\kvs.length<bc/\H'=upd H a (.dK (putK kvs k v))) \/
 ∃kvs k b,H a=aa (.dT kvs)/\y=.ref b/\H b=aa (.tup (k.map kV))/\kvs.length<bc/\H'=upd H a (.dT (putK kvs k v))
def OW.k{H:Hp}{a:ag}{kvs:List (Key×V)}{k:Key}(e:H a=aa (.dK kvs)):OW H a (kV k) (mD kvs k):=.inl ⟨kvs,k,.inl e,rfl,rfl⟩
def UP.k{H:Hp}{a:ag}{kvs:List (Key×V)}{k:Key}{v:V}(e:H a=aa (.dK kvs))(hl:kvs.length<bc):UP H a (kV k) v (upd H a (.dK (putK kvs k v))):=.inl ⟨kvs,k,e,rfl,hl,rfl⟩
section
variable{X:Cx}{pins:Q0b}{σ:St}{H:Hp}{s:ak}{a:ag}{y v:V}{u r:ai}{o:Option V}{A:bq}{E:Q0c}
def Inv.big(I:Inv X pins σ H s):sysModules<s.heap.objs.size:=by have h:h_<s.heap.objs.size:=(I.mod.glob.keeps I.bk).lt;exact a2d (by decide) h
theorem OX(hu:A.units+1<cc)(I:Inv X pins σ H s)(g:OW H a y (aa v))(ry:RelV y u)(h:∀w' s',Inv X pins σ H s'->RelV v w'->Q w' s'):
  ax (ay X.prog X.w) A (getItem (.ref a) u) Q E s:=by
 rcases g with⟨kvs,k,e,ey,l⟩|⟨kvs,k,b,e,ey,eb,l⟩
 .subst ey;obtain⟨z,hd,vs,rel,dd⟩:=UN I.hok e;obtain⟨w',hw,IT⟩:=m4.some_of (v:=v) (o:=valueAt vs k) (by rw[l];exact rel.val k);exact a0n (rG ry) dd.mapOf hw (h w' _ (I.tok _) IT)
 .subst ey;cases (show u=cx b from ry);obtain⟨z,hd,xs,rel,dd⟩:=UO I.hok e;obtain⟨w',hw,IT⟩:=m4.some_of (v:=v) (o:=(atKey xs k).map (·.2)) (by rw[l];exact rel.val k);obtain⟨p,hp,hp2⟩:=iy.mp hw;refine a0p (a0y hu) (CL I.hok eb) dd hp ?_;rw[hp2];exact h w' _ (I.tok _) IT
theorem vI(I:Inv X pins σ H s)(mu:Mut (H a))(hs:qk a s.heap h')(he:∃q,h'.get? a=aa q)(new:dO X.prog X.w (upd H a ob) h' a ob):
  Inv X pins σ (upd H a ob) {s with heap:=h',toks:=t' } :=
 I.write (x:=a) (e:=a) mu (.inl rfl) (λb q hb z=>(hs.2 b hb).trans z) he new
theorem Yb(z:kvs.length<=bc)(hd:(a == sysModules)=af)(rel:KV kvs vs)(dd:h'.DictOf (bA P w) a vs):
  dO P w H' h' a (.dK kvs):=⟨z,hd,vs,rel,dd⟩
theorem OY(hu:A.units+1<cc)(I:Inv X pins σ H s)(g:UP H a y v H')(ry:RelV y u)(rv:RelV v r)(h:∀s',Inv X pins σ H' s'->Q () s'):
  ax (ay X.prog X.w) A (setItem (.ref a) u r) Q E s:=by
 rcases g with⟨kvs,k,e,ey,l,eH⟩|⟨kvs,k,b,e,ey,eb,l,eH⟩
 .subst ey eH;obtain⟨z,hd,vs,rel,dd⟩:=Vw I.hok e;have hz:vs.length<=bc:=by rw[<- rel.length];exact z
  have hl:(putK kvs k v).length<=bc:=by have:=uG kvs k v;omega
  refine a0e (hsz:=hz) (rG ry) dd λh' dd' hs=>h _ ?_;have he:∃q,h'.get? a=aa q:=let ⟨q,_,_,hq,_⟩:=dd';⟨q,hq⟩;exact vI I (by rw[e];exact jm) hs he (Yb hl hd (rel.put k rv) dd')
 .subst ey eH;cases (show u=cx b from ry);obtain⟨z,hd,xs,rel,dd⟩:=Vv I.hok e;have hz:xs.length<=bc:=by rw[<- qh rel];exact z
  have hl:(putK kvs k v).length<=bc:=by have:=uG kvs k v;omega
  refine a0f (hsz:=hz) (a0y hu) (CL I.hok eb) dd λh' dd' hs=>h _ ?_;obtain⟨q,es,ep,hq,h2,h3,h4,_,h5⟩:=dd';refine vI I (by rw[e];exact jm) hs ⟨q,hq⟩ ⟨hl,hd,_,(rel.put k eb rv).keeps λc ys ec=>?_,q,es,ep,hq,h2,h3,h4,h5⟩;rw[aW (Bw ec e (λz=>nomatch z))];exact ec
end
def IY(i:ar):Prop:=∀ov iv,subscripted i af ov iv=operate [ov,iv] (getItem ov iv)
theorem MJ{prog:bf}{w:az}{A:bq}{E:Q0c}{s:ak}{env:fz}{value slice:ar}{pos:bg}{T id:String}{Q:Q0c}
  (hl:typeLookup (.type T) "__getitem__"=pure (aa (.builtin id))) (hs:IY slice)
  (h:ax (ay prog w) A (eval value env) (λo s₁=>ax (ay prog w) A (eval slice env) (λi s₂=>s₂.TypeIs o T/\ax (ay prog w) A (getItem o i) Q E s₂) E s₁) E s):
  ax (ay prog w) A (eval (.Subscript value slice pos) env) Q E s:=by
 refine x_ (mv h (λo s₁ h₁=>mv h₁ (λi s₂ h₂=>?_) λ_ _ x=>x) λ_ _ x=>x);obtain⟨hT,h₂⟩:=h₂;unfold subscriptTail;refine av ?_;rw[getitemInPython_of_ne hT.not_modules];refine av (Dc hT hl ?_);have fin:ax (ay prog w) A (subscripted slice af o i) (λr s₃=>ax (ay prog w) A (letTemporaryGo value o r >>= λ_=>pure r) Q E s₃) E s₂:=by rw[hs o i];exact wpAny_operating (mv h₂ (λr s₃ h₃=>av (wpAny_letTemporaryGo (bb h₃))) λ_ _ x=>x)
 first
  |exact bb (av fin)
  |exact av (bb (av fin))
  |exact av fin
def FR(I:Inv X pins σ H s)(g:OW H a y o):s.TypeIs (.ref a) "dict":=by
 rcases g with⟨kvs,k,e,_,_⟩|⟨kvs,k,b,e,_,_,_⟩
 .obtain ⟨_,_,vs,_,dd⟩:=UN I.hok e;exact dd.typeIs
 .obtain ⟨_,_,xs,_,dd⟩:=UO I.hok e;exact dd.typeIs
def Vu(td ty:TE):TE:=λσ H Q=>td σ H λx H1=>ty σ H1 λy H2=>∃a v,x=.ref a/\OW H2 a y (aa v)/\Q v H2
def Vt(td ty tv:TE):TS:=λD σ H=>tv σ H λv H1=>td σ H1 λx H2=>ty σ H2 λy H3=>∃a H4,x=.ref a/\UP H3 a y v H4/\D.nx σ H4
section
variable{X:Cx}{o i e value:ar}{pos pos' tpos:bg}{td ty tv:TE}
def Z8(hu:X.A.units+1<cc)(ho:PE X o td)(hi:PE X i ty)(hs:IY i):PE X (.Subscript o i pos) (Vu td ty):=by intro pins s σ H Q I h;refine MJ a1r.lookup hs (eK (ho pins s σ H _ I h) λu s1 ⟨x,H1,I1,rx,q1⟩=>eK (hi pins s1 σ H1 _ I1 q1) λiv s2 ⟨y,H2,I2,ry,a,v,ex,g,q2⟩=>?_);subst ex;obtain rfl:u=cx a:=rx;exact⟨FR I2 g,OX hu I2 g ry λw' s3 I3 IT=>⟨v,H2,I3,IT,q2⟩⟩
theorem Z9(hu:X.A.units+1<cc)(ho:PE X o td)(hi:PE X i ty)(hv:PE X value tv)(hs:ft value (aa (.Subscript o i pos')) pos.line X.env=pure af):
  PS X (.Assign [.Subscript o i pos'] value pos) (Vt td ty tv):=by
 intro pins s σ H D I h;refine a0x (eK (hv pins s σ H _ I h) λr s1 ⟨v,H1,I1,rv,q1⟩=>eK (ho pins s1 σ H1 _ I1 q1) λu s2 ⟨x,H2,I2,rx,q2⟩=>eK (hi pins s2 σ H2 _ I2 q2) λiv s3 ⟨y,H3,I3,ry,a,H4,ex,g,q3⟩=>?_) hs;subst ex;obtain rfl:u=cx a:=rx;exact OY hu I3 g ry rv λs4 I4=>⟨σ,H4,I4,q3⟩
end
def UQ(h:a_)(hb:sysModules<h.objs.size):dO P w H (h.push {cls:=.type "dict",data:=.dict #[]}) h.objs.size (.dK []) :=
 ⟨jq _,beq_eq_false_iff_ne.mpr (dh (gd hb)),[],.nil,a3u h⟩
def Ya:TE:=λ_ H Q=>∀p,H p=ab->Q (.ref p) (upd H p (.dK []))
section
variable{X:Cx}{pos:bg}
def UR:PE X (.Dict [] [] pos) Ya:=λpins s σ H Q I h =>
 a0v ⟨.ref s.heap.objs.size,_,I.laid (a:=s.heap.objs.size) (o:=.dK []) (t':=s.toks) (λ_ _ q=>di _ q) (bj _) (UQ s.heap I.big),rfl,h _ (I.hok.fresh (bj _))⟩
end
end L2
end
namespace L3
open L2
def Scr(K:ao)(H:Hp)(a:ag)(ns:Q0e):Prop:=(∃o,H a=aa (.xD o (.lst (ns.map V.int))))\/eE K (λ_=>ab) a (ns.map V.int)
def Rw(S:ag->Prop)(H:Hp)(xs:Q0a)(p:ag):Prop:=∃as:List ag,H p=aa (.lst (as.map V.ref))/\as.Nodup/\(∀a∈as,S a)/\as.map H=xs.map λx=>aa (.lst (x.map V.int))
mutual
noncomputable def Dn(K:ao)(S:ag->Prop)(H:Hp):D->V->Prop
 |.non,v=>v=.non
 |.bl b,v=>v=.bl b
 |.int i,v=>v=.int i
 |.str x,v=>v=.str x
 |.tup ds,v=>∃a xs,v=.ref a/\H a=aa (.tup xs)/\aS K S H ds xs
 |.lst ds,v=>∃a xs,v=.ref a/\H a=aa (.lst xs)/\S a/\aS K S H ds xs
 |.jD ns,v=>∃a,v=.ref a/\Scr K H a ns
 |.gA ks ds,v=>∃a xs,v=.ref a/\H a=aa (.dK (ks.zip xs))/\S a/\ks.length=xs.length/\aS K S H ds xs
 |.dP q ks ds,v=>∃a o kvs,v=.ref a/\H a=aa (.dX o kvs)/\S a/\(kvs.map (·.1)=ks/\q a o)/\aS K S H ds (kvs.map (·.2.2))
 |.exc _ a,v=>v=.ref a
 |.rws xs,v=>∃a,v=.ref a/\S a/\Rw S H xs a
noncomputable def aS(K:ao)(S:ag->Prop)(H:Hp):List D->List V->Prop
 |[],xs=>xs=[]
 |d::ds,xs=>∃v r,xs=v::r/\Dn K S H d v/\aS K S H ds r
end
structure Fits (K:ao) (S S':ag->Prop) (H H':Hp):Prop where
 t:∀a xs,H a=aa (.tup xs)->H' a=aa (.tup xs)
 s:∀a ns,Scr K H a ns->Scr K H' a ns
 l:∀a xs,H a=aa (.lst xs)->S a->H' a=aa (.lst xs)/\S' a
 d:∀a xs,H a=aa (.dK xs)->S a->H' a=aa (.dK xs)/\S' a
 e:∀a o xs,H a=aa (.dX o xs)->S a->H' a=aa (.dX o xs)/\S' a
section
variable{K:ao}{S S':ag->Prop}{H H':Hp}
def Rw.fits(f:Fits K S S' H H')(hp:∀ys,H p=aa (.lst ys)->H' p=aa (.lst ys))(h:Rw S H xs p):Rw S' H' xs p:=by
 obtain⟨as,h1,h2,h3,h4⟩:=h;have hl:as.length=xs.length:=by have:=congrArg oz h4;simpa using this
 have at1:∀i (hi:i<as.length),H as[i]=aa (.lst ((xs[i]'(hl▸hi)).map V.int)):=λi hi=>by have:=congrArg (λl=>l[i]?) h4;simpa[hi,hl▸hi] using this
 refine⟨as,hp _ h1,h2,λa ha=>?_,List.ext_getElem (by simpa using hl) λi hi hi2=>?_⟩
 .obtain ⟨i,hi,rfl⟩:=uj ha;exact(f.l _ _ (at1 i hi) (h3 _ ha)).2
 .rw [au] at hi;rw[a2v,a2v];exact(f.l _ _ (at1 i hi) (h3 _ (mf hi))).1
mutual
theorem Dn.fits(f:Fits K S S' H H'):∀(d:D) (v:V),Dn K S H d v->Dn K S' H' d v
 |.non,v,h=>by simpa only[Dn] using h
 |.bl b,v,h=>by simpa only[Dn] using h
 |.int i,v,h=>by simpa only[Dn] using h
 |.str x,v,h=>by simpa only[Dn] using h
 |.tup ds,v,h=>by simp only[Dn] at h ⊢;obtain⟨a,xs,e,q,r⟩:=h;exact⟨a,xs,e,f.t a xs q,aS.fits f ds xs r⟩
 |.lst ds,v,h=>by simp only[Dn] at h ⊢;obtain⟨a,xs,e,q,s,r⟩:=h;obtain⟨q',s'⟩:=f.l a xs q s;exact⟨a,xs,e,q',s',aS.fits f ds xs r⟩
 |.jD ns,v,h=>by simp only[Dn] at h ⊢;obtain⟨a,e,q⟩:=h;exact⟨a,e,f.s a ns q⟩
 |.gA ks ds,v,h=>by simp only[Dn] at h ⊢;obtain⟨a,xs,e,q,s,l,r⟩:=h;obtain⟨q',s'⟩:=f.d a _ q s;exact⟨a,xs,e,q',s',l,aS.fits f ds xs r⟩
 |.dP _ ks ds,v,h=>by simp only[Dn] at h ⊢;obtain⟨a,o,kvs,e,q,s,l,r⟩:=h;obtain⟨q',s'⟩:=f.e a _ _ q s;exact⟨a,o,kvs,e,q',s',l,aS.fits f ds _ r⟩
 |.exc _ _,v,h=>by simpa only[Dn] using h
 |.rws xs,v,h=>by simp only[Dn] at h ⊢;obtain⟨a,e,s,r⟩:=h;obtain⟨as,h1,h2⟩:=r;exact⟨a,e,(f.l a _ h1 s).2,Rw.fits f (λys e1=>(f.l a ys e1 s).1) ⟨as,h1,h2⟩⟩
theorem aS.fits(f:Fits K S S' H H'):∀(ds:List D) (xs:List V),aS K S H ds xs->aS K S' H' ds xs
 |[],xs,h=>by simpa only[aS] using h
 |d::ds,xs,h=>by simp only[aS] at h ⊢;obtain⟨v,r,e,h1,h2⟩:=h;exact⟨v,r,e,Dn.fits f d v h1,aS.fits f ds r h2⟩
end
mutual
theorem Dn.OZ:∀(d:D) (v:V),d.zJ=ae->Dn K S H d v->Dn K S' H d v
 |.non,v,_,h=>by simpa only[Dn] using h
 |.bl b,v,_,h=>by simpa only[Dn] using h
 |.int i,v,_,h=>by simpa only[Dn] using h
 |.str x,v,_,h=>by simpa only[Dn] using h
 |.tup ds,v,hi,h=>by simp only[Dn] at h ⊢;obtain⟨a,xs,e,q,r⟩:=h;exact⟨a,xs,e,q,aS.OZ ds xs (by simpa only[D.zJ] using hi) r⟩
 |.lst _,v,hi,h=>by simp only[D.zJ] at hi;cases hi
 |.jD ns,v,_,h=>by simpa only[Dn] using h
 |.gA _ _,v,hi,h=>by simp only[D.zJ] at hi;cases hi
 |.dP _ _ _,v,hi,h=>by simp only[D.zJ] at hi;cases hi
 |.exc _ _,v,_,h=>by simpa only[Dn] using h
 |.rws _,v,hi,h=>by simp only[D.zJ] at hi;cases hi
theorem aS.OZ:∀(ds:List D) (xs:List V),sC ds=ae->aS K S H ds xs->aS K S' H ds xs
 |[],xs,_,h=>by simpa only[aS] using h
 |d::ds,xs,hi,h=>by simp only[sC,gn] at hi;simp only[aS] at h ⊢;obtain⟨v,r,e,h1,h2⟩:=h;exact⟨v,r,e,Dn.OZ d v hi.1 h1,aS.OZ ds r hi.2 h2⟩
end
def Dn.zJ(hi:d.zJ=ae)(h:Dn K S H d v):Dn K S' H d v:=Dn.OZ d v hi h
def aS.zJ(hi:sC ds=ae)(h:aS K S H ds xs):aS K S' H ds xs:=aS.OZ ds xs hi h
def eE.some(h:eE K (λ_=>ab) a xs):eE K H a xs:=by
 rcases h with(h|⟨o,h⟩)|h
 .cases h
 .cases h
 .exact .inr h
def Scr.sq(h:Scr K H a ns):eE K H a (ns.map V.int):=by
 rcases h with⟨o,h⟩|h
 .exact .inl (.inr ⟨o,h⟩)
 .exact eE.some h
def Wr(H:Hp)(p:ag):Prop:=(∃xs,H p=aa (.lst xs))\/(∃xs,H p=aa (.dK xs)) \/∃o xs,H p=aa (.dX o xs)
def Wr.tup(w:Wr H p)(h:H a=aa (.tup xs)):upd H p o a=aa (.tup xs):=by
 rw[aW]
 .exact h
 .intro e;subst e;rcases w with⟨ys,w⟩|⟨ys,w⟩|⟨_,ys,w⟩<;>rw[h] at w<;>cases w
def Wr.jD(w:Wr H p)(h:Scr K H a ns):Scr K (upd H p o) a ns:=by
 rcases h with⟨ob,h⟩|h
 .refine .inl ⟨ob,?_⟩;rw[aW]
  .exact h
  .intro e;subst e;rcases w with⟨ys,w⟩|⟨ys,w⟩|⟨_,ys,w⟩<;>rw[h] at w<;>cases w
 .exact .inr h
def Fits.same(e:Same H H'):Fits K S S H H' :=
 ⟨λa xs h=>e _ _ h,λa ns h=>h.elim (λ⟨o,h⟩=>.inl ⟨o,e _ _ h⟩) .inr,λa xs h s=>⟨e _ _ h,s⟩,λa xs h s=>⟨e _ _ h,s⟩,λa _ xs h s=>⟨e _ _ h,s⟩⟩
def Fits.mono(m:∀a,S a->S' a):Fits K S S' H H :=
 ⟨λ_ _ h=>h,λ_ _ h=>h,λa _ h s=>⟨h,m a s⟩,λa _ h s=>⟨h,m a s⟩,λa _ _ h s=>⟨h,m a s⟩⟩
def Fits.fresh(hp:H p=ab):Fits K S (λa=>S a/\a≠p) H H :=
 ⟨λ_ _ h=>h,λ_ _ h=>h,λa _ h s=>⟨h,s,bK h hp⟩,λa _ h s=>⟨h,s,bK h hp⟩,λa _ _ h s=>⟨h,s,bK h hp⟩⟩
def Fits.upd(w:Wr H p)(hs:¬ S p):Fits K S S H (upd H p o):=by have ne:∀a,S a->a≠p:=λa s e=>hs (e▸s);exact⟨λa xs h=>w.tup h,λa ns h=>w.jD h,λa xs h s=>⟨by rw[aW (ne a s)];exact h,s⟩,λa xs h s=>⟨by rw[aW (ne a s)];exact h,s⟩,λa _ xs h s=>⟨by rw[aW (ne a s)];exact h,s⟩⟩
def Fits.trans(a:Fits K S S' H H')(b:Fits K S' S'' H' H''):Fits K S S'' H H'' :=
 ⟨λx xs h=>b.t x xs (a.t x xs h),λx ns h=>b.s x ns (a.s x ns h),λx xs h s=>let ⟨h1,s1⟩:=a.l x xs h s;b.l x xs h1 s1,λx xs h s=>let ⟨h1,s1⟩:=a.d x xs h s;b.d x xs h1 s1,λx o xs h s=>let ⟨h1,s1⟩:=a.e x o xs h s;b.e x o xs h1 s1⟩
def aO(hp:H p=ab):Same H (upd H p o):=λb u h=>by rw[aW (bK h hp)];exact h
theorem aS.len:∀{ds:List D} {xs:List V},aS K S H ds xs->ds.length=xs.length
 |[],xs,h=>by simp only[aS] at h;subst h;rfl
 |d::ds,xs,h=>by simp only[aS] at h;obtain⟨v,r,e,_,h2⟩:=h;subst e;simp[aS.len h2]
theorem aS.get:∀{ds:List D} {xs:List V} {i:Nat} {d:D},aS K S H ds xs->ds[i]?=aa d ->∃v,xs[i]?=aa v/\Dn K S H d v
 |[],xs,i,d,h,e=>by simp at e
 |d::ds,xs,i,d',h,e=>by
  simp only[aS] at h;obtain⟨v,r,e1,h1,h2⟩:=h;subst e1
  cases i with
  |zero=>simp at e;subst e;exact⟨v,by simp,h1⟩
  |succ i =>
   obtain⟨u,e2,q⟩:=aS.get (i:=i) (d:=d') h2 (by simpa using e);exact⟨u,by simpa using e2,q⟩
def aS.nil:aS K S H [] []:=by simp only[aS]
def aS.cons(h:Dn K S H d v)(t:aS K S H ds xs):aS K S H (d::ds) (v::xs):=by simp only[aS];exact⟨v,xs,rfl,h,t⟩
def aS.bD(h:aS K S H (d::ds) xs):∃v r,xs=v::r/\Dn K S H d v/\aS K S H ds r:=by simpa only[aS] using h
theorem aS.append:∀{ds es:List D} {xs ys:List V},aS K S H ds xs->aS K S H es ys->aS K S H (ds++es) (xs++ys)
 |[],es,xs,ys,h,g=>by simp only[aS] at h;subst h;exact g
 |d::ds,es,xs,ys,h,g=>by obtain⟨v,r,e,h1,h2⟩:=h.bD;subst e;exact aS.cons h1 (aS.append h2 g)
def aS.one(h:Dn K S H d v):aS K S H [d] [v]:=aS.cons h aS.nil
theorem aS.take:∀{ds:List D} {xs:List V} (n:Nat),aS K S H ds xs->aS K S H (ds.take n) (xs.take n)
 |_,_,0,_=>by simp[aS.nil]
 |[],xs,n+1,h=>by simp only[aS] at h;subst h;simp[aS.nil]
 |d::ds,xs,n+1,h=>by obtain⟨v,r,e,h1,h2⟩:=h.bD;subst e;simpa using aS.cons h1 (aS.take n h2)
theorem aS.drop:∀{ds:List D} {xs:List V} (n:Nat),aS K S H ds xs->aS K S H (ds.drop n) (xs.drop n)
 |_,_,0,h=>by simpa using h
 |[],xs,n+1,h=>by simp only[aS] at h;subst h;simp[aS.nil]
 |d::ds,xs,n+1,h=>by obtain⟨v,r,e,h1,h2⟩:=h.bD;subst e;simpa using aS.drop n h2
theorem aS.set:∀{ds:List D} {xs:List V} {d:D} {v:V} (n:Nat),Dn K S H d v->aS K S H ds xs->aS K S H (ds.set n d) (xs.set n v)
 |[],xs,d,v,n,h,g=>by simp only[aS] at g;subst g;simp[aS.nil]
 |d::ds,xs,d',v',n,h,g=>by
  obtain⟨v,r,e,h1,h2⟩:=g.bD;subst e
  cases n with
  |zero=>exact aS.cons h h2
  |succ n=>exact aS.cons h1 (aS.set n h h2)
theorem aS.erase:∀{ds:List D} {xs:List V} (n:Nat),aS K S H ds xs->aS K S H (ds.eraseIdx n) (xs.eraseIdx n)
 |[],xs,n,g=>by simp only[aS] at g;subst g;simp[aS.nil]
 |d::ds,xs,n,g=>by
  obtain⟨v,r,e,h1,h2⟩:=g.bD;subst e
  cases n with
  |zero=>exact h2
  |succ n=>exact aS.cons h1 (aS.erase n h2)
theorem aS.ints:∀{ns:Q0e} {xs:List V},aS K S H (ns.map D.int) xs↔xs=ns.map V.int
 |[],xs=>by simp[aS]
 |n::ns,xs=>by
  rw[bp,bp]
  constructor
  .intro h;obtain⟨v,r,e,h1,h2⟩:=h.bD;simp only[Dn] at h1;rw[e,h1,aS.ints.mp h2]
  .intro e;rw[e];exact aS.cons (by simp only[Dn]) (aS.ints.mpr rfl)
end
def Sl(K:ao)(S:ag->Prop)(H:Hp)(ρ:dC)(σ:St):Prop:=∀(i:Nat) (d:D),ρ[i]?=aa (aa d) ->∃v,σ[i]?=aa (aa v)/\Dn K S H d v
theorem Sl.fits{K:ao}{S S':ag->Prop}{H H':Hp}{ρ:dC}{σ:St}(f:Fits K S S' H H')(h:Sl K S H ρ σ):Sl K S' H' ρ σ:=λi d e =>
 let ⟨v,e1,q⟩:=h i d e;⟨v,e1,Dn.fits f d v q⟩
def xU(K:ao)(S:ag->Prop)(H:Hp)(d:D)(p:ag):Prop :=
 match d with
 |.lst ds=>∃xs,H p=aa (.lst xs)/\aS K S H ds xs
 |.gA ks ds=>∃xs,H p=aa (.dK (ks.zip xs))/\ks.length=xs.length/\aS K S H ds xs
 |.dP q ks ds=>∃o kvs,H p=aa (.dX o kvs)/\(kvs.map (·.1)=ks/\q p o)/\aS K S H ds (kvs.map (·.2.2))
 |.rws xs=>Rw S H xs p
 |_=>False
def SO(S:ag->Prop)(w:Nat->ag)(ρ:bH):ag->Prop:=λa=>S a /\∀(i:Nat) (d:D),ρ[i]?=aa (Sv.ow d)->a≠w i
structure ST (K:ao) (H₀:Hp) (S:ag->Prop) (w:Nat->ag) (σ:St) (H:Hp) (ρ:bH) (G:List (D×V)):Prop where
 fc:∀a,H₀ a=ab->S a
 sm:Same H₀ H
 own:∀(i:Nat) (d:D),ρ[i]?=aa (Sv.ow d)->σ[i]?=aa (aa (.ref (w i)))/\H₀ (w i)=ab/\xU K (SO S w ρ) H d (w i)
 inj:∀(i j:Nat) (d e:D),ρ[i]?=aa (Sv.ow d)->ρ[j]?=aa (Sv.ow e)->w i=w j->i=j
 ro:∀(i:Nat) (d:D),ρ[i]?=aa (Sv.ro d) ->∃v,σ[i]?=aa (aa v)/\Dn K (SO S w ρ) H d v
 gh:∀g∈G,Dn K (SO S w ρ) H g.1 g.2
 rw:∀(i:Nat) (xs:Q0a),ρ[i]?=aa (Sv.ow (.rws xs)) ->∀ys,H (w i)=aa (.lst ys) ->∀a,V.ref a∈ys->H₀ a=ab
section
variable{K:ao}{H₀ H H':Hp}{S S':ag->Prop}{w:Nat->ag}{σ:St}{ρ:bH}{G:List (D×V)}
theorem xU.wr(h:xU K S H d p):Wr H p:=by
 cases d with
 |lst ds=>obtain⟨xs,e,_⟩:=h;exact .inl ⟨_,e⟩
 |gA ks ds=>obtain⟨xs,e,_⟩:=h;exact .inr (.inl ⟨_,e⟩)
 |dP q0 ks ds=>obtain⟨o,kvs,e,_⟩:=h;exact .inr (.inr ⟨_,_,e⟩)
 |rws xs=>obtain⟨_,e,_⟩:=h;exact .inl ⟨_,e⟩
 |_=>exact jl h
theorem xU.dn{d:D}{p:ag}(h:xU K S H d p)(hs:S' p)(m:∀a,S a->S' a):Dn K S' H d (.ref p):=by
 cases d with
 |lst ds=>obtain⟨xs,e,q⟩:=h;simp only[Dn];exact⟨p,xs,rfl,e,hs,aS.fits (.mono m) ds xs q⟩
 |gA ks ds=>obtain⟨xs,e,l,q⟩:=h;simp only[Dn];exact⟨p,xs,rfl,e,hs,l,aS.fits (.mono m) ds xs q⟩
 |dP q0 ks ds=>obtain⟨o,kvs,e,l,q⟩:=h;simp only[Dn];exact⟨p,o,kvs,rfl,e,hs,l,aS.fits (.mono m) ds _ q⟩
 |rws xs=>simp only[Dn];exact⟨p,rfl,hs,Rw.fits (.mono (K:=K) m) (λ_ e=>e) h⟩
 |_=>exact jl h
theorem xU.fits{d:D}{p:ag}(f:Fits K S S' H H')(hp:∀o,H p=aa o->H' p=aa o)(h:xU K S H d p):xU K S' H' d p:=by
 cases d with
 |lst ds=>obtain⟨xs,e,q⟩:=h;exact⟨xs,hp _ e,aS.fits f ds xs q⟩
 |gA ks ds=>obtain⟨xs,e,l,q⟩:=h;exact⟨xs,hp _ e,l,aS.fits f ds xs q⟩
 |dP q0 ks ds=>obtain⟨o,kvs,e,l,q⟩:=h;exact⟨o,kvs,hp _ e,l,aS.fits f ds _ q⟩
 |rws xs=>exact Rw.fits f (λ_ e=>hp _ e) h
 |_=>exact jl h
def ST.rwN(h:ST K H₀ S w σ H ρ G)(q:ρ[i]?=aa (Sv.ow (.rws xs)))(hp:∀o,H (w i)=aa o->H' (w i)=aa o):∀ys,H' (w i)=aa (.lst ys) ->∀a,V.ref a∈ys->H₀ a=ab:=λys hy=>by obtain⟨as,e,_⟩:=(h.own i _ q).2.2;rw[hp _ e] at hy;cases hy;exact h.rw i xs q _ e
def ST.MK(h:ST K H₀ S w σ H ρ G):∀a,H a=ab->S a:=λa e=>h.fc a (h.sm.free e)
def ST.IZ(h:ST K H₀ S w σ H ρ G):∀a,H a=ab->SO S w ρ a:=λa e=>⟨h.MK a e,λi d q z=>by have wr:=(h.own i d q).2.2.wr;subst z;rcases wr with⟨xs,k⟩|⟨xs,k⟩|⟨_,xs,k⟩<;>rw[e] at k<;>cases k⟩
theorem zB{i:Nat}{d:D}(h:(bC ρ)[i]?=aa (aa d)):ρ[i]?=aa (Sv.ro d)\/ρ[i]?=aa (Sv.ow d):=by
 unfold bC at h;rw[cf] at h
 cases e:ρ[i]? with
 |none=>rw[e] at h;cases h
 |some s =>
  rw[e] at h
  cases s with
  |no=>cases h
  |ro d'=>cases h;exact .inl rfl
  |ow d'=>cases h;exact .inr rfl
theorem CM{i:Nat}{d:D}(h:(gR ρ)[i]?=aa (aa d)):ρ[i]?=aa (Sv.ro d):=by
 unfold gR at h;rw[cf] at h
 cases e:ρ[i]? with
 |none=>rw[e] at h;cases h
 |some s =>
  rw[e] at h
  cases s with
  |no=>cases h
  |ro d'=>cases h;rfl
  |ow d'=>cases h
def ST.all(h:ST K H₀ S w σ H ρ G):Sl K S H (bC ρ) σ:=λi d e=>by
 rcases zB e with e|e
 .obtain ⟨v,e1,q⟩:=h.ro i d e;exact⟨v,e1,Dn.fits (.mono λ_ z=>z.1) d v q⟩
 .obtain ⟨e1,e2,q⟩:=h.own i d e;exact⟨_,e1,q.dn (h.fc _ e2) λ_ z=>z.1⟩
def ST.rd(h:ST K H₀ S w σ H ρ G):Sl K (SO S w ρ) H (gR ρ) σ:=λi d e=>h.ro i d (CM e)
def ST.same(h:ST K H₀ S w σ H ρ G)(e:Same H H'):ST K H₀ S w σ H' ρ G :=
 ⟨h.fc,h.sm.trans e,λi d q=>let ⟨a,b,c⟩:=h.own i d q;⟨a,b,c.fits (.same e) λo z=>e _ o z⟩,h.inj,λi d q=>let ⟨v,a,b⟩:=h.ro i d q;⟨v,a,Dn.fits (.same e) d v b⟩,λg hg=>Dn.fits (.same e) _ _ (h.gh g hg),λi xs q=>h.rwN q λo z=>e _ o z⟩
def SO.mono{ρ':bH}(hw:∀(i:Nat) (d:D),ρ'[i]?=aa (Sv.ow d) ->∃e,ρ[i]?=aa (Sv.ow e)):∀a,SO S w ρ a->SO S w ρ' a:=λa Pp=>by obtain⟨s,n⟩:=Pp;exact⟨s,λi d e=>let ⟨d',e'⟩:=hw i d e;n i d' e'⟩
def get_set{α:Type}{l:List α}{i j:Nat}{x y:α}(h:(l.set i x)[j]?=aa y):(j=i/\y=x/\i<l.length)\/(j≠i/\l[j]?=aa y):=by
 by_cases e:j=i
 .subst e;by_cases hl:j<l.length
  .rw [ku hl] at h;exact .inl ⟨rfl,(c_ h).symm,hl⟩
  .rw [gg (by simp;omega)] at h;cases h
 .rw [je (dh e)] at h;exact .inr ⟨e,h⟩
theorem ST.j5{i:Nat}{d:D}{v:V}(h:ST K H₀ S w σ H ρ G)(hi:i<σ.length)(q:Dn K (SO S w ρ) H d v):ST K H₀ S w (σ.set i (aa v)) H (ρ.set i (.ro d)) G:=by
 have hw:∀(j:Nat) (e:D),(ρ.set i (.ro d))[j]?=aa (Sv.ow e)->j≠i/\ρ[j]?=aa (Sv.ow e):=λj e he=>by
  rcases get_set he with⟨_,z,_⟩|z
  .cases z
  .exact z
 have m:∀a,SO S w ρ a->SO S w (ρ.set i (.ro d)) a:=SO.mono λj e he=>⟨e,(hw j e he).2⟩;refine⟨h.fc,h.sm,λj e he=>?_,λj k d' e' h1 h2=>h.inj j k d' e' (hw j d' h1).2 (hw k e' h2).2,λj e he=>?_,λg hg=>Dn.fits (.mono m) _ _ (h.gh g hg),λj xs hx=>h.rw j xs (hw j _ hx).2⟩
 .obtain ⟨hj,he'⟩:=hw j e he;obtain⟨a,b,c⟩:=h.own j e he';exact⟨by rw[je (dh hj)];exact a,b,c.fits (.mono m) λ_ z=>z⟩
 .rcases get_set he with⟨hj,z,_⟩|⟨hj,z⟩
  .cases z;subst hj;exact⟨v,ku hi,Dn.fits (.mono m) d v q⟩
  .obtain ⟨u,a,b⟩:=h.ro j e z;exact⟨u,by rw[je (dh hj)];exact a,Dn.fits (.mono m) e u b⟩
noncomputable def freeze(ρ:bH)(i:Nat):bH:=match ρ[i]? with
 |some (.ow d)=>ρ.set i (.ro d)
 |_=>ρ
theorem ST.frozen{i:Nat}(h:ST K H₀ S w σ H ρ G):ST K H₀ S w σ H (freeze ρ i) G:=by
 unfold freeze
 cases e:ρ[i]? with
 |none=>exact h
 |some s =>
  cases s with
  |no=>exact h
  |ro d=>exact h
  |ow d =>
   dsimp only;obtain⟨a,b,c⟩:=h.own i d e;have hi:i<σ.length:=(cg.mp a).1;have hw:∀(j:Nat) (e:D),(ρ.set i (.ro d))[j]?=aa (Sv.ow e)->j≠i/\ρ[j]?=aa (Sv.ow e):=λj e he=>by
    rcases get_set he with⟨_,z,_⟩|z
    .cases z
    .exact z
   have m:∀a,SO S w ρ a->SO S w (ρ.set i (.ro d)) a:=SO.mono λj e he=>⟨e,(hw j e he).2⟩;refine⟨h.fc,h.sm,λj f hf=>?_,λj k d' e' h1 h2=>h.inj j k d' e' (hw j d' h1).2 (hw k e' h2).2,λj f hf=>?_,λg hg=>Dn.fits (.mono m) _ _ (h.gh g hg),λj xs hx=>h.rw j xs (hw j _ hx).2⟩
   .obtain ⟨a,b,c⟩:=h.own j f (hw j f hf).2;exact⟨a,b,c.fits (.mono m) λ_ z=>z⟩
   .rcases get_set hf with⟨hj,z,_⟩|⟨hj,z⟩
    .cases z;subst hj;refine⟨_,a,c.dn ⟨h.fc _ b,λk f' hk z=>?_⟩ m⟩;obtain⟨hk1,hk2⟩:=hw k f' hk;exact hk1 (h.inj _ _ _ _ e hk2 z).symm
    .obtain ⟨u,a,b⟩:=h.ro j f z;exact⟨u,a,Dn.fits (.mono m) f u b⟩
theorem ST.I0{i:Nat}{d:D}{p:ag}(h:ST K H₀ S w σ H ρ G)(hi:i<σ.length)(e:Same H H')(hp:H p=ab)(q:xU K (λa=>SO S w ρ a/\a≠p) H' d p)
  (hr:∀xs,d=.rws xs ->∀ys,H' p=aa (.lst ys) ->∀a,V.ref a∈ys->H₀ a=ab:=by intro _ z;cases z):
  ST K H₀ S (λj=>if j=i then p else w j) (σ.set i (aa (.ref p))) H' (ρ.set i (.ow d)) G:=by
 have h0:H₀ p=ab:=h.sm.free hp;have hw:∀(j:Nat) (e:D),j≠i->(ρ.set i (.ow d))[j]?=aa (Sv.ow e)->ρ[j]?=aa (Sv.ow e):=λj e hj he=>by
  rcases get_set he with⟨z,_,_⟩|⟨_,z⟩
  .exact Zw z hj
  .exact z
 have m:∀a,(SO S w ρ a/\a≠p)->SO S (λj=>if j=i then p else w j) (ρ.set i (.ow d)) a:=λa ⟨⟨s,n⟩,ne⟩=>⟨s,λj f hf=>by
  show a≠(if j=i then p else w j);by_cases hj:j=i
  .rw [Z_ hj];exact ne
  .rw [Zz hj];exact n j f (hw j f hj hf)⟩
 have F:Fits K (SO S w ρ) (SO S (λj=>if j=i then p else w j) (ρ.set i (.ow d))) H H':=((Fits.fresh hp).trans (.mono m)).trans (.same e);have wp:∀(j:Nat) (f:D),ρ[j]?=aa (Sv.ow f)->w j≠p:=λj f hf z=>by have wr:=(h.own j f hf).2.2.wr;rw[z] at wr;rcases wr with⟨xs,k⟩|⟨xs,k⟩|⟨_,xs,k⟩<;>rw[hp] at k<;>cases k
 refine⟨h.fc,h.sm.trans e,λj f hf=>?_,λj k d' e' h1 h2 z=>?_,λj f hf=>?_,λg hg=>Dn.fits F _ _ (h.gh g hg),λj xs hx=>?_⟩
 rotate_right
 .show ∀ys,H' (if j=i then p else w j)=aa (.lst ys)->_;by_cases hj:j=i
  .subst hj;rw[Z_ rfl];rcases get_set hx with⟨_,z,_⟩|⟨z,_⟩
   .exact hr xs (Sv.ow.inj z).symm
   .exact Zw rfl z
  .rw [Zz hj];exact h.rwN (hw j _ hj hx) λo z=>e _ o z
 .by_cases hj:j=i
  .subst hj;rcases get_set hf with⟨_,z,_⟩|⟨z,_⟩
   .cases z;rw[Z_ rfl];exact⟨ku hi,h0,q.fits (.mono m) λ_ z=>z⟩
   .exact Zw rfl z
  .rw [Zz hj];obtain⟨a,b,c⟩:=h.own j f (hw j f hj hf);exact⟨by rw[je (dh hj)];exact a,b,c.fits F λo z=>e _ o z⟩
 .have z:(if j=i then p else w j)=(if k=i then p else w k):=z;by_cases hj:j=i
  .by_cases hk:k=i
   .rw [hj,hk]
   .rw [Z_ hj,Zz hk] at z;exact Zw z.symm (wp k e' (hw k e' hk h2))
  .by_cases hk:k=i
   .rw [Zz hj,Z_ hk] at z;exact Zw z (wp j d' (hw j d' hj h1))
   .rw [Zz hj,Zz hk] at z;exact h.inj j k d' e' (hw j d' hj h1) (hw k e' hk h2) z
 .rcases get_set hf with⟨_,z,_⟩|⟨hj,z⟩
  .cases z
  .obtain ⟨u,a,b⟩:=h.ro j f z;exact⟨u,by rw[je (dh hj)];exact a,Dn.fits F f u b⟩
def ST.write{i:Nat}{d d':D}{o:HO}(h:ST K H₀ S w σ H ρ G)(e:ρ[i]?=aa (Sv.ow d))(q:xU K (SO S w ρ) (upd H (w i) o) d' (w i))(hr:∀xs,d'≠.rws xs:=by intro _ z;cases z):ST K H₀ S w σ (upd H (w i) o) (ρ.set i (.ow d')) G:=by
 obtain⟨a0,b0,c0⟩:=h.own i d e;have so:SO S w (ρ.set i (.ow d'))=SO S w ρ:=by
  funext a
  refine propext ⟨λ⟨s,n⟩=>⟨s,λj f hf=>?_⟩,λ⟨s,n⟩=>⟨s,λj f hf=>?_⟩⟩
  .by_cases hj:j=i
   .subst hj;exact n j d' (by rw[ku (cg.mp e).1])
   .exact n j f (by rw[je (dh hj)];exact hf)
  .by_cases hj:j=i
   .subst hj;exact n j d e
   .exact n j f (by rw[je (dh hj)] at hf;exact hf)
 have nS:¬ SO S w ρ (w i):=λ⟨_,n⟩=>n i d e rfl;have F:Fits K (SO S w ρ) (SO S w ρ) H (upd H (w i) o):=.upd c0.wr nS;refine⟨h.fc,λb u hb=>?_,λj f hf=>?_,λj k d1 e1 h1 h2 z=>?_,λj f hf=>?_,λg hg=>by rw[so];exact Dn.fits F _ _ (h.gh g hg),λj xs hx=>?_⟩
 rotate_right
 .rcases get_set hx with⟨_,z,_⟩|⟨hj,z⟩
  .exact Zw (Sv.ow.inj z).symm (hr xs)
  .exact h.rwN z λob hob=>by rw[aW λy=>hj (h.inj _ _ _ _ z e y)];exact hob
 .rw [aW (bK hb b0)];exact h.sm b u hb
 .rw [so];rcases get_set hf with⟨hj,z,_⟩|⟨hj,z⟩
  .cases z;subst hj;exact⟨a0,b0,q⟩
  .obtain ⟨a,b,c⟩:=h.own j f z;exact⟨a,b,c.fits F λob hob=>by rw[aW λy=>hj (h.inj _ _ _ _ z e y)];exact hob⟩
 .have g1:∃d2,ρ[j]?=aa (Sv.ow d2):=by
   rcases get_set h1 with⟨hj,_,_⟩|⟨_,z⟩
   .subst hj;exact⟨d,e⟩
   .exact ⟨_,z⟩
  have g2:∃d2,ρ[k]?=aa (Sv.ow d2):=by
   rcases get_set h2 with⟨hj,_,_⟩|⟨_,z⟩
   .subst hj;exact⟨d,e⟩
   .exact ⟨_,z⟩
  obtain⟨_,g1⟩:=g1;obtain⟨_,g2⟩:=g2;exact h.inj j k _ _ g1 g2 z
 .rw [so];rcases get_set hf with⟨_,z,_⟩|⟨hj,z⟩
  .cases z
  .obtain ⟨u,a,b⟩:=h.ro j f z;exact⟨u,a,Dn.fits F f u b⟩
def ST.ghost(h:ST K H₀ S w σ H ρ G)(hg:∀g∈G',Dn K (SO S w ρ) H g.1 g.2):ST K H₀ S w σ H ρ G':=⟨h.fc,h.sm,h.own,h.inj,h.ro,hg,h.rw⟩
end
open PySem.Spec PyProof.Rows
abbrev WE:=dC->(D->Prop)->Prop
abbrev WT:=dC->(Bool->Prop)->Prop
abbrev WA:=dC->(List D->Prop)->Prop
def lift(K:ao)(t:WE):TE:=λσ H Q=>∃(S:ag->Prop) (ρ:dC) (Q3:D->Prop),(∀a,H a=ab->S a)/\Sl K S H ρ σ/\t ρ Q3 /\∀v H' d,Same H H'->Dn K S H' d v->Q3 d->Q v H'
def liftT(K:ao)(t:WT):TT:=λσ H Q=>∃(S:ag->Prop) (ρ:dC) (Q3:Bool->Prop),(∀a,H a=ab->S a)/\Sl K S H ρ σ/\t ρ Q3 /\∀b H',Same H H'->Q3 b->Q b H'
def US(K:ao)(t:WA):TA:=λσ H Q=>∃(S:ag->Prop) (ρ:dC) (Q3:List D->Prop),(∀a,H a=ab->S a)/\Sl K S H ρ σ/\t ρ Q3 /\∀vs H' ds,Same H H'->aS K S H' ds vs->Q3 ds->Q vs H'
def UT(K:ao)(t:WE):TE:=λσ H Q=>∃(S:ag->Prop) (ρ:dC) (Q3:D->Prop),(∀a,H a=ab->S a)/\Sl K S H ρ σ/\t ρ Q3 /\
 ∀p xs H' ds,H p=ab->H' p=aa (.lst xs)->Same H H'->aS K (λa=>S a/\a≠p) H' ds xs->Q3 (.lst ds)->Q (.ref p) H'
def dE(X:Cx)(e:ar)(t:WE):Prop:=PE X e (lift X.K t)
def JA(X:Cx)(e:ar)(t:WE):Prop:=PE X e (UT X.K t)
def yP(X:Cx)(e:ar)(t:WT):Prop:=PT X e (liftT X.K t)
def zC(X:Cx)(es:List ar)(t:WA):Prop:=PA X es (US X.K t)
section
variable{X:Cx}
def imp(h:PE X e t)(f:∀σ H Q,t' σ H Q->t σ H Q):PE X e t':=λpins s σ H Q I q=>h pins s σ H Q I (f σ H Q q)
def UU(h:PT X e t)(f:∀σ H Q,t' σ H Q->t σ H Q):PT X e t':=λpins s σ H Q I q=>h pins s σ H Q I (f σ H Q q)
def UW(h:PA X e t)(f:∀σ H Q,t' σ H Q->t σ H Q):PA X e t':=λpos pins s σ H Q I q=>h pos pins s σ H Q I (f σ H Q q)
def bQ{H H':Hp}{S:ag->Prop}(fc:∀a,H a=ab->S a)(s:Same H H'):∀a,H' a=ab->S a:=λa e=>fc a (s.free e)
theorem JA.pe(h:JA X e t):dE X e t:=imp h λσ H Q Po=>by obtain⟨S,ρ,Q3,fc,sl,ht,k⟩:=Po;exact⟨S,ρ,Q3,fc,sl,ht,λp xs H' ds hp hp' s dn q=>k _ H' _ s (by simp only[Dn];exact⟨p,xs,rfl,hp',fc p hp,aS.fits (.mono λ_ z=>z.1) ds xs dn⟩) q⟩
noncomputable def sg(i:Nat):WE:=λρ Q=>match ρ[i]? with
 |some (aa d)=>Q d
 |_=>False
def wC(d:D):WE:=λ_ Q=>Q d
def UX{K:ao}{i:Nat}{σ:L2.St}{H:Hp}{Q:VK}(h:lift K (sg i) σ H Q):IH i σ H Q:=by
 obtain⟨S,ρ,Q3,fc,sl,ht,k⟩:=h;unfold sg at ht;split at ht
 .rename_i d e;obtain⟨v,e1,q⟩:=sl i d e;exact⟨v,e1,k v H d (Same.refl H) q ht⟩
 .exact ht.elim
def x3(i:Nat)(hN:X.N[i]?=aa x:=by rfl)(hv:y6 X.env.scope x:=by walk_at "1")(hd:Zu x:=by decide)
  (hcd:Zt x:=by decide):dE X (.Name x pos) (sg i):=imp (lN hN hv hd hcd) λ_ _ _=>UX
def CN{K:ao}{d:D}{v:V}{σ:L2.St}{H:Hp}{Q:VK}(hd:∀S H,Dn K S H d v)(h:lift K (wC d) σ H Q):tC v σ H Q:=by obtain⟨S,ρ,Q3,fc,sl,ht,k⟩:=h;exact k v H d (Same.refl H) (hd S H) ht
def i3{j pos}:dE X (.Constant (.int i) j pos) (wC (.int i)):=imp aC6 λ_ _ _=>CN (λ_ _=>by simp only[Dn])
def b3{j pos}:dE X (.Constant (.bool b) j pos) (wC (.bl b)):=imp Vz λ_ _ _=>CN (λ_ _=>by simp only[Dn])
def n3{j pos}:dE X (.Constant .none j pos) (wC .non):=imp aC7 λ_ _ _=>CN (λ_ _=>by simp only[Dn])
def s3{j pos}:dE X (.Constant (.str x) j pos) (wC (.str x)):=imp aC8 λ_ _ _=>CN (λ_ _=>by simp only[Dn])
abbrev F2:=D->D->(D->Prop)->Prop
def iA(f:F2)(ta tb:WE):WE:=λρ Q=>ta ρ λx=>tb ρ λy=>f x y Q
def O3(K:ao)(r:R2)(f:F2):Prop:=∀(S:ag->Prop) (H:Hp) (x y:V) (dx dy:D) (Q3:D->Prop) (Q:VK),(∀a,H a=ab->S a)->Dn K S H dx x->Dn K S H dy y->f dx dy Q3 ->
 (∀v H' d,Same H H'->Dn K S H' d v->Q3 d->Q v H')->r x y H Q
def rH{K:ao}{r:R2}{f:F2}{ta tb:WE}{σ:L2.St}{H:Hp}{Q:VK}(h3:O3 K r f)(h:lift K (iA f ta tb) σ H Q):p_ r (lift K ta) (lift K tb) σ H Q:=by obtain⟨S,ρ,Q3,fc,sl,ht,k⟩:=h;refine⟨S,ρ,_,fc,sl,ht,λv H1 d s1 d1 q1=>?_⟩;refine⟨S,ρ,_,bQ fc s1,Sl.fits (.same s1) sl,q1,λu H2 d2 s2 d2' q2=>?_⟩;exact h3 S H2 v u d d2 Q3 Q (bQ fc (s1.trans s2)) (Dn.fits (.same s2) _ _ d1) d2' q2 λv' H' d' s' dn' q'=>k v' H' d' ((s1.trans s2).trans s') dn' q'
theorem op3(ho:k9 X (binaryOp op) r)(h3:O3 X.K r f)(ha:dE X a ta)(hb:dE X b tb):dE X (.BinOp a op b pos) (iA f ta tb) :=
 imp (T9 ho ha hb) λ_ _ _=>rH h3
def CO(C:Int->Int->Prop)(g:Int->Int->D):F2
 |.int i,.int j,Q=>C i j/\Q (g i j)
 |_,_,_=>False
theorem CP{K:ao}{C:Int->Int->Prop}{g:Int->Int->Int}:O3 K (rI C λi j=>.int (g i j)) (CO C λi j=>.int (g i j)):=by
 intro S H x y dx dy Q3 Q fc hx hy hf k;cases dx<;>cases dy<;>try exact hf.elim
 simp only[Dn] at hx hy;exact⟨_,_,hx,hy,hf.1,k _ H _ (Same.refl H) (by simp only[Dn]) hf.2⟩
noncomputable def xV(g:Int->Int->D):F2
 |.int i,.int j,Q=>Q (g i j)
 |_,_,_=>False
def aAB{K:ao}{g:Int->Int->Int}:O3 K (XY λi j=>.int (g i j)) (xV λi j=>.int (g i j)):=by
 intro S H x y dx dy Q3 Q fc hx hy hf k;cases dx<;>cases dy<;>try exact hf.elim
 simp only[Dn] at hx hy;exact⟨_,_,hx,hy,k _ H _ (Same.refl H) (by simp only[Dn]) hf⟩
def Pn:F2:=xV λi j=>.int (i-j)
def Pm:F2:=CO (λ_ j=>0<j) λi j=>.int (i%j)
def Pl:F2:=CO Aj λi j=>.int (i/j)
def Pk:F2:=CO Ai λi j=>.int (i^j.toNat)
section
variable{a b:ar}{pos:bg}{ta tb:WE}
def Pj(ha:dE X a ta)(hb:dE X b tb):dE X (.BinOp a .Sub b pos) (iA Pn ta tb):=op3 Yz aAB ha hb
def Ph(ha:dE X a ta)(hb:dE X b tb):dE X (.BinOp a .Mod b pos) (iA Pm ta tb):=op3 Yy CP ha hb
def Pg(ha:dE X a ta)(hb:dE X b tb):dE X (.BinOp a .FloorDiv b pos) (iA Pl ta tb):=op3 ZT CP ha hb
def Pf(ha:dE X a ta)(hb:dE X b tb):dE X (.BinOp a .Pow b pos) (iA Pk ta tb):=op3 Yx CP ha hb
end
def Bq(K:ao):R2:=λx y H Q=>∃a b xs ys,x=.ref a/\y=.ref b/\fS K H a xs/\fS K H b ys/\xs.length+ys.length<=bc /\
 (xs=[]->Q (.ref b) H)/\(xs≠[]->ys=[]->Q (.ref a) H)/\(xs≠[]->ys≠[] ->∀p,H p=ab->Q (.ref p) (upd H p (.tup (xs++ys))))
theorem UY{prog:bf}{w:az}{A:bq}{E:Q0c}{s:ak}{t b:ag}{ws:Q0f}{Q:Q0c}(ht:gr s.heap t #[])(hb:gr s.heap b ws.toArray)
  (h1:Q (.ref b) s):ax (ay prog w) A (binaryOp .Add (.ref t) (.ref b)) Q E s:=by
 obtain⟨⟨cls,dd,data,sl⟩,ho,hc,n,hd⟩:=id ht;obtain⟨⟨cls2,dd2,data2,sl2⟩,ho2,hc2,n2,hd2⟩:=id hb;simp only at hc hd hc2 hd2;subst hc hd hc2 hd2;exact Ds ⟨_,ho,rfl⟩ ⟨_,ho2,rfl⟩ Dq Dl Eg Ek (El _ _)
   (tuple_addW0 t b #[] ws.toArray n n2 dd dd2 sl sl2 (by simp)) ⟨ho,ho2,h1⟩
theorem UZ:k9 X (binaryOp .Add) (Bq X.K):=by
 intro pins s σ H x y v u Q I rx ry h;obtain⟨a,b,xs,ys,rfl,rfl,ha,hb,hz,q0,q1,q2⟩:=h;by_cases hx:xs=[]
 .cases rx;cases ry;subst hx;obtain⟨its,r1,p1,_⟩:=I.tuple ha;obtain⟨its2,r2,p2,_⟩:=I.tuple hb;cases r1;exact UY p1 p2 ⟨.ref b,H,I,rfl,q0 rfl⟩
 .exact Z3 pins s σ H _ _ v u Q I rx ry ⟨a,b,xs,ys,rfl,rfl,ha,hb,hx,hz,q1 hx,q2 hx⟩
noncomputable def vy:F2
 |.int i,.int j,Q=>Q (.int (i+j))
 |.lst a,.lst b,Q=>a.length+b.length<=bc/\Q (.lst (a++b))
 |.tup a,.tup b,Q=>a.length+b.length<=bc/\Q (.tup (a++b))
 |.str a,.str b,Q=>a.length+b.length<=bc/\Q (.str (a++b))
 |_,_,_=>False
def Af(K:ao):R2:=λx y H Q=>(XY λi j=>.int (i+j)) x y H Q\/(Ap x y H Q\/(Bq K x y H Q \/∃i j,x=.str i/\y=.str j/\i.length+j.length<=bc/\Q (.str (i++j)) H))
theorem X_{K:ao}:O3 K (Af K) vy:=by
 intro S H x y dx dy Q3 Q fc hx hy hf k
 cases dx with
 |int i =>
  cases dy with
  |int j=>simp only[Dn] at hx hy;exact .inl ⟨_,_,hx,hy,k _ H _ (Same.refl H) (by simp only[Dn]) hf⟩
  |_=>exact hf.elim
 |str i =>
  cases dy with
  |str j=>simp only[Dn] at hx hy;exact .inr (.inr (.inr ⟨_,_,hx,hy,hf.1,k _ H _ (Same.refl H) (by simp only[Dn]) hf.2⟩))
  |_=>exact hf.elim
 |lst ds =>
  cases dy with
  |lst es =>
   simp only[Dn] at hx hy;obtain⟨a,xs,rfl,ha,sa,da⟩:=hx;obtain⟨b,ys,rfl,hb,sb,db⟩:=hy;refine .inr (.inl ⟨a,b,xs,ys,rfl,rfl,ha,hb,by rw[<- da.len,<- db.len];exact hf.1,λp hp=>k _ _ _ (aO hp) ?_ hf.2⟩);simp only[Dn];exact⟨p,_,rfl,aP,fc p hp,aS.fits (.same (aO hp)) _ _ (da.append db)⟩
  |_=>exact hf.elim
 |tup ds =>
  cases dy with
  |tup es =>
   simp only[Dn] at hx hy;obtain⟨a,xs,rfl,ha,da⟩:=hx;obtain⟨b,ys,rfl,hb,db⟩:=hy;refine .inr (.inr (.inl ⟨a,b,xs,ys,rfl,rfl,fS.of ha,fS.of hb,by rw[<- da.len,<- db.len];exact hf.1,λe=>?_,λ_ e=>?_,λ_ _ p hp=>?_⟩))
   .subst e;have e2:ds=[]:=nq.mp da.len;subst e2;exact k _ H _ (Same.refl H) (by simp only[Dn];exact⟨b,ys,rfl,hb,db⟩) hf.2
   .subst e;have e2:es=[]:=nq.mp db.len;subst e2;have q:=hf.2;rw[jh] at q;exact k _ H _ (Same.refl H) (by simp only[Dn];exact⟨a,xs,rfl,ha,da⟩) q
   .refine k _ _ _ (aO hp) ?_ hf.2;simp only[Dn];exact⟨p,_,rfl,aP,aS.fits (.same (aO hp)) _ _ (da.append db)⟩
  |_=>exact hf.elim
 |_=>cases dy<;>exact hf.elim
def aAC:k9 X (binaryOp .Add) (Af X.K):=k9.or Y_ (k9.or UH (k9.or UZ IP))
theorem Pe(ha:dE X a ta)(hb:dE X b tb):dE X (.BinOp a .Add b pos) (iA vy ta tb):=op3 aAC X_ ha hb
noncomputable def Ae:F2
 |.lst a,.lst b,Q=>a.length+b.length<=bc/\Q (.lst (a++b))
 |_,_,_=>False
def Vc{a b:ar}{pos:bg}{ta tb:WE}(ha:dE X a ta)(hb:dE X b tb):JA X (.BinOp a .Add b pos) (iA Ae ta tb):=imp (T9 UH ha hb) λσ H Q h=>by
 obtain⟨S,ρ,Q3,fc,sl,ht,k⟩:=h;refine⟨S,ρ,_,fc,sl,ht,λv H1 d s1 d1 q1=>?_⟩;refine⟨S,ρ,_,bQ fc s1,Sl.fits (.same s1) sl,q1,λu H2 d2 s2 d2' q2=>?_⟩;cases d<;>cases d2<;>try exact q2.elim
 simp only[Dn] at d1 d2';obtain⟨a,xs,rfl,ha,sa,da⟩:=d1;obtain⟨b,ys,rfl,hb,sb,db⟩:=d2';have da':=aS.fits (.same s2) _ _ da;refine⟨a,b,xs,ys,rfl,rfl,s2 _ _ ha,hb,by rw[<- da.len,<- db.len];exact q2.1,λp hp=>k p _ _ _ ((s1.trans s2).free hp) aP ((s1.trans s2).trans (aO hp)) ?_ q2.2⟩;exact aS.fits ((Fits.fresh hp).trans (.same (aO hp))) _ _ (da'.append db)
def Pd:WA:=λ_ Q=>Q []
def Vb(ta:WE)(t:WA):WA:=λρ Q=>ta ρ λd=>t ρ λds=>Q (d::ds)
def Pc:zC X [] Pd:=UW m9 λσ H Q Pb=>by obtain⟨S,ρ,Q3,fc,sl,ht,k⟩:=Pb;exact k [] H [] (Same.refl H) aS.nil ht
def Va{e:ar}{es:List ar}{te:WE}{t:WA}(ha:dE X e te)(hr:zC X es t)(hs:Zs X e es:=by rfl):zC X (e::es) (Vb te t) :=
 UW (iF ha hr hs) λσ H Q Oq=>by obtain⟨S,ρ,Q3,fc,sl,ht,k⟩:=Oq;refine⟨S,ρ,_,fc,sl,ht,λv H1 d s1 d1 q1=>?_⟩;refine⟨S,ρ,_,bQ fc s1,Sl.fits (.same s1) sl,q1,λus H2 ds s2 d2 q2=>?_⟩;exact k _ H2 _ (s1.trans s2) (aS.cons (Dn.fits (.same s2) _ _ d1) d2) q2
def Oo(t:WA):WE:=λρ Q=>t ρ λds=>ds.length<=bc/\Q (.tup ds)
def Om(t:WA):WE:=λρ Q=>t ρ λds=>ds.length<=bc/\Q (.lst ds)
def Ol{x1}(h:zC X es t):dE X (.Tuple es x1 pos) (Oo t):=imp (Yu h) λσ H Q Oj=>by obtain⟨S,ρ,Q3,fc,sl,ht,k⟩:=Oj;refine⟨S,ρ,_,fc,sl,ht,λvs H1 ds s1 d1 q1=>⟨by rw[<- d1.len];exact q1.1,λp hp=>k _ _ _ (s1.trans (aO hp)) ?_ q1.2⟩⟩;simp only[Dn];exact⟨p,_,rfl,aP,aS.fits (.same (aO hp)) _ _ d1⟩
def Oi(h:zC X es t):JA X (.List es pos) (Om t):=imp (Yt h) λσ H Q Oh=>by obtain⟨S,ρ,Q3,fc,sl,ht,k⟩:=Oh;refine⟨S,ρ,_,fc,sl,ht,λvs H1 ds s1 d1 q1=>⟨by rw[<- d1.len];exact q1.1,λp hp=>k p vs _ ds (s1.free hp) aP (s1.trans (aO hp)) ?_ q1.2⟩⟩;exact aS.fits ((Fits.fresh hp).trans (.same (aO hp))) _ _ d1
end
section
variable{X:Cx}
noncomputable def oS(t:WE):WT:=λρ Q=>t ρ λd=>match d with
 |.bl b=>Q b
 |_=>False
theorem O0{K:ao}{t:WE}{σ:L2.St}{H:Hp}{Q:Bool->Hp->Prop}(h:liftT K (oS t) σ H Q):MA (lift K t) σ H Q:=by
 obtain⟨S,ρ,Q3,fc,sl,ht,k⟩:=h;refine⟨S,ρ,_,fc,sl,ht,λv H1 d s1 d1 q1=>?_⟩
 cases d with
 |bl b=>simp only[Dn] at d1;exact⟨b,d1,k b H1 s1 q1⟩
 |_=>exact q1.elim
def JB(f:∀σ H Q,t' σ H Q->t σ H Q)(h:MA t' σ H Q):MA t σ H Q:=f σ H _ h
def se(ho:k9 X (compareOp op) r)(h3:O3 X.K r f)(ha:dE X a ta)(hb:dE X b tb)(hm:behindInMarks op b=af):dE X (.Compare a [op] [b] pos) (iA f ta tb) :=
 imp (ZV ho ha hb hm) λ_ _ _=>rH h3
def l5(ho:k9 X (compareOp op) r)(h3:O3 X.K r f)(ha:dE X a ta)(hb:dE X b tb)(hm:behindInMarks op b=af):yP X (.Compare a [op] [b] pos) (oS (iA f ta tb)) :=
 UU (ZW ho ha hb hm) λ_ _ _ h=>JB (λ_ _ _=>rH h3) (O0 h)
theorem CQ{K:ao}{g:Int->Int->Bool}:O3 K (XY λi j=>.bl (g i j)) (xV λi j=>.bl (g i j)):=by
 intro S H x y dx dy Q3 Q fc hx hy hf k;cases dx<;>cases dy<;>try exact hf.elim
 simp only[Dn] at hx hy;exact⟨_,_,hx,hy,k _ H _ (Same.refl H) (by simp only[Dn]) hf⟩
noncomputable def U0:D->D->Bool
 |.non,.non=>ae | .non,.int _=>ae | .int _,.non=>ae | .non,.bl _=>ae | .bl _,.non=>ae | .non,.str _=>ae | .str _,.non=>ae
 |.int _,.int _=>ae | .bl _,.bl _=>ae | .str _,.str _=>ae | .int _,.str _=>ae | .str _,.int _=>ae | .bl _,.str _=>ae | .str _,.bl _=>ae
 |_,_=>af
noncomputable def eqS:D->D->Bool
 |.non,.non=>ae
 |.int i,.int j=>Zv (i=j)
 |.bl i,.bl j=>Zv (i=j)
 |.str i,.str j=>Zv (i=j)
 |_,_=>af
def sd:F2:=λx y Q=>U0 x y=ae/\Q (.bl (eqS x y))
def vx:F2:=λx y Q=>U0 x y=ae/\Q (.bl (!eqS x y))
def ML{K:ao}{S:ag->Prop}{H:Hp}{x y:V}{dx dy:D}(hx:Dn K S H dx x)(hy:Dn K S H dy y)(h:U0 dx dy=ae):we x y=ae/\Zv (x=y)=eqS dx dy:=by
 cases dx<;>first
  | (exact Zw (show af=ae from h) bt)
  |skip
 all_goals (cases dy<;>first
  | (exact Zw (show af=ae from h) bt)
  | (simp only[Dn] at hx hy;subst hx;subst hy;exact⟨rfl,by first|exact CB|exact IL|exact CC|exact Zy (λh=>by cases h)|exact Zx rfl⟩))
def U1{K:ao}:O3 K ze sd:=by intro S H x y dx dy Q3 Q fc hx hy hf k;obtain⟨h1,h2⟩:=ML hx hy hf.1;exact⟨h1,k _ H _ (Same.refl H) (by simp only[Dn];rw[h2]) hf.2⟩
theorem Xz{K:ao}:O3 K uw vx:=by intro S H x y dx dy Q3 Q fc hx hy hf k;obtain⟨h1,h2⟩:=ML hx hy hf.1;exact⟨h1,k _ H _ (Same.refl H) (by simp only[Dn];rw[h2]) hf.2⟩
noncomputable def allI:List D->Bool
 |[]=>ae
 |.int _::r=>allI r
 |_::_=>af
noncomputable def zD(i:Int):List D->Bool
 |[]=>af
 |.int j::r=>j == i||zD i r
 |_::r=>zD i r
theorem AO:∀ns:Q0e,allI (ns.map D.int)=ae
 |[]=>rfl
 |n::ns=>by rw[bp];exact AO ns
theorem AQ(i:Int):∀ns:Q0e,zD i (ns.map D.int)=ns.contains i
 |[]=>rfl
 |n::ns=>by rw[bp,zD,AQ i ns,a2J];congr 1;exact Bool.beq_comm
theorem CS:∀{ds:List D},allI ds=ae ->∃ns:Q0e,ds=ns.map D.int
 |[],_=>⟨[],rfl⟩
 |.int n::r,h=>by obtain⟨ns,e⟩:=CS (ds:=r) h;exact⟨n::ns,by rw[e];rfl⟩
 |.non::r,h=>Zw (show af=ae from h) bt
 |.bl _::r,h=>Zw (show af=ae from h) bt
 |.str _::r,h=>Zw (show af=ae from h) bt
 |.tup _::r,h=>Zw (show af=ae from h) bt
 |.lst _::r,h=>Zw (show af=ae from h) bt
 |.jD _::r,h=>Zw (show af=ae from h) bt
 |.gA _ _::r,h=>Zw (show af=ae from h) bt
 |.dP _ _ _::r,h=>Zw (show af=ae from h) bt
def inF(neg:Bool):F2
 |.int i,.tup ds,Q=>allI ds=ae/\Q (.bl (if neg then !zD i ds else zD i ds))
 |.int i,.lst ds,Q=>allI ds=ae/\Q (.bl (if neg then !zD i ds else zD i ds))
 |_,_,_=>False
theorem xW(i:Int):∀ns:Q0e,inV (.int i) (ns.map V.int)=zD i (ns.map D.int)
 |[]=>rfl
 |n::ns=>by have e:=xW i ns;unfold inV at e ⊢;rw[bp,bp,ji,zD,e];rfl
theorem tL:∀ns:Q0e,(ns.map V.int).all rD=ae
 |[]=>rfl
 |n::ns=>by rw[bp,kz,tL ns];rfl
theorem Cr{K:ao}{neg:Bool}:O3 K (ux K neg) (inF neg):=by
 intro S H x y dx dy Q3 Q fc hx hy hf k
 cases dx with
 |int i =>
  simp only[Dn] at hx;subst hx
  cases dy with
  |tup ds =>
   simp only[Dn] at hy;obtain⟨a,xs,rfl,ha,da⟩:=hy;obtain⟨h1,h2⟩:=hf;obtain⟨ns,rfl⟩:=CS h1;have e:=aS.ints.mp da;subst e;refine⟨a,_,rfl,.inr (fS.of ha),rfl,tL ns,k _ H _ (Same.refl H) ?_ h2⟩;simp only[Dn];rw[xW]
  |lst ds =>
   simp only[Dn] at hy;obtain⟨a,xs,rfl,ha,_,da⟩:=hy;obtain⟨h1,h2⟩:=hf;obtain⟨ns,rfl⟩:=CS h1;have e:=aS.ints.mp da;subst e;refine⟨a,_,rfl,.inl (eE.of ha),rfl,tL ns,k _ H _ (Same.refl H) ?_ h2⟩;simp only[Dn];rw[xW]
  |_=>exact hf.elim
 |_=>cases dy<;>exact hf.elim
section
variable{a b:ar}{pos:bg}{ta tb:WE}
def ltF:F2:=xV λi j=>.bl (Zv (i<j))
def gtF:F2:=xV λi j=>.bl (Zv (i>j))
def geF:F2:=xV λi j=>.bl (Zv (i >= j))
def gt3(ha:dE X a ta)(hb:dE X b tb):dE X (.Compare a [.Gt] [b] pos) (iA gtF ta tb):=se Bt CQ ha hb (h8 _)
def Og(ha:dE X a ta)(hb:dE X b tb):dE X (.Compare a [.Eq] [b] pos) (iA sd ta tb):=se Bv U1 ha hb (h8 _)
def in3(ha:dE X a ta)(hb:dE X b tb)(hm:behindInMarks .In b=af:=by with_unfolding_all rfl):dE X (.Compare a [.In] [b] pos) (iA (inF af) ta tb):=se OR Cr ha hb hm
def Of(ha:dE X a ta)(hb:dE X b tb):yP X (.Compare a [.Lt] [b] pos) (oS (iA ltF ta tb)):=l5 Vi CQ ha hb (h8 _)
def Oe(ha:dE X a ta)(hb:dE X b tb):yP X (.Compare a [.Gt] [b] pos) (oS (iA gtF ta tb)):=l5 Bt CQ ha hb (h8 _)
def Od(ha:dE X a ta)(hb:dE X b tb):yP X (.Compare a [.GtE] [b] pos) (oS (iA geF ta tb)):=l5 Vh CQ ha hb (h8 _)
def U_(ha:dE X a ta)(hb:dE X b tb):yP X (.Compare a [.Eq] [b] pos) (oS (iA sd ta tb)):=l5 Bv U1 ha hb (h8 _)
def Uz(ha:dE X a ta)(hb:dE X b tb):yP X (.Compare a [.NotEq] [b] pos) (oS (iA vx ta tb)):=l5 Bu Xz ha hb (h8 _)
def Uy(ha:dE X a ta)(hb:dE X b tb)(hm:behindInMarks .NotIn b=af:=by with_unfolding_all rfl):yP X (.Compare a [.NotIn] [b] pos) (oS (iA (inF ae) ta tb)):=l5 CJ Cr ha hb hm
end
noncomputable def isD:D->Bool
 |.non=>ae
 |_=>af
def r_:F2:=λx y Q=>isD y=ae/\Q (.bl (isD x))
def U2{K:ao}:O3 K (λx y H Q=>y=.non/\Q (.bl (Zv (x=.non))) H) r_:=by
 intro S H x y dx dy Q3 Q fc hx hy hf k;obtain⟨h1,h2⟩:=hf;cases dy<;>try exact Zw (show af=ae from h1) bt
 simp only[Dn] at hy;refine⟨hy,k _ H _ (Same.refl H) ?_ h2⟩;cases dx<;>simp only[Dn] at hx ⊢
 all_goals first
  | (subst hx;simp[isD])
  | (obtain⟨a,xs,rfl,_⟩:=hx;simp[isD])
  | (obtain⟨a,_,xs,rfl,_⟩:=hx;simp[isD])
  | (obtain⟨a,rfl,_⟩:=hx;simp[isD])
def Ux(ha:dE X a ta)(hb:dE X b tb):yP X (.Compare a [.Is] [b] pos) (oS (iA r_ ta tb)):=l5 UA U2 ha hb (h8 _)
def Oc(ha:dE X a ta)(hb:dE X b tb):dE X (.Compare a [.Is] [b] pos) (iA r_ ta tb):=se UA U2 ha hb (h8 _)
def Uw(t:WT):WT:=λρ Q=>t ρ λb=>Q (!b)
def Uv(t u:WT):WT:=λρ Q=>t ρ λb=>if b=ae then u ρ Q else Q af
def Ob(t u:WT):WT:=λρ Q=>t ρ λb=>if b=ae then Q ae else u ρ Q
def Q5(X:Cx)(e:ar)(t:WT):Prop:=PW X e (liftT X.K t)
def vw(h:PW X e t)(f:∀σ H Q,t' σ H Q->t σ H Q):PW X e t':=λwh pins s σ H Q I q=>h wh pins s σ H Q I (f σ H Q q)
section
variable{a b:ar}{rest:List ar}{pos:bg}{ta tb:WT}
def Q5.pt(h:Q5 X e t):yP X e t:=PW.pt h
def Uu(ha:yP X a ta):yP X (.UnaryOp .Not a pos) (Uw ta):=UU (Zf ha) λσ H Q Oa=>by obtain⟨S,ρ,Q3,fc,sl,ht,k⟩:=Oa;exact⟨S,ρ,_,fc,sl,ht,λb H1 s1 q1=>k (!b) H1 s1 q1⟩
def N_(ha:yP X a ta):Q5 X (.BoolOp .And [a] pos) ta:=ZP ha
def or1(ha:yP X a ta):Q5 X (.BoolOp .Or [a] pos) ta:=Zh ha
theorem Ut(ha:yP X a ta)(hb:Q5 X (.BoolOp .And (b::rest) pos) tb):Q5 X (.BoolOp .And (a::b::rest) pos) (Uv ta tb):=vw (Zg ha hb) λσ H Q Nz=>by
 obtain⟨S,ρ,Q3,fc,sl,ht,k⟩:=Nz;refine⟨S,ρ,_,fc,sl,ht,λc H1 s1 q1=>?_⟩
 cases c with
 |true=>rw[Z_ rfl] at q1 ⊢;exact⟨S,ρ,Q3,bQ fc s1,Sl.fits (.same s1) sl,q1,λb' H2 s2 q2=>k b' H2 (s1.trans s2) q2⟩
 |false=>rw[Zz bt] at q1 ⊢;exact k af H1 s1 q1
theorem Ny(ha:yP X a ta)(hb:Q5 X (.BoolOp .Or (b::rest) pos) tb):Q5 X (.BoolOp .Or (a::b::rest) pos) (Ob ta tb):=vw (Vy ha hb) λσ H Q Nw=>by
 obtain⟨S,ρ,Q3,fc,sl,ht,k⟩:=Nw;refine⟨S,ρ,_,fc,sl,ht,λc H1 s1 q1=>?_⟩
 cases c with
 |false=>rw[Zz bt] at q1 ⊢;exact⟨S,ρ,Q3,bQ fc s1,Sl.fits (.same s1) sl,q1,λb' H2 s2 q2=>k b' H2 (s1.trans s2) q2⟩
 |true=>rw[Z_ rfl] at q1 ⊢;exact k ae H1 s1 q1
end
noncomputable def Nv(ta tb:WE):WE:=λρ Q=>ta ρ λx=>match x with
 |.bl ae=>tb ρ Q
 |.bl af=>Q (.bl af)
 |_=>False
noncomputable def Gy(ta tb:WE):WE:=λρ Q=>ta ρ λx=>match x with
 |.bl ae=>Q (.bl ae)
 |.bl af=>tb ρ Q
 |_=>False
noncomputable def Nu(ta:WE):WE:=λρ Q=>ta ρ λx=>match x with
 |.bl b=>Q (.bl (!b))
 |_=>False
def Gz(t:WT)(ta tb:WE):WE:=λρ Q=>t ρ λb=>if b=ae then ta ρ Q else tb ρ Q
section
variable{a b c:ar}{rest:List ar}{pos:bg}{ta tb:WE}{tc:WT}
def Nt{op}(ha:dE X a ta):dE X (.BoolOp op [a] pos) ta:=Ze ha
theorem Nr(ha:dE X a ta)(hb:dE X (.BoolOp .And (b::rest) pos) tb):dE X (.BoolOp .And (a::b::rest) pos) (Nv ta tb):=imp (Zd ha hb) λσ H Q Nq=>by
 obtain⟨S,ρ,Q3,fc,sl,ht,k⟩:=Nq;refine⟨S,ρ,_,fc,sl,ht,λv H1 d s1 d1 q1=>?_⟩
 cases d with
 |bl c =>
  simp only[Dn] at d1;refine⟨c,d1,?_⟩
  cases c with
  |true=>rw[Z_ rfl];exact⟨S,ρ,Q3,bQ fc s1,Sl.fits (.same s1) sl,q1,λv' H2 d' s2 d2 q2=>k v' H2 d' (s1.trans s2) d2 q2⟩
  |false=>rw[Zz bt];exact k _ H1 (.bl af) s1 (by simp only[Dn]) q1
 |_=>exact q1.elim
theorem or3(ha:dE X a ta)(hb:dE X (.BoolOp .Or (b::rest) pos) tb):dE X (.BoolOp .Or (a::b::rest) pos) (Gy ta tb):=imp (Vq ha hb) λσ H Q Np=>by
 obtain⟨S,ρ,Q3,fc,sl,ht,k⟩:=Np;refine⟨S,ρ,_,fc,sl,ht,λv H1 d s1 d1 q1=>?_⟩
 cases d with
 |bl c =>
  simp only[Dn] at d1;refine⟨c,d1,?_⟩
  cases c with
  |false=>rw[Zz bt];exact⟨S,ρ,Q3,bQ fc s1,Sl.fits (.same s1) sl,q1,λv' H2 d' s2 d2 q2=>k v' H2 d' (s1.trans s2) d2 q2⟩
  |true=>rw[Z_ rfl];exact k _ H1 (.bl ae) s1 (by simp only[Dn]) q1
 |_=>exact q1.elim
theorem Nn(ha:dE X a ta):dE X (.UnaryOp .Not a pos) (Nu ta):=imp (Zc ha) λσ H Q Pa=>by
 obtain⟨S,ρ,Q3,fc,sl,ht,k⟩:=Pa;refine⟨S,ρ,_,fc,sl,ht,λv H1 d s1 d1 q1=>?_⟩
 cases d with
 |bl c=>simp only[Dn] at d1;exact⟨c,d1,k _ H1 (.bl (!c)) s1 (by simp only[Dn]) q1⟩
 |_=>exact q1.elim
theorem if3(hc:yP X c tc)(ha:dE X a ta)(hb:dE X b tb):dE X (.IfExp c a b pos) (Gz tc ta tb):=imp (TZ hc ha hb) λσ H Q O_=>by
 obtain⟨S,ρ,Q3,fc,sl,ht,k⟩:=O_;refine⟨S,ρ,_,fc,sl,ht,λc H1 s1 q1=>?_⟩
 cases c with
 |true=>rw[Z_ rfl] at q1 ⊢;exact⟨S,ρ,Q3,bQ fc s1,Sl.fits (.same s1) sl,q1,λv' H2 d' s2 d2 q2=>k v' H2 d' (s1.trans s2) d2 q2⟩
 |false=>rw[Zz bt] at q1 ⊢;exact⟨S,ρ,Q3,bQ fc s1,Sl.fits (.same s1) sl,q1,λv' H2 d' s2 d2 q2=>k v' H2 d' (s1.trans s2) d2 q2⟩
noncomputable def Oz(ta:WE):WE:=λρ Q=>ta ρ λx=>match x with
 |.int i=>Q (.int (-i))
 |_=>False
theorem Oy(ha:dE X a ta):dE X (.UnaryOp .USub a pos) (Oz ta):=imp (Vj Yw ha) λσ H Q Ox=>by
 obtain⟨S,ρ,Q3,fc,sl,ht,k⟩:=Ox;refine⟨S,ρ,_,fc,sl,ht,λv H1 d s1 d1 q1=>?_⟩
 cases d with
 |int i=>simp only[Dn] at d1;exact⟨i,d1,k _ H1 (.int (-i)) s1 (by simp only[Dn]) q1⟩
 |_=>exact q1.elim
end
noncomputable def ixF:F2
 |.lst ds,.int i,Q=>(match uW ds i with|some d=>Q d|none=>False)
 |.tup ds,.int i,Q=>(match uW ds i with|some d=>Q d|none=>False)
 |.jD ns,.int i,Q=>(match uW ns i with|some n=>Q (.int n)|none=>False)
 |_,_,_=>False
theorem aS.at{K:ao}{S:ag->Prop}{H:Hp}{ds:List D}{xs:List V}{i:Int}{d:D}(h:aS K S H ds xs)(e:uW ds i=aa d):∃v,uW xs i=aa v/\Dn K S H d v:=by
 unfold uW at e ⊢;rw[<- h.len]
 cases q:ME ds.length i with
 |none=>rw[q] at e;cases e
 |some j =>
  rw[q] at e;obtain⟨v,e1,dn⟩:=h.get (i:=j) (d:=d) e;exact⟨v,e1,dn⟩
theorem aAG{α β:Type}(f:α->β)(xs:List α)(i:Int):uW (xs.map f) i=(uW xs i).map f:=by
 unfold uW;rw[au]
 cases ME xs.length i with
 |none=>rfl
 |some j=>simp
theorem Us{K:ao}:O3 K (λx y H Q=>Ar K x y H Q\/Aq K x y H Q) ixF:=by
 intro S H x y dx dy Q3 Q fc hx hy hf k
 cases dx with
 |lst ds =>
  cases dy with
  |int i =>
   simp only[Dn] at hx hy;obtain⟨a,xs,rfl,ha,sa,da⟩:=hx;have hf:(match uW ds i with|some d=>Q3 d|none=>False):=hf
   cases e:uW ds i with
   |none=>rw[e] at hf;exact hf.elim
   |some d =>
    rw[e] at hf;obtain⟨v,e1,dv⟩:=da.at e;exact .inl ⟨a,xs,i,v,rfl,hy,eE.of ha,e1,k v H d (Same.refl H) dv hf⟩
  |_=>exact hf.elim
 |tup ds =>
  cases dy with
  |int i =>
   simp only[Dn] at hx hy;obtain⟨a,xs,rfl,ha,da⟩:=hx;have hf:(match uW ds i with|some d=>Q3 d|none=>False):=hf
   cases e:uW ds i with
   |none=>rw[e] at hf;exact hf.elim
   |some d =>
    rw[e] at hf;obtain⟨v,e1,dv⟩:=da.at e;exact .inr ⟨a,xs,i,v,rfl,hy,(fS.of ha),e1,k v H d (Same.refl H) dv hf⟩
  |_=>exact hf.elim
 |jD ns =>
  cases dy with
  |int i =>
   simp only[Dn] at hx hy;obtain⟨a,rfl,ha⟩:=hx;have hf:(match uW ns i with|some n=>Q3 (.int n)|none=>False):=hf
   cases e:uW ns i with
   |none=>rw[e] at hf;exact hf.elim
   |some n =>
    rw[e] at hf;exact .inl ⟨a,_,i,.int n,rfl,hy,ha.sq,by rw[aAG,e];rfl,k _ H (.int n) (Same.refl H) (by simp only[Dn]) hf⟩
  |_=>exact hf.elim
 |_=>cases dy<;>exact hf.elim
def ix3(ha:dE X a ta)(hb:dE X b tb)(hs:CH b:=by intro _ _;rfl):dE X (.Subscript a b pos) (iA ixF ta tb) :=
 imp (Vd (Z4.or Yh) ha hb hs) λ_ _ _=>rH Us
abbrev F1:=List D->(D->Prop)->Prop
def U3(f:F1)(t:WA):WE:=λρ Q=>t ρ λds=>f ds Q
def C3(K:ao)(r:List V->Hp->VK->Prop)(f:F1):Prop:=∀(S:ag->Prop) (H:Hp) (xs:List V) (ds:List D) (Q3:D->Prop) (Q:VK),(∀a,H a=ab->S a)->aS K S H ds xs->f ds Q3 ->
 (∀v H' d,Same H H'->Dn K S H' d v->Q3 d->Q v H')->r xs H Q
def C3F(K:ao)(r:List V->Hp->VK->Prop)(f:F1):Prop:=∀(S:ag->Prop) (H:Hp) (xs:List V) (ds:List D) (Q3:D->Prop) (Q:VK),(∀a,H a=ab->S a)->aS K S H ds xs->f ds Q3 ->
 (∀p ys H' es,H p=ab->H' p=aa (.lst ys)->Same H H'->aS K (λa=>S a/\a≠p) H' es ys->Q3 (.lst es)->Q (.ref p) H')->r xs H Q
def MM{K:ao}{r:List V->Hp->VK->Prop}{f:F1}{t:WA}{σ:L2.St}{H:Hp}{Q:VK}(h3:C3 K r f)(h:lift K (U3 f t) σ H Q):rh r (US K t) σ H Q:=by obtain⟨S,ρ,Q3,fc,sl,ht,k⟩:=h;refine⟨S,ρ,_,fc,sl,ht,λvs H1 ds s1 d1 q1=>?_⟩;exact h3 S H1 vs ds Q3 Q (bQ fc s1) d1 q1 λv H' d s' d' q'=>k v H' d (s1.trans s') d' q'
def U4{K:ao}{r:List V->Hp->VK->Prop}{f:F1}{t:WA}{σ:L2.St}{H:Hp}{Q:VK}(h3:C3F K r f)(h:UT K (U3 f t) σ H Q):rh r (US K t) σ H Q:=by obtain⟨S,ρ,Q3,fc,sl,ht,k⟩:=h;refine⟨S,ρ,_,fc,sl,ht,λvs H1 ds s1 d1 q1=>?_⟩;exact h3 S H1 vs ds Q3 Q (bQ fc s1) d1 q1 λp ys H' es hp hp' s' d' q'=>k p ys H' es (s1.free hp) hp' (s1.trans s') d' q'
def tM{x:aj}{p pos:bg}{e:ar}{es:List ar}{t:WA}{id:String}{r:List V->Hp->VK->Prop}{f:F1}(hc:fM X (.builtin id) r)(h3:C3 X.K r f)(hv:bootBuiltins x=aa (.builtin id))(hg:Gl X x)(hm:X.mg x=ab)(ha:zC X (e::es) t)(hn:x ≠ "__name__":=by decide)(hdb:Zu x:=by decide)
  (he:Zs X e es:=by rfl) (hpl:Q0k X pos es:=by rfl):dE X (.Call (.Name x p) (e::es) [] pos) (U3 f t) :=
 imp (rB hc hg hm hv ha hn hdb he hpl) λ_ _ _=>MM h3
def vJ{x:aj}{p pos:bg}{e:ar}{es:List ar}{t:WA}{id:String}{r:List V->Hp->VK->Prop}{f:F1}(hc:fM X (.builtin id) r)(h3:C3F X.K r f)(hv:bootBuiltins x=aa (.builtin id))(hg:Gl X x)(hm:X.mg x=ab)(ha:zC X (e::es) t)(hn:x ≠ "__name__":=by decide)(hdb:Zu x:=by decide)
  (he:Zs X e es:=by rfl) (hpl:Q0k X pos es:=by rfl):JA X (.Call (.Name x p) (e::es) [] pos) (U3 f t) :=
 imp (rB hc hg hm hv ha hn hdb he hpl) λ_ _ _=>U4 h3
theorem MN(hc:fM X (.type T) r)(h3:C3 X.K r f)(hv:bootBuiltins x=aa (.type T))(hg:Gl X x)(hm:X.mg x=ab)(ha:zC X (e::es) t)(hn:x ≠ "__name__":=by decide)(hdb:Zu x:=by decide)
  (he:Zs X e es:=by rfl) (hpl:Q0k X pos es:=by rfl):dE X (.Call (.Name x p) (e::es) [] pos) (U3 f t) :=
 imp (AK hc hg hm hv ha hn hdb he hpl) λ_ _ _=>MM h3
noncomputable def CT:F1
 |[.lst ds],Q=>Q (.int ds.length)
 |[.tup ds],Q=>Q (.int ds.length)
 |[.jD ns],Q=>Q (.int ns.length)
 |_,_=>False
theorem Xy{K:ao}:C3 K (λxs H Q=>∃p ys,xs=[.ref p]/\(eE K H p ys\/fS K H p ys)/\Q (.int ys.length) H) CT:=by
 intro S H xs ds Q3 Q fc hd hf k
 match ds,hf with
 |[.lst es],hf =>
  obtain⟨v,r,rfl,h1,h2⟩:=hd.bD;simp only[aS] at h2;subst h2;simp only[Dn] at h1;obtain⟨a,ys,rfl,ha,sa,da⟩:=h1;exact⟨a,ys,rfl,.inl (eE.of ha),k _ H _ (Same.refl H) (by simp only[Dn];rw[da.len]) hf⟩
 |[.tup es],hf =>
  obtain⟨v,r,rfl,h1,h2⟩:=hd.bD;simp only[aS] at h2;subst h2;simp only[Dn] at h1;obtain⟨a,ys,rfl,ha,da⟩:=h1;exact⟨a,ys,rfl,.inr (fS.of ha),k _ H _ (Same.refl H) (by simp only[Dn];rw[da.len]) hf⟩
 |[.jD ns],hf =>
  obtain⟨v,r,rfl,h1,h2⟩:=hd.bD;simp only[aS] at h2;subst h2;simp only[Dn] at h1;obtain⟨a,rfl,ha⟩:=h1;exact⟨a,_,rfl,.inl ha.sq,k _ H _ (Same.refl H) (by simp only[Dn];rw[au]) hf⟩
theorem Ow(hm:X.mg "len"=ab)(ha:zC X [e] t)(hg:Gl X "len":=by rfl)
  (he:Zs X e []:=by rfl):dE X (.Call (.Name "len" p) [e] [] pos) (U3 CT t):=tM CK Xy PySem.boot_len hg hm ha (by decide) (by decide) he (by rfl)
noncomputable def JC:F1
 |[.lst ds],Q=>Q (.tup ds)
 |[.tup ds],Q=>Q (.tup ds)
 |_,_=>False
theorem U5{K:ao}:C3 K (λxs H Q=>∃p ys,xs=[.ref p]/\((eE K H p ys /\∀l,H l=ab->Q (.ref l) (upd H l (.tup ys)))\/(fS K H p ys/\Q (.ref p) H))) JC:=by
 intro S H xs ds Q3 Q fc hd hf k
 match ds,hf with
 |[.lst es],hf =>
  obtain⟨v,r,rfl,h1,h2⟩:=hd.bD;simp only[aS] at h2;subst h2;simp only[Dn] at h1;obtain⟨a,ys,rfl,ha,sa,da⟩:=h1;refine⟨a,ys,rfl,.inl ⟨eE.of ha,λl hl=>k _ _ _ (aO hl) ?_ hf⟩⟩;simp only[Dn];exact⟨l,ys,rfl,aP,aS.fits (.same (aO hl)) _ _ da⟩
 |[.tup es],hf =>
  obtain⟨v,r,rfl,h1,h2⟩:=hd.bD;simp only[aS] at h2;subst h2;have h1':=h1;simp only[Dn] at h1;obtain⟨a,ys,rfl,ha,da⟩:=h1;exact⟨a,ys,rfl,.inr ⟨(fS.of ha),k _ H _ (Same.refl H) h1' hf⟩⟩
def Xx(hm:X.mg "tuple"=ab)(hv:bootBuiltins "tuple"=aa (.type "tuple"))(ha:zC X [e] t)(hg:Gl X "tuple":=by rfl)
  (he:Zs X e []:=by rfl):dE X (.Call (.Name "tuple" p) [e] [] pos) (U3 JC t):=MN zA U5 hv hg hm ha (by decide) (by decide) he (by rfl)
abbrev Spec:=List D->(D->Prop)->Prop
def sp3(K:ao)(R:Spec):Sp:=λvs H Q _=>∃(S:ag->Prop) (ds:List D) (Q3:D->Prop),(∀a,H a=ab->S a)/\aS K S H ds vs/\R ds Q3 /\∀v H' d,Same H H'->Dn K S H' d v->Q3 d->Q v H'
theorem Ur(F:lQ X.prog X.w X.K X.mg X.base cK k f fd ps (sp3 X.K R))(hr:gL k X.A)(hm:X.mg x=aa (.ref f))(hk:keepIn X.K (.ref f)=ae)(hb:Binds X.K fd ps [])
  (ha:zC X (e::es) t) (hg:Gl X x:=by rfl) (hdb:Zu x:=by decide) (he:Zs X e es:=by rfl) (hpl:Q0k X pos es:=by rfl):
  dE X (.Call (.Name x p) (e::es) [] pos) (U3 R t):=imp (CD F hr hg hm hk hb .nil UL ha hdb he hpl) λσ H Q Ov=>by
 obtain⟨S,ρ,Q3,fc,sl,ht,k⟩:=Ov;refine⟨S,ρ,_,fc,sl,ht,λvs H1 ds s1 d1 q1=>?_⟩;show sp3 X.K R (vs++[]) H1 Q E0;rw[jh];exact⟨S,ds,Q3,bQ fc s1,d1,q1,λv H' d s' d' q'=>k v H' d (s1.trans s') d' q'⟩
end
structure DE where
 nx:bH->Prop
 rt:D->Prop
 bk:bH->Prop:=λ_=>False
 ct:bH->Prop:=λ_=>False
 ex:aj->Prop:=λ_=>False
abbrev WS:=DE->bH->Prop
structure Xw (X:Cx) (pins:Q0b) (H:Hp) (s:ak) (e:ag) (cls a0:ai) (P:List ag):Prop where
 mem:e∈P
 free:∀q∈P,H q=ab
 new:∀q∈P,X.s₀.heap.get? q=ab
 fld:∀q∈P,∃o vs,s.heap.get? q=aa o/\o.data=.fields vs
 pin:∀q∈P,∀p∈X.pn++pins,p.1≠q
 tr:(∃oe vs,s.heap.get? e=aa oe/\oe.cls=cls/\oe.data=.fields vs/\vs[1]?=aa .none/\vs[0]?=aa a0) \/
  (∃oe vs T oT ts,s.heap.get? e=aa oe/\(oe.cls=cls/\vs[0]?=aa a0)/\oe.data=.fields vs/\vs[1]?=aa (.ref T)/\T∈P/\T≠e/\s.heap.get? T=aa oT/\oT.data=.fields ts/\ts[3]?=aa .none)
def XC(X:Cx)(c:aj)(H:Hp):Prop:=∃C:ag,X.mg c=aa (.ref C) /\∀(pins:Q0b) (σ:L2.St) (s:ak) (e:ag) (a0:ai) (P:List ag),Inv X pins σ H s->Xw X pins H s e (.ref C) a0 P->X.xe (.ref e) s
structure Xv (K:ao) (xc:aj->Hp->Prop) (n:Nat) (H₀:Hp) (S:ag->Prop) (G:List (D×V)) (E:DE) (B:Ends):Prop where
 nx:∀w σ H ρ,σ.length=n->ST K H₀ S w σ H ρ G->E.nx ρ->B.nx σ H
 rt:∀v H d,Same H₀ H->Dn K S H d v->E.rt d->B.rt v H
 bk:∀w σ H ρ,σ.length=n->ST K H₀ S w σ H ρ G->E.bk ρ->B.bk σ H
 ct:∀w σ H ρ,σ.length=n->ST K H₀ S w σ H ρ G->E.ct ρ->B.ct σ H
 ex:∀c H,Same H₀ H->E.ex c->xc c H
def xX(K:ao)(xc:aj->Hp->Prop)(n:Nat)(t:WS):TS:=λB σ H=>∃(H₀:Hp) (S:ag->Prop) (w:Nat->ag) (ρ:bH) (G:List (D×V)) (E:DE),σ.length=n/\ST K H₀ S w σ H ρ G/\t E ρ/\Xv K xc n H₀ S G E B
def CU(X:Cx)(st:cz)(t:WS):Prop:=PS X st (xX X.K (XC X) X.N.length t)
def uY(X:Cx)(st:List cz)(t:WS):Prop:=y7 X st (xX X.K (XC X) X.N.length t)
section
variable{X:Cx}
def jQ{e:cz}{t t':TS}(h:PS X e t)(f:∀B σ H,t' B σ H->t B σ H):PS X e t':=λpins s σ H B I q=>h pins s σ H B I (f B σ H q)
def FT(h:y7 X e t)(f:∀B σ H,t' B σ H->t B σ H):y7 X e t':=λpins s σ H B I q=>h pins s σ H B I (f B σ H q)
def Uq:WS:=λE ρ=>E.nx ρ
def vv(t u:WS):WS:=λE ρ=>t {E with nx:=u E} ρ
def Ou:uY X [] Uq:=FT ZR λB σ H Ot=>by obtain⟨H₀,S,w,ρ,G,E,hl,st,ht,ok⟩:=Ot;exact ok.nx w σ H ρ hl st ht
def Nm{st:cz}{rest:List cz}{t u:WS}(h1:CU X st t)(h2:uY X rest u):uY X (st::rest) (vv t u):=FT (xJ h1 h2) λB σ H Nl=>by obtain⟨H₀,S,w,ρ,G,E,hl,sT,ht,ok⟩:=Nl;exact⟨H₀,S,w,ρ,G,{E with nx:=u E},hl,sT,ht,⟨λw' σ' H' ρ' hl' st' q=>⟨H₀,S,w',ρ',G,E,hl',st',q,ok⟩,ok.rt,ok.bk,ok.ct,ok.ex⟩⟩
def Uo{st:cz}{t:WS}(h1:CU X st t):uY X [st] t:=FT (LX h1) λ_ _ _ h=>h
def Nk(t:WE):WS:=λE ρ=>t (bC ρ) E.rt
def Nj(h:dE X e t):CU X (.Return (aa e) pos) (Nk t):=jQ (T2 h) λB σ H Ni=>by obtain⟨H₀,S,w,ρ,G,E,hl,st,ht,ok⟩:=Ni;exact⟨S,bC ρ,E.rt,st.MK,st.all,ht,λv H' d s' d' q'=>ok.rt v H' d (st.sm.trans s') d' q'⟩
def Nh(c:WT)(t u:WS):WS:=λE ρ=>c (bC ρ) λb=>if b=ae then t E ρ else u E ρ
theorem Ng(hc:yP X c tc)(ha:uY X a t)(hb:uY X b u):CU X (.If c a b pos) (Nh tc t u):=jQ (Vn hc ha hb) λB σ H Nf=>by
 obtain⟨H₀,S,w,ρ,G,E,hl,st,ht,ok⟩:=Nf;refine⟨S,bC ρ,_,st.MK,st.all,ht,λd H1 s1 q1=>?_⟩
 cases d with
 |true=>rw[Z_ rfl] at q1 ⊢;exact⟨H₀,S,w,ρ,G,E,hl,st.same s1,q1,ok⟩
 |false=>rw[Zz bt] at q1 ⊢;exact⟨H₀,S,w,ρ,G,E,hl,st.same s1,q1,ok⟩
def vt(i:Nat)(t:WE):WS:=λE ρ=>t (gR ρ) λd=>E.nx (ρ.set i (.ro d))
def Nd(i:Nat)(t:WE):WS:=λE ρ=>t (gR ρ) λd=>E.nx (ρ.set i (.ow d))
section
variable{i:Nat}{x:aj}{e:ar}{t:WE}{pos pos':bg}
def iX{N:Q0g}{i:Nat}{x:aj}(h:N[i]?=aa x):i<N.length:=(cg.mp h).1
def Nc(hN:X.N.Nodup)(he:dE X e t)(hi:X.N[i]?=aa x:=by rfl)(hx:Loc X.env.scope x:=by walk_at "0")(hs:Si X e x pos' pos:=by rfl)(hf:Zr X x:=by walk_at "0"):
  CU X (.Assign [.Name x pos'] e pos) (vt i t):=jQ (pU hN hi hx he hs hf) λB σ H Nb=>by
 obtain⟨H₀,S,w,ρ,G,E,hl,st,ht,ok⟩:=Nb;exact⟨_,gR ρ,_,st.IZ,st.rd,ht,λv H' d s' d' q'=>ok.nx w _ H' _ (by rw[gz];exact hl) ((st.same s').j5 (by rw[hl];exact iX hi) d') q'⟩
def Na(hN:X.N.Nodup)(he:JA X e t)(hi:X.N[i]?=aa x:=by rfl)(hx:Loc X.env.scope x:=by walk_at "0")(hs:Si X e x pos' pos:=by rfl)(hf:Zr X x:=by walk_at "0"):
  CU X (.Assign [.Name x pos'] e pos) (Nd i t):=jQ (pU hN hi hx he hs hf) λB σ H M_=>by
 obtain⟨H₀,S,w,ρ,G,E,hl,st,ht,ok⟩:=M_;exact⟨_,gR ρ,_,st.IZ,st.rd,ht,λp xs H' ds hp hp' s' d' q'=>ok.nx _ _ H' _ (by rw[gz];exact hl) (st.I0 (d:=.lst ds) (by rw[hl];exact iX hi) s' hp ⟨xs,hp',d'⟩) q'⟩
end
def nB(N:Q0g)(ds:List D):bH:=ds.map Sv.ro++fq (N.length-ds.length) Sv.no
def U6{K:ao}{H:Hp}{S:ag->Prop}{N:Q0g}{ds:List D}{vs:List V}(fc:∀a,H a=ab->S a)(h:aS K S H ds vs):ST K H S (λ_=>0) (L2.start N vs) H (nB N ds) []:=by
 have no:∀(i:Nat) (d:D),(nB N ds)[i]?≠aa (Sv.ow d):=λi d e=>by
  unfold nB at e;by_cases hi:i<ds.length
  .rw [jg (by simpa using hi),cf] at e
   cases q:ds[i]? with
   |none=>rw[q] at e;cases e
   |some a=>rw[q] at e;cases e
  .rw [jf (by simpa using hi),mh] at e;split at e<;>cases e
 have so:∀a,S a->SO S (λ_=>0) (nB N ds) a:=λa s=>⟨s,λi d e=>Zw e (no i d)⟩;refine⟨fc,Same.refl H,λi d e=>Zw e (no i d),λi j d e h1=>Zw h1 (no i d),λi d e=>?_,λg hg=>(nomatch hg),λi _ e=>Zw e (no i _)⟩;unfold nB at e;by_cases hi:i<ds.length
 .rw [jg (by simpa using hi),cf] at e
  cases q:ds[i]? with
  |none=>rw[q] at e;cases e
  |some a =>
   rw[q] at e;cases e;obtain⟨v,e1,dv⟩:=h.get q;refine⟨v,?_,Dn.fits (.mono so) _ _ dv⟩;unfold L2.start;have hv:i<vs.length:=(cg.mp e1).1;rw[jg (by simpa using hv),cf,e1];rfl
 .rw [jf (by simpa using hi),mh] at e;split at e<;>cases e
theorem Mz{P:bf}{w:az}{K:ao}{mg:Q0d}{base:a_}{x qual:aj}{st:cz}{f:ag}{fd:gq}{N ps:Q0g}{k:Nat}{R:Spec}(F:Fun K x qual st f fd)(S:i7 N ps (bV st))(len:∀ds Q,R ds Q->ds.length=ps.length)
  (hbody:∀(cdv:ai) (A:bq) (outer:List fz) (s:ak) (H:Hp) (E:XK),gL k (A.deeper (envOfC qual (bV st) s.heap.objs.size f cdv)) ->
   ∃t:WS,uY (xN cK P w K mg base N qual (bV st) f cdv A outer s H E).ZQ (gM st) t /\∀ds Q,R ds Q->t {nx:=λ_=>Q .non,rt:=Q} (nB N ds)):lQ P w K mg base cK (k+1) f fd ps (sp3 K R):=by
 refine F.ok S (λvs H Q E h=>?_) λcdv A outer s H vs Q E hr h=>?_
 .obtain ⟨S',ds,Q3,fc,dn,r,_⟩:=h;rw[<- dn.len];exact len ds Q3 r
 .obtain ⟨t,ht,hq⟩:=hbody cdv A outer s H E hr;obtain⟨S',ds,Q3,fc,dn,r,kk⟩:=h;refine⟨_,ht,H,S',λ_=>0,nB N ds,[],{nx:=λ_=>Q3 .non,rt:=Q3},?_,U6 fc dn,hq ds Q3 r,⟨λw' σ' H' ρ' _ st' q=>?_,λv H' d s' d' q=>kk v H' d s' d' q,λ_ _ _ _ _ _ q=>q,λ_ _ _ _ _ _ q=>q,λ_ _ _ q=>q.elim⟩⟩
  .have hl:=len ds Q3 r;have hl2:=dn.len;have hp:ps.length<=N.length:=by have:=congrArg oz S.pre;rw[jb] at this;omega
   unfold L2.start;show _=N.length;rw[ck,au,nk];omega
  .exact kk .non H' .non st'.sm (by simp only[Dn]) q
end
abbrev WX:=bH->(bH->D->Prop)->Prop
def U7(K:ao)(n:Nat)(t:WX):TE:=λσ H Q=>∃(H₀:Hp) (S:ag->Prop) (w:Nat->ag) (ρ:bH) (G:List (D×V)) (Q3:bH->D->Prop),σ.length=n/\ST K H₀ S w σ H ρ G/\t ρ Q3 /\
 ∀w' v H' ρ' d,ST K H₀ S w' σ H' ρ' G->Dn K (SO S w' ρ') H' d v->Q3 ρ' d->Q v H'
def FU(X:Cx)(e:ar)(t:WX):Prop:=PE X e (U7 X.K X.N.length t)
def Um(t:WE):WX:=λρ Q=>t (bC ρ) λd=>d.zJ=ae/\Q ρ d
def Xu(t:WE):WX:=λρ Q=>t (gR ρ) λd=>Q ρ d
section
variable{X:Cx}
def px3(h:dE X e t):FU X e (Um t):=imp h λσ H Q My=>by obtain⟨H₀,S,w,ρ,G,Q3,hl,st,ht,k⟩:=My;exact⟨S,bC ρ,_,st.MK,st.all,ht,λv H' d s' d' q'=>k w v H' ρ d (st.same s') (Dn.zJ q'.1 d') q'.2⟩
def Mx(h:dE X e t):FU X e (Xu t):=imp h λσ H Q Mw=>by obtain⟨H₀,S,w,ρ,G,Q3,hl,st,ht,k⟩:=Mw;exact⟨_,gR ρ,_,st.IZ,st.rd,ht,λv H' d s' d' q'=>k w v H' ρ d (st.same s') d' q'⟩
def Ul(i:Nat)(t:WX):WS:=λE ρ=>t ρ λρ' d=>E.nx (ρ'.set i (.ro d))
def Uk(hN:X.N.Nodup)(he:FU X e t)(hi:X.N[i]?=aa x:=by rfl)(hx:Loc X.env.scope x:=by walk_at "0")(hs:Si X e x pos' pos:=by rfl)(hf:Zr X x:=by walk_at "0"):
  CU X (.Assign [.Name x pos'] e pos) (Ul i t):=jQ (pU hN hi hx he hs hf) λB σ H Mv=>by
 obtain⟨H₀,S,w,ρ,G,E,hl,st,ht,ok⟩:=Mv;exact⟨H₀,S,w,ρ,G,_,hl,st,ht,λw' v H' ρ' d st' d' q'=>ok.nx w' _ H' _ (by rw[gz];exact hl) (st'.j5 (by rw[hl];exact iX hi) d') q'⟩
def Uj(t:WX):WS:=λE ρ=>t ρ λρ' _=>E.nx ρ'
theorem Ui(he:FU X e t)(hs:ft e ab pos.line X.env=pure af:=by rfl):CU X (.Expr e pos) (Uj t):=jQ (LY he hs) λB σ H Mu=>by obtain⟨H₀,S,w,ρ,G,E,hl,st,ht,ok⟩:=Mu;exact⟨H₀,S,w,ρ,G,_,hl,st,ht,λw' v H' ρ' d st' d' q'=>ok.nx w' _ H' _ hl st' q'⟩
noncomputable def nu(i:Nat)(f:List D->D->(List D->D->Prop)->Prop)(t:WX):WX:=λρ Q=>(match ρ[i]? with|some (.ow (.lst _))=>True|_=>False)/\t ρ λρ' d=>match ρ'[i]? with
 |some (.ow (.lst ds))=>f ds d λds' r=>Q (ρ'.set i (.ow (.lst ds'))) r
 |_=>False
def M3(K:ao)(r:V->List V->Hp->VK->Prop)(f:List D->D->(List D->D->Prop)->Prop):Prop:=∀(S:ag->Prop) (H:Hp) (p:ag) (xs:List V) (ds:List D) (y:V) (d:D) (Q3:List D->D->Prop) (Q:VK),
 H p=aa (.lst xs)->aS K S H ds xs->Dn K S H d y->f ds d Q3->(∀ys ds' v d',aS K S H ds' ys->Dn K S H d' v->Q3 ds' d'->Q v (upd H p (.lst ys)))->r (.ref p) [y] H Q
theorem aAH{K:ao}{n i:Nat}{r:V->List V->Hp->VK->Prop}{f:List D->D->(List D->D->Prop)->Prop}{t:WX}{σ:L2.St}{H:Hp}{Q:VK}(h3:M3 K r f)(h:U7 K n (nu i f t) σ H Q):
  qa K "list" r (IH i) (FK (U7 K n t) OP) σ H Q:=by
 obtain⟨H₀,S,w,ρ,G,Q3,hl,st,⟨h0,ht⟩,k⟩:=h;split at h0
 .rename_i ds e;obtain⟨a,b,c⟩:=st.own i _ e;obtain⟨xs,hp,dn⟩:=c;refine⟨_,a,.inl ⟨rfl,xs,eE.of hp⟩,H₀,S,w,ρ,G,_,hl,st,ht,λw' v H' ρ' d st' d' q'=>?_⟩;split at q'
  .rename_i ds' e';obtain⟨a',b',c'⟩:=st'.own i _ e';obtain⟨xs',hp',dn'⟩:=c';have ew:w i=w' i:=by have z:=a.symm.trans a';have z1:=c_ (c_ z);injection z1
   rw[ew];refine h3 _ H' (w' i) xs' ds' v d _ Q hp' dn' d' q' λys ds2 v2 d2 yQ dv2 q2=>?_;have nS:¬ SO S w' ρ' (w' i):=λ⟨_,z⟩=>z i _ e' rfl;have F:Fits K (SO S w' ρ') (SO S w' ρ') H' (upd H' (w' i) (.lst ys)):=.upd (.inl ⟨_,hp'⟩) nS;have so:∀a,SO S w' ρ' a->SO S w' (ρ'.set i (.ow (.lst ds2))) a:=SO.mono λj f hf=>by
    rcases get_set hf with⟨hj,_,_⟩|⟨_,z⟩
    .subst hj;exact⟨_,e'⟩
    .exact ⟨_,z⟩
   exact k w' v2 _ _ d2 (st'.write (d':=.lst ds2) e' ⟨ys,aP,aS.fits F _ _ yQ⟩) (Dn.fits (F.trans (.mono so)) _ _ dv2) q2
  .exact q'.elim
 .exact h0.elim
theorem m1{i:Nat}{x:aj}{id:String}{name:aj}{e:ar}{p apos cpos:bg}{r:V->List V->Hp->VK->Prop}{f:List D->D->(List D->D->Prop)->Prop}{t:WX}(slot:Slot "list" name id)(hty:typeOf (.builtin id)=pure (.type "method_descriptor"))(hm:MtR X id r)(h3:M3 X.K r f)(he:FU X e t)
  (hN:X.N[i]?=aa x:=by rfl) (hv:y6 X.env.scope x:=by walk_at "1") (hd:Zu x:=by decide) (hcd:Zt x:=by decide)
  (hbase:attributeBase (.Name x p) name X.env (eval (.Name x p) X.env)=eval (.Name x p) X.env:=by rfl)
  (hfew:Zq X cpos e:=by rfl)
  (hline:Q0j apos cpos:=by rfl) (hs:Zs X e []:=by rfl):
  FU X (.Call (.Attribute (.Name x p) name apos) [e] [] cpos) (nu i f t) :=
 imp (MG xu slot hty hm (lN hN hv hd hcd) (iF he m9 hs) hbase hfew hline hs (by rfl)) λ_ _ _ h=>aAH h3 h
def vq:List D->D->(List D->D->Prop)->Prop:=λds d Q=>ds.length<bc/\Q (ds++[d]) .non
theorem Xt{K:ao}:M3 K MH vq:=by intro S H p xs ds y d Q3 Q hp dn dy hf k;exact⟨p,xs,y,rfl,rfl,hp,by rw[<- dn.len];exact hf.1,k _ _ _ _ (dn.append (aS.one dy)) (by simp only[Dn]) hf.2⟩
noncomputable def wc:List D->D->(List D->D->Prop)->Prop
 |ds,.int k,Q=>(-(2^63)<=k/\k<2^63)/\(match ME ds.length k with|some j=>(match ds[j]? with|some d=>Q (ds.eraseIdx j) d|none=>False)|none=>False)
 |_,_,_=>False
theorem U8{K:ao}:M3 K xP wc:=by
 intro S H p xs ds y d Q3 Q hp dn dy hf k
 cases d with
 |int i =>
  simp only[Dn] at dy;subst dy;obtain⟨⟨h1,h2⟩,hf⟩:=hf;split at hf
  .rename_i j ej;split at hf
   .rename_i dd ed;obtain⟨v,ev,dv⟩:=dn.get ed;obtain⟨g1,_⟩:=CG ej;exact⟨p,xs,i,j,v,rfl,rfl,hp,h1,h2,by rw[<- dn.len];exact g1,ev,k _ _ _ _ (dn.erase j) dv hf⟩
   .exact hf.elim
  .exact hf.elim
 |_=>exact hf.elim
section
variable{i:Nat}{x:aj}{e:ar}{p apos cpos:bg}{t:WX}
def Mt(he:FU X e t)(hN:X.N[i]?=aa x:=by rfl)(hv:y6 X.env.scope x:=by walk_at "1")(hd:Zu x:=by decide)(hcd:Zt x:=by decide)
  (hbase:attributeBase (.Name x p) "append" X.env (eval (.Name x p) X.env)=eval (.Name x p) X.env:=by rfl)
  (hfew:Zq X cpos e:=by rfl)
  (hline:Q0j apos cpos:=by rfl) (hs:Zs X e []:=by rfl):
  FU X (.Call (.Attribute (.Name x p) "append" apos) [e] [] cpos) (nu i vq t):=m1 a1m PySem.F.type_list_append AM Xt he hN hv hd hcd hbase hfew hline hs
def Ms(he:FU X e t)(hN:X.N[i]?=aa x:=by rfl)(hv:y6 X.env.scope x:=by walk_at "1")(hd:Zu x:=by decide)(hcd:Zt x:=by decide)
  (hbase:attributeBase (.Name x p) "pop" X.env (eval (.Name x p) X.env)=eval (.Name x p) X.env:=by rfl)
  (hfew:Zq X cpos e:=by rfl)
  (hline:Q0j apos cpos:=by rfl) (hs:Zs X e []:=by rfl):
  FU X (.Call (.Attribute (.Name x p) "pop" apos) [e] [] cpos) (nu i wc t):=m1 Eh a1h FP U8 he hN hv hd hcd hbase hfew hline hs
end
def wb(ρ:bH)(i:Nat):Prop:=match ρ[i]? with
 |some (.ow (.lst _))=>True
 |_=>False
def Mr(i:Nat)(t:WX)(tk:WE):WS:=λE ρ=>t ρ λρ' d=>wb ρ' i/\tk (bC ρ') λk=>match ρ'[i]?,k with
 |some (.ow (.lst ds)),.int k=>(match ME ds.length k with|some j=>E.nx (ρ'.set i (.ow (.lst (ds.set j d))))|none=>False)
 |_,_=>False
theorem put3(he:FU X e t)(hk:dE X k tk)
  (hN:X.N[i]?=aa x:=by rfl) (hv:y6 X.env.scope x:=by walk_at "1") (hd:Zu x:=by decide) (hcd:Zt x:=by decide)
  (ha:∀v,assign (.Subscript (.Name x p) k pos') X.env v=(do
   let ov <- holding [v] (eval (.Name x p) X.env)
   let iv <- holding [v,ov] (eval k X.env)
   standAt pos'
   holding [v,ov,iv] (setItem ov iv v)
   release [v,ov,iv] []):=by intro _;rfl)
  (hs:swapsWithSole [.Subscript (.Name x p) k pos'] e pos.line X.env=pure af:=by rfl) (hw:swappedStores [.Subscript (.Name x p) k pos'] e X.env=pure ab:=by rfl)
  (h1:(cq [.Subscript (.Name x p) k pos'] X.env).map (·.2)=[assign (.Subscript (.Name x p) k pos') X.env]:=by rfl):
  CU X (.Assign [.Subscript (.Name x p) k pos'] e pos) (Mr i t tk):=jQ (T6 he (T5 (lN hN hv hd hcd) hk set_list ha) hs hw h1) λB σ H Mq=>by
 obtain⟨H₀,S,w,ρ,G,E,hl,st,ht,ok⟩:=Mq;refine⟨H₀,S,w,ρ,G,_,hl,st,ht,λw' v H' ρ' d st' d' q'=>?_⟩;obtain⟨q0,q'⟩:=q';unfold wb at q0;split at q0
 .rename_i ds0 e0;obtain⟨a0,_,_⟩:=st'.own i _ e0;refine⟨_,a0,S,bC ρ',_,st'.MK,st'.all,q',λkv H2 dk s2 XZ q2=>?_⟩;split at q2
  .rename_i ds k' e1;simp only[Dn] at XZ;split at q2
   .rename_i j ej;have st2:=st'.same s2;obtain⟨a,b,c⟩:=st2.own i _ e1;obtain⟨xs,hp,dn⟩:=c;have nS:¬ SO S w' ρ' (w' i):=λ⟨_,z⟩=>z i _ e1 rfl;have F:Fits X.K (SO S w' ρ') (SO S w' ρ') H2 (upd H2 (w' i) (.lst (xs.set j v))):=.upd (.inl ⟨_,hp⟩) nS;exact⟨w' i,xs,k',j,rfl,XZ,hp,by rw[<- dn.len];exact ej,ok.nx w' σ _ _ hl (st2.write (d':=.lst (ds.set j d)) e1 ⟨_,aP,aS.fits F _ _ (dn.set j (Dn.fits (.same s2) _ _ d'))⟩) q2⟩
   .exact q2.elim
  .exact q2.elim
 .exact q0.elim
end
structure Wlk (K:ao) (J:It) (ds:List D) (G:List (D×V)):Prop where
 go:∀(S:ag->Prop) (H:Hp),(∀a,H a=ab->S a)->(∀g∈G,Dn K S H g.1 g.2) ->∀(i:Nat) (d:D),ds[i]?=aa d->J.go i H /\∀x H',J.yld i H x H'->Same H H'/\Dn K S H' d x
 stop:∀(S:ag->Prop) (H:Hp),(∀g∈G,Dn K S H g.1 g.2) ->∀i:Nat,ds.length=i->J.stop i H
abbrev WI:=dC->(List D->Prop)->Prop
def U9(K:ao)(t:WI):TI:=λσ H R=>∃(S:ag->Prop) (ρ:dC) (Q3:List D->Prop),(∀a,H a=ab->S a)/\Sl K S H ρ σ/\t ρ Q3 /\
 ∀J H' ds G,Same H H'->(∀g∈G,Dn K S H' g.1 g.2)->Wlk K J ds G->Q3 ds->R J H'
def Q6(X:Cx)(tg iter:ar)(t:WI):Prop:=PI X tg iter (U9 X.K t)
section
variable{X:Cx}{tg:ar}
theorem JD(h:PI X tg e t)(f:∀σ H R,t' σ H R->t σ H R):PI X tg e t':=λpins s σ H R I q=>h pins s σ H R I (f σ H R q)
noncomputable def Uh(t:WE):WI:=λρ Q=>t ρ λd=>match d with
 |.lst ds=>Q ds
 |.tup ds=>Q ds
 |_=>False
theorem VA{K:ao}{a:ag}{ds:List D}:Wlk K (Itl K a) ds [(.lst ds,.ref a)] where
 go:=λS H fc hg i d e=>by have h:=hg _ (cm.mpr rfl);simp only[Dn] at h;obtain⟨b,xs,eb,hb,sb,dn⟩:=h;injection eb with eb;subst eb;obtain⟨v,ev,dv⟩:=dn.get e;refine⟨⟨xs,v,eE.of hb,ev⟩,λx H' y=>?_⟩;obtain⟨e1,y⟩:=y;subst e1;have ex:=y xs (eE.of hb);rw[ev] at ex;cases ex;exact⟨Same.refl _,dv⟩
 stop:=λS H hg i hi=>by have h:=hg _ (cm.mpr rfl);simp only[Dn] at h;obtain⟨b,xs,eb,hb,sb,dn⟩:=h;injection eb with eb;subst eb;exact⟨xs,eE.of hb,by rw[<- dn.len];exact nh hi⟩
theorem aAI{K:ao}{a:ag}{ds:List D}:Wlk K (Itt K a) ds [(.tup ds,.ref a)] where
 go:=λS H fc hg i d e=>by have h:=hg _ (cm.mpr rfl);simp only[Dn] at h;obtain⟨b,xs,eb,hb,dn⟩:=h;injection eb with eb;subst eb;obtain⟨v,ev,dv⟩:=dn.get e;refine⟨⟨xs,v,(fS.of hb),ev⟩,λx H' y=>?_⟩;obtain⟨e1,y⟩:=y;subst e1;have ex:=y xs (fS.of hb);rw[ev] at ex;cases ex;exact⟨Same.refl _,dv⟩
 stop:=λS H hg i hi=>by have h:=hg _ (cm.mpr rfl);simp only[Dn] at h;obtain⟨b,xs,eb,hb,dn⟩:=h;injection eb with eb;subst eb;exact⟨xs,(fS.of hb),by rw[<- dn.len];exact nh hi⟩
def Yo(hl:PE X l tl):PI X tg l (λσ H R=>tl σ H λx H1=>∃a,x=.ref a/\(((∃xs,eE X.K H1 a xs)/\R (Itl X.K a) H1)\/((∃xs,fS X.K H1 a xs)/\R (Itt X.K a) H1))):=by
 intro pins s σ H R I h;refine eK (hl pins s σ H _ I h) λv s1 Mp=>?_;obtain⟨x,H1,I1,r1,q1⟩:=Mp;obtain⟨a,e,q⟩:=q1;subst e;cases r1;rcases q with⟨⟨xs,hq⟩,q⟩|⟨⟨xs,hq⟩,q⟩
 .obtain ⟨its,rv,p,hz⟩:=I1.list hq;refine De p.isList ?_;refine⟨s1.heap.objs.size,[s1.heap.objs.size],_,_,H1,rfl,I1.kept (t':=s1.toks) λb o e=>di _ e,OH a _,⟨_,gc _ rfl,rfl,rfl⟩,λb hb=>?_,q⟩;have e:b=s1.heap.objs.size:=by simpa using hb
  subst e;exact I1.CA (bj _) (I1.hok.fresh (bj _))
 .obtain ⟨its,rv,p,hz⟩:=I1.tuple hq;refine xf (show s1.heap.IsTuple a its.toArray from p) ?_;refine⟨s1.heap.objs.size,[s1.heap.objs.size],_,_,H1,rfl,I1.kept (t':=s1.toks) λb o e=>di _ e,IJ a _,⟨_,gc _ rfl,rfl,rfl⟩,λb hb=>?_,q⟩;have e:b=s1.heap.objs.size:=by simpa using hb
  subst e;exact I1.CA (bj _) (I1.hok.fresh (bj _))
theorem Ug(h:dE X l t):Q6 X tg l (Uh t):=JD (Yo h) λσ H R Mo=>by
 obtain⟨S,ρ,Q3,fc,sl,ht,k⟩:=Mo;refine⟨S,ρ,_,fc,sl,ht,λv H1 d s1 d1 q1=>?_⟩
 cases d with
 |lst ds =>
  have d1':=d1;simp only[Dn] at d1;obtain⟨a,xs,rfl,ha,sa,da⟩:=d1;exact⟨a,rfl,.inl ⟨⟨xs,eE.of ha⟩,k _ H1 ds [(.lst ds,.ref a)] s1 (λg hg=>by cases cm.mp hg;exact d1') VA q1⟩⟩
 |tup ds =>
  have d1':=d1;simp only[Dn] at d1;obtain⟨a,xs,rfl,ha,da⟩:=d1;exact⟨a,rfl,.inr ⟨⟨xs,(fS.of ha)⟩,k _ H1 ds [(.tup ds,.ref a)] s1 (λg hg=>by cases cm.mp hg;exact d1') aAI q1⟩⟩
 |_=>exact q1.elim
def tN(lo:Int)(n:Nat):List Int:=(bh n).map λk:Nat=>lo+(k:Int)
def uH(lo:Int)(n:Nat):(tN lo n).length=n:=by simp[tN]
def VB{lo:Int}{n i:Nat}:(tN lo n)[i]?=if i<n then aa (lo+(i:Int)) else ab:=by
 unfold tN;rw[cf];by_cases h:i<n
 .rw [Z_ h,js h];rfl
 .rw [Zz h,gg (by simpa using h)];rfl
theorem AR{K:ao}{lo:Int}{n:Nat}:Wlk K (Itr lo n) ((tN lo n).map D.int) [] where
 go:=λS H fc hg i d e=>by
  rw[cf,VB] at e;by_cases h:i<n
  .rw [Z_ h] at e;cases e;refine⟨h,λx H' y=>?_⟩;obtain⟨e1,e2⟩:=y;subst e1;exact⟨Same.refl _,by simp only[Dn];exact e2⟩
  .rw [Zz h] at e;cases e
 stop:=λS H hg i hi=>by rw[au,uH] at hi;exact nh hi
noncomputable def Yn(t:WA):WI:=λρ Q=>t ρ λds=>match ds with
 |[.int j]=>(-(2^62)<=j/\j<2^62)/\Q ((tN 0 j.toNat).map D.int)
 |_=>False
noncomputable def aAJ(t:WA):WI:=λρ Q=>t ρ λds=>match ds with
 |[.int i,.int j]=>(-(2^62)<=i/\i<2^62 /\ -(2^62)<=j/\j<2^62)/\Q ((tN i (j-i).toNat).map D.int)
 |_=>False
def Ym(hm:X.mg "range"=ab)(ha:zC X [a] t)(hg:Gl X "range":=by rfl)(hs:aq [a] X.env=[(af,eval a X.env)]:=by rfl):Q6 X tg (.Call (.Name "range" p) [a] [] pos) (Yn t) :=
 JD (OJ hg hm ha hs) λσ H R Mn=>by
  obtain⟨S,ρ,Q3,fc,sl,ht,k⟩:=Mn;refine⟨S,ρ,_,fc,sl,ht,λvs H1 ds s1 d1 q1=>?_⟩;split at q1
  .rename_i j;obtain⟨v,r,rfl,h1,h2⟩:=d1.bD;simp only[aS] at h2;subst h2;simp only[Dn] at h1;subst h1;exact⟨j,rfl,q1.1.1,q1.1.2,k _ H1 _ [] s1 (λg hg=>nomatch hg) AR q1.2⟩
  .exact q1.elim
def aAK(hm:X.mg "range"=ab)(ha:zC X [a,b] t)(hg:Gl X "range":=by rfl)(hs:aq [a,b] X.env=[(af,eval a X.env),(af,eval b X.env)]:=by rfl)(hs2:aq [b] X.env=[(af,eval b X.env)]:=by rfl):Q6 X tg (.Call (.Name "range" p) [a,b] [] pos) (aAJ t) :=
 JD (OK hg hm ha hs hs2) λσ H R Me=>by
  obtain⟨S,ρ,Q3,fc,sl,ht,k⟩:=Me;refine⟨S,ρ,_,fc,sl,ht,λvs H1 ds s1 d1 q1=>?_⟩;split at q1
  .rename_i i j;obtain⟨v,r,rfl,h1,h2⟩:=d1.bD;obtain⟨v2,r2,rfl,h3,h4⟩:=h2.bD;simp only[aS] at h4;subst h4;simp only[Dn] at h1 h3;subst h1 h3;exact⟨i,j,rfl,q1.1,k _ H1 _ [] s1 (λg hg=>nomatch hg) AR q1.2⟩
  .exact q1.elim
abbrev WG:=D->bH->(bH->Prop)->Prop
def Ue(K:ao)(n:Nat)(g:WG):TG:=λv σ H Q=>∃(H₀:Hp) (S:ag->Prop) (w:Nat->ag) (ρ:bH) (G:List (D×V)) (d:D) (Q3:bH->Prop),σ.length=n/\ST K H₀ S w σ H ρ G/\Dn K (SO S w ρ) H d v/\g d ρ Q3 /\
 ∀σ' H' ρ',σ'.length=n->ST K H₀ S w σ' H' ρ' G->Q3 ρ'->Q σ' H'
def O1(X:Cx)(tg:ar)(g:WG):Prop:=PG X tg (Ue X.K X.N.length g)
def FV(h:PG X e t)(f:∀v σ H Q,t' v σ H Q->t v σ H Q):PG X e t':=λpins s σ H v u Q I r q=>h pins s σ H v u Q I r (f v σ H Q q)
def gN(i:Nat):WG:=λd ρ Q=>Q (ρ.set i (.ro d))
theorem Tz(hN:X.N.Nodup)(hi:X.N[i]?=aa x:=by rfl)(hx:Loc X.env.scope x:=by walk_at "0")(hf:Zr X x:=by walk_at "0"):O1 X (.Name x pos) (gN i) :=
 FV (n6 hN hi hx hf) λv σ H Q Md=>by obtain⟨H₀,S,w,ρ,G,d,Q3,hl,st,dn,hg,k⟩:=Md;exact k _ H _ (by rw[gz];exact hl) (st.j5 (by rw[hl];exact iX hi) dn) hg
noncomputable def g2(i j:Nat):WG:=λd ρ Q=>match d with
 |.tup [d1,d2]=>Q ((ρ.set i (.ro d1)).set j (.ro d2))
 |_=>False
def Tx(hc:X.calm=ae)(hN:X.N.Nodup)(hi:X.N[i]?=aa x:=by rfl)(hj:X.N[j]?=aa y:=by rfl)(hx:Loc X.env.scope x:=by walk_at "0")(hy:Loc X.env.scope y:=by walk_at "0")
  (hf:Zr X x:=by walk_at "0") (hf2:Zr X y:=by walk_at "0")
  (hn:Q0i X x y px py:=by rfl) (hst:Q0h X x y px py:=by rfl)
  (hs1:H0 X x y px py:=by rfl) (hs2:gV X y py:=by rfl):
  O1 X (.Tuple [.Name x px,.Name y py] k pos) (g2 i j) :=
 FV (II (n:=2) hc (kQ (n6 hN hi hx hf) (kQ (n6 hN hj hy hf2) B9 hs2) hs1) hn hst) λv σ H Q Mc=>by
  obtain⟨H₀,S,w,ρ,G,d,Q3,hl,st,dn,hg,k⟩:=Mc;unfold g2 at hg;split at hg
  .rename_i d1 d2;simp only[Dn] at dn;obtain⟨a,xs,rfl,ha,da⟩:=dn;obtain⟨v1,r1,rfl,h1,h2⟩:=da.bD;obtain⟨v2,r2,rfl,h3,h4⟩:=h2.bD;simp only[aS] at h4;subst h4;refine⟨a,_,rfl,(fS.of ha),rfl,v1,[v2],rfl,v2,[],rfl,rfl,?_⟩;have st1:=st.j5 (i:=i) (by rw[hl];exact iX hi) h1;have m:∀a,SO S w ρ a->SO S w (ρ.set i (.ro d1)) a:=SO.mono λn f hf=>by
    rcases get_set hf with⟨_,z,_⟩|⟨_,z⟩
    .cases z
    .exact ⟨_,z⟩
   have st2:=st1.j5 (i:=j) (d:=d2) (v:=v2) (by rw[gz,hl];exact iX hj) (Dn.fits (.mono m) _ _ h3);exact k _ H _ (by rw[gz,gz];exact hl) st2 hg
  .exact hg.elim
def Mb(ti:WI)(g:WG)(tb:WS):WS:=λE ρ=>ti (gR ρ) λds=>∃Inv:Nat->bH->Prop,Inv 0 ρ /\
 (∀(i:Nat) (d:D) (ρ':bH),ds[i]?=aa d->Inv i ρ'->g d ρ' λρ2=>tb {E with nx:=Inv (i+1),ct:=Inv (i+1),bk:=E.nx} ρ2) /\∀ρ',Inv ds.length ρ'->E.nx ρ'
theorem Ma(hc:X.calm=ae)(hp:qg (ay X.prog X.w) X.A X.env X.xe)(hi:Q6 X tg iter ti)(hg:O1 X tg g)(hb:uY X body tb)
  (hs:Zp X iter:=by intro _;rfl):CU X (.For tg iter body [] pos) (Mb ti g tb):=jQ (Za hp hc hi hg hb hs) λB σ H L_=>by
 obtain⟨H₀,S,w,ρ,G,E,hl,st,ht,ok⟩:=L_;refine⟨_,gR ρ,_,st.IZ,st.rd,ht,λJ H1 ds G1 s1 hg1 wk q1=>?_⟩;obtain⟨Iv,h0,turn,fin⟩:=q1;have stG:∀{w σ H ρ},ST X.K H₀ S w σ H ρ (G1++G)->ST X.K H₀ S w σ H ρ G:=λst=>st.ghost λg hg=>st.gh g (il _ hg);refine⟨λi m σ H=>m=ds.length-i/\i<=ds.length/\σ.length=X.N.length /\∃w ρ,ST X.K H₀ S w σ H ρ (G1++G)/\Iv i ρ,
  ⟨_,rfl,jq _,hl,w,ρ,(st.same s1).ghost λg hg=>(gu.mp hg).elim (λz=>hg1 g z) λz=>(st.same s1).gh g z,h0⟩,?_⟩
 rintro i m σ2 H2 ⟨rfl,hi2,hl2,w2,ρ2,st2,iv⟩;by_cases hlt:i<ds.length
 .refine .inr ?_;obtain⟨g1,g2⟩:=wk.go _ H2 st2.IZ (λg hg=>st2.gh g (kr _ hg)) i ds[i] (by simp[hlt]);refine⟨g1,λσ' H'=>σ'.length=X.N.length /\∃w ρ,ST X.K H₀ S w σ' H' ρ (G1++G)/\Iv (i+1) ρ,λσ' H' ⟨hl',w',ρ',st',iv'⟩=>⟨ds.length-(i+1),by omega,rfl,hlt,hl',w',ρ',st',iv'⟩,λx H' y=>?_⟩;obtain⟨s3,dx⟩:=g2 x H' y;refine⟨H₀,S,w2,ρ2,G1++G,ds[i],_,hl2,st2.same s3,dx,turn i ds[i] ρ2 (by simp[hlt]) iv,λσ4 H4 ρ4 hl4 st4 q4=>?_⟩;exact⟨H₀,S,w2,ρ4,G1++G,_,hl4,st4,q4,⟨λw' σ' H' ρ' hl' st' q=>⟨hl',w',ρ',st',q⟩,λv H' d s' d' q=>ok.rt v H' d s' d' q,λw' σ' H' ρ' hl' st' q=>ok.nx w' σ' H' ρ' hl' (stG st') q,λw' σ' H' ρ' hl' st' q=>⟨hl',w',ρ',st',q⟩,ok.ex⟩⟩
 .have e:i=ds.length:=by omega
  subst e;exact .inl ⟨wk.stop _ H2 (λg hg=>st2.gh g (kr _ hg)) _ rfl,ok.nx w2 σ2 H2 ρ2 hl2 (stG st2) (fin ρ2 iv)⟩
end
theorem JE(h:∀x∈scope.names,x.2=.free ->∃c,env.cells.lookup x.1=aa c):
  ∃cl,closureFor scope env=pure cl/\(∀x∈scope.names,x.2=.free->cl.lookup x.1=env.cells.lookup x.1) /\∀x c,cl.lookup x=aa c->env.cells.lookup x=aa c:=by
 have go:∀(l:List (aj×ij)) (acc:List (aj×ag)),(∀x∈l,x.2=.free ->∃c,env.cells.lookup x.1=aa c)->(∀x c,acc.lookup x=aa c->env.cells.lookup x=aa c) ->
   ∃cl,(forIn l acc λ(x:aj×ij) (cs:List (aj×ag))=>(match x with|(name,kind)=>if(kind == jo)=ae then(do let c <- cellOf env name;pure (ml ((name,c)::cs))) else pure (ml cs):Sem (ForInStep (List (aj×ag)))))=pure cl /\
    (∀x c,acc.lookup x=aa c->cl.lookup x=aa c)/\(∀x∈l,x.2=.free->cl.lookup x.1=env.cells.lookup x.1) /\∀x c,cl.lookup x=aa c->env.cells.lookup x=aa c:=by
  intro l
  induction l with
  |nil=>intro acc _ ha;exact⟨acc,by rw[yo],λ_ _ z=>z,λx hx=>(nomatch hx),ha⟩
  |cons y l ih =>
   intro acc hf ha;by_cases hk:y.2=.free
   .obtain ⟨c,hc⟩:=hf y cp hk;have ha':∀x c',((y.1,c)::acc).lookup x=aa c'->env.cells.lookup x=aa c':=λx c' hx=>by
     rw[qu] at hx;split at hx
     .rename_i e;cases hx;rw[eq_of_beq e];exact hc
     .exact ha x c' hx
    obtain⟨cl,e,h1,h2,h3⟩:=ih ((y.1,c)::acc) (λx hx=>hf x (dq _ hx)) ha';refine⟨cl,?_,λx c' hx=>?_,λx hx hfx=>?_,h3⟩
    .rw [qw,<- e];have e1:(y.2 == jo)=ae:=by rw[hk];rfl
     have e2:cellOf env y.1=pure c:=by unfold cellOf;rw[hc]
     obtain⟨yn,yk⟩:=y;dsimp only at e1 e2 ⊢;rw[Z_ e1,e2];rfl
    .by_cases hxy:x=y.1
     .subst hxy;have e3:((y.1,c)::acc).lookup y.1=aa c:=by simp
      have e4:=ha _ _ hx;rw[hc] at e4;cases e4;exact h1 _ _ e3
     .refine h1 x c' ?_;rw[qu];have:(x == y.1)=af:=by simpa using hxy
      rw[this];exact hx
    .rcases bz.mp hx with rfl|hx
     .rw [hc];exact h1 _ _ (by simp)
     .exact h2 x hx hfx
   .obtain ⟨cl,e,h1,h2,h3⟩:=ih acc (λx hx=>hf x (dq _ hx)) ha;refine⟨cl,?_,h1,λx hx hfx=>?_,h3⟩
    .rw [qw,<- e];have e1:¬ (y.2 == jo)=ae:=by simpa using hk
     obtain⟨yn,yk⟩:=y;dsimp only at e1 ⊢;rw[Zz e1];rfl
    .rcases bz.mp hx with rfl|hx
     .exact Zw hfx hk
     .exact h2 x hx hfx
 obtain⟨cl,e,_,h2,h3⟩:=go scope.names [] h (λx c z=>by simp at z);refine⟨cl,?_,h2,h3⟩;have e':=congrArg (λt=>t >>= λr=>(pure r:Sem (List (aj×ag)))) e;exact e'
theorem iB:∀(l:List (aj×ij)) (n:Nat) (own cl:List (aj×ag)),cellsFrom n l (own++cl)=cellsFrom n l own++cl
 |[],_,_,_=>rfl
 | (x,k)::r,n,own,cl=>by
  unfold cellsFrom;split
  .exact iB r (n+1) ((x,n)::own) cl
  .exact iB r n own cl
theorem jN:∀(l:List (aj×ij)) (n:Nat) (own:List (aj×ag)) (p:aj×ag),p∈cellsFrom n l own->p∈own\/(p.1,jw)∈l
 |[],_,_,_,h=>.inl h
 | (x,k)::r,n,own,p,h=>by
  unfold cellsFrom at h;split at h
  .rename_i hk;rcases jN r _ _ p h with h|h
   .rcases bz.1 h with rfl|h
    .exact .inr (by rw[<- eq_of_beq hk];exact cp)
    .exact .inl h
   .exact .inr (dq _ h)
  .rcases jN r _ _ p h with h|h
   .exact .inl h
   .exact .inr (dq _ h)
theorem j6:∀(l:List (aj×ij)) (n:Nat) (own:List (aj×ag)) (x:aj),((∃c,own.lookup x=aa c)\/(x,jw)∈l) ->∃c,(cellsFrom n l own).lookup x=aa c
 |[],_,_,_,h=>h.elim id λz=>(nomatch z)
 | (y,k)::r,n,own,x,h=>by
  unfold cellsFrom;split
  .refine j6 r _ _ x ?_;by_cases e:x=y
   .exact .inl ⟨n,by rw[e,qu,beq_self_eq_true]⟩
   .rcases h with⟨c,h⟩|h
    .exact .inl ⟨c,by rw[qu,beq_eq_false_iff_ne.mpr e];exact h⟩
    .rcases bz.mp h with z|z
     .exact Zw (a14 z).1 e
     .exact .inr z
  .rename_i hk;refine j6 r _ _ x (h.imp_right λz=>?_);rcases bz.mp z with z|z
   .rw [<- (a14 z).2] at hk;exact Zw rfl hk
   .exact z
theorem O2{M:Model}{A:bq}{E:Q0c}{s:ak}{sc:gk}{g:ag}{cl:List (aj×ag)}{q:aj}{f:Option ag}{code:ai}{env:fz}{bl:ag}{Q:fz->ak->Prop}
  (h:∀h4:a_,h4.Ns s.heap.objs.size (λ_=>ab)->(∀b o,s.heap.get? b=aa o->h4.get? b=aa o)->CellsOk h4 (s.heap.objs.size+1) (cellsFrom (s.heap.objs.size+1) sc.names []) ->
   Q (newEnv sc s.heap.objs.size g (cellsFrom (s.heap.objs.size+1) sc.names cl) q f code (aa env) bl) {s with heap:=h4}):
  ax M A (newFunctionEnv sc g cl [] q f code (aa env) bl) Q E s:=by
 unfold newFunctionEnv;refine av (wpAny_alloc (av (wpAny_layCells _ (λx k c=>by cases e:k == jw<;>simp[e]) _ _ _ _ ?_)));have hz:∀o:aw,(s.heap.push o).objs.size=s.heap.objs.size+1:=λo=>tw ..;have ok:=λo=>cellsFrom_ok sc.names (s.heap.push o) (s.heap.objs.size+1) [] ⟨λ_ _ z=>(nomatch z),.nil⟩ (by rw[hz];exact bj _);simp only[hz] at ok ⊢;rw[yo];exact av (bb (bb (h _ ((Heap.Ns.new s.heap _).keeps (a0B _ _)) (λb o e=>a0B _ _ b o (di _ e)) (ok _))))
def blk(X:Cx)(N:Q0g)(sc:gk)(cl:List (aj×ag))(C:ag)(pn:Q0b)(ex:List ag)(s₀:ak)(H₀:Hp):Cx :=
 {X with N:=N,s₀:=s₀,H₀:=H₀,env:=compEnvC sc cl C X.env,outer:=X.stack,stack:=X.stack,ex:=ex,fn:=λx=>sc.names.lookup x == aa jw,pn:=pn,xe:=λ_ _=>False}
def CV(nl:Nat)(fr:List Nat)(σ:L2.St):L2.St:=fq nl ab++fr.map λj=>(σ[j]?).join
structure FW (X:Cx) (ls fs:Q0g) (fr:List Nat) (sc:gk):Prop where
 kind:sc.kind=.function
 nd:(ls++fs).Nodup
 uniq:∀x∈sc.names,sc.names.lookup x.1=aa x.2
 free:∀x∈sc.names,x.2=.free->X.env.kindOf x.1=aa .cell\/X.env.kindOf x.1=aa .free
 slot:∀(k:Nat) (x:aj),fs[k]?=aa x ->∃j,fr[k]?=aa j/\X.N[j]?=aa x/\(x,jo)∈sc.names/\sc.names.lookup x=aa .free
 CT:fr.length=fs.length
section
variable{X:Cx}
theorem uI(t:aj->ij->ij)(x:aj):∀l:List (aj×ij),(l.map λp=>(p.1,t p.1 p.2)).lookup x=(l.lookup x).map (t x)
 |[]=>rfl
 | (n,k)::r=>by
  rw[bp,qu,qu];by_cases hx:(x == n)=ae
  .rw [hx,eq_of_beq hx];rfl
  .rw [a24] at hx;rw[hx];exact uI t x r
theorem xZ{sc:gk}{env:fz}{x:aj}{l:List (aj×ij)}:(l.map λ(n,k)=>if(k == jo&&env.scope.kind == .function&&env.kindOf n == aa .cell) then(n,jw) else(n,k)).lookup x =
  (l.lookup x).map λk=>if(k == jo&&env.scope.kind == .function&&env.kindOf x == aa .cell) then jw else k:=by
 rw[<- uI (λy k=>if(k == jo&&env.scope.kind == .function&&env.kindOf y == aa .cell) then jw else k) x l];refine congrArg (List.lookup x) (gf λp _=>?_);dsimp only;split<;>rfl
def ne_size{b c:ag}{h:a_}{o:aw}(e:h.get? b=aa o)(hc:c=h.objs.size):b≠c:=λz=>ib _ (by have q:=b_ e;rw[z,hc] at q;exact q)
def FX{b c:ag}{n:Nat}(h:b<n)(hc:n<=c):b≠c:=λz=>ib c (f_ (z▸h) hc)
theorem aAL{ls fs:Q0g}{fr:List Nat}{sc:gk}{cl:List (aj×ag)}{C:ag}{pins:Q0b}{ex:List ag}{σ:L2.St}{H:Hp}{s s4:ak}(B:FW X ls fs fr sc)(I:Inv X pins σ H s)
  (hcl:∀x∈sc.names,x.2=.free->cl.lookup x.1=X.env.cells.lookup x.1) (CW:∀x c,cl.lookup x=aa c->X.env.cells.lookup x=aa c\/(C<c/\s4.heap.IsCell c ab)) (Aa:∀x∈sc.names,x.2=.cell ->∃c,cl.lookup x.1=aa c/\C<c)
  (hinj:∀x y c,cl.lookup x=aa c->cl.lookup y=aa c->x=y) (hex:∀b∈ex,oG X pins H b/\b<s.heap.objs.size)
  (hC:C=s.heap.objs.size) {m:Q0d} (hn:s4.heap.Ns C m) (hk:∀b o,s.heap.get? b=aa o->s4.heap.get? b=aa o) (ho:s4.os=s.os) (hg:s4.gens=s.gens):
  Inv (blk X (ls++fs) sc cl C (X.pn++pins) ex s H) [] (CV ls.length fr σ) H s4:=by
 have ltC:∀{b:ag} {o:aw},s.heap.get? b=aa o->b≠C:=λe=>ne_size e hC;have aMH:∀x c,cl.lookup x=aa c->c≠C:=λx c e=>by
  rcases CW x c e with e|⟨e,_⟩
  .obtain ⟨v,o,ho,_⟩:=I.cell x c e;exact ltC ho
  .exact iz e
 have zm:∀x,(compEnvC sc cl C X.env).kindOf x=(sc.names.lookup x).map λk=>if(k == jo&&X.env.scope.kind == .function&&X.env.kindOf x == aa .cell) then jw else k:=λx=>xZ (sc:=sc)
 have okX:(blk X (ls++fs) sc cl C (X.pn++pins) ex s H).Ok:=by
  refine⟨I.ok.mod,B.kind,I.ok.glob,I.ok.blt,(by show s.heap.objs.size<=C;rw[hC];exact bj _),hinj,λx hx=>?_,λx c hf hl=>?_,I.ok.hd,I.ok.frames,.inl rfl,λb hb=>?_,λb o e=>I.bs b o e,gb I.ok.ZL I.sz,λb o e hb=>?_,λb hb=>?_,I.stack,I.LV,I.tab⟩
  ·-- a cell or free name of the block
   have hx':∃k,sc.names.lookup x=aa k/\((if(k == jo&&X.env.scope.kind == .function&&X.env.kindOf x == aa .cell) then jw else k)=.cell\/(if(k == jo&&X.env.scope.kind == .function&&X.env.kindOf x == aa .cell) then jw else k)=.free):=by
    have hx:(compEnvC sc cl C X.env).kindOf x=aa .cell\/(compEnvC sc cl C X.env).kindOf x=aa .free:=hx;rw[zm] at hx
    cases e:sc.names.lookup x with
    |none=>rw[e] at hx;rcases hx with hx|hx<;>cases hx
    |some k=>rw[e] at hx;exact⟨k,rfl,hx.imp (λz=>c_ z) λz=>c_ z⟩
   obtain⟨k,e,hk'⟩:=hx';have hm:=kc e;by_cases kf:k=.free
   .subst kf;have q:=hcl _ hm rfl;obtain⟨c,hc⟩:=I.ok.has x (B.free _ hm rfl);exact⟨c,q.trans hc⟩
   .have e2:(k == jo)=af:=by simpa using kf
    rw[e2] at hk';simp only[y_,rb,if_false] at hk';rcases hk' with z|z
    .obtain ⟨c,hc,_⟩:=Aa _ hm z;exact⟨c,hc⟩
    .exact Zw z kf
  ·-- an own cell is new
   obtain⟨c',hc',hlt⟩:=Aa _ (kc (eq_of_beq hf)) rfl;have hc':cl.lookup x=aa c':=hc';have hl:cl.lookup x=aa c:=hl;rw[hl] at hc';cases hc';rw[hC] at hlt;exact km hlt
  .refine ⟨FX (hex b hb).2 (nh hC.symm),λx c e=>?_⟩;rcases CW x c e with e|⟨e,_⟩
   .exact (hex b hb).1.2.2.2.2.1 x c e
   .exact dh (FX (hex b hb).2 (by rw[<- hC];exact km e))
  .obtain ⟨⟨_,_,_,f3,_,_⟩,_⟩:=hex b hb;rcases f3 with f3|f3
   .exact I.ok.TX b o e f3
   .exact Zw (f_ (b_ e) (gb I.ok.ZL f3)) (ib _)
  .intro z;obtain⟨⟨_,f1,f2,_,_,_⟩,_⟩:=hex b hb;rcases bz.mp (I.xI b z) with z|z
   .exact f1 z
   .exact f2 z
 refine⟨okX,ho,by rw[hg];exact I.bare,Un.kept hk,⟨m,hn,λi x v h1 h2 h3=>?_⟩,λx c e=>?_,?_,λx c e=>?_,λp hp=>?_,I.hok.kept hk,?_⟩
 ·-- a name with a value is one from around
  have hi:¬ i<ls.length:=λhi=>by unfold CV at h2;rw[jg (by simpa using hi),mh,Z_ hi] at h2;cases h2
  have e1:fs[i-ls.length]?=aa x:=by have h1:(ls++fs)[i]?=aa x:=h1;rw[jf (by omega)] at h1;exact h1
  obtain⟨j,ej,eN,hm,hlk⟩:=B.slot _ _ e1;have e2:(σ[j]?).join=aa v:=by unfold CV at h2;rw[jf (by simpa using hi),cf,nk,ej] at h2;exact c_ h2
  have e3:σ[j]?=aa (aa v):=by
   cases q:σ[j]? with
   |none=>rw[q] at e2;cases e2
   |some o=>rw[q] at e2;rw[show o=aa v from e2]
  have hfr:=B.free _ hm rfl;have vis:y6 X.env.scope x:=.inr hfr;obtain⟨mm,hnm,hl⟩:=I.loc;obtain⟨u,r,l⟩:=hl j x v eN e3 vis;refine⟨u,r,?_⟩;rcases l with⟨k1,_⟩|⟨k1,c,ec,zc⟩
  .have k1:X.env.kindOf x=aa .local:=k1;rcases hfr with z|z<;>rw[k1] at z<;>cases z
  .refine .inr ⟨?_,c,(hcl _ hm rfl).trans ec,?_⟩
   .show (compEnvC sc cl C X.env).kindOf x=aa .cell\/(compEnvC sc cl C X.env).kindOf x=aa .free;rw[zm,hlk];dsimp only[Option.map];split
    .exact .inl rfl
    .exact .inr rfl
   .obtain ⟨oc,hoc,hd⟩:=zc;exact⟨oc,hk _ _ hoc,hd⟩
 .rcases CW x c e with e|⟨_,e⟩
  .obtain ⟨v,oc,hoc,hd⟩:=I.cell x c e;exact⟨v,oc,hk _ _ hoc,hd⟩
  .exact ⟨ab,e⟩
 .show H C=ab;rw[hC];exact I.hok.fresh (bj _)
 .rcases CW x c e with e|⟨e,_⟩
  .exact I.m6 x c e
  .exact I.hok.fresh (by rw[<- hC];exact km e)
 .have hp:p∈(X.pn++pins)++[]:=hp;rw[jh] at hp;obtain⟨e,n,ne,nf,d⟩:=I.pin p hp;refine⟨hk _ _ e,n,ltC e,λz=>?_,d⟩;rcases bz.mp (I.xI _ z) with z|z
  .exact ne z
  .exact nf z
 .show (CV ls.length fr σ).length=(ls++fs).length;unfold CV;rw[ck,ck,nk,au,B.CT]
theorem VC{ls fs:Q0g}{sc:gk}{cl:List (aj×ag)}{C:ag}{pins TY:Q0b}{ex:List ag}{σ σ':L2.St}{H H':Hp}{s s':ak}{h':a_}(I:Inv X pins σ H s)
  (J:Inv (blk X (ls++fs) sc cl C (X.pn++pins) ex s H) TY σ' H' s') (hex:∀b∈ex,oG X pins H b) (hC:C=s.heap.objs.size) (hs:qk C s'.heap h'):Inv X pins σ H' {s' with heap:=h' }:=by
 have ltC:∀{b:ag} {o:aw},s.heap.get? b=aa o->b≠C:=λe=>ne_size e hC;have fr:H' C=ab:=J.free;have un:Un (frs X.stack) ex H H' s.heap s'.heap:=J.base;refine I.call' (s':={s' with heap:=h' }) (ch:=ex) J.os ⟨λb o e n hb hx=>(hs.2 b (ltC e)).trans (un.keep b o e n hb hx),λb o e n hb hx=>?_,un.free,λb o e hx=>?_,un.tups,un.y3,un.xG⟩ ?_ J.bare λb hb=>?_
 .obtain ⟨sl,q⟩:=un.slot b o e n hb hx;exact⟨sl,(hs.2 b (ltC e)).trans q⟩
 .obtain ⟨o',q⟩:=un.there b o e hx;exact⟨o',(hs.2 b (ltC e)).trans q⟩
 .intro b ob e;refine(J.hok b ob e).stay (λc u hc q=>(hs.2 c ?_).trans q) (λ_ q=>q) λ_ _ q=>q;intro z;rcases hc with hc|hc
  .rw [z] at hc;rw[<- hc,fr] at e;cases e
  .rw [z,fr] at hc;cases hc
 .obtain ⟨_,f1,_,f3,f4,f5⟩:=hex b hb;exact⟨f3,f1,f4,f5⟩
abbrev Yl(ifs:List ar)(env:fz):Sem Bool:=forIn ifs ae λc r=>if r=ae then(do let b <- isTrue c env (eval c env);pure (ml b)) else pure (ml r)
abbrev Calm(prog:bf)(w:az)(A:bq){α:Type}(t:Sem α)(Q:α->ak->Prop)(s:ak):Prop:=ax (ay prog w) A t Q (λ_ _=>False) s
theorem nC(Iv:Nat->ak->Prop)
  (turn:∀n s,Iv n s->Calm prog w A (pyNext it) (λgot s1=>match got with
   |none=>R (.ok .next) s1
   |some v=>Calm prog w A (letOwnedTupleGo tg it v) (λ_ s2=>Calm prog w A (assign tg env v) (λ_ s3=>Calm prog w A (Yl ifs env) (λok s4 =>
     if ok=ae then Calm prog w A (eval el env) (λx s5=>Calm prog w A (call (.builtin "list.append") [acc,x]) (λ_ s6=>∃m,m<n/\Iv m s6) s5) s4 else ∃m,m<n/\Iv m s4) s3) s2) s1) s)
  (n:Nat) (h:Iv n s):mx (ay prog w) A (.compLoop (.ListComp el [⟨tg,src,ifs,0⟩] bs at_) 0 it acc env) R s:=by
 have no:∀{α:Type} {E:Q0c} {t:Sem α} {Q Q':α->ak->Prop} {s:ak},Calm prog w A t Q s->(∀a s,Q a s->Q' a s)->ax (ay prog w) A t Q' E s:=λh f=>mv h f λ_ _ z=>z.elim;refine codeAny_loop rfl Iv (λn s hI=>?_) n h;refine wpAny_noted (m:=compTurn (.ListComp el [⟨tg,src,ifs,0⟩] bs at_) 0 it acc env) ?_;rw[compTurn_list];refine av (C_ (av (no (turn n s hI) λgot s1 h1=>?_)))
 match got,h1 with
 |none,h1=>exact bb h1
 |some v,h1 =>
  refine av (no h1 λ_ _ h2=>av (no h2 λ_ _ h3=>av (no h3 λok s4 h4=>?_)))
  match ok,h4 with
  |false,h4=>exact bb (zb rfl h4)
  |true,h4=>exact av (av (no h4 λ_ _ h5=>av (no h5 λ_ _ h6=>bb (bb (zb rfl h6)))))
abbrev TFk:=L2.St->Hp->(Bool->Hp->Prop)->Prop
def PIf(X:Cx)(ifs:List ar)(t:TFk):Prop :=
 ∀(pins:Q0b) (s:ak) (σ:L2.St) (H:Hp) (Q:Bool->Hp->Prop),Inv X pins σ H s->t σ H Q ->
  ax (ay X.prog X.w) X.A (forIn ifs ae λc r=>if r=ae then do let ok <- isTrue c X.env (eval c X.env);pure (ml ok) else pure (ml r)) (TP X pins σ Q) X.xe s
def aAM:PIf X [] (λ_ H Q=>Q ae H):=λpins s σ H Q I h=>by rw[yo];exact bb ⟨H,I,h⟩
def Yk(h:PT X c t):PIf X [c] t:=λpins s σ H Q I hw=>by rw[qw];refine av ?_;rw[Z_ rfl];refine av (eK (h pins s σ H Q I hw) λb s1 q=>bb ?_);dsimp only;rw[yo];exact bb q
def FY(nl:Nat)(fr:List Nat)(wi:TI)(g:TG)(tf:TFk)(te:TE):TE:=λσ H Q=>wi σ H λJ H1=>∀acc,H1 acc=ab ->∃W:Nat->Nat->Hp->List V->Prop,(∃m,W 0 m (upd H1 acc (.lst [])) []) /\
 ∀i m H ys,W i m H ys->H acc=aa (.lst ys)/\((J.stop i H/\Q (.ref acc) H)\/(J.go i H /\∀x H',J.yld i H x H'->g x (CV nl fr σ) H' λσ2 H2=>(σ2.drop nl=fr.map λj=>(σ[j]?).join)/\tf σ2 H2 λb H3 =>
  if b=ae then te σ2 H3 λy H4=>H4 acc=aa (.lst ys)/\ys.length<bc /\∃m',m'<m/\W (i+1) m' (upd H4 acc (.lst (ys++[y]))) (ys++[y]) else ∃m',m'<m/\W (i+1) m' H3 ys))
theorem FZ{ls fs:Q0g}{fr:List Nat}{sc:gk}{tg iter elt:ar}{ifs:List ar}{pos p2:bg}{wi:TI}{g:TG}{tf:TFk}{te:TE}{pins:Q0b}{σ:L2.St}{H:Hp}{s:ak}{Qe:VK}{use:Option (ai->Sem Unit)}{Qv:Q0c}
  (hc:X.calm=ae) (B:FW X ls fs fr sc) (hi:PI X tg iter wi) (hg:∀cl C pn ex s H,PG (blk X (ls++fs) sc cl C pn ex s H) tg g) (hf:∀cl C pn ex s H,PIf (blk X (ls++fs) sc cl C pn ex s H) ifs tf) (he:∀cl C pn ex s H,PE (blk X (ls++fs) sc cl C pn ex s H) elt te)
  (hs:Zp X iter) (I:Inv X pins σ H s) (h:FY ls.length fr wi g tf te σ H Qe)
  (fin:∀acc C s' H',Inv X pins σ H' s'->(∃m,s'.heap.Ns C m)->oG X pins H' C->Qe (.ref acc) H'->compPost (ay X.prog X.w) X.A X.xe use Qv (.ref acc) C (.ok .next) s'):
  ax (ay X.prog X.w) X.A (comprehension (.ListComp elt [⟨tg,iter,ifs,0⟩] sc pos) sc X.env p2 (newList []) af (eval iter X.env) use) Qv X.xe s:=by
 obtain⟨cl,ecl,hcl,CW⟩:=JE (scope:=sc) (env:=X.env) λx hx hf=>I.ok.has x.1 (B.free x hx hf);refine wpAny_comprehension_free (g:=⟨tg,iter,ifs,0⟩) (gs:=[]) rfl hs ecl B.kind (λx hx e=>(B.uniq x hx).trans (congrArg aa e)) ?_;refine eK (hi pins s σ H _ I h) λv s1 h1=>eK h1 λitv s2 h2=>?_;obtain⟨it,fp,tn,J,H2,e,I2,T,st2,f2,h2⟩:=h2;subst e;refine tj ?_ (by show([]:Q0f).toArray.size<=bc;simp);have hacc:H2 s2.heap.objs.size=ab:=I2.hok.fresh (bj _);have I3:Inv X pins σ (upd H2 s2.heap.objs.size (.lst [])) {s2 with heap:=s2.heap.push {cls:=.type "list",data:=.seq ([]:Q0f).toArray} } :=
  I2.laid (t':=s2.toks) (λb o e=>di _ e) (bj _) ⟨by simp,[],0,.nil,gc _ rfl⟩
 have hfp:∀b∈fp,b<s2.heap.objs.size:=λb hb=>by obtain⟨o,e,_⟩:=T.obj _ _ st2 b hb;exact b_ e
 obtain⟨W,⟨m0,w0⟩,turn⟩:=h2 _ hacc;generalize F0:s2.heap.objs.size=acc at hacc I3 w0 turn ⊢;have Lz:∀b∈fp,b≠acc:=λb hb=>FX (hfp b hb) (nh F0);have f3:∀b∈fp,oG X pins (upd H2 acc (.lst [])) b:=λb hb=>⟨by rw[aW (Lz b hb)];exact(f2 b hb).1,(f2 b hb).2⟩;generalize hs3:({s2 with heap:=s2.heap.push {cls:=.type "list",data:=.seq ([]:Q0f).toArray} }:ak)=s3 at I3;have hsz3:s3.heap.objs.size=acc+1:=by rw[<- hs3];show(s2.heap.push _).objs.size=_;rw[tw,F0]
 have st3:tn 0 s3.heap:=T.keep _ _ _ st2 λb hb o e=>by rw[<- hs3];exact di _ e
 refine O2 λh4 hn4 hk4 co=>?_;generalize hC:s3.heap.objs.size=C at hn4 co ⊢;have eC:cellsFrom (C+1) sc.names cl=cellsFrom (C+1) sc.names []++cl:=iB sc.names (C+1) [] cl;generalize hcs:cellsFrom (C+1) sc.names []=cs at co eC;have own:∀x c,cs.lookup x=aa c->(x,jw)∈sc.names/\C<c/\h4.IsCell c ab:=λx c e=>by
  have m:=kc e;refine⟨?_,(co.empty x c m).2,(co.empty x c m).1⟩;rw[<- hcs] at m;rcases jN _ _ _ _ m with z|z
  .cases z
  .exact z
 generalize hdl:cellsFrom (C+1) sc.names cl=dl at eC ⊢;have two:∀x c,dl.lookup x=aa c->cs.lookup x=aa c\/(cs.lookup x=ab/\cl.lookup x=aa c):=λx c e=>by
  rw[eC,Fx] at e
  cases q:cs.lookup x with
  |none=>rw[q] at e;exact .inr ⟨rfl,e⟩
  |some d=>rw[q] at e;exact .inl e
 have Ly:∀x∈sc.names,x.2=.free->dl.lookup x.1=X.env.cells.lookup x.1:=λx hx e=>by
  rw[<- hcl x hx e,eC,Fx]
  cases q:cs.lookup x.1 with
  |none=>rfl
  |some d =>
   have z:=B.uniq _ (own _ _ q).1;rw[B.uniq x hx,e] at z;cases z
 have z_:∀x c,dl.lookup x=aa c->X.env.cells.lookup x=aa c\/(C<c/\h4.IsCell c ab):=λx c e=>by
  rcases two x c e with e|⟨_,e⟩
  .exact .inr (own x c e).2
  .exact .inl (CW x c e)
 have Lx:∀x∈sc.names,x.2=.cell ->∃c,dl.lookup x.1=aa c/\C<c:=λx hx e=>by obtain⟨c,hc⟩:=j6 sc.names (C+1) [] x.1 (.inr (by rw[<- e];exact hx));rw[hcs] at hc;exact⟨c,by rw[eC,Fx,hc];rfl,(own _ _ hc).2.1⟩
 have low:∀x c,cl.lookup x=aa c->c<C:=λx c e=>by obtain⟨v,o,ho,_⟩:=I3.cell x c (CW x c e);rw[<- hC];exact b_ ho
 have Lw:∀x y c,dl.lookup x=aa c->dl.lookup y=aa c->x=y:=λx y c e e'=>by
  rcases two x c e with e|⟨_,e⟩<;>rcases two y c e' with e' | ⟨_,e'⟩
  .exact a0C co.apart (kc e) (kc e')
  .exact Zw (own _ _ e).2.1 (a2f (low _ _ e'))
  .exact Zw (own _ _ e').2.1 (a2f (low _ _ e))
  .exact I3.ok.inj x y c (CW x c e) (CW y c e')
 have I4:Inv (blk X (ls++fs) sc dl C (X.pn++pins) fp s3 (upd H2 acc (.lst []))) [] (CV ls.length fr σ) (upd H2 acc (.lst [])) {s3 with heap:=h4} :=
  aAL B I3 Ly z_ Lx Lw (λb hb=>⟨f3 b hb,by rw[hsz3,<- F0];exact uc (hfp b hb)⟩) hC.symm hn4 hk4 rfl rfl
 generalize hX:blk X (ls++fs) sc dl C (X.pn++pins) fp s3 (upd H2 acc (.lst []))=Y at I4;have pY:Y.prog=X.prog:=by rw[<- hX];rfl
 have wY:Y.w=X.w:=by rw[<- hX];rfl
 have kY:Y.K=X.K:=by rw[<- hX];rfl
 have AY:Y.A=X.A:=by rw[<- hX];rfl
 have cY:Y.calm=ae:=by rw[<- hX];exact hc
 have eY:Y.env=compEnvC sc dl C X.env:=by rw[<- hX];rfl
 have xY:Y.xe=λ_ _=>False:=by rw[<- hX];rfl
 have VD:∀{H':Hp},(∀b∈fp,H' b=ab) ->∀b∈fp,oG Y [] H' b:=λhn b hb=>by
  rw[<- hX];obtain⟨_,f1,f2',_,f4,f5⟩:=f3 b hb;refine⟨hn b hb,λz=>?_,λz=>?_,.inl hb,λx c e=>?_,λp hp=>f5 p ?_⟩
  .exact Zw z (FX (hfp b hb) (by rw[<- hC,hsz3,F0];exact lr _))
  .rcases bz.mp (I3.xI b z) with z|z
   .exact f1 z
   .exact f2' z
  .rcases z_ x c e with e|⟨e,_⟩
   .exact f4 x c e
   .exact dh (FX (hfp b hb) (by rw[F0];exact km (a2d (by rw[<- hC,hsz3];exact qt _) e)))
  .have hp:p∈(X.pn++pins)++[]:=hp;rw[jh] at hp;exact hp
 have st4:tn 0 h4:=T.keep _ _ _ st3 λb hb o e=>hk4 b o e;have loop:∀s5:ak,(∃i H',Inv Y [] (CV ls.length fr σ) H' s5/\tn i s5.heap/\(∀b∈fp,H' b=ab) /\∃m ys,W i m H' ys)->mx (ay X.prog X.w) X.A (.compLoop (.ListComp elt [⟨tg,iter,ifs,0⟩] sc pos) 0 (.ref it) (.ref acc) (compEnvC sc dl C X.env)) (compPost (ay X.prog X.w) X.A X.xe use Qv (.ref acc) C) s5:=by
  rintro s5 ⟨i,H',I5,st5,fr5,m,ys,w5⟩;refine nC (λn s'=>∃i H' ys,Inv Y [] (CV ls.length fr σ) H' s'/\tn i s'.heap/\(∀b∈fp,H' b=ab)/\W i n H' ys) ?_ m ⟨i,H',ys,I5,st5,fr5,w5⟩;rintro n s6 ⟨i,H6,ys,I6,st6,fr6,w6⟩;obtain⟨ha6,alt⟩:=turn i n H6 ys w6;rcases alt with⟨stop,qn⟩|⟨go,step⟩
  .have q:=T.done Y pY wY kY cY i [] s6 _ H6 (λ_ _=>False) I6 (VD fr6) st6 stop;rw[AY] at q;refine eK q λr s7 Lv=>?_;obtain⟨hr,I7⟩:=Lv;subst hr;have fr7:H6 C=ab:=by have:=I7.free;rw[eY] at this;exact this
   refine fin acc C s7 H6 ?_ ?_ (I3.CA (nh hC) fr7) qn
   .rw [<- hX] at I7;exact VC I3 I7 (λb hb=>f3 b hb) hC.symm (.refl ..)
   .obtain ⟨m,hm,_⟩:=I7.loc;rw[eY] at hm;exact⟨m,hm⟩
  .have q:=T.item Y pY wY kY cY i [] s6 _ H6 (λ_ _=>False) I6 (VD fr6) st6 go;rw[AY] at q;refine eK q λr s7 Lu=>?_;obtain⟨u,hr,h7⟩:=Lu;subst hr;refine eK h7 λ_ s8 Ls=>?_;obtain⟨x,H8,I8,r8,y8,st8,fr8⟩:=Ls;have I8':=I8.pinned (VD fr8) (T.obj _ _ st8);have hgY:=hg dl C (X.pn++pins) fp s3 (upd H2 acc (.lst []));have hfY:=hf dl C (X.pn++pins) fp s3 (upd H2 acc (.lst []));have heY:=he dl C (X.pn++pins) fp s3 (upd H2 acc (.lst []));rw[hX] at hgY hfY heY;have q8:=hgY _ s8 _ H8 x u _ I8' r8 (step x H8 y8);rw[pY,wY,AY,eY,xY] at q8;refine eK q8 λ_ s9 Lq=>?_;obtain⟨σ9,H9,I9,hσ9,q9⟩:=Lq;have mn:=hfY _ s9 σ9 H9 _ I9 q9;rw[pY,wY,AY,eY,xY] at mn;refine eK mn λok He Lp=>?_;obtain⟨H10,I10,mn⟩:=Lp;have bl:∀{H7:Hp} {s7:ak},Inv Y ([]++xK fp s8.heap) σ9 H7 s7->(∃m',m'<n /\∃ys',W (i+1) m' H7 ys') ->∃m,m<n /\∃i H' ys,Inv Y [] (CV ls.length fr σ) H' s7/\tn i s7.heap/\(∀b∈fp,H' b=ab)/\W i m H' ys:=λ{H7 s7} I7 ⟨m',hm,ys',w7⟩=>by
    refine⟨m',hm,i+1,H7,ys',?_,T.keep _ _ _ st8 λb hb o e=>(I7.pin (b,o) (il _ (il _ (lO hb e)))).1,λb hb=>?_,w7⟩
    .refine I7.qZ.weak ?_ λk v e=>?_
     .rw [I7.len,<- I6.len]
     .by_cases hk:k<ls.length
      .unfold CV at e;rw[jg (by simpa using hk),mh,Z_ hk] at e;cases e
      .have e2:(σ9.drop ls.length)[k-ls.length]?=aa (aa v):=by rw[hσ9];unfold CV at e;rw[jf (by simpa using hk),nk] at e;exact e
       rw[ym] at e2;rw[show ls.length+(k-ls.length)=k by omega] at e2;exact e2
    .obtain ⟨o,e,d⟩:=T.obj _ _ st8 b hb;exact(I7.pin (b,o) (il _ (il _ (lO hb e)))).2.1
   cases ok with
   |false =>
    rw[Zz bt] at mn ⊢;obtain⟨m',hm,w'⟩:=mn;exact bl I10 ⟨m',hm,ys,w'⟩
   |true =>
    rw[Z_ rfl] at mn ⊢;have zg:=heY _ He σ9 H10 _ I10 mn;rw[pY,wY,AY,eY,xY] at zg;refine eK zg λyv Hd Lo=>?_;obtain⟨y,H11,I11,Hf,Yj,Ln,m',hm,w'⟩:=Lo;have zf:=(AM (X:=Y)) _ Hd σ9 H11 (.ref acc) [y] (.ref acc) [yv] (λ_ H'=>H'=upd H11 acc (.lst (ys++[y]))) I11 rfl (.cons Hf .nil) ⟨acc,ys,y,rfl,rfl,Yj,Ln,rfl⟩;rw[pY,wY,AY,xY] at zf;refine eK zf λ_ s12 Lm=>?_;obtain⟨_,H12,I12,_,Iq⟩:=Lm;subst Iq;exact bl I12 ⟨m',hm,_,w'⟩
 have L0:=loop _ ⟨0,_,I4,st4,λb hb=>(f3 b hb).1,m0,[],w0⟩;refine codeAny_compStart_list L0 (T.self _ 0 _ _ _ st4 L0)
theorem aAN
  (hc:X.calm=ae) (B:FW X ls fs fr sc) (hi:PI X tg iter wi) (hg:∀cl C pn ex s H,PG (blk X (ls++fs) sc cl C pn ex s H) tg g) (hf:∀cl C pn ex s H,PIf (blk X (ls++fs) sc cl C pn ex s H) ifs tf) (he:∀cl C pn ex s H,PE (blk X (ls++fs) sc cl C pn ex s H) elt te)
  (hs:Zp X iter:=by intro _;rfl):PE X (.ListComp elt [⟨tg,iter,ifs,0⟩] sc pos) (FY ls.length fr wi g tf te):=by
 intro pins s σ H Q I h;rw[eval_ListComp];refine FZ (use:=ab) hc B hi hg hf he hs I h λacc C s' H' I' hm fp q=>?_;obtain⟨m,hm⟩:=hm;obtain⟨f0,f1,_,f3,f4,f5⟩:=fp;exact⟨m,hm,λh' hsb=>⟨.ref acc,H',I'.turned (t':=s'.toks) (λb o hb e=>(hsb.2 b hb).trans e) f0 f1 f3 f4 f5,rfl,q⟩⟩
theorem pW(hN:X.N.Nodup)(hx0:X.N[i]?=aa x)(hx:X.env.scope.names.lookup x=aa .local)
  (hc:X.calm=ae) (B:FW X ls fs fr sc) (hi:PI X tg iter wi) (hg:∀cl C pn ex s H,PG (blk X (ls++fs) sc cl C pn ex s H) tg g) (hf:∀cl C pn ex s H,PIf (blk X (ls++fs) sc cl C pn ex s H) ifs tf) (he:∀cl C pn ex s H,PE (blk X (ls++fs) sc cl C pn ex s H) elt te)
  (hsw:Rv X elt tg iter ifs sc pos x pos' spos)
  (hs:Zp X iter:=by intro _;rfl):PS X (.Assign [.Name x pos'] (.ListComp elt [⟨tg,iter,ifs,0⟩] sc pos) spos) (wm (FY ls.length fr wi g tf te) (T4 i)):=by
 intro pins s σ H D I h;rw[exec_Assign_Name_used _ _ _ _ hsw];refine av (C_ (av ?_));show ax _ X.A (do let _ <- comprehension (.ListComp elt [⟨tg,iter,ifs,0⟩] sc pos) sc X.env _ (newList []) af (eval iter X.env) (aa (assign (.Name x pos') X.env))) _ _ s;refine av (mv (FZ (use:=aa (assign (.Name x pos') X.env)) (Qv:=λ_ s'=>SP X pins D .next s') hc B hi hg hf he hs I h λacc C s' H' I' hm fp q=>?_) (λ_ s' hq=>bb (bb hq)) λ_ _ e=>e);obtain⟨m,hm⟩:=hm;obtain⟨f0,f1,_,f3,f4,f5⟩:=fp;refine a0t (AE I' hN hx0 (.inl hx) (v:=.ref acc) rfl (λs'' I'' hsb=>?_) (.inr hx));obtain⟨a,hsb,ha⟩:=hsb;have haC:a≠C:=by
  rcases ha with rfl|ha
  .exact dh f1
  .exact f4 x a ha
 exact⟨m,hm.sameBut hsb (dh haC),λh' hs'=>⟨_,H',I''.turned (t':=s''.toks) (λb o hb e=>(hs'.2 b hb).trans e) f0 f1 f3 f4 f5,q⟩⟩
end
def chk(outer:List (aj×ij))(sc:gk)(N ls fs:Q0g)(fr:List Nat):Bool :=
 (sc.kind == .function)&&Zv (ls++fs).Nodup&&sc.names.all (λx=>Zv (sc.names.lookup x.1=aa x.2)) &&
 sc.names.all (λx=>Zv (x.2=.free->(outer.lookup x.1=aa .cell\/outer.lookup x.1=aa .free)))&&Zv (fr.length=fs.length) &&
 (fs.zip fr).all (λx=>Zv (N[x.2]?=aa x.1)&&sc.names.contains (x.1,jo)&&Zv (sc.names.lookup x.1=aa .free))
def iT(h:chk X.env.scope.names sc X.N ls fs fr=ae):FW X ls fs fr sc:=by
 unfold chk at h;simp only[gn,gx,decide_eq_true_eq] at h;obtain⟨⟨⟨⟨⟨h1,h2⟩,h3⟩,h5⟩,h6⟩,h7⟩:=h;refine⟨eq_of_beq h1,h2,h3,h5,λk x e=>?_,h6⟩;have hk:k<fs.length:=(cg.mp e).1;have hm:(x,fr[k]'(by omega))∈fs.zip fr:=by
  have:(fs.zip fr)[k]?=aa (x,fr[k]'(by omega)):=by rw[qv];exact⟨e,by simp⟩
  exact ik this
 obtain⟨⟨a,b⟩,c⟩:=h7 _ hm;exact⟨fr[k]'(by omega),by simp,a,by simpa using b,c⟩
abbrev GE:=D->dC->(dC->Prop)->Prop
def pX(K:ao)(nl n:Nat)(g:GE):TG:=λv σ H Q=>∃(S:ag->Prop) (ρ:dC) (d:D) (Q3:dC->Prop),σ.length=n/\(∀a,H a=ab->S a)/\Sl K S H ρ σ/\Dn K S H d v/\g d ρ Q3 /\
 ∀σ' ρ',Sl K S H ρ' σ'->σ'.drop nl=σ.drop nl->Q3 ρ'->Q σ' H
def PG4(X:Cx)(nl:Nat)(tg:ar)(g:GE):Prop:=PG X tg (pX X.K nl X.N.length g)
theorem Sl.set{K:ao}{S:ag->Prop}{H:Hp}{ρ:dC}{σ:L2.St}{i:Nat}{d:D}{v:V}(h:Sl K S H ρ σ)(hi:i<σ.length)(q:Dn K S H d v):Sl K S H (ρ.set i (aa d)) (σ.set i (aa v)):=λj e he=>by
 rcases get_set he with⟨hj,z,_⟩|⟨hj,z⟩
 .cases z;subst hj;exact⟨v,ku hi,q⟩
 .obtain ⟨u,a,b⟩:=h j e z;exact⟨u,by rw[je (dh hj)];exact a,b⟩
def hN(i:Nat):GE:=λd ρ Q=>Q (ρ.set i (aa d))
noncomputable def h2(i j:Nat):GE:=λd ρ Q=>match d with
 |.tup [d1,d2]=>Q ((ρ.set i (aa d1)).set j (aa d2))
 |_=>False
def drop_set{α:Type}{l:List α}{i n:Nat}{x:α}(h:i<n):(l.set i x).drop n=l.drop n:=by rw[List.drop_set,Z_ h]
section
variable{X:Cx}
def Tw{nl i:Nat}{x:aj}{pos:bg}(nd:X.N.Nodup)(hil:i<nl)(hi:X.N[i]?=aa x:=by rfl)(hx:Loc X.env.scope x:=by walk_at "0")(hfx:Zr X x:=by walk_at "2"):PG4 X nl (.Name x pos) (hN i) :=
 FV (n6 nd hi hx hfx) λv σ H Q Lj=>by obtain⟨S,ρ,d,Q3,hl,fc,sl,dn,hg,k⟩:=Lj;exact k _ _ (sl.set (by rw[hl];exact iX hi) dn) (drop_set hil) hg
def Tv{nl i j:Nat}{x y:aj}{kk:Nat}{pos px py:bg}(hc:X.calm=ae)(nd:X.N.Nodup)(hil:i<nl)(hjl:j<nl)(hi:X.N[i]?=aa x:=by rfl)(hj:X.N[j]?=aa y:=by rfl)(hx:Loc X.env.scope x:=by walk_at "0")(hfx:Zr X x:=by walk_at "2")(hy:Loc X.env.scope y:=by walk_at "0")(hfy:Zr X y:=by walk_at "2")
  (hn:Q0i X x y px py:=by rfl) (hst:Q0h X x y px py:=by rfl)
  (hs1:H0 X x y px py:=by rfl) (hs2:gV X y py:=by rfl):
  PG4 X nl (.Tuple [.Name x px,.Name y py] kk pos) (h2 i j) :=
 FV (II (n:=2) hc (kQ (n6 nd hi hx hfx) (kQ (n6 nd hj hy hfy) B9 hs2) hs1) hn hst) λv σ H Q Li=>by
  obtain⟨S,ρ,d,Q3,hl,fc,sl,dn,hg,k⟩:=Li;unfold h2 at hg;split at hg
  .rename_i d1 d2;simp only[Dn] at dn;obtain⟨a,xs,rfl,ha,da⟩:=dn;obtain⟨v1,r1,rfl,h1,h2⟩:=da.bD;obtain⟨v2,r2,rfl,h3,h4⟩:=h2.bD;simp only[aS] at h4;subst h4;refine⟨a,_,rfl,(fS.of ha),rfl,v1,[v2],rfl,v2,[],rfl,rfl,?_⟩;exact k _ _ ((sl.set (by rw[hl];exact iX hi) h1).set (by rw[gz,hl];exact iX hj) h3) (by rw[drop_set hjl,drop_set hil]) hg
  .exact hg.elim
def O4(X:Cx)(ifs:List ar)(t:WT):Prop:=PIf X ifs (liftT X.K t)
def VE:WT:=λ_ Q=>Q ae
def zz:O4 X [] VE:=λpins s σ H Q I Lh=>by obtain⟨S,ρ,Q3,fc,sl,ht,k⟩:=Lh;exact aAM pins s σ H Q I (k ae H (Same.refl H) ht)
theorem Tu(h:yP X c t):O4 X [c] t:=Yk h
noncomputable def rJ(g:GE)(tf:WT)(te:WE)(ρ:dC):List D->List D->(D->Prop)->Prop
 |[],acc,Q=>Q (.lst acc)
 |d::r,acc,Q=>g d ρ λρ2=>tf ρ2 λb=>if b=ae then te ρ2 λy=>acc.length<bc/\rJ g tf te ρ r (acc++[y]) Q else rJ g tf te ρ r acc Q
def benv(nl:Nat)(fr:List Nat)(ρ:dC):dC:=fq nl ab++fr.map λj=>(ρ[j]?).join
def F3(nl:Nat)(fr:List Nat)(ti:WI)(g:GE)(tf:WT)(te:WE):WE:=λρ Q=>ti ρ λds=>rJ g tf te (benv nl fr ρ) ds [] Q
def MO{K:ao}{S:ag->Prop}{H:Hp}{ρ:dC}{σ:L2.St}{nl:Nat}{fr:List Nat}(h:Sl K S H ρ σ):Sl K S H (benv nl fr ρ) (CV nl fr σ):=λi d e=>by
 unfold benv at e;unfold CV;by_cases hi:i<nl
 .rw [jg (by simpa using hi),mh,Z_ hi] at e;cases e
 .rw [jf (by simpa using hi),cf,nk] at e ⊢
  cases q:fr[i-nl]? with
  |none=>rw[q] at e;cases e
  |some j =>
   rw[q] at e;have e1:(ρ[j]?).join=aa d:=c_ e;have e2:ρ[j]?=aa (aa d):=by
    cases z:ρ[j]? with
    |none=>rw[z] at e1;cases e1
    |some o=>rw[z] at e1;rw[show o=aa d from e1]
   obtain⟨v,ev,dv⟩:=h j d e2;exact⟨v,by show aa ((σ[j]?).join)=_;rw[ev];rfl,dv⟩
def tO{K:ao}{nl n:Nat}{fr:List Nat}{ti:WI}{g:GE}{tf:WT}{te:WE}{σ:L2.St}{H:Hp}{Q:VK}(hn:nl+fr.length=n)(h:UT K (F3 nl fr ti g tf te) σ H Q):FY nl fr (U9 K ti) (pX K nl n g) (liftT K tf) (lift K te) σ H Q:=by
 obtain⟨S,ρ,Q3,fc,sl,ht,k⟩:=h;refine⟨S,ρ,_,fc,sl,ht,λJ H1 ds G s1 hG wk q1=>?_⟩;intro acc hacc;have h0:H acc=ab:=s1.free hacc;have fc1:=bQ fc s1;have ok:∀{H2:Hp},Same H1 H2->(∃ys,H2 acc=aa (.lst ys))->(∀a,H2 a=ab->S a/\a≠acc)/\Sl K (λa=>S a/\a≠acc) H2 (benv nl fr ρ) (CV nl fr σ) /\∀g∈G,Dn K (λa=>S a/\a≠acc) H2 g.1 g.2:=λ{H2} s2 hy=>by
  refine⟨λa e=>⟨bQ fc1 s2 a e,λz=>?_⟩,?_,λg hg=>Dn.fits ((Fits.fresh hacc).trans (.same s2)) _ _ (hG g hg)⟩
  .subst z;obtain⟨ys,hy⟩:=hy;rw[e] at hy;cases hy
  .exact MO (Sl.fits ((Fits.fresh h0).trans (.same (s1.trans s2))) sl)
 refine⟨λi m H2 ys=>m=ds.length-i/\i<=ds.length/\Same H1 H2/\H2 acc=aa (.lst ys) /\∃aD,aS K (λa=>S a/\a≠acc) H2 aD ys/\rJ g tf te (benv nl fr ρ) (ds.drop i) aD Q3,
  ⟨_,rfl,jq _,aO hacc,aP,[],aS.nil,q1⟩,?_⟩
 rintro i m H2 ys ⟨rfl,hi,s2,hy,aD,dn,cw⟩;obtain⟨fc2,sl2,gh2⟩:=ok s2 ⟨ys,hy⟩;refine⟨hy,?_⟩;by_cases hlt:i<ds.length
 .refine .inr ?_;obtain⟨g1,g2⟩:=wk.go _ H2 fc2 gh2 i ds[i] (by simp[hlt]);refine⟨g1,λx H' y=>?_⟩;obtain⟨s3,dx⟩:=g2 x H' y;rw[pj hlt,rJ] at cw;refine⟨λa=>S a/\a≠acc,benv nl fr ρ,ds[i],_,?_,bQ fc2 s3,Sl.fits (.same s3) sl2,dx,cw,λσ' ρ' sl' hd q'=>?_⟩
  .unfold CV;rw[ck,nk,au];exact hn
  .refine ⟨by rw[hd];unfold CV;rw[a2H (by simp),a2E];simp,λa=>S a/\a≠acc,ρ',_,bQ fc2 s3,sl',q',λb H3 s4 q4=>?_⟩
   cases b with
   |false =>
    rw[Zz bt] at q4 ⊢;exact⟨_,by omega,rfl,hlt,(s2.trans s3).trans s4,(s3.trans s4) _ _ hy,aD,aS.fits (.same (s3.trans s4)) _ _ dn,q4⟩
   |true =>
    rw[Z_ rfl] at q4 ⊢;refine⟨λa=>S a/\a≠acc,ρ',_,bQ fc2 (s3.trans s4),Sl.fits (.same s4) sl',q4,λv H4 d s5 d5 q5=>?_⟩;have hy4:H4 acc=aa (.lst ys):=((s3.trans s4).trans s5) _ _ hy;have F:Fits K (λa=>S a/\a≠acc) (λa=>S a/\a≠acc) H4 (upd H4 acc (.lst (ys++[v]))):=.upd (.inl ⟨_,hy4⟩) λz=>z.2 rfl;refine⟨hy4,by rw[<- dn.len];exact q5.1,_,by omega,rfl,hlt,λb u hb=>?_,aP,aD++[d],aS.fits F _ _ ((aS.fits (.same ((s3.trans s4).trans s5)) _ _ dn).append (aS.one d5)),q5.2⟩;rw[aW (bK hb hacc)];exact(((s2.trans s3).trans s4).trans s5) _ _ hb
 .have e:i=ds.length:=by omega
  subst e;rw[Gd,rJ] at cw;exact .inl ⟨wk.stop _ H2 gh2 _ rfl,k acc ys H2 aD h0 hy (s1.trans s2) dn cw⟩
theorem Tt{ls fs:Q0g}{fr:List Nat}{sc:gk}{tg iter elt:ar}{ifs:List ar}{pos:bg}{ti:WI}{g:GE}{tf:WT}{te:WE}(hc:X.calm=ae)(hi:Q6 X tg iter ti)
  (hg:∀cl C pn ex s H,(blk X (ls++fs) sc cl C pn ex s H).N.Nodup->PG4 (blk X (ls++fs) sc cl C pn ex s H) ls.length tg g) (hf:∀cl C pn ex s H,O4 (blk X (ls++fs) sc cl C pn ex s H) ifs tf) (he:∀cl C pn ex s H,dE (blk X (ls++fs) sc cl C pn ex s H) elt te)
  (B:chk X.env.scope.names sc X.N ls fs fr=ae:=by rfl) (hs:Zp X iter:=by intro _;rfl):JA X (.ListComp elt [⟨tg,iter,ifs,0⟩] sc pos) (F3 ls.length fr ti g tf te) :=
 imp (aAN (g:=pX X.K ls.length (ls++fs).length g) (tf:=liftT X.K tf) (te:=lift X.K te) hc (iT B) hi (λcl C pn ex s H=>hg cl C pn ex s H (iT B).nd) hf he hs) λσ H Q h=>tO (n:=(ls++fs).length) (by rw[ck,(iT B).CT]) h
theorem O5{i:Nat}{x:aj}{ls fs:Q0g}{fr:List Nat}{sc:gk}{tg iter elt:ar}{ifs:List ar}{pos spos pos':bg}{ti:WI}{g:GE}{tf:WT}{te:WE}(nd:X.N.Nodup)(hc:X.calm=ae)(hi:Q6 X tg iter ti)
  (hg:∀cl C pn ex s H,(blk X (ls++fs) sc cl C pn ex s H).N.Nodup->PG4 (blk X (ls++fs) sc cl C pn ex s H) ls.length tg g) (hf:∀cl C pn ex s H,O4 (blk X (ls++fs) sc cl C pn ex s H) ifs tf) (he:∀cl C pn ex s H,dE (blk X (ls++fs) sc cl C pn ex s H) elt te)
  (hx0:X.N[i]?=aa x:=by rfl) (hx:X.env.scope.names.lookup x=aa .local:=by rfl) (hsw:Rv X elt tg iter ifs sc pos x pos' spos:=by rfl)
  (B:chk X.env.scope.names sc X.N ls fs fr=ae:=by rfl) (hs:Zp X iter:=by intro _;rfl):CU X (.Assign [.Name x pos'] (.ListComp elt [⟨tg,iter,ifs,0⟩] sc pos) spos) (vt i (F3 ls.length fr ti g tf te)) :=
 jQ (pW (g:=pX X.K ls.length (ls++fs).length g) (tf:=liftT X.K tf) (te:=lift X.K te) nd hx0 hx hc (iT B) hi (λcl C pn ex s H=>hg cl C pn ex s H (iT B).nd) hf he hsw hs) λBd σ H Lg=>by
 obtain⟨H₀,S,w,ρ,G,E,hl,st,ht,ok⟩:=Lg;exact tO (n:=(ls++fs).length) (by rw[ck,(iT B).CT]) ⟨_,gR ρ,_,st.IZ,st.rd,ht,λp xs H' ds hp hp' s' d' q'=>ok.nx w _ H' _ (by rw[gz];exact hl) ((st.same s').j5 (d:=.lst ds) (by rw[hl];exact iX hx0) (by simp only[Dn];exact⟨p,xs,rfl,hp',st.IZ p hp,aS.fits (.mono λ_ z=>z.1) _ _ d'⟩)) q'⟩
noncomputable def tyD:D->String
 |.non => "NoneType"
 |.bl _ => "bool"
 |.int _ => "int"
 |.str _ => "str"
 |.tup _ => "tuple"
 |.lst _ => "list"
 |.jD _ => "list"
 |.gA _ _ => "dict"
 |.dP _ _ _ => "dict"
 |.exc _ _ => "NoneType"
 |.rws _ => "NoneType"
inductive JF:String->Prop
 |t:JF "tuple"
 |b:JF "bool"
 |i:JF "int"
 |s:JF "str"
def isT(T:String)(d:D):Bool:=tyD d == T||(T == "int"&&tyD d == "bool")
def Mm(K:ao)(T:String):List V->Hp->VK->Prop:=λxs H Q=>∃x t b,xs=[x,.ty T]/\(rA K H x t\/(t=.type "tuple" /\∃a ys,x=.ref a/\fS K H a ys)\/(t=.type "list" /\∃a ys,x=.ref a/\eE K H a ys))/\kitOne K t (.type T)=aa b/\Q (.bl b) H
theorem VF:fM X (.builtin "isinstance") (Mm X.K T):=by
 intro pins s σ H xs us Q I r h;obtain⟨x,t,b,rfl,ty,e,q⟩:=h;obtain⟨u,w',rfl,r1,r2⟩:=vals2 r;obtain rfl:w'=m_ T:=r2;rcases ty with ty|⟨rfl,a,ys,rfl,hq⟩|⟨rfl,a,ys,rfl,hq⟩
 .exact OO I r1 ty e λtk=>⟨.bl b,H,I.tok tk,rfl,q⟩
 .cases r1;obtain⟨its,_,p,_⟩:=I.tuple hq;obtain⟨o,h1,h2,_⟩:=p;exact iu a0P I.B8 ⟨o,h1,h2⟩ e (λz=>nomatch z) λtk=>⟨.bl b,H,I.tok tk,rfl,q⟩
 .cases r1;obtain⟨its,_,p,_⟩:=I.list hq;obtain⟨o,n,h1,h2,_⟩:=p;exact iu Dw I.B8 ⟨o,h1,h2⟩ e (λz=>nomatch z) λtk=>⟨.bl b,H,I.tok tk,rfl,q⟩
noncomputable def Cq:D->Prop
 |.exc _ _=>False
 |.dP _ _ _=>False
 |.rws _=>False
 |_=>True
def Ml(T:String)(t:WE):WE:=λρ Q=>t ρ λd=>Cq d/\Q (.bl (isT T d))
def Mk{K:ao}{T:String}(h:JF T)(d:D):kitOne K (.type (tyD d)) (.type T)=aa (isT T d):=by cases h<;>cases d<;>with_unfolding_all rfl
def Ts{K:ao}{S:ag->Prop}{H:Hp}{d:D}{v:V}(hne:Cq d)(h:Dn K S H d v):∃t,t=m_ (tyD d)/\(rA K H v t\/(t=.type "tuple" /\∃a ys,v=.ref a/\fS K H a ys)\/(t=.type "list" /\∃a ys,v=.ref a/\eE K H a ys)):=by
 refine⟨_,rfl,?_⟩;cases d<;>simp only[Dn] at h
 .subst h;exact .inl .non
 .subst h;exact .inl (.bl _)
 .subst h;exact .inl (.int _)
 .subst h;exact .inl (.str _)
 .obtain ⟨a,xs,rfl,hq,_⟩:=h;exact .inr (.inl ⟨rfl,a,xs,rfl,(fS.of hq)⟩)
 .obtain ⟨a,xs,rfl,hq,_⟩:=h;exact .inl (.lst hq)
 .obtain ⟨a,rfl,hq⟩:=h;exact .inr (.inr ⟨rfl,a,_,rfl,hq.sq⟩)
 .obtain ⟨a,xs,rfl,hq,_⟩:=h;exact .inl (.dK hq)
 .exact hne.elim
 .exact hne.elim
 .exact hne.elim
theorem Mj{T:String}{x:aj}{e:ar}{t:WE}{p p2 pos:bg}(hT:JF T)(hm:X.mg "isinstance"=ab)(hmT:X.mg x=ab)(hv:bootBuiltins x=aa (.type T))(he:dE X e t)(hg:Gl X "isinstance":=by rfl)(hgT:Gl X x:=by rfl)(hn:x ≠ "__name__":=by decide)(hdb:Zu x:=by decide)
  (hs:aq [e,.Name x p2] X.env=(af,eval e X.env)::aq [.Name x p2] X.env:=by rfl) (hs2:aq [.Name x p2] X.env=(af,eval (.Name x p2) X.env)::aq [] X.env:=by rfl) (hpl:(dg pos (aq [.Name x p2] X.env)).any (·.1)=af:=by rfl):
  dE X (.Call (.Name "isinstance" p) [e,.Name x p2] [] pos) (Ml T t) :=
 imp (rB (VF (T:=T)) hg hm a35 (iF he (iF (ZO (v:=.ty T) hgT hmT hv rfl hn hdb) m9 hs2) hs) (by decide) (by decide) hs hpl) λσ H Q Mi=>by obtain⟨S,ρ,Q3,fc,sl,ht,k⟩:=Mi;refine⟨S,ρ,_,fc,sl,ht,λv H1 d s1 d1 q1=>?_⟩;obtain⟨tt,e1,e2⟩:=Ts q1.1 d1;refine⟨v,tt,isT T d,rfl,e2,?_,k _ H1 (.bl _) s1 (by simp only[Dn]) q1.2⟩;rw[e1];exact Mk hT d
noncomputable def Cp:List D->Option (List Bool)
 |[]=>aa []
 |.bl b::r=>(Cp r).map (b :: ·)
 |_::_=>ab
theorem range_all(bs:List Bool):(bh bs.length).all (λi=>bs.getD i ae)=bs.all id:=by
 induction bs with
 |nil=>rfl
 |cons b bs ih=>rw[cy,ou,kz,q_,kz,<- ih];rfl
theorem range_any(bs:List Bool):(bh bs.length).any (λi=>bs.getD i ae)=bs.any id:=by
 induction bs with
 |nil=>rfl
 |cons b bs ih=>rw[cy,ou,ji,qz,ji,<- ih];rfl
def blF(f:List Bool->Bool):F1
 |[.lst ds],Q=>(match Cp ds with|some bs=>Q (.bl (f bs))|none=>False)
 |_,_=>False
def F4:List V->Hp->VK->Prop:=λxs H Q=>∃a ns,xs=[.ref a]/\H a=aa (.lst (ns.map V.int))/\ns.length<64 /\∀ns':Q0e,ns'.Perm ns->ns'.Pairwise (· <= ·) ->∀p,H p=ab->Q (.ref p) (upd H p (.lst (ns'.map V.int)))
theorem lR:fM X (.builtin "sorted") F4:=by
 intro pins s σ H xs us Q I r h;obtain⟨a,ns,rfl,ha,fm,q⟩:=h;obtain⟨u,rfl,ru⟩:=vals1 r;cases ru;obtain⟨its,rv,p,hz⟩:=I.list (eE.of ha);have hi:=intsAre_of rv;have hlen:its.length=ns.length:=by have:=rv.length;rw[au] at this;exact this.symm
 refine sorted_ints p.isList hi (by omega) λout ns' a1 a2 a3=>?_;have hfr:H (s.heap.objs.size+1)=ab:=I.hok.fresh (lr _);obtain⟨e1,hat⟩:=Ep s.heap its out;have hz2:ns'.length<=bc:=by rw[a2.length_eq,gp];omega
 have I1:Inv X pins σ (upd H (s.heap.objs.size+1) (.lst (ns'.map V.int))) {s with heap:=sortedAll s.heap its out} :=
  I.laid (t':=s.toks) (λb o e=>Eo e) (lr _) ⟨by rw[au];exact hz2,out.toList,e1,n8 a1,by simpa[seqObj] using hat⟩
 exact⟨.ref _,_,I1,rfl,q ns' a2 a3 _ hfr⟩
def intsOf:List D->Option (List Int)
 |[]=>aa []
 |.int b::r=>(intsOf r).map (b :: ·)
 |_::_=>ab
theorem dZ:∀bs:Q0e,intsOf (bs.map D.int)=aa bs
 |[]=>rfl
 |b::bs=>by rw[bp,intsOf,dZ bs];rfl
theorem tP:∀{ds:List D} {bs:Q0e},intsOf ds=aa bs->ds=bs.map D.int
 |[],bs,h=>by cases h;rfl
 |.int b::r,bs,h=>by
  rw[intsOf] at h
  cases q:intsOf r with
  |none=>rw[q] at h;cases h
  |some cs=>rw[q] at h;cases h;rw[bp,tP q]
 |.non::r,bs,h=>by cases h
 |.bl _::r,bs,h=>by cases h
 |.str _::r,bs,h=>by cases h
 |.tup _::r,bs,h=>by cases h
 |.lst _::r,bs,h=>by cases h
 |.jD _::r,bs,h=>by cases h
 |.gA _ _::r,bs,h=>by cases h
 |.dP _ _ _::r,bs,h=>by cases h
def VG:F1
 |[.lst ds],Q=>(match intsOf ds with|some ns=>ns.length<64 /\∀ns':Q0e,ns'.Perm ns->ns'.Pairwise (· <= ·)->Q (.lst (ns'.map D.int))|none=>False)
 |_,_=>False
theorem aAP{K:ao}:C3F K F4 VG:=by
 intro S H xs ds Q3 Q fc hd hf k
 match ds,hf with
 |[.lst es],hf =>
  obtain⟨v,r,rfl,h1,h2⟩:=hd.bD;simp only[aS] at h2;subst h2;simp only[Dn] at h1;obtain⟨a,ys,rfl,ha,sa,da⟩:=h1;have hf2:(match intsOf es with|some ns=>ns.length<64 /\∀ns':Q0e,ns'.Perm ns->ns'.Pairwise (· <= ·)->Q3 (.lst (ns'.map D.int))|none=>False):=hf
  clear hf
  cases q:intsOf es with
  |none=>rw[q] at hf2;exact hf2.elim
  |some ns =>
   rw[q] at hf2;have e:=tP q;subst e;have e2:=aS.ints.mp da;subst e2;exact⟨a,ns,rfl,ha,hf2.1,λns' h1 h2 p hp=>k p _ _ _ hp aP (aO hp) (aS.ints.mpr rfl) (hf2.2 ns' h1 h2)⟩
def aAQ(hm:X.mg "sorted"=ab)(ha:zC X [e] t)(hg:Gl X "sorted":=by rfl)
  (he:Zs X e []:=by rfl):JA X (.Call (.Name "sorted" p) [e] [] pos) (U3 VG t):=vJ lR aAP ua hg hm ha (by decide) (by decide) he (by rfl)
end
section
variable{X:Cx}
def O6(hg:Gl X "range")(hm:X.mg "range"=ab)(ha:PA X [a] ta)(hs:aq [a] X.env=[(af,eval a X.env)]:=by rfl):
  PE X (.Call (.Name "range" p) [a] [] pos) (λσ H Q=>ta σ H λvs H1=>∃j:Int,vs=[.int j] /\∀p,H1 p=ab->Q (.ref p) (upd H1 p (.rng 0 j))):=by
 intro pins s σ H Q I h;refine ub (m7 I hg hm Es (qp (eK (ha pos pins s σ H _ I h) λus s1 ⟨vs,H1,I1,r1,q1⟩=>?_) hs rfl));obtain⟨j,e,q⟩:=q1;subst e;obtain⟨u,rfl,ru⟩:=vals1 r1;obtain⟨t,rfl⟩:=ru;refine a0I ?_;exact⟨.ref s1.heap.objs.size,_,I1.laid (o:=.rng 0 j) (λb o e=>di _ e) (bj _) ⟨_,_,_,gc _ rfl⟩,rfl,q _ (I1.hok.fresh (bj _))⟩
def qR{lo:Int}{n:Nat}{acc:Array ai}(h:ItemsOf (λi v=>∃t,v=.int (lo+(i:Nat)*1) t) acc n):Vals ((tN lo n).map V.int) acc.toList:=by
 obtain⟨hz,hv⟩:=h;have key:∀(l:Q0f) (k:Nat) (m:Nat),l.length=m->(∀(j:Nat) (v:ai),l[j]?=aa v ->∃t,v=jv (lo+((k+j:Nat):Int)) t)->Vals (((List.range' k m).map λi:Nat=>lo+(i:Int)).map V.int) l:=by
  intro l
  induction l with
  |nil=>intro k m hm _;subst hm;exact .nil
  |cons v l ih =>
   intro k m hm hh;subst hm;rw[cy,List.range'_succ,bp,bp];refine .cons ?_ (ih (k+1) l.length rfl λj w e=>?_)
   .obtain ⟨t,e⟩:=hh 0 v (by simp);exact⟨t,by simpa using e⟩
   .obtain ⟨t,e2⟩:=hh (j+1) w (by simpa using e);exact⟨t,by rw[e2];congr 1;congr 1;congr 1;omega⟩
 have:=key acc.toList 0 n (by simpa using hz) λj v e=>by obtain⟨t,e2⟩:=hv j v (by simpa using e);exact⟨t,by rw[e2];simp⟩
 unfold tN;rw[List.range_eq_range'];exact this
theorem zE(hc:X.calm=ae):fM X (.type "list") (λxs H Q=>∃p j,xs=[.ref p]/\H p=aa (.rng 0 j) /\ -(2^62)<=j/\j<=16777216 /\∀l,H l=ab->Q (.ref l) (upd H l (.lst ((tN 0 j.toNat).map V.int)))):=by
 intro pins s σ H xs us Q I r h;obtain⟨p,j,rfl,hp,h0,h1,q⟩:=h;obtain⟨u,rfl,ru⟩:=vals1 r;cases ru;obtain⟨t,u,v,e⟩:=I.hok p _ hp;have hsz:a1N 0 j 1=(j.toNat:Int):=by rw[a0A];split<;>omega
 refine call_list_range (a:=0) (b:=j) (c:=1) (n:=j.toNat) (I.ok.hd hc) e (small_one (by omega) (by omega) (by omega) (by omega)) hsz (by omega) λh' tk acc' c' kp hn hit=>?_;have hfr:H s.heap.objs.size=ab:=I.hok.fresh (bj _);have hv:Vals ((tN 0 j.toNat).map V.int) acc'.toList:=qR hit;refine⟨.ref s.heap.objs.size,_,I.laid (o:=.lst ((tN 0 j.toNat).map V.int)) kp (bj _) ⟨?_,acc'.toList,c',hv,by simpa using hn⟩,rfl,q _ hfr⟩;rw[au,uH,gp];omega
noncomputable def Yi(t:WA):WE:=λρ Q=>t ρ λds=>match ds with
 |[.int j]=>(-(2^62)<=j/\j<=16777216)/\Q (.lst ((tN 0 j.toNat).map D.int))
 |_=>False
def JG(hc:X.calm=ae)(hm:X.mg "list"=ab)(hmr:X.mg "range"=ab)(ha:zC X [a] t)(hg:Gl X "list":=by rfl)(hgr:Gl X "range":=by rfl)(hs:aq [a] X.env=[(af,eval a X.env)]:=by rfl)
  (he:aq [.Call (.Name "range" p2) [a] [] pos2] X.env=(af,eval (.Call (.Name "range" p2) [a] [] pos2) X.env)::aq [] X.env:=by rfl):
  JA X (.Call (.Name "list" p) [.Call (.Name "range" p2) [a] [] pos2] [] pos) (Yi t) :=
 imp (AK (zE hc) hg hm a34 (iF (O6 hgr hmr ha hs) m9 he) (by decide) (by decide) he (by rfl)) λσ H Q Mh=>by
  obtain⟨S,ρ,Q3,fc,sl,ht,k⟩:=Mh;refine⟨S,ρ,_,fc,sl,ht,λvs H1 ds s1 d1 q1=>?_⟩;split at q1
  .rename_i j;obtain⟨v,r,rfl,h1,h2⟩:=d1.bD;simp only[aS] at h2;subst h2;simp only[Dn] at h1;subst h1;refine⟨j,rfl,λp hp=>⟨p,j,rfl,aP,q1.1.1,q1.1.2,λl hl=>?_⟩⟩;have hl1:H1 l=ab:=(aO hp).free hl;exact k l _ _ _ (s1.free hl1) aP ((s1.trans (aO hp)).trans (aO hl)) (aS.ints.mpr rfl) q1.2
  .exact q1.elim
def jY(ks:List Key)(ds:List D)(k:Key):Option D:=((ks.zip ds).find? λkv=>Zv (kv.1=k)).map (·.2)
theorem x5{K:ao}{S:ag->Prop}{H:Hp}{k:Key}:∀{ks:List Key} {ds:List D} {xs:List V},ks.length=xs.length->aS K S H ds xs ->
  (∀d,jY ks ds k=aa d ->∃v,mD (ks.zip xs) k=aa v/\Dn K S H d v)/\(jY ks ds k=ab->mD (ks.zip xs) k=ab)
 |[],ds,xs,_,_=>by
  refine⟨λd e=>?_,λ_=>?_⟩
  .simp [jY] at e
  .simp [mD]
 |q::ks,ds,xs,hl,dn=>by
  cases ds with
  |nil=>simp only[aS] at dn;subst dn;simp at hl
  |cons d0 ds =>
   obtain⟨v,r,rfl,h1,h2⟩:=dn.bD;have ih:=x5 (k:=k) (ks:=ks) (ds:=ds) (xs:=r) (by simpa using hl) h2;by_cases e:q=k
   .refine ⟨λd ed=>?_,λed=>?_⟩
    .simp only[jY,Fe,gw,e,decide_true,oo] at ed;cases ed;exact⟨v,by simp[mD,e],h1⟩
    .simp [jY,e] at ed
   .refine ⟨λd ed=>?_,λed=>?_⟩
    .have ed':jY ks ds k=aa d:=by simpa[jY,e] using ed
     obtain⟨u,eu,du⟩:=ih.1 d ed';exact⟨u,by simpa[mD,e] using eu,du⟩
    .have ed':jY ks ds k=ab:=by simpa[jY,e] using ed
     simpa[mD,e] using ih.2 ed'
theorem VH(hN:X.N.Nodup)(hi:X.N[i]?=aa x:=by rfl)(hx:Loc X.env.scope x:=by walk_at "0")(hs:ft (.Dict [] [] p) (aa (.Name x pos')) pos.line X.env=pure af:=by rfl)(hf:Zr X x:=by walk_at "0"):
  CU X (.Assign [.Name x pos'] (.Dict [] [] p) pos) (λE ρ=>E.nx (ρ.set i (.ow (.gA [] [])))):=jQ (pU hN hi hx UR hs hf) λB σ H ⟨H₀,S,w,ρ,G,E,hl,st,ht,ok⟩=>λp hp =>
 ok.nx _ _ _ _ (by rw[gz];exact hl) (st.I0 (d:=.gA [] []) (by rw[hl];exact iX hi) (aO hp) hp ⟨[],aP,rfl,aS.nil⟩) ht
noncomputable def F5:D->Option Key
 |.int i=>aa (.inl i)
 |.str x=>aa (.inr x)
 |_=>ab
theorem VI{K:ao}{S:ag->Prop}{H:Hp}{d:D}{v:V}{k:Key}(h:Dn K S H d v)(e:F5 d=aa k):v=kV k:=by cases d<;>simp only[F5] at e<;>cases e<;>simp only[Dn] at h<;>exact h
def vp:F2:=λx y Q=>match x,F5 y with
 |.gA ks ds,aa k=>(match jY ks ds k with|some d=>Q d|none=>False)
 |_,_=>False
theorem Mg{o i:ar}{pos:bg}{to ti:WE}(hu:X.A.units+1<cc)(ho:dE X o to)(hi:dE X i ti)(hs:IY i:=by intro _ _;rfl):dE X (.Subscript o i pos) (iA vp to ti):=imp (Z8 hu ho hi hs) λσ H Q Mf=>by
 obtain⟨S,ρ,Q3,fc,sl,ht,k⟩:=Mf;refine⟨S,ρ,_,fc,sl,ht,λv H1 d s1 d1 q1=>?_⟩;refine⟨S,ρ,_,bQ fc s1,Sl.fits (.same s1) sl,q1,λu H2 d2 s2 yQ q2=>?_⟩;unfold vp at q2;split at q2
 .rename_i ks ds kk ek;have d1':=Dn.fits (.same s2) _ _ d1;simp only[Dn] at d1';obtain⟨a,xs,rfl,ha,sa,hl,da⟩:=d1';split at q2
  .rename_i d3 e3;obtain⟨v3,ev,dv⟩:=(x5 hl da).1 d3 e3;have eu:=VI yQ ek;subst eu;refine⟨a,v3,rfl,?_,k v3 H2 d3 (s1.trans s2) dv q2⟩;have g:=OW.k (k:=kk) ha;rw[ev] at g;exact g
  .exact q2.elim
 .exact q2.elim
def Tr(i:Nat)(t:WX)(tk:WE):WS:=λE ρ=>t ρ λρ' d=>(match ρ'[i]? with|some (.ow (.gA _ _))=>True|_=>False)/\tk (bC ρ') λkd=>match ρ'[i]?,F5 kd with
 |some (.ow (.gA ks ds)),aa k=>(jY ks ds k=ab/\ds.length<bc)/\E.nx (ρ'.set i (.ow (.gA (ks++[k]) (ds++[d]))))
 |_,_=>False
theorem Tq{i:Nat}{x:aj}{e k:ar}{t:WX}{tk:WE}{pos pos' p:bg}(hu:X.A.units+1<cc)(he:FU X e t)(hk:dE X k tk)
  (hN:X.N[i]?=aa x:=by rfl) (hv:y6 X.env.scope x:=by walk_at "1") (hd:Zu x:=by decide) (hcd:Zt x:=by decide)
  (hs:ft e (aa (.Subscript (.Name x p) k pos')) pos.line X.env=pure af:=by rfl):
  CU X (.Assign [.Subscript (.Name x p) k pos'] e pos) (Tr i t tk):=jQ (Z9 hu (lN hN hv hd hcd) hk he hs) λB σ H Lf=>by
 obtain⟨H₀,S,w,ρ,G,E,hl,st,ht,ok⟩:=Lf;refine⟨H₀,S,w,ρ,G,_,hl,st,ht,λw' v H' ρ' d st' d' q'=>?_⟩;obtain⟨q0,q'⟩:=q';split at q0
 .rename_i ks0 ds0 e0;obtain⟨a0,_,_⟩:=st'.own i _ e0;refine⟨_,a0,S,bC ρ',_,st'.MK,st'.all,q',λkv H2 dk s2 XZ q2=>?_⟩;split at q2
  .rename_i ks ds kk e1 ek;have st2:=st'.same s2;obtain⟨a,b,c⟩:=st2.own i _ e1;obtain⟨xs,hp,hlen,dn⟩:=c;have eu:=VI XZ ek;subst eu;have hno:=(x5 (k:=kk) hlen dn).2 q2.1.1;have nS:¬ SO S w' ρ' (w' i):=λ⟨_,z⟩=>z i _ e1 rfl;have hz:(ks.zip xs).length<bc:=by rw[a2r,hlen,Nat.min_self,<- dn.len];exact q2.1.2
   have Le:putK (ks.zip xs) kk v=(ks++[kk]).zip (xs++[v]):=by rw[UM v hno,a2i hlen];rfl
   have F:Fits X.K (SO S w' ρ') (SO S w' ρ') H2 (upd H2 (w' i) (.dK (putK (ks.zip xs) kk v))):=.upd (.inr (.inl ⟨_,hp⟩)) nS;refine⟨w' i,_,rfl,UP.k hp hz,ok.nx w' σ _ _ hl (st2.write (d':=.gA (ks++[kk]) (ds++[d])) e1 ⟨xs++[v],?_,by simp[hlen],aS.fits F _ _ (dn.append (aS.one (Dn.fits (.same s2) _ _ d')))⟩) q2.2⟩;rw[aP,Le]
  .exact q2.elim
 .exact q0.elim
def Co(i:Nat)(t:WE):WS:=λE ρ=>t (bC ρ) λd=>(match d with | .lst ds=>sC ds=ae|_=>False)/\E.nx (ρ.set i (.ro d))
def Tp(hN:X.N.Nodup)(he:JA X e t)(hi:X.N[i]?=aa x:=by rfl)(hx:Loc X.env.scope x:=by walk_at "0")(hs:Si X e x pos' pos:=by rfl)(hf:Zr X x:=by walk_at "0"):
  CU X (.Assign [.Name x pos'] e pos) (Co i t):=jQ (pU hN hi hx he hs hf) λB σ H Ld=>by
 obtain⟨H₀,S,w,ρ,G,E,hl,st,ht,ok⟩:=Ld;exact⟨_,bC ρ,_,st.MK,st.all,ht,λp xs H' ds hp hp' s' d' q'=>ok.nx w _ H' _ (by rw[gz];exact hl) ((st.same s').j5 (d:=.lst ds) (by rw[hl];exact iX hi) (by simp only[Dn];exact⟨p,xs,rfl,hp',st.IZ p hp,aS.zJ q'.1 d'⟩)) q'.2⟩
def Xs(c:WT)(tb:WS):WS:=λE ρ=>∃(Inv:bH->Prop) (μ:bH->Nat),Inv ρ /\∀ρ',Inv ρ'->c (bC ρ') λb=>if b=ae then tb {E with nx:=λρ2=>Inv ρ2/\μ ρ2<μ ρ',ct:=λρ2=>Inv ρ2/\μ ρ2<μ ρ',bk:=E.nx} ρ' else E.nx ρ'
theorem Xr(hp:qg (ay X.prog X.w) X.A X.env X.xe)(hc:yP X c tc)(hb:uY X body tb):CU X (.While c body [] pos) (Xs tc tb):=jQ (T7 hp hc hb) λB σ H Lc=>by
 obtain⟨H₀,S,w,ρ,G,E,hl,st,⟨Iv,μ,h0,turn⟩,ok⟩:=Lc;refine⟨λm σ H=>∃w ρ,σ.length=X.N.length/\ST X.K H₀ S w σ H ρ G/\Iv ρ/\m=μ ρ,⟨_,w,ρ,hl,st,h0,rfl⟩,?_⟩;rintro m σ2 H2 ⟨w2,ρ2,hl2,st2,iv,rfl⟩;refine⟨S,bC ρ2,_,st2.MK,st2.all,turn ρ2 iv,λb H3 s3 q3=>?_⟩
 cases b with
 |false=>rw[Zz bt] at q3 ⊢;exact ok.nx w2 σ2 H3 ρ2 hl2 (st2.same s3) q3
 |true =>
  rw[Z_ rfl] at q3 ⊢;refine⟨λσ' H'=>∃w ρ,σ'.length=X.N.length/\ST X.K H₀ S w σ' H' ρ G/\Iv ρ/\μ ρ<μ ρ2,λσ' H' ⟨w',ρ',hl',st',iv',hm⟩=>⟨_,hm,w',ρ',hl',st',iv',rfl⟩,?_⟩;exact⟨H₀,S,w2,ρ2,G,_,hl2,st2.same s3,q3,⟨λw' σ' H' ρ' hl' st' q=>⟨w',ρ',hl',st',q.1,q.2⟩,λv H' d s' d' q=>ok.rt v H' d s' d' q,λw' σ' H' ρ' hl' st' q=>ok.nx w' σ' H' ρ' hl' st' q,λw' σ' H' ρ' hl' st' q=>⟨w',ρ',hl',st',q.1,q.2⟩,ok.ex⟩⟩
noncomputable def vn:List D->D->(List D->D->Prop)->Prop
 |ds,.lst es,Q=>ds.length+es.length<=bc/\Q (ds++es) .non
 |_,_,_=>False
theorem Xq{K:ao}:M3 K MI vn:=by
 intro S H p xs ds y d Q3 Q hp dn dy hf k
 cases d with
 |lst es =>
  simp only[Dn] at dy;obtain⟨b,zs,rfl,hb,sb,db⟩:=dy;exact⟨p,b,xs,zs,rfl,rfl,hp,hb,by rw[<- dn.len,<- db.len];exact hf.1,k _ _ _ _ (dn.append db) (by simp only[Dn]) hf.2⟩
 |_=>exact hf.elim
section
variable{i:Nat}{x:aj}{e:ar}{p apos cpos:bg}{t:WX}
def aAR(he:FU X e t)(hN:X.N[i]?=aa x:=by rfl)(hv:y6 X.env.scope x:=by walk_at "1")(hd:Zu x:=by decide)(hcd:Zt x:=by decide)
  (hbase:attributeBase (.Name x p) "extend" X.env (eval (.Name x p) X.env)=eval (.Name x p) X.env:=by rfl)
  (hfew:Zq X cpos e:=by rfl)
  (hline:Q0j apos cpos:=by rfl) (hs:Zs X e []:=by rfl):
  FU X (.Call (.Attribute (.Name x p) "extend" apos) [e] [] cpos) (nu i vn t):=m1 a1k PySem.F.type_list_extend OS Xq he hN hv hd hcd hbase hfew hline hs
end
end
section
variable{X:Cx}{pins:Q0b}{σ:L2.St}{H:Hp}{s:ak}{h':a_}
theorem turnT{t':Nat}{ch:List ag}{T:ag}{xs:List V}{its:Q0f}(I:Inv X pins σ H s)(k:∀b o,b∉ch->s.heap.get? b=aa o->h'.get? b=aa o)(hf:∀b∈ch,oG X pins H b)
  (hT:s.heap.objs.size<=T) (hv:Vals xs its) (hz:xs.length<=bc) (ht:gr h' T its.toArray) (nd:DL h' T):Inv X pins σ (upd H T (.tup xs)) {s with heap:=h',toks:=t' }:=by
 have fr:H T=ab:=I.hok.fresh hT;have nT:∀{b:ag} {o:aw},s.heap.get? b=aa o->b≠T:=λ{b} {o} e z=>ib _ (f_ (b_ e) (z▸hT));have live:∀{b:ag} {u:HO},H b=aa u->b∉ch:=λ{b} {u} e z=>by rw[(hf _ z).1] at e;cases e
 refine I.call' (s':={s with heap:=h',toks:=t' }) (ch:=ch) rfl ⟨λb o e _ _ hx=>k b o hx e,λb o e _ _ hx=>⟨o.slots,k b o hx e⟩,λb o e n _=>by rw[aW (nT e)];exact n,λb o e hx=>⟨o,k b o hx e⟩,
  λb ys e=>by rw[aW (bK e fr)];exact e,λb o u e=>by rw[aW (bK e fr)];exact e,λb ps e=>by rw[aW (bK e fr),e]⟩ ?_ I.bare λb hb=>?_
 .intro b u e;by_cases hb:b=T
  .subst hb;rw[aP] at e;cases e;exact⟨hz,its,hv,ht,nd⟩
  .rw [aW hb] at e;refine(I.hok b u e).stay (λc v hc q=>k c v ?_ q) (λc q=>by rw[aW (bK q fr)];exact q) (λc ys q=>by rw[aW (bK q fr)];exact q) λc o u q=>by rw[aW (bK q fr)];exact q
   rcases hc with rfl|hc
   .exact live e
   .exact live hc
 .obtain ⟨_,f1,_,f3,f4,f5⟩:=hf b hb;exact⟨f3,f1,f4,f5⟩
def F6{t':Nat}{ch:List ag}(I:Inv X pins σ H s)(k:∀b o,b∉ch->s.heap.get? b=aa o->h'.get? b=aa o)(hf:∀b∈ch,oG X pins H b):Inv X pins σ H {s with heap:=h',toks:=t' }:=by
 have live:∀{b:ag} {u:HO},H b=aa u->b∉ch:=λ{b} {u} e z=>by rw[(hf _ z).1] at e;cases e
 refine I.call' (s':={s with heap:=h',toks:=t' }) (ch:=ch) rfl ⟨λb o e _ _ hx=>k b o hx e,λb o e _ _ hx=>⟨o.slots,k b o hx e⟩,λb o e n _=>n,λb o e hx=>⟨o,k b o hx e⟩,
  λb ys e=>e,λb o u e=>e,λb ps e=>e⟩ ?_ I.bare λb hb=>?_
 .intro b u e;refine(I.hok b u e).stay (λc v hc q=>k c v ?_ q) (λc q=>q) λc ys q=>q;rcases hc with rfl|hc
  .exact live e
  .exact live hc
 .obtain ⟨_,f1,_,f3,f4,f5⟩:=hf b hb;exact⟨f3,f1,f4,f5⟩
end
def Itp(go:Nat->Hp->Prop)(Y:Nat->Hp->List V->Prop)(stop:Nat->Hp->Prop):It:=⟨go,λi H x H'=>∃T vs,x=.ref T/\H T=ab/\H'=upd H T (.tup vs)/\Y i H vs,stop⟩
def MP(P:bf)(w:az)(A:bq)(it:ag)(wr:List ag)(n:Nat)(Pt:Nat->Array ai->Prop)(St:Nat->a_->Prop)(Mid:Nat->ag->a_->Prop):Prop :=
 ∀i (s:ak) (Q:Option ai->ak->Prop) (E:Q0c),i<n->St i s.heap ->
  (∀T vals h' tk,Pt i vals->s.heap.objs.size<=T->h'.IsTuple T vals->DL h' T->Mid i T h'->(∀b o,b∉wr->s.heap.get? b=aa o->h'.get? b=aa o)->Q (aa (.ref T)) {s with heap:=h',toks:=tk}) ->
  ax (ay P w) A (pyNext (.ref it)) Q E s
theorem pZ{P:bf}{w:az}{K:ao}{es:List ar}{kk:Nat}{tp:bg}{go:Nat->Hp->Prop}{Y:Nat->Hp->List V->Prop}{stop:Nat->Hp->Prop}{fp:List ag}{it:ag}{tn:Nat->a_->Prop}(mem:it∈fp)
  (obj:∀i h,tn i h ->∀b∈fp,∃o,h.get? b=aa o /\∀v,o.data≠.cell v) (keep:∀i h h',tn i h->(∀b∈fp,∀o,h.get? b=aa o->h'.get? b=aa o)->tn i h')
  (wk:∀(X:Cx),X.prog=P->X.w=w->X.K=K->X.calm=ae ->∀(i:Nat) (pins:Q0b) (s:ak) (σ:L2.St) (H:Hp),Inv X pins σ H s->tn i s.heap->go i H\/stop i H ->
   ∃fp2 wr n Pt St Mid,(WalksT P w X.A it fp2 wr n Pt St Mid/\MP P w X.A it wr n Pt St Mid)/\St i s.heap/\(∀b∈wr,b∈fp)/\(∀h,St (i+1) h->tn (i+1) h) /\
    (go i H->i<n /\∀vals,Pt i vals ->∃vs,vs.length<=bc/\Vals vs vals.toList/\Y i H vs)/\(stop i H->i=n))
  (self:∀(A:bq) (i:Nat) (s:ak) (Q:Q0c) (E:Q0c),tn i s.heap->Q (.ref it) s->ax (ay P w) A (pyIter (.ref it)) Q E s):
  Turn P w K (.Tuple es kk tp) (Itp go Y stop) fp it tn where
 mem:=mem
 obj:=obj
 keep:=keep
 self:=self
 item:=by intro X hP hw hK hc i pins s σ H E I hf st hg;obtain⟨fp2,wr,n,Pt,St,Mid,⟨W,J2⟩,hs,sub,nx,ok,_⟩:=wk X hP hw hK hc i pins s σ H I st (.inl hg);obtain⟨hi,ok⟩:=ok hg;refine J2 i s _ _ hi hs λT vals h1 tk hp hT ht nd hm k1=>⟨.ref T,rfl,W.go es kk tp i T _ _ _ hm λh2 s2 k2=>?_⟩;obtain⟨vs,hz,hv,hy⟩:=ok vals hp;obtain⟨o,eo,c,d⟩:=ht;have ht2:gr h2 T vals.toList.toArray:=⟨o,k2 T o (W.apart i T _ hm) eo,c,by simpa using d⟩;have I2:Inv X pins σ (upd H T (.tup vs)) {s with heap:=h2,toks:=tk}:=turnT (t':=tk) (ch:=wr) I (λb o hb e=>k2 b o hb (k1 b o hb e)) (λb hb=>hf b (sub b hb)) hT hv hz ht2 (nd.at eo (k2 T o (W.apart i T _ hm) eo));refine⟨.ref T,upd H T (.tup vs),I2,rfl,⟨T,vs,rfl,I.hok.fresh hT,rfl,hy⟩,nx h2 s2,λb hb=>?_⟩;obtain⟨ob,eb,_⟩:=obj _ _ st b hb;have nb:b≠T:=λz=>ib _ (f_ (b_ eb) (z▸hT));rw[aW nb];exact(hf b hb).1
 done:=by intro X hP hw hK hc i pins s σ H E I hf st hg;obtain⟨fp2,wr,n,Pt,St,Mid,⟨W,_⟩,hs,sub,nx,_,ok⟩:=wk X hP hw hK hc i pins s σ H I st (.inr hg);obtain rfl:=ok hg;exact W.done s _ _ hs λh2 tk k2=>⟨rfl,F6 (t':=tk) (ch:=wr) I k2 λb hb=>hf b (sub b hb)⟩
def Iel(K:ao)(l:ag):It:=Itp (λi H=>∃xs v,eE K H l xs/\xs[i]?=aa v) (λi H vs=>∃v,vs=[.int i,v] /\∀xs,eE K H l xs->xs[i]?=aa v) (λi H=>∃xs,eE K H l xs/\xs.length=i)
def Iet(K:ao)(l:ag):It:=Itp (λi H=>∃xs v,fS K H l xs/\xs[i]?=aa v) (λi H vs=>∃v,vs=[.int i,v] /\∀xs,fS K H l xs->xs[i]?=aa v) (λi H=>∃xs,fS K H l xs/\xs.length=i)
def rK:[V.int 0,V.int 0].length<=bc:=by rw[gp];decide
theorem F7(e it l:ag)(hei:e≠it)(hle:l≠e)(hli:l≠it)(items:Array ai):MP prog w A e [e,it] items.size (λi vals=>∃t x,items[i]?=aa x/\vals=#[.int i t,x])
  (λi h=>(∃old,tq h e it i old)/\h.IsListIter it l i/\h.IsList l items) (λi T h=>(∃x,IsEnumOut h e it ((i:Int)+1) x T)/\h.IsListIter it l (i+1)/\h.IsList l items/\T≠e/\T≠it):=by
 intro i s Q E hi ⟨⟨old,a1⟩,a2,a3⟩ q;have ix:items[i]?=aa items[i]:=lj hi;refine wpAny_pyNext_enum_item a1 a2 a3 ix hei λg b1 b2 b3 _ kp=>?_;have l1:e<s.heap.objs.size:=b_ a1;have l2:it<s.heap.objs.size:=by obtain⟨_,y,_⟩:=a2;exact b_ y
 refine q s.heap.objs.size #[.int i s.toks,items[i]] g (s.toks+1) ⟨_,_,ix,rfl⟩ (bj _) ⟨_,b3,rfl,_,rfl⟩ (DL.is b3 rfl) ⟨⟨_,b1⟩,b2,a3.at λo y=>kp l o hle hli y,iz l1,iz l2⟩ λb o hb y=>?_;simp only[bz,oy,or_false,not_or] at hb;exact kp b o hb.1 hb.2 y
theorem F8{prog:bf}{w:az}{A:bq}{it:ag}{fp:List ag}{n:Nat}{P:Nat->ai->Prop}{St:Nat->a_->Prop}(D:Draws prog w A.in1 it fp n P St)(e:ag)(hei:e≠it)(hef:e∉fp):
  MP prog w A e [e,it] n (λi vals=>∃t x,P i x/\vals=#[.int i t,x]) (λi h=>(∃old,tq h e it i old)/\St i h) (λi T h=>(∃x,IsEnumOut h e it ((i:Int)+1) x T)/\St (i+1) h/\T≠e/\T≠it):=by
 intro i s Q E hi ⟨⟨old,a1⟩,a2⟩ q;refine wpAny_pyNext_enum_itemD D a1 a2 hi hei hef λx g tk px b1 b2 b3 _ kp=>?_;have l1:e<s.heap.objs.size:=b_ a1;have l2:it<s.heap.objs.size:=by obtain⟨_,y⟩:=D.live _ _ a2;exact b_ y
 refine q s.heap.objs.size #[.int i tk,x] g (tk+1) ⟨_,_,px,rfl⟩ (bj _) ⟨_,b3,rfl,_,rfl⟩ (DL.is b3 rfl) ⟨⟨_,b1⟩,b2,iz l1,iz l2⟩ λb o hb y=>?_;simp only[bz,oy,or_false,not_or] at hb;exact kp b o hb.1 hb.2 y
theorem JH(z TI TO i1 i2 l1 l2:ag)(D:ZipApart z TI TO i1 i2 l1 l2)(xs ys:Array ai):
  MP prog w A z [z,TO,i1,i2] (min xs.size ys.size) (λi vals=>∃x y,xs[i]?=aa x/\ys[i]?=aa y/\vals=#[x,y])
   (λi h=>IsZip h z TI TO .none/\qi h TI (.ref i1) (.ref i2)/\(∃a b,qi h TO a b)/\h.IsListIter i1 l1 i/\h.IsListIter i2 l2 i/\h.IsList l1 xs/\h.IsList l2 ys)
   (λi T h=>IsZip h z TI TO (rawInt T)/\qi h TI (.ref i1) (.ref i2)/\(∃a b,qi h TO a b)/\h.IsListIter i1 l1 (i+1)/\h.IsListIter i2 l2 (i+1)/\h.IsList l1 xs/\h.IsList l2 ys/\T≠z/\T≠TO/\T≠i1/\T≠i2):=by
 intro i s Q E hi ⟨a1,a2,⟨x,y,a3⟩,a4,a5,a6,a7⟩ q;have n1:i<xs.size:=by omega
 have n2:i<ys.size:=by omega
 refine wpAny_pyNext_zip_item D a1 a2 a3 a4 a5 a6 a7 (lj n1) (lj n2) λg b1 b2 b3 b4 b5 _ kp=>?_;have fresh:∀{c:ag} {o:aw},s.heap.get? c=aa o->s.heap.objs.size≠c:=λe=>iz (b_ e);refine q s.heap.objs.size #[xs[i],ys[i]] g s.toks ⟨_,_,lj n1,lj n2,rfl⟩ (bj _) ⟨_,b5,rfl,_,rfl⟩ (DL.is b5 rfl)
  ⟨b1,kp _ _ D.TIz D.TITO D.TIi1 D.TIi2 a2,⟨_,_,b2⟩,b3,b4,a6.at λo e=>kp _ o D.l1z D.l1TO D.l1i1 D.l1i2 e,a7.at λo e=>kp _ o D.l2z D.l2TO D.l2i1 D.l2i2 e,fresh a1,fresh a3,(by obtain⟨_,e,_⟩:=a4;exact fresh e),(by obtain⟨_,e,_⟩:=a5;exact fresh e)⟩ λb o hb e=>?_
 simp only[bz,oy,or_false,not_or] at hb;exact kp b o hb.1 hb.2.1 hb.2.2.1 hb.2.2.2 e
theorem JI{P:bf}{w:az}{K:ao}{es:List ar}{kk:Nat}{tp:bg}{e it l:ag}(hei:e≠it)(hle:l≠e)(hli:l≠it):
  Turn P w K (.Tuple es kk tp) (Iel K l) [e,it] e (λi h=>(∃old,tq h e it i old)/\h.IsListIter it l i):=by
 refine pZ (by simp) (λi h st b hb=>?_) (λi h h2 st k=>?_) (λX hP hw hK hc i pins s σ H I st hg=>?_) (λA i s Q E st q=>?_)
 .obtain ⟨⟨old,a⟩,o,c,d1,d2⟩:=st;rcases bz.mp hb with rfl|hq
  .exact ⟨_,a,λv z=>by cases z⟩
  .rw [cm.mp hq];exact⟨o,c,λv z=>by rw[d2] at z;cases z⟩
 .obtain ⟨⟨old,a⟩,b⟩:=st;exact⟨⟨old,k e (by simp) _ a⟩,b.at λo q=>k it (by simp) o q⟩
 .subst hP hw hK;have hq:∃xs,eE X.K H l xs:=by rcases hg with⟨xs,_,a,_⟩|⟨xs,a,_⟩<;>exact⟨xs,a⟩
  obtain⟨xs,hq⟩:=hq;obtain⟨its,rv,p,hz⟩:=I.list hq;have hl:=rv.length;refine⟨_,_,_,_,_,_,⟨WalksT.enumerate (I.ok.hd hc) e it l hei hle hli its.toArray,F7 e it l hei hle hli its.toArray⟩,⟨st.1,st.2,p.isList⟩,λb hb=>hb,λh q=>⟨q.1,q.2.1⟩,λg=>?_,λg=>?_⟩
  .obtain ⟨ys,v,hy,hv⟩:=g;obtain rfl:=I.fX hy hq;obtain⟨u,hu,ru⟩:=rv.get hv;have hlt:i<ys.length:=(cg.mp hv).1;refine⟨by rw[cn,<- hl];exact hlt,λvals q=>?_⟩;obtain⟨t,x,hx,rfl⟩:=q;have ex:x=u:=by
    have:its[i]?=aa x:=by simpa using hx
    rw[hu] at this;exact(c_ this).symm
   subst ex;exact⟨[.int i,v],rK,.cons ⟨t,rfl⟩ (.cons ru .nil),v,rfl,λzs hzs=>by rw[I.fX hzs hq];exact hv⟩
  .obtain ⟨ys,hy,e2⟩:=g;obtain rfl:=I.fX hy hq;rw[cn,<- hl,e2]
 .obtain ⟨⟨old,a⟩,b⟩:=st;exact xg a q
def Izl(K:ao)(l m:ag):It:=Itp (λi H=>∃xs ys v u,eE K H l xs/\eE K H m ys/\xs[i]?=aa v/\ys[i]?=aa u) (λi H vs=>∃v u,vs=[v,u]/\(∀xs,eE K H l xs->xs[i]?=aa v) /\∀ys,eE K H m ys->ys[i]?=aa u)
 (λi H=>∃xs ys,eE K H l xs/\eE K H m ys/\min xs.length ys.length=i)
theorem VJ{P:bf}{w:az}{K:ao}{es:List ar}{kk:Nat}{tp:bg}{z TI TO i1 i2 l m:ag}(D:ZipApart z TI TO i1 i2 l m):
  Turn P w K (.Tuple es kk tp) (Izl K l m) [z,TI,TO,i1,i2] z (λi h=>IsZip h z TI TO .none/\qi h TI (.ref i1) (.ref i2)/\(∃a b,qi h TO a b)/\h.IsListIter i1 l i/\h.IsListIter i2 m i):=by
 refine pZ (by simp) (λi h st b hb=>?_) (λi h h2 st k=>?_) (λX hP hw hK hc i pins s σ H I st hg=>?_) (λA i s Q E st q=>?_)
 .obtain ⟨a1,a2,⟨x,y,a3⟩,⟨o4,c4,_,d4⟩,o5,c5,_,d5⟩:=st;simp only[bz,or_false,oy] at hb;rcases hb with rfl|rfl|rfl|rfl|rfl
  .exact ⟨_,a1,λv z=>by cases z⟩
  .exact ⟨_,a2,λv z=>by cases z⟩
  .exact ⟨_,a3,λv z=>by cases z⟩
  .exact ⟨o4,c4,λv z=>by rw[d4] at z;cases z⟩
  .exact ⟨o5,c5,λv z=>by rw[d5] at z;cases z⟩
 .obtain ⟨a1,a2,⟨x,y,a3⟩,a4,a5⟩:=st;exact⟨k z (by simp) _ a1,k TI (by simp) _ a2,⟨x,y,k TO (by simp) _ a3⟩,a4.at λo q=>k i1 (by simp) o q,a5.at λo q=>k i2 (by simp) o q⟩
 .subst hP hw hK;have hq:∃xs ys,eE X.K H l xs/\eE X.K H m ys:=by rcases hg with⟨xs,ys,_,_,a,b,_⟩|⟨xs,ys,a,b,_⟩<;>exact⟨xs,ys,a,b⟩
  obtain⟨xs,ys,hq,hq2⟩:=hq;obtain⟨its,rv,p,hz⟩:=I.list hq;obtain⟨its2,rv2,p2,hz2⟩:=I.list hq2;have hl:=rv.length;have hl2:=rv2.length;refine⟨_,_,_,_,_,_,⟨WalksT.zip2 (I.ok.hd hc) z TI TO i1 i2 l m D its.toArray its2.toArray,JH z TI TO i1 i2 l m D its.toArray its2.toArray⟩,⟨st.1,st.2.1,st.2.2.1,st.2.2.2.1,st.2.2.2.2,p.isList,p2.isList⟩,λb hb=>?_,λh q=>⟨q.1,q.2.1,q.2.2.1,q.2.2.2.1,q.2.2.2.2.1⟩,λg=>?_,λg=>?_⟩
  .simp only[bz,oy,or_false] at hb ⊢;rcases hb with rfl|rfl|rfl|rfl<;>simp
  .obtain ⟨x',y',v,u,hy,hy2,hv,hu⟩:=g;obtain rfl:=I.fX hy hq;obtain rfl:=I.fX hy2 hq2;obtain⟨r,er,rr⟩:=rv.get hv;obtain⟨r2,er2,rr2⟩:=rv2.get hu;have hlt:i<x'.length:=(cg.mp hv).1;have hlt2:i<y'.length:=(cg.mp hu).1;refine⟨by rw[cn,cn,<- hl,<- hl2];omega,λvals q=>?_⟩;obtain⟨x,y,hx,hy',rfl⟩:=q;have ex:x=r:=by
    have:its[i]?=aa x:=by simpa using hx
    rw[er] at this;exact(c_ this).symm
   have ey:y=r2:=by
    have:its2[i]?=aa y:=by simpa using hy'
    rw[er2] at this;exact(c_ this).symm
   subst ex ey;exact⟨[v,u],rK,.cons rr (.cons rr2 .nil),v,u,rfl,λzs hzs=>by rw[I.fX hzs hq];exact hv,λzs hzs=>by rw[I.fX hzs hq2];exact hu⟩
  .obtain ⟨x',y',hy,hy2,e2⟩:=g;obtain rfl:=I.fX hy hq;obtain rfl:=I.fX hy2 hq2;rw[cn,cn,<- hl,<- hl2,e2]
 .exact a0i st.1 q
section
variable{prog:bf}{w:az}{A:bq}{E:Q0c}{s:ak}
theorem VL(hit:s.heap.IsTupleIter it t i)(ht:s.heap.IsTuple t items)(hx:items[i]?=aa x)
  (hQ:∀h',h'.IsTupleIter it t (i+1)->qk it s.heap h'->Q x {s with heap:=h' }):ax (ay prog w) A (a1L (.ref it)) Q E s:=by
 obtain⟨⟨ol,hol,_,nl,hdl⟩,o,ho,hc,hd⟩:=zb ht hit;refine av (m:=callSpecial? _ _) (qc hit.typeIs xq (iq xq hit.typeIs a1u ?_ (a1A _)));refine av (m:=field _ 0) (n_ ho hd (x:=.ref t) rfl ?_);show ax _ _ (if af=ae then _ else _) _ _ s;rw[Zz bt];refine av (m:=field _ 1) (n_ ho hd (x:=.int i 0) rfl (av (m:=seqItems? _) (Dd hol hdl ?_)));simp only[hx,jt];refine av (a0g ho hd (by simp) (bb ⟨x,rfl,bb (hQ _ ⟨_,t_ _ ho (a1a (a1b hd _)),(Obj.cls_mapFields ..).trans hc,?_⟩ (Ef ..))⟩));rw[a1b hd];simp[rawInt]
theorem O7(hh:A.handled=ab)(hit:s.heap.IsTupleIter it t i)(ht:s.heap.IsTuple t items)(hx:items[i]?=ab)
  (hE:∀h' e,a1g it s.heap h'->(∃o,h'.get? e=aa o/\o.cls=.type "StopIteration")->E (.ref e) {s with heap:=h' }):ax (ay prog w) A (a1L (.ref it)) Q E s:=by
 obtain⟨⟨ol,hol,_,nl,hdl⟩,o,ho,hc,hd⟩:=zb ht hit;refine av (m:=callSpecial? _ _) (qc hit.typeIs xq (iq xq hit.typeIs a1u ?_ (a1A _)));refine av (m:=field _ 0) (n_ ho hd (x:=.ref t) rfl ?_);show ax _ _ (if af=ae then _ else _) _ _ s;rw[Zz bt];refine av (m:=field _ 1) (n_ ho hd (x:=.int i 0) rfl (av (m:=seqItems? _) (Dd hol hdl ?_)));simp only[hx,jt];refine av (ny (av (m:=setField _ _ _) (a0g ho hd (by simp) ?_)));have X0:A.in1.handled=ab:=hh
 wp_walk
 unfold raiseNew;apply av;apply a0m;rw[X0];exact av (bb (a0d (hE _ _ (((Ef ..).extBut.push _).push _) ⟨_,gc _ rfl,rfl⟩)))
theorem Xp(hh:A.handled=ab)(it t:ag)(hne:t≠it)(items:Array ai):Draws prog w A it [it,t] items.size (λi v=>items[i]?=aa v) (λi h=>h.IsTupleIter it t i/\h.IsTuple t items) where
 live:=λi h st=>by obtain⟨⟨o,ho,_⟩,_⟩:=st;exact⟨o,ho⟩
 frame:=λi h h' st k=>by obtain⟨⟨o,ho,r⟩,o2,ho2,r2⟩:=st;exact⟨⟨o,k it (by simp) o ho,r⟩,o2,k t (by simp) o2 ho2,r2⟩
 item:=λi s Q E hi st q=>VL st.1 st.2 (x:=items[i]) (lj hi) λh' a b=>q _ h' s.toks (lj hi) ⟨a,st.2.extBut b.extBut hne⟩ b
 done:=λs Q E st q=>O7 hh st.1 st.2 (a26 (bj _)) q
theorem O8(l:ag)(items:Array ai):Meets (Builtin.«enumerate.__new__» ⟨[.type "enumerate",.ref l],[]⟩) (λ_ R s=>s.heap.IsTuple l items /\
  R (.ok (.ret (.ref (s.heap.push {cls:=.type "tuple_iterator",data:=.fields #[.ref l,.int 0 0]}).objs.size))) {s with heap:=(s.heap.push {cls:=.type "tuple_iterator",data:=.fields #[.ref l,.int 0 0]}).push {cls:=.type "enumerate",data:=.fields #[.none,.bool af,.ref s.heap.objs.size,rawInt 0,.none,.none]} }):=by
 refine .of_wp λp0 w0 A0 R0 s h=>?_;obtain⟨hl,h⟩:=h;obtain⟨hp0,g0,d,tk,os⟩:=s;have hsub:=sub_enumerate
 wp_walk using xf hl
 refine wpAny_stack_any λ_=>bb ?_;split<;>first
  | (rename_i c _ _ _ _ _;cases (c == m_ "enumerate")<;>(wp_walk using xf hl;exact⟨_,rfl,h⟩))
  | (wp_walk using xf hl;exact⟨_,rfl,h⟩)
theorem JJ(hT:s.heap.IsTuple l items)
  (h:∀h',tq h' (s.heap.objs.size+1) s.heap.objs.size 0 .none->h'.IsTupleIter s.heap.objs.size l 0->(∀b o,s.heap.get? b=aa o->h'.get? b=aa o)->Q (.ref (s.heap.objs.size+1)) {s with heap:=h' }):ax (ay prog w) A (call (.type "enumerate") [.ref l]) Q E s:=by
 refine callType_new F.called_enumerate (by decide) (F.typeCall_enumerate_1 _) (F.newCall_enumerate_1 _) (λobj=>F.args_object_init_2 obj _) F.entry_enumerate_new (O8 l items) ⟨hT,?_⟩;generalize hh1:s.heap.push {cls:=.type "tuple_iterator",data:=.fields #[.ref l,.int 0 0]}=h1;have e1:h1.objs.size=s.heap.objs.size+1:=by rw[<- hh1,tw]
 have g1:h1.get? s.heap.objs.size=aa {cls:=.type "tuple_iterator",data:=.fields #[.ref l,.int 0 0]}:=by rw[<- hh1];exact gc _ rfl
 have k1:∀b o,s.heap.get? b=aa o->h1.get? b=aa o:=λb o e=>by rw[<- hh1];exact di _ e
 generalize X0:h1.push {cls:=.type "enumerate",data:=.fields #[.none,.bool af,.ref s.heap.objs.size,rawInt 0,.none,.none]}=h2;have g2:h2.get? h1.objs.size=aa {cls:=.type "enumerate",data:=.fields #[.none,.bool af,.ref s.heap.objs.size,rawInt 0,.none,.none]}:=by rw[<- X0];exact gc _ rfl
 have k2:∀b o,h1.get? b=aa o->h2.get? b=aa o:=λb o e=>by rw[<- X0];exact di _ e
 refine⟨⟨_,g2,rfl⟩,?_⟩;rw[e1] at g2 ⊢;exact h h2 g2 ⟨_,k2 _ _ g1,rfl,rfl⟩ λb o e=>k2 b o (k1 b o e)
end
theorem JK{P:bf}{w:az}{K:ao}{es:List ar}{kk:Nat}{tp:bg}{e it l:ag}(hei:e≠it)(hle:l≠e)(hli:l≠it):
  Turn P w K (.Tuple es kk tp) (Iet K l) [e,it] e (λi h=>(∃old,tq h e it i old)/\h.IsTupleIter it l i):=by
 refine pZ (by simp) (λi h st b hb=>?_) (λi h h2 st k=>?_) (λX hP hw hK hc i pins s σ H I st hg=>?_) (λA i s Q E st q=>?_)
 .obtain ⟨⟨old,a⟩,o,c,d1,d2⟩:=st;rcases bz.mp hb with rfl|hq
  .exact ⟨_,a,λv z=>by cases z⟩
  .rw [cm.mp hq];exact⟨o,c,λv z=>by rw[d2] at z;cases z⟩
 .obtain ⟨⟨old,a⟩,o,b,r⟩:=st;exact⟨⟨old,k e (by simp) _ a⟩,o,k it (by simp) o b,r⟩
 .subst hP hw hK;have hq:∃xs,fS X.K H l xs:=by rcases hg with⟨xs,_,a,_⟩|⟨xs,a,_⟩<;>exact⟨xs,a⟩
  obtain⟨xs,hq⟩:=hq;obtain⟨its,rv,p,hz⟩:=I.tuple hq;have hl:=rv.length;have D:Draws X.prog X.w X.A.in1 it [it,l] its.toArray.size (λi v=>its.toArray[i]?=aa v) (λi h=>h.IsTupleIter it l i/\h.IsTuple l its.toArray):=Xp (show X.A.in1.handled=ab from I.ok.hd hc) it l hli its.toArray;have hef:e∉[it,l]:=λz=>by
   rcases bz.mp z with z1|z1
   .exact hei z1
   .exact hle (cm.mp z1).symm
  refine⟨_,_,_,_,_,_,⟨WalksT.enumerateD D e hei hef (by simp),F8 D e hei hef⟩,⟨st.1,st.2,p⟩,λb hb=>hb,λh q=>⟨q.1,q.2.1⟩,λg=>?_,λg=>?_⟩
  .obtain ⟨ys,v,hy,hv⟩:=g;obtain rfl:=I.jB hy hq;obtain⟨u,hu,ru⟩:=rv.get hv;have hlt:i<ys.length:=(cg.mp hv).1;refine⟨by rw[cn,<- hl];exact hlt,λvals q=>?_⟩;obtain⟨t,x,hx,rfl⟩:=q;have ex:x=u:=by
    have:its[i]?=aa x:=by simpa using hx
    rw[hu] at this;exact(c_ this).symm
   subst ex;exact⟨[.int i,v],rK,.cons ⟨t,rfl⟩ (.cons ru .nil),v,rfl,λzs hzs=>by rw[I.jB hzs hq];exact hv⟩
  .obtain ⟨ys,hy,e2⟩:=g;obtain rfl:=I.jB hy hq;rw[cn,<- hl,e2]
 .obtain ⟨⟨old,a⟩,b⟩:=st;exact xg a q
section
variable{X:Cx}{es:List ar}{kk:Nat}{tp:bg}
def aAS{a:ar}{ta:TA}{p pos:bg}(hg:Gl X "enumerate")(hm:X.mg "enumerate"=ab)(ha:PA X [a] ta)(hs:aq [a] X.env=[(af,eval a X.env)]:=by rfl):
  PI X (.Tuple es kk tp) (.Call (.Name "enumerate" p) [a] [] pos) (λσ H R=>ta σ H λvs H1=>∃l,vs=[.ref l]/\(((∃xs,eE X.K H1 l xs)/\R (Iel X.K l) H1)\/((∃xs,fS X.K H1 l xs)/\R (Iet X.K l) H1))):=by
 intro pins s σ H R I h;refine ub (m7 I hg hm boot_enumerate (qp (eK (ha pos pins s σ H _ I h) λus s1 ⟨vs,H1,I1,r1,q1⟩=>?_) hs rfl));obtain⟨l,e,q⟩:=q1;subst e;obtain⟨u,rfl,ru⟩:=vals1 r1;cases ru;have fo:∀b∈[s1.heap.objs.size+1,s1.heap.objs.size],oG X pins H1 b:=λb hb=>by
  have hle:s1.heap.objs.size<=b:=by
   simp only[bz,or_false,oy] at hb;rcases hb with rfl|rfl
   .exact lr _
   .exact bj _
  exact I1.CA hle (I1.hok.fresh hle)
 rcases q with⟨⟨xs,hq⟩,q⟩|⟨⟨xs,hq⟩,q⟩
 .obtain ⟨its,rv,pl,hz⟩:=I1.list hq;have hlt:l<s1.heap.objs.size:=by obtain⟨o,n,e,_⟩:=pl;exact b_ e
  refine call_enumerate_list pl.isList λh' he hi hsz hk=>xg he ?_;exact⟨s1.heap.objs.size+1,_,_,_,H1,rfl,I1.kept (t':=s1.toks) hk,JI (a18 _) (gd (uc hlt)) (gd hlt),⟨⟨_,he⟩,hi⟩,fo,q⟩
 .obtain ⟨its,rv,pl,hz⟩:=I1.tuple hq;have hlt:l<s1.heap.objs.size:=pl.lt;refine JJ (items:=its.toArray) pl λh' he hi hk=>xg he ?_;exact⟨s1.heap.objs.size+1,_,_,_,H1,rfl,I1.kept (t':=s1.toks) hk,JK (a18 _) (gd (uc hlt)) (gd hlt),⟨⟨_,he⟩,hi⟩,fo,q⟩
def Xo{a b:ar}{ta:TA}{p pos:bg}(hg:Gl X "zip")(hm:X.mg "zip"=ab)(ha:PA X [a,b] ta)(hs:aq [a,b] X.env=[(af,eval a X.env),(af,eval b X.env)]:=by rfl)(hs2:aq [b] X.env=[(af,eval b X.env)]:=by rfl):
  PI X (.Tuple es kk tp) (.Call (.Name "zip" p) [a,b] [] pos) (λσ H R=>ta σ H λvs H1=>∃l m xs ys,vs=[.ref l,.ref m]/\eE X.K H1 l xs/\eE X.K H1 m ys/\R (Izl X.K l m) H1):=by
 intro pins s σ H R I h;refine ub (m7 I hg hm boot_zip (qp (eK (ha pos pins s σ H _ I h) λus s1 ⟨vs,H1,I1,r1,q1⟩=>?_) (by rw[hs,hs2]) (by rw[hs2];rfl)));obtain⟨l,m,xs,ys,e,hq,hq2,q⟩:=q1;subst e;obtain⟨u,u2,rfl,ru,ru2⟩:=vals2 r1;cases ru;cases ru2;obtain⟨its,rv,pl,hz⟩:=I1.list hq;obtain⟨its2,rv2,pl2,hz2⟩:=I1.list hq2;have hlt:l<s1.heap.objs.size:=by obtain⟨o,n,e,_⟩:=pl;exact b_ e
 have hlt2:m<s1.heap.objs.size:=by obtain⟨o,n,e,_⟩:=pl2;exact b_ e
 refine call_zip_2 pl.isList pl2.isList λh' hZ Io Im hi1 hi2 hsz hk=>a0i hZ ?_;refine⟨s1.heap.objs.size+4,_,_,_,H1,rfl,I1.kept (t':=s1.toks) hk,VJ (zipApart_new hlt hlt2),⟨hZ,Io,⟨_,_,Im⟩,hi1,hi2⟩,λb hb=>?_,q⟩;have hle:s1.heap.objs.size<=b:=by
  simp only[bz,or_false,oy] at hb;rcases hb with rfl|rfl|rfl|rfl|rfl
  .exact kn _ 4
  .exact kn _ 2
  .exact kn _ 3
  .exact bj _
  .exact kn _ 1
 exact I1.CA hle (I1.hok.fresh hle)
def uJ(ds:List D):List D:=ds.zipIdx.map λp=>.tup [.int (p.2:Int),p.1]
def VM(a b:List D):List D:=(a.zip b).map λp=>.tup [p.1,p.2]
theorem AS{ds:List D}{i:Nat}{d:D}(h:(uJ ds)[i]?=aa d):∃d0,ds[i]?=aa d0/\d=.tup [.int (i:Int),d0]:=by
 unfold uJ at h;rw[cf,uk] at h
 cases q:ds[i]? with
 |none=>rw[q] at h;cases h
 |some d0 =>
  rw[q] at h;simp at h;exact⟨d0,rfl,h.symm⟩
theorem VN{a b:List D}{i:Nat}{d:D}(h:(VM a b)[i]?=aa d):∃x y,a[i]?=aa x/\b[i]?=aa y/\d=.tup [x,y]:=by
 unfold VM at h;rw[cf] at h
 cases q:(a.zip b)[i]? with
 |none=>rw[q] at h;cases h
 |some xy =>
  rw[q] at h;obtain⟨h1,h2⟩:=qv.mp q;exact⟨xy.1,xy.2,h1,h2,(c_ h).symm⟩
def CY{K:ao}{S:ag->Prop}{H:Hp}{T:ag}{x y:V}{dx dy:D}(fr:H T=ab)(hx:Dn K S H dx x)(hy:Dn K S H dy y):Dn K S (upd H T (.tup [x,y])) (.tup [dx,dy]) (.ref T):=by simp only[Dn];exact⟨T,[x,y],rfl,aP,aS.fits (.same (aO fr)) _ _ (aS.cons hx (aS.one hy))⟩
theorem O9{K:ao}{a:ag}{ds:List D}:Wlk K (Iel K a) (uJ ds) [(.lst ds,.ref a)] where
 go:=λS H fc hg i d e=>by have h:=hg _ (cm.mpr rfl);simp only[Dn] at h;obtain⟨b,xs,eb,hb,sb,dn⟩:=h;injection eb with eb;subst eb;obtain⟨d0,e0,rfl⟩:=AS e;obtain⟨v,ev,dv⟩:=dn.get e0;refine⟨⟨xs,v,eE.of hb,ev⟩,λx H' y=>?_⟩;obtain⟨T,vs,rfl,fr,rfl,v',rfl,hy⟩:=y;have ex:=hy xs (eE.of hb);rw[ev] at ex;cases ex;exact⟨aO fr,CY fr (by simp only[Dn]) dv⟩
 stop:=λS H hg i hi=>by have h:=hg _ (cm.mpr rfl);simp only[Dn] at h;obtain⟨b,xs,eb,hb,sb,dn⟩:=h;injection eb with eb;subst eb;exact⟨xs,eE.of hb,by rw[<- dn.len,<- hi];simp[uJ]⟩
theorem PB{K:ao}{a:ag}{ds:List D}:Wlk K (Iet K a) (uJ ds) [(.tup ds,.ref a)] where
 go:=λS H fc hg i d e=>by have h:=hg _ (cm.mpr rfl);simp only[Dn] at h;obtain⟨b,xs,eb,hb,dn⟩:=h;injection eb with eb;subst eb;obtain⟨d0,e0,rfl⟩:=AS e;obtain⟨v,ev,dv⟩:=dn.get e0;refine⟨⟨xs,v,(fS.of hb),ev⟩,λx H' y=>?_⟩;obtain⟨T,vs,rfl,fr,rfl,v',rfl,hy⟩:=y;have ex:=hy xs (fS.of hb);rw[ev] at ex;cases ex;exact⟨aO fr,CY fr (by simp only[Dn]) dv⟩
 stop:=λS H hg i hi=>by have h:=hg _ (cm.mpr rfl);simp only[Dn] at h;obtain⟨b,xs,eb,hb,dn⟩:=h;injection eb with eb;subst eb;exact⟨xs,(fS.of hb),by rw[<- dn.len,<- hi];simp[uJ]⟩
theorem aAT{K:ao}{a c:ag}{ds es:List D}:Wlk K (Izl K a c) (VM ds es) [(.lst ds,.ref a),(.lst es,.ref c)] where
 go:=λS H fc hg i d e=>by have h:=hg (.lst ds,.ref a) (by simp);have h2:=hg (.lst es,.ref c) (by simp);simp only[Dn] at h h2;obtain⟨b,xs,eb,hb,sb,dn⟩:=h;obtain⟨b2,ys,eb2,hb2,sb2,yQ⟩:=h2;injection eb with eb;injection eb2 with eb2;subst eb eb2;obtain⟨x0,y0,e0,e1,rfl⟩:=VN e;obtain⟨v,ev,dv⟩:=dn.get e0;obtain⟨u,eu,du⟩:=yQ.get e1;refine⟨⟨xs,ys,v,u,eE.of hb,eE.of hb2,ev,eu⟩,λx H' y=>?_⟩;obtain⟨T,vs,rfl,fr,rfl,v',u',rfl,hy,hy2⟩:=y;have ex:=hy xs (eE.of hb);have ex2:=hy2 ys (eE.of hb2);rw[ev] at ex;rw[eu] at ex2;cases ex;cases ex2;exact⟨aO fr,CY fr dv du⟩
 stop:=λS H hg i hi=>by have h:=hg (.lst ds,.ref a) (by simp);have h2:=hg (.lst es,.ref c) (by simp);simp only[Dn] at h h2;obtain⟨b,xs,eb,hb,sb,dn⟩:=h;obtain⟨b2,ys,eb2,hb2,sb2,yQ⟩:=h2;injection eb with eb;injection eb2 with eb2;subst eb eb2;exact⟨xs,ys,eE.of hb,eE.of hb2,by rw[<- dn.len,<- yQ.len,<- hi];simp[VM]⟩
noncomputable def To(t:WA):WI:=λρ Q=>t ρ λds=>match ds with
 |[.lst es]=>Q (uJ es)
 |[.tup es]=>Q (uJ es)
 |_=>False
noncomputable def Lb(t:WA):WI:=λρ Q=>t ρ λds=>match ds with
 |[.lst a,.lst b]=>Q (VM a b)
 |_=>False
def JL(hm:X.mg "enumerate"=ab)(ha:zC X [a] t)(hg:Gl X "enumerate":=by rfl)(hs:aq [a] X.env=[(af,eval a X.env)]:=by rfl):Q6 X (.Tuple es kk tp) (.Call (.Name "enumerate" p) [a] [] pos) (To t) :=
 JD (aAS hg hm ha hs) λσ H R La=>by
  obtain⟨S,ρ,Q3,fc,sl,ht,k⟩:=La;refine⟨S,ρ,_,fc,sl,ht,λvs H1 ds s1 d1 q1=>?_⟩;split at q1
  .obtain ⟨v,r,rfl,h1,h2⟩:=d1.bD;simp only[aS] at h2;subst h2;have h1':=h1;simp only[Dn] at h1;obtain⟨l,xs,rfl,hl,sl',da⟩:=h1;exact⟨l,rfl,.inl ⟨⟨xs,eE.of hl⟩,k _ H1 _ [(_,.ref l)] s1 (λg hg=>by cases cm.mp hg;exact h1') O9 q1⟩⟩
  .obtain ⟨v,r,rfl,h1,h2⟩:=d1.bD;simp only[aS] at h2;subst h2;have h1':=h1;simp only[Dn] at h1;obtain⟨l,xs,rfl,hl,da⟩:=h1;exact⟨l,rfl,.inr ⟨⟨xs,(fS.of hl)⟩,k _ H1 _ [(_,.ref l)] s1 (λg hg=>by cases cm.mp hg;exact h1') PB q1⟩⟩
  .exact q1.elim
def K_{a b:ar}{t:WA}{p pos:bg}(hm:X.mg "zip"=ab)(ha:zC X [a,b] t)(hg:Gl X "zip":=by rfl)(hs:aq [a,b] X.env=[(af,eval a X.env),(af,eval b X.env)]:=by rfl)(hs2:aq [b] X.env=[(af,eval b X.env)]:=by rfl):
  Q6 X (.Tuple es kk tp) (.Call (.Name "zip" p) [a,b] [] pos) (Lb t) :=
 JD (Xo hg hm ha hs hs2) λσ H R Kz=>by
  obtain⟨S,ρ,Q3,fc,sl,ht,k⟩:=Kz;refine⟨S,ρ,_,fc,sl,ht,λvs H1 ds s1 d1 q1=>?_⟩;split at q1
  .obtain ⟨v,r,rfl,h1,h2⟩:=d1.bD;obtain⟨v2,r2,rfl,h3,h4⟩:=h2.bD;simp only[aS] at h4;subst h4;have h1':=h1;have h3':=h3;simp only[Dn] at h1 h3;obtain⟨l,xs,rfl,hl,sl',da⟩:=h1;obtain⟨m,ys,rfl,hl2,sl2,da2⟩:=h3;refine⟨l,m,xs,ys,rfl,eE.of hl,eE.of hl2,k _ H1 _ [(_,.ref l),(_,.ref m)] s1 (λg hg=>?_) aAT q1⟩;rcases bz.mp hg with rfl|hg
   .exact h1'
   .cases cm.mp hg;exact h3'
  .exact q1.elim
variable{a b:ar}{pos:bg}{ta tb:WE}
def aAU:k9 X (binaryOp .Mult) (rI tu λi j=>.int (i*j)):=opI λ_ _ _ _ _ _ _ hc q=>mul_int q hc
def Tn:F2:=CO tu λi j=>.int (i*j)
def Tj(ha:dE X a ta)(hb:dE X b tb):dE X (.BinOp a .Mult b pos) (iA Tn ta tb):=op3 aAU CP ha hb
end
theorem aAV(hi:i.natAbs<2^m)(hj:j.natAbs<2^n)(h:m+n<=134217728):tu i j:=by exact mulOk_of_bits (intBits_le hi) (intBits_le hj) h
section
variable{X:Cx}
noncomputable def aMV(t:WE):WT:=λρ Q=>t ρ λd=>match d with
 |.lst ds=>Q (!ds.isEmpty)
 |.tup ds=>Q (!ds.isEmpty)
 |_=>False
def aS.empty{K:ao}{S:ag->Prop}{H:Hp}{ds:List D}{xs:List V}(h:aS K S H ds xs):ds.isEmpty=xs.isEmpty:=by have:=h.len;cases ds<;>cases xs<;>simp at this ⊢
def zy:List V->Hp->VK->Prop:=λxs H Q=>∃(a:ag) (ns:Q0e),xs=[.ref a]/\H a=aa (.lst (ns.map V.int))/\Q (.int ns.sum) H
theorem PD(hc:X.calm=ae):fM X (.builtin "sum") zy:=by
 intro pins s σ H xs us Q I r h;obtain⟨a,ns,rfl,ha,q⟩:=h;obtain⟨u,rfl,ru⟩:=vals1 r;cases ru;obtain⟨its,rv,p,hz⟩:=I.list (eE.of ha);have hi:=intsAre_of rv;obtain⟨zs,ez⟩:=hi.allInts.items;have en:zs.toList.map (·.1)=ns:=by rw[<- nums_intItems,<- ez];exact hi.numsOf
 have ev:preSum (numAt zs) zs.size=ns.sum:=by rw[preSum_eq,oq (by simp),en]
 refine sum_intListG (I.ok.hd hc) (ez▸p.isList) λh' tk t' hk=>⟨.int ns.sum,H,I.kept hk,⟨t',by rw[ev]⟩,q⟩
def sumF:F1
 |[.lst ds],Q=>(match intsOf ds with|some ns=>Q (.int ns.sum)|none=>False)
 |_,_=>False
def PF{ns:Q0e}{Q:D->Prop}:sumF [.lst (ns.map D.int)] Q=Q (.int ns.sum):=by show(match intsOf (ns.map D.int) with|some ns=>Q (.int ns.sum)|none=>False)=_;rw[dZ]
theorem Xn{K:ao}:C3 K zy sumF:=by
 intro S H xs ds Q3 Q fc hd hf k
 match ds,hf with
 |[.lst es],hf =>
  obtain⟨v,r,rfl,h1,h2⟩:=hd.bD;simp only[aS] at h2;subst h2;simp only[Dn] at h1;obtain⟨a,ys,rfl,ha,sa,da⟩:=h1;have hf2:(match intsOf es with|some ns=>Q3 (.int ns.sum)|none=>False):=hf
  clear hf
  cases q:intsOf es with
  |none=>rw[q] at hf2;exact hf2.elim
  |some ns =>
   rw[q] at hf2;have e:=tP q;subst e;have e2:=aS.ints.mp da;subst e2;exact⟨a,ns,rfl,ha,k _ H _ (Same.refl H) (by simp only[Dn]) hf2⟩
theorem Ky(hc:X.calm=ae)(hm:X.mg "sum"=ab)(ha:zC X [e] t)(hg:Gl X "sum":=by rfl)
  (he:Zs X e []:=by rfl):dE X (.Call (.Name "sum" p) [e] [] pos) (U3 sumF t):=tM (PD hc) Xn a30 hg hm ha (by decide) (by decide) he (by rfl)
abbrev WO:=dC->(Option Int->Prop)->Prop
def Ti(K:ao)(t:WO):TO:=λσ H Q=>∃(S:ag->Prop) (ρ:dC) (Q3:Option Int->Prop),(∀a,H a=ab->S a)/\Sl K S H ρ σ/\t ρ Q3 /\∀o H',Same H H'->Q3 o->Q o H'
def PO3(X:Cx)(e:Option ar)(t:WO):Prop:=PO X e (Ti X.K t)
def aAW:WO:=λ_ Q=>Q ab
noncomputable def Th(t:WE):WO:=λρ Q=>t ρ λd=>match d with
 |.int i=>Q (aa i)
 |_=>False
def Kx:PO3 X ab aAW:=λpins s σ H Q I Kw=>by obtain⟨S,ρ,Q3,fc,sl,ht,k⟩:=Kw;exact Z1 pins s σ H Q I (k ab H (Same.refl H) ht)
theorem po3(h:dE X e t):PO3 X (aa e) (Th t):=λpins s σ H Q I Kv=>by
 obtain⟨S,ρ,Q3,fc,sl,ht,k⟩:=Kv;refine Z2 h pins s σ H Q I ⟨S,ρ,_,fc,sl,ht,λv H1 d s1 d1 q1=>?_⟩
 cases d with
 |int i=>simp only[Dn] at d1;exact⟨i,d1,k _ H1 s1 q1⟩
 |_=>exact q1.elim
def cutD(xs:List D)(lo hi:Option Int):List D:=(xs.drop (HT.gD xs.length 0 lo)).take (HT.gD xs.length xs.length hi-HT.gD xs.length 0 lo)
def aS.cut{K:ao}{S:ag->Prop}{H:Hp}{ds:List D}{xs:List V}{lo hi:Option Int}(h:aS K S H ds xs):aS K S H (cutD ds lo hi) (FN xs lo hi):=by unfold cutD FN;rw[h.len];exact(h.drop _).take _
theorem VO{prog:bf}{w:az}{A:bq}{E:Q0c}{s:ak}{t sl:ag}{items:Array ai}{vl vu:ai}{lo hi:Option Int}{Q:Q0c}(ht:gr s.heap t items)(hs:s.heap.IsSliceOf sl vl vu .none)(pl:kh vl lo)(pu:kh vu hi)
  (h0:HT.gD items.size 0 lo=0) (h1:HT.gD items.size items.size hi=items.size) (h:Q (.ref t) s):ax (ay prog w) A (getItem (.ref t) (.ref sl)) Q E s:=by
 have hT:s.TypeIs (.ref sl) "slice":=by obtain⟨o,a,b,_⟩:=hs;exact⟨o,a,b⟩
 unfold getItem
 try with_reducible refine ju ?_
 first|refine av (bb ?_)|skip
 apply av;refine a0h ht.typeIs (by decide) (av (qc ht.typeIs om (iq om ht.typeIs a1X ?_ (a11 _ _))));refine av (m:=a1J _) (a1O ht (av (Cz hT ?_)));rw[Z_ (by decide)];refine av (HT.kR (n:=items.size) hs pl pu ?_);rw[h0,h1];show ax _ _ (if((((0:Nat):Int) == 0)&&((1:Int) == 1)&&((items.size-0) == items.size))=ae then _ else _) _ _ s;rw[Z_ (by simp)];refine av (m:=a3S _) (av (Cz ht.typeIs (bb ?_)));show ax _ _ (if ae=ae then _ else _) _ _ s;rw[Z_ rfl];exact av (ny (bb ⟨_,rfl,bb h⟩))
def Ku(K:ao):V->Option Int->Option Int->Hp->VK->Prop:=λx lo hi H Q=>∃a xs,x=.ref a/\fS K H a xs/\(HT.gD xs.length 0 lo=0/\HT.gD xs.length xs.length hi=xs.length)/\Q (.ref a) H
theorem aAX:SlR X (Ku X.K):=by
 intro pins s σ H x v vl vu lo hi sl Q I rx hs pl pu h;obtain⟨a,xs,rfl,hx,hw,q⟩:=h;cases rx;obtain⟨its,r,ht,hz⟩:=I.tuple hx;have hlen:its.toArray.size=xs.length:=by rw[cn];exact r.length.symm
 exact⟨"tuple",_,om.lookup,ht.typeIs,VO ht hs pl pu (by rw[hlen];exact hw.1) (by rw[hlen];exact hw.2) ⟨.ref a,H,I,rfl,q⟩⟩
def Gx(te:WE)(tl th:WO):WE:=λρ Q=>te ρ λd=>tl ρ λlo=>th ρ λhi=>match d with
 |.lst ds=>Q (.lst (cutD ds lo hi))
 |.tup ds=>Q (.tup (cutD ds lo hi))
 |_=>False
def sl3{e:ar}{lo hi:Option ar}{p2 pos:bg}{te:WE}{tl th:WO}(he:dE X e te)(hl:PO3 X lo tl)(hh:PO3 X hi th):dE X (.Subscript e (.Slice lo hi ab p2) pos) (Gx te tl th) :=
 imp (UD (Z5.or (Yp.or aAX)) he hl hh) λσ H Q Kt=>by
  obtain⟨S,ρ,Q3,fc,sl,ht,k⟩:=Kt;refine⟨S,ρ,_,fc,sl,ht,λv H1 d s1 d1 q1=>?_⟩;refine⟨S,ρ,_,bQ fc s1,Sl.fits (.same s1) sl,q1,λo H2 s2 q2=>?_⟩;refine⟨S,ρ,_,bQ fc (s1.trans s2),Sl.fits (.same (s1.trans s2)) sl,q2,λo2 H3 s3 q3=>?_⟩;have d3:=Dn.fits (.same (s2.trans s3)) _ _ d1;have sa:=(s1.trans s2).trans s3
  cases d with
  |lst ds =>
   simp only[Dn] at d3;obtain⟨a,xs,rfl,ha,sa',da⟩:=d3;refine .inl ⟨a,xs,rfl,eE.of ha,λp hp=>k _ _ _ (sa.trans (aO hp)) ?_ q3⟩;simp only[Dn];exact⟨p,_,rfl,aP,bQ fc sa p hp,aS.fits (.same (aO hp)) _ _ da.cut⟩
  |tup ds =>
   simp only[Dn] at d3;obtain⟨a,xs,rfl,ha,da⟩:=d3;have hl:=da.len;by_cases hw:HT.gD xs.length 0 o=0/\HT.gD xs.length xs.length o2=xs.length
   .refine .inr (.inr ⟨a,xs,rfl,(fS.of ha),hw,k _ _ _ sa ?_ q3⟩);have e:cutD ds o o2=ds:=by unfold cutD;rw[hl,hw.1,hw.2,ur,Fc,oq (nh hl)]
    rw[e];simp only[Dn];exact⟨a,xs,rfl,ha,da⟩
   .refine .inr (.inl ⟨a,xs,rfl,(fS.of ha),hw,λp hp=>k _ _ _ (sa.trans (aO hp)) ?_ q3⟩);simp only[Dn];exact⟨p,_,rfl,aP,aS.fits (.same (aO hp)) _ _ da.cut⟩
  |_=>exact q3.elim
end
end L3
namespace L4
open PySem.Spec PyProof.Rows L2 L3
def wE(f:EF):WE:=λρ Q=>∃d,f ρ=aa d/\Q d
def wT(f:TF):WT:=λρ Q=>∃d,f ρ=aa d/\Q d
def wA(f:AF):WA:=λρ Q=>∃d,f ρ=aa d/\Q d
def wI(f:AF):WI:=λρ Q=>∃d,f ρ=aa d/\Q d
def wO(f:OF):WO:=λρ Q=>∃d,f ρ=aa d/\Q d
def wX(f:XF):WX:=λρ Q=>∃p,f ρ=aa p/\Q p.1 p.2
noncomputable def wS(f:SF):WS:=λE ρ=>match f ρ with
 |.nx ρ'=>E.nx ρ'
 |.rt d=>E.rt d
 |.ex c=>E.ex c
 |.no=>False
def wG(g:Q1):WG:=λd ρ Q=>∃ρ',g d ρ=aa ρ'/\Q ρ'
def pz(g:Q0):GE:=λd ρ Q=>∃ρ',g d ρ=aa ρ'/\Q ρ'
abbrev bZ(X:Cx)(e:ar)(f:EF):Prop:=dE X e (wE f)
abbrev fR(X:Cx)(e:ar)(f:EF):Prop:=JA X e (wE f)
abbrev uZ(X:Cx)(e:ar)(f:TF):Prop:=yP X e (wT f)
abbrev DM(X:Cx)(e:ar)(f:TF):Prop:=Q5 X e (wT f)
abbrev yR(X:Cx)(es:List ar)(f:AF):Prop:=zC X es (wA f)
abbrev VP(X:Cx)(tg e:ar)(f:AF):Prop:=Q6 X tg e (wI f)
abbrev PO4(X:Cx)(e:Option ar)(f:OF):Prop:=PO3 X e (wO f)
abbrev MQ(X:Cx)(e:ar)(f:XF):Prop:=FU X e (wX f)
abbrev uK(X:Cx)(st:cz)(f:SF):Prop:=CU X st (wS f)
abbrev zF(X:Cx)(st:List cz)(f:SF):Prop:=uY X st (wS f)
section
variable{X:Cx}
def cE{e:ar}{t t':WE}(h:dE X e t)(c:∀ρ Q,t' ρ Q->t ρ Q):dE X e t':=imp h λ_ _ _ Ks=>by obtain⟨S,ρ,Q3,fc,sl,ht,k⟩:=Ks;exact⟨S,ρ,Q3,fc,sl,c ρ Q3 ht,k⟩
def cF(h:JA X e t)(c:∀ρ Q,t' ρ Q->t ρ Q):JA X e t':=imp h λ_ _ _ Kr=>by obtain⟨S,ρ,Q3,fc,sl,ht,k⟩:=Kr;exact⟨S,ρ,Q3,fc,sl,c ρ Q3 ht,k⟩
def cT{e:ar}{t t':WT}(h:yP X e t)(c:∀ρ Q,t' ρ Q->t ρ Q):yP X e t':=UU h λ_ _ _ Kq=>by obtain⟨S,ρ,Q3,fc,sl,ht,k⟩:=Kq;exact⟨S,ρ,Q3,fc,sl,c ρ Q3 ht,k⟩
def cW{e:ar}{t t':WT}(h:Q5 X e t)(c:∀ρ Q,t' ρ Q->t ρ Q):Q5 X e t':=vw h λ_ _ _ Kp=>by obtain⟨S,ρ,Q3,fc,sl,ht,k⟩:=Kp;exact⟨S,ρ,Q3,fc,sl,c ρ Q3 ht,k⟩
def cA(h:zC X e t)(c:∀ρ Q,t' ρ Q->t ρ Q):zC X e t':=UW h λ_ _ _ Ko=>by obtain⟨S,ρ,Q3,fc,sl,ht,k⟩:=Ko;exact⟨S,ρ,Q3,fc,sl,c ρ Q3 ht,k⟩
def cI(h:Q6 X tg e t)(c:∀ρ Q,t' ρ Q->t ρ Q):Q6 X tg e t':=JD h λ_ _ _ Kn=>by obtain⟨S,ρ,Q3,fc,sl,ht,k⟩:=Kn;exact⟨S,ρ,Q3,fc,sl,c ρ Q3 ht,k⟩
def cX(h:FU X e t)(c:∀ρ Q,t' ρ Q->t ρ Q):FU X e t':=imp h λ_ _ _ Km=>by obtain⟨H₀,S,w,ρ,G,Q3,hl,st,ht,k⟩:=Km;exact⟨H₀,S,w,ρ,G,Q3,hl,st,c ρ Q3 ht,k⟩
def cS(h:CU X e t)(c:∀E ρ,t' E ρ->t E ρ):CU X e t':=jQ h λ_ _ _ Kd=>by obtain⟨H₀,S,w,ρ,G,E,hl,st,ht,ok⟩:=Kd;exact⟨H₀,S,w,ρ,G,E,hl,st,c E ρ ht,ok⟩
def zq(h:uY X e t)(c:∀E ρ,t' E ρ->t E ρ):uY X e t':=FT h λ_ _ _ Kc=>by obtain⟨H₀,S,w,ρ,G,E,hl,st,ht,ok⟩:=Kc;exact⟨H₀,S,w,ρ,G,E,hl,st,c E ρ ht,ok⟩
def DM.pt(h:DM X e f):uZ X e f:=Q5.pt h
def fR.pe(h:fR X e f):bZ X e f:=JA.pe h
theorem bnd{α β:Type}{o:Option α}{f:α->Option β}{b:β}(h:o.bind f=aa b):∃a,o=aa a/\f a=aa b:=by
 cases o with
 |none=>cases h
 |some a=>exact⟨a,rfl,h⟩
theorem kC{α β:Type}{o:Option α}{f:α->β}{b:β}(h:o.map f=aa b):∃a,o=aa a/\f a=b:=by
 cases o with
 |none=>cases h
 |some a=>exact⟨a,rfl,c_ h⟩
theorem x4(i:Nat)(hN:X.N[i]?=aa x:=by rfl)(hv:y6 X.env.scope x:=by walk_at "1")(hd:Zu x:=by decide)
  (hcd:Zt x:=by decide):bZ X (.Name x pos) (aA i):=cE (x3 i hN hv hd hcd) λρ Q Kb=>by
 obtain⟨d,e,q⟩:=Kb;unfold aA at e;unfold sg
 cases h:ρ[i]? with
 |none=>rw[h] at e;cases e
 |some o =>
  rw[h] at e
  cases o with
  |none=>cases e
  |some d'=>cases e;exact q
def i4{j pos}:bZ X (.Constant (.int i) j pos) (eC (.int i)):=cE i3 λ_ _ Ka=>by obtain⟨_,e,q⟩:=Ka;cases e;exact q
def b4{j pos}:bZ X (.Constant (.bool b) j pos) (eC (.bl b)):=cE b3 λ_ _ J_=>by obtain⟨_,e,q⟩:=J_;cases e;exact q
def n4{j pos}:bZ X (.Constant .none j pos) (eC .non):=cE n3 λ_ _ Jz=>by obtain⟨_,e,q⟩:=Jz;cases e;exact q
def s4{j pos}:bZ X (.Constant (.str x) j pos) (eC (.str x)):=cE s3 λ_ _ Jy=>by obtain⟨_,e,q⟩:=Jy;cases e;exact q
def Tells(f:F2)(g:D->D->Option D):Prop:=∀(x y d:D) (Q:D->Prop),g x y=aa d->Q d->f x y Q
def jZ{f:F2}{g:D->D->Option D}(h:Tells f g){fa fb:EF}(ρ:dC)(Q:D->Prop)(w:wE (aC g fa fb) ρ Q):iA f (wE fa) (wE fb) ρ Q:=by obtain⟨d,e,q⟩:=w;obtain⟨x,ex,e⟩:=bnd e;obtain⟨y,ey,e⟩:=bnd e;exact⟨x,ex,y,ey,h x y d Q e q⟩
def kT:Tells (xV g) (HB g):=λx y d Q e q=>by
 cases x<;>first|(cases e;done)|skip
 all_goals (cases y<;>first|(cases e;done)|skip)
 cases e;exact q
def lT(h:∀i j,c i j=ae->C i j):Tells (CO C g) (oK c g):=λx y d Q e q=>by
 cases x<;>first|(cases e;done)|skip
 all_goals (cases y<;>first|(cases e;done)|skip)
 rename_i i j;have e:(if c i j=ae then aa (g i j) else ab)=aa d:=e;by_cases hc:c i j=ae
 .rw [Z_ hc] at e;cases e;exact⟨h i j hc,q⟩
 .rw [Zz hc] at e;cases e
def szl{n:Nat}{α:Type}{x d:α}{Q:α->Prop}(e:(if n<=mF then aa x else ab)=aa d)(q:Q d):n<=bc/\Q x:=by
 by_cases h:n<=mF
 .rw [Z_ h] at e;cases e;exact⟨by rw[gp];exact h,q⟩
 .rw [Zz h] at e;cases e
def PH:Tells vy bL:=λx y d Q e q=>by
 cases x<;>first|(cases e;done)|skip
 all_goals (cases y<;>first|(cases e;done)|skip)
 .cases e;exact q
 .exact szl (x:=D.str _) e q
 .exact szl (x:=D.tup _) e q
 .exact szl (x:=D.lst _) e q
def PJ:Tells Ae BI:=λx y d Q e q=>by
 cases x<;>first|(cases e;done)|skip
 all_goals (cases y<;>first|(cases e;done)|skip)
 exact szl (x:=D.lst _) e q
def Xm(h:vQ i j=ae):tu i j:=by
 unfold vQ at h;simp only[Gn,decide_eq_true_eq] at h;rcases h with(h|h)|h
 .exact ZS.ok (.inl ⟨by omega,by omega⟩)
 .exact ZS.ok (.inr ⟨by omega,by omega⟩)
 .refine aAV (m:=i.natAbs.log2+1) (n:=j.natAbs.log2+1) ?_ ?_ (by omega)
  .exact a2e
  .exact a2e
section
variable{a b:ar}{pos:bg}{fa fb:EF}
def eD(ha:bZ X a fa)(hb:bZ X b fb):bZ X (.BinOp a .Add b pos) (aC bL fa fb):=cE (Pe ha hb) (jZ PH)
def nE(ha:bZ X a fa)(hb:bZ X b fb):bZ X (.BinOp a .Sub b pos) (aC gT fa fb):=cE (Pj ha hb) (jZ kT)
def tQ(ha:bZ X a fa)(hb:bZ X b fb):bZ X (.BinOp a .Mult b pos) (aC mulM fa fb):=cE (Tj ha hb) (jZ (lT λ_ _ h=>Xm h))
def i8(ha:bZ X a fa)(hb:bZ X b fb):bZ X (.BinOp a .Mod b pos) (aC fB fa fb):=cE (Ph ha hb) (jZ (lT λ_ _ h=>by simpa using h))
def VQ(ha:bZ X a fa)(hb:bZ X b fb):bZ X (.BinOp a .FloorDiv b pos) (aC uQ fa fb):=cE (Pg ha hb) (jZ (lT λi j h=>by simp only[gn,decide_eq_true_eq] at h;exact⟨h.1,by omega⟩))
def Jx(ha:bZ X a fa)(hb:bZ X b fb):bZ X (.BinOp a .Pow b pos) (aC xa fa fb):=cE (Pf ha hb) (jZ (lT λi j h=>by simp only[gn,decide_eq_true_eq] at h;exact⟨h.1.1,by omega,h.2⟩))
def Cn(ha:bZ X a fa)(hb:bZ X b fb):fR X (.BinOp a .Add b pos) (aC BI fa fb):=cF (Vc ha hb) (jZ PJ)
def tells_eq:Tells sd qB:=λx y d Q e q=>by
 cases x<;>first|(cases e;done)|skip
 all_goals (cases y<;>first|(cases e;done)|skip)
 all_goals (cases e;exact⟨rfl,q⟩)
def VR:Tells vx G6:=λx y d Q e q=>by
 cases x<;>first|(cases e;done)|skip
 all_goals (cases y<;>first|(cases e;done)|skip)
 all_goals (cases e;exact⟨rfl,q⟩)
theorem ints_of:∀{ds:List D} {ns:Q0e},intsOf ds=aa ns->ds=ns.map D.int
 |[],ns,h=>by cases h;rfl
 |d::ds,ns,h=>by
  cases d<;>first|cases h;done|skip
  obtain⟨m,e,rfl⟩:=kC h;rw[ints_of e];rfl
def F9{neg:Bool}:Tells (inF neg) (jO neg):=λx y d Q e q=>by
 cases x<;>first|(cases e;done)|skip
 all_goals (cases y<;>first|(cases e;done)|skip)
 all_goals
  obtain⟨ns,e1,rfl⟩:=kC e;have:=ints_of e1;subst this;exact⟨AO ns,by rw[AQ];exact q⟩
def GA:Tells r_ XW:=λx y d Q e q=>by
 unfold XW at e;split at e
 .rename_i h;cases e;refine⟨(by cases y<;>first|rfl|cases h),?_⟩;have:isD x=qC x:=by cases x<;>rfl
  rw[this];exact q
 .cases e
def gt4(ha:bZ X a fa)(hb:bZ X b fb):bZ X (.Compare a [.Gt] [b] pos) (aC uR fa fb):=cE (gt3 ha hb) (jZ kT)
def eq4(ha:bZ X a fa)(hb:bZ X b fb):bZ X (.Compare a [.Eq] [b] pos) (aC qB fa fb):=cE (Og ha hb) (jZ tells_eq)
def in4(ha:bZ X a fa)(hb:bZ X b fb)(hm:behindInMarks .In b=af:=by with_unfolding_all rfl):bZ X (.Compare a [.In] [b] pos) (aC (jO af) fa fb):=cE (in3 ha hb hm) (jZ F9)
def is4(ha:bZ X a fa)(hb:bZ X b fb):bZ X (.Compare a [.Is] [b] pos) (aC XW fa fb):=cE (Oc ha hb) (jZ GA)
def l6{f:F2}{g:D->D->Option D}(h:Tells f g)(hb:∀x y d,g x y=aa d ->∃b,d=.bl b){fa fb:EF}(ρ:dC)(Q:Bool->Prop)(w:wT (tV (aC g fa fb)) ρ Q):oS (iA f (wE fa) (wE fb)) ρ Q:=by obtain⟨b,e,q⟩:=w;obtain⟨d,e1,e2⟩:=bnd e;obtain⟨x,ex,e1⟩:=bnd e1;obtain⟨y,ey,e1⟩:=bnd e1;obtain⟨c,rfl⟩:=hb x y d e1;cases e2;exact⟨x,ex,y,ey,h x y _ _ e1 q⟩
def JM{g:Int->Int->Bool}(x y d:D)(e:HB (λi j=>.bl (g i j)) x y=aa d):∃b,d=.bl b:=by
 cases x<;>first|(cases e;done)|skip
 all_goals (cases y<;>first|(cases e;done)|skip)
 cases e;exact⟨_,rfl⟩
def Ud(x y d:D)(e:qB x y=aa d):∃b,d=.bl b:=by obtain⟨b,_,rfl⟩:=kC e;exact⟨_,rfl⟩
def Uc(x y d:D)(e:G6 x y=aa d):∃b,d=.bl b:=by obtain⟨b,_,rfl⟩:=kC e;exact⟨_,rfl⟩
def Ub{neg:Bool}(x y d:D)(e:jO neg x y=aa d):∃b,d=.bl b:=by
 cases x<;>first|(cases e;done)|skip
 all_goals (cases y<;>first|(cases e;done)|skip)
 all_goals (obtain⟨b,_,rfl⟩:=kC e;exact⟨_,rfl⟩)
def Ua(x y d:D)(e:XW x y=aa d):∃b,d=.bl b:=by
 unfold XW at e;split at e
 .cases e;exact⟨_,rfl⟩
 .cases e
def r9(ha:bZ X a fa)(hb:bZ X b fb):uZ X (.Compare a [.Lt] [b] pos) (tV (aC X3 fa fb)):=cT (Of ha hb) (l6 kT JM)
def JN(ha:bZ X a fa)(hb:bZ X b fb):uZ X (.Compare a [.Gt] [b] pos) (tV (aC uR fa fb)):=cT (Oe ha hb) (l6 kT JM)
def Jw(ha:bZ X a fa)(hb:bZ X b fb):uZ X (.Compare a [.GtE] [b] pos) (tV (aC geM fa fb)):=cT (Od ha hb) (l6 kT JM)
def rL(ha:bZ X a fa)(hb:bZ X b fb):uZ X (.Compare a [.Eq] [b] pos) (tV (aC qB fa fb)):=cT (U_ ha hb) (l6 tells_eq Ud)
def PK(ha:bZ X a fa)(hb:bZ X b fb):uZ X (.Compare a [.NotEq] [b] pos) (tV (aC G6 fa fb)):=cT (Uz ha hb) (l6 VR Uc)
def x6(ha:bZ X a fa)(hb:bZ X b fb)(hm:behindInMarks .NotIn b=af:=by with_unfolding_all rfl):uZ X (.Compare a [.NotIn] [b] pos) (tV (aC (jO ae) fa fb)):=cT (Uy ha hb hm) (l6 F9 Ub)
def Ad(ha:bZ X a fa)(hb:bZ X b fb):uZ X (.Compare a [.Is] [b] pos) (tV (aC XW fa fb)):=cT (Ux ha hb) (l6 GA Ua)
end
section
variable{a b c:ar}{rest:List ar}{pos:bg}{fa fb:EF}{ta tb tc:TF}
def MR(ha:uZ X a ta):uZ X (.UnaryOp .Not a pos) (sD ta):=cT (Uu ha) λρ Q Jv=>by obtain⟨b,e,q⟩:=Jv;obtain⟨c,ec,rfl⟩:=kC e;exact⟨c,ec,q⟩
def GB(ha:uZ X a ta):DM X (.BoolOp .And [a] pos) ta:=N_ ha
def VS(ha:uZ X a ta):DM X (.BoolOp .Or [a] pos) ta:=or1 ha
theorem GC(ha:uZ X a ta)(hb:DM X (.BoolOp .And (b::rest) pos) tb):DM X (.BoolOp .And (a::b::rest) pos) (kD ta tb):=cW (Ut ha hb) λρ Q Ju=>by
 obtain⟨d,e,q⟩:=Ju;obtain⟨c,ec,e⟩:=bnd e;refine⟨c,ec,?_⟩
 cases c with
 |true=>rw[Z_ rfl] at e ⊢;exact⟨d,e,q⟩
 |false=>rw[Zz bt] at e ⊢;cases e;exact q
theorem VT(ha:uZ X a ta)(hb:DM X (.BoolOp .Or (b::rest) pos) tb):DM X (.BoolOp .Or (a::b::rest) pos) (G9 ta tb):=cW (Ny ha hb) λρ Q Jt=>by
 obtain⟨d,e,q⟩:=Jt;obtain⟨c,ec,e⟩:=bnd e;refine⟨c,ec,?_⟩
 cases c with
 |true=>rw[Z_ rfl] at e ⊢;cases e;exact q
 |false=>rw[Zz bt] at e ⊢;exact⟨d,e,q⟩
def r6{op}(ha:bZ X a fa):bZ X (.BoolOp op [a] pos) fa:=Nt ha
theorem s_(ha:bZ X a fa)(hb:bZ X (.BoolOp .And (b::rest) pos) fb):bZ X (.BoolOp .And (a::b::rest) pos) (uP fa fb):=cE (Nr ha hb) λρ Q Js=>by
 obtain⟨d,e,q⟩:=Js;obtain⟨x,ex,e1⟩:=bnd e;obtain⟨c,ec,e⟩:=bnd e1
 clear e1
 refine⟨x,ex,?_⟩;cases x<;>first|cases ec;done|skip
 cases ec
 cases c with
 |true=>rw[Z_ rfl] at e;exact⟨d,e,q⟩
 |false=>rw[Zz bt] at e;cases e;exact q
theorem or4(ha:bZ X a fa)(hb:bZ X (.BoolOp .Or (b::rest) pos) fb):bZ X (.BoolOp .Or (a::b::rest) pos) (mq fa fb):=cE (or3 ha hb) λρ Q Jr=>by
 obtain⟨d,e,q⟩:=Jr;obtain⟨x,ex,e1⟩:=bnd e;obtain⟨c,ec,e⟩:=bnd e1
 clear e1
 refine⟨x,ex,?_⟩;cases x<;>first|cases ec;done|skip
 cases ec
 cases c with
 |true=>rw[Z_ rfl] at e;cases e;exact q
 |false=>rw[Zz bt] at e;exact⟨d,e,q⟩
def Ac(ha:bZ X a fa):bZ X (.UnaryOp .Not a pos) (vP fa):=cE (Nn ha) λρ Q Jq=>by
 obtain⟨d,e,q⟩:=Jq;obtain⟨x,ex,e⟩:=bnd e;obtain⟨c,ec,rfl⟩:=kC e;refine⟨x,ex,?_⟩;cases x<;>first|cases ec;done|skip
 cases ec;exact q
theorem if4(hc:uZ X c tc)(ha:bZ X a fa)(hb:bZ X b fb):bZ X (.IfExp c a b pos) (KO tc fa fb):=cE (if3 hc ha hb) λρ Q Jp=>by
 obtain⟨d,e,q⟩:=Jp;obtain⟨c,ec,e⟩:=bnd e;refine⟨c,ec,?_⟩
 cases c with
 |true=>rw[Z_ rfl] at e ⊢;exact⟨d,e,q⟩
 |false=>rw[Zz bt] at e ⊢;exact⟨d,e,q⟩
def sy(ha:bZ X a fa):bZ X (.UnaryOp .USub a pos) (sE fa):=cE (Oy ha) λρ Q Jo=>by
 obtain⟨d,e,q⟩:=Jo;obtain⟨x,ex,e⟩:=bnd e;refine⟨x,ex,?_⟩;cases x<;>first|cases e;done|skip
 cases e;exact q
def tR{e:ar}{f:EF}(h:bZ X e f)(he:∀whole,isTrue e X.env whole=(do let v <- whole;standAt e.pos;holding [v] (truthy v)):=by intro _;rfl):uZ X e (tV f) :=
 UU (UB h he) λσ H Q Jn=>by
  obtain⟨S,ρ,Q3,fc,sl,⟨b,hb,q3⟩,k⟩:=Jn;obtain⟨d0,ed,et⟩:=bnd hb;refine⟨S,ρ,λd=>d=d0,fc,sl,⟨d0,ed,rfl⟩,λv H1 d s1 d1 q1=>?_⟩;subst q1
  cases d with
  |bl c=>cases et;simp only[Dn] at d1;subst d1;exact⟨_,rfl,k _ H1 s1 q3⟩
  |lst ds =>
   cases et;simp only[Dn] at d1;obtain⟨a,xs,rfl,ha,sa,da⟩:=d1;exact⟨_,.inl ⟨xs,eE.of ha,by rw[<- da.empty]⟩,k _ H1 s1 q3⟩
  |tup ds =>
   cases et;simp only[Dn] at d1;obtain⟨a,xs,rfl,ha,da⟩:=d1;exact⟨_,.inr (.inl ⟨xs,(fS.of ha),by rw[<- da.empty]⟩),k _ H1 s1 q3⟩
  |_=>cases et
end
end
section
variable{X:Cx}
def aI:yR X [] aF:=cA Pc λ_ _ Jm=>by obtain⟨_,e,q⟩:=Jm;cases e;exact q
def aE(ha:bZ X e fe)(hr:yR X es t)(hs:Zs X e es:=by rfl):yR X (e::es) (aB fe t):=cA (Va ha hr hs) λρ Q Jl=>by obtain⟨ds,e,q⟩:=Jl;obtain⟨d,ed,e⟩:=bnd e;obtain⟨r,er,e⟩:=bnd e;cases e;exact⟨d,ed,r,er,q⟩
def fT{x1}(h:yR X es t):bZ X (.Tuple es x1 pos) (cB t):=cE (Ol h) λρ Q Jk=>by obtain⟨d,e,q⟩:=Jk;obtain⟨ds,ed,e⟩:=bnd e;exact⟨ds,ed,szl (x:=D.tup ds) e q⟩
def kU(h:yR X es t):fR X (.List es pos) (fE t):=cF (Oi h) λρ Q Jj=>by obtain⟨d,e,q⟩:=Jj;obtain⟨ds,ed,e⟩:=bnd e;exact⟨ds,ed,szl (x:=D.lst ds) e q⟩
def VU:Tells ixF bI:=λx y d Q e q=>by
 cases x<;>first|(cases e;done)|skip
 all_goals (cases y<;>first|(cases e;done)|skip)
 .have e:uW _ _=aa d:=e;show(match uW _ _ with|some d=>Q d|none=>False);rw[e];exact q
 .have e:uW _ _=aa d:=e;show(match uW _ _ with|some d=>Q d|none=>False);rw[e];exact q
 .obtain ⟨n,e1,rfl⟩:=kC e;have e1:uW _ _=aa n:=e1;show(match uW _ _ with|some n=>Q (.int n)|none=>False);rw[e1];exact q
def fJ(ha:bZ X a fa)(hb:bZ X b fb)(hs:CH b:=by intro _ _;rfl):bZ X (.Subscript a b pos) (aC bI fa fb):=cE (ix3 ha hb hs) (jZ VU)
def PM:Tells vp l7:=λx y d Q e q=>by
 cases x<;>first|cases e;done|skip
 rename_i ks ds;obtain⟨k,ek,e⟩:=bnd e;have ek:F5 y=aa k:=by cases y<;>first|exact ek|cases ek
 have e:jY ks ds k=aa d:=e
 show(match D.gA ks ds,F5 y with
  |.gA ks ds,aa k=>(match jY ks ds k with|some d=>Q d|none=>False)
  |_,_=>False)
 rw[ek];dsimp only;rw[e];exact q
def sr(hu:X.A.units+1<cc)(ho:bZ X o fo)(hi:bZ X i fi)(hs:IY i:=by intro _ _;rfl):bZ X (.Subscript o i pos) (aC l7 fo fi):=cE (Mg hu ho hi hs) (jZ PM)
def lU(f:F1)(g:List D->Option D):Prop:=∀(ds:List D) (d:D) (Q:D->Prop),g ds=aa d->Q d->f ds Q
def u3(h:lU f g)(ρ:dC)(Q:D->Prop)(w:wE (bP g t) ρ Q):U3 f (wA t) ρ Q:=by obtain⟨d,e,q⟩:=w;obtain⟨ds,ed,e⟩:=bnd e;exact⟨ds,ed,h ds d Q e q⟩
theorem PN:lU CT bT:=λds d Q e q=>by
 cases ds with
 |nil=>cases e
 |cons a ds =>
  cases a<;>first|(cases e;done)|skip
  all_goals (cases ds<;>first|(cases e;exact q)|(cases e;done))
theorem GD:lU JC dF:=λds d Q e q=>by
 cases ds with
 |nil=>cases e
 |cons a ds =>
  cases a<;>first|(cases e;done)|skip
  all_goals (cases ds<;>first|(cases e;exact q)|(cases e;done))
def e8(hm:X.mg "len"=ab)(ha:yR X [e] t)(hg:Gl X "len":=by rfl)(he:Zs X e []:=by rfl):bZ X (.Call (.Name "len" p) [e] [] pos) (bP bT t):=cE (Ow hm ha hg he) (u3 PN)
def iU(hm:X.mg "tuple"=ab)(ha:yR X [e] t)(hg:Gl X "tuple":=by rfl)(he:Zs X e []:=by rfl):bZ X (.Call (.Name "tuple" p) [e] [] pos) (bP dF t):=cE (Xx hm Er ha hg he) (u3 GD)
theorem AU:∀ds:List D,L3.intsOf ds=L4.intsOf ds
 |[]=>rfl
 |d::ds=>by
  cases d<;>first|rfl|skip
  show(L3.intsOf ds).map _=(L4.intsOf ds).map _;rw[AU ds]
theorem p4(a:Int):∀l:Q0e,(insI a l).Perm (a::l)
 |[]=>.refl _
 |b::l=>by
  unfold insI;split
  .exact .refl _
  .exact ((p4 a l).cons b).trans (.swap a b l)
theorem nF:∀l:Q0e,(sortI l).Perm l
 |[]=>.refl _
 |a::l=>(p4 a (sortI l)).trans ((nF l).cons a)
theorem rM(a:Int):∀l:Q0e,l.Pairwise (· <= ·)->(insI a l).Pairwise (· <= ·)
 |[],_=>by simp[insI]
 |b::l,h=>by
  unfold insI;split
  .rename_i hab;refine fv.mpr ⟨λc hc=>?_,h⟩;rcases bz.mp hc with e|e
   .subst e;exact hab
   .exact yx hab ((fv.mp h).1 c e)
  .rename_i hab;refine fv.mpr ⟨λc hc=>?_,rM a l (fv.mp h).2⟩;rcases bz.mp ((p4 a l).mem_iff.mp hc) with e|e
   .subst e;omega
   .exact (fv.mp h).1 c e
theorem j8:∀l:Q0e,(sortI l).Pairwise (· <= ·)
 |[]=>Gf
 |a::l=>rM a _ (j8 l)
theorem p5:∀{l m:Q0e},l.Perm m->l.Pairwise (· <= ·)->m.Pairwise (· <= ·)->l=m
 |[],m,p,_,_=>by rw[p.nil_eq]
 |a::l,[],p,_,_=>by have:=p.length_eq;simp at this
 |a::l,b::m,p,h1,h2=>by
  have e:a=b:=by
   have m1:=p.mem_iff.mp (cp (a:=a) (l:=l));have m2:=p.mem_iff.mpr (cp (a:=b) (l:=m));rcases bz.mp m1 with e|e
   .exact e
   .rcases bz.mp m2 with e2|e2
    .exact e2.symm
    .have:=(fv.mp h2).1 a e;have:=(fv.mp h1).1 b e2;omega
  subst e;rw[p5 p.cons_inv (fv.mp h1).2 (fv.mp h2).2]
def CZ:lU VG eM:=λds d Q e q=>by
 unfold eM at e;split at e
 .rename_i a;obtain⟨ns,e1,e⟩:=bnd e;by_cases hl:ns.length<64
  .rw [Z_ hl] at e;cases e;show(match L3.intsOf a with|some ns=>ns.length<64 /\∀ns':Q0e,ns'.Perm ns->ns'.Pairwise (· <= ·)->Q (.lst (ns'.map D.int))|none=>False);rw[AU,e1];refine⟨hl,λns' p s=>?_⟩;rw[p5 (p.trans (nF ns).symm) s (j8 ns)];exact q
  .rw [Zz hl] at e;cases e
 .cases e
def vK(hm:X.mg "sorted"=ab)(ha:yR X [e] t)(hg:Gl X "sorted":=by rfl)(he:Zs X e []:=by rfl):fR X (.Call (.Name "sorted" p) [e] [] pos) (bP eM t):=cF (aAQ hm ha hg he) (u3 CZ)
def PQ:lU sumF HC:=λds d Q e q=>by
 unfold HC at e;split at e
 .rename_i a;obtain⟨ns,e1,rfl⟩:=kC e;have:=ints_of e1;subst this;rw[PF];exact q
 .cases e
def Ab(hc:X.calm=ae)(hm:X.mg "sum"=ab)(ha:yR X [e] t)(hg:Gl X "sum":=by rfl)(he:Zs X e []:=by rfl):bZ X (.Call (.Name "sum" p) [e] [] pos) (bP HC t):=cE (Ky hc hm ha hg he) (u3 PQ)
def Xl(T:String)(d:D):HD T d=isT T d:=by cases d<;>rfl
theorem GF(hT:JF T)(hm:X.mg "isinstance"=ab)(hmT:X.mg x=ab)(hv:bootBuiltins x=aa (.type T))(he:bZ X e f)(hg:Gl X "isinstance":=by rfl)(hgT:Gl X x:=by rfl)(hn:x ≠ "__name__":=by decide)(hdb:Zu x:=by decide)
  (hs:aq [e,.Name x p2] X.env=(af,eval e X.env)::aq [.Name x p2] X.env:=by rfl) (hs2:aq [.Name x p2] X.env=(af,eval (.Name x p2) X.env)::aq [] X.env:=by rfl) (hpl:(dg pos (aq [.Name x p2] X.env)).any (·.1)=af:=by rfl):
  bZ X (.Call (.Name "isinstance" p) [e,.Name x p2] [] pos) (l8 T f):=cE (Mj hT hm hmT hv he hg hgT hn hdb hs hs2 hpl) λρ Q Ji=>by
 obtain⟨d,e,q⟩:=Ji;obtain⟨x,ex,e⟩:=bnd e;by_cases hx:HE x=ae
 .rw [Z_ hx] at e;cases e;exact⟨x,ex,(by cases x<;>first|trivial|cases hx),by show Q (.bl (isT T x));rw[<- Xl];exact q⟩
 .rw [Zz hx] at e;cases e
def dJ(K:ao)(R:iP):Sp:=sp3 K λds Q=>∃d,R ds=.ok d/\Q d
inductive Cl (P:bf) (w:az) (K:ao) (mg:Q0d) (base:a_) (CX:MB) (k:Nat) (x:aj) (ps:Q0g) (sp:Sp):Prop
 |mk {f:ag} {fd:gq} (F:lQ P w K mg base CX k f fd ps sp) (m:mg x=aa (.ref f)) (kp:keepIn K (.ref f)=ae) (b:Binds K fd ps []):Cl P w K mg base CX k x ps sp
theorem Cl.up{P:bf}{w:az}{K:ao}{mg:Q0d}{base:a_}{CX:MB}{j k:Nat}{x:aj}{ps:Q0g}{sp:Sp}(c:Cl P w K mg base CX j x ps sp)(h:j<=k:=by decide):Cl P w K mg base CX k x ps sp:=by obtain⟨F,m,q,b⟩:=c;exact⟨F.mono h,m,q,b⟩
inductive Df (K:ao) (mg:Q0d) (x:aj) (st:cz) (ps:Q0g):Prop
 |mk {f:ag} {fd:gq} (a:a0O K h_ x=aa (aa (.ref f))) (F:Fun K x x st f fd) (m:mg x=aa (.ref f)) (b:Binds K fd ps []):Df K mg x st ps
theorem aG7{K:ao}{mg:Q0d}{h:a_}{x:aj}{st:cz}{ps:Q0g}{f:ag}{oc:ai}{od an:Option ag}{osl:Array (Option ai)}{kV doc pm cdv ct:ai}(X:K.In h)(G:h.Ns h_ mg)
  (b:∀us:Q0f,us.length=ps.length->bindArgs (fnOf x x (rF st) (gM st) (bV st) .none kV doc pm an cdv ct) ⟨us,[]⟩=pure (ps.zip us)) (a:a0O K h_ x=aa (aa (.ref f)))
  (l:K.lookup f=aa ⟨oc,od,.func (fnOf x x (rF st) (gM st) (bV st) .none kV doc pm an cdv ct),osl⟩) (c:codeIn K cdv x=ae) (k:keepIn K (.ref f)=ae):Df K mg x st ps:=⟨a,Yc l c k,PySem.W.mg_of X G a,.all b⟩
def u1(r:gL k A):A.units+1<cc:=by have:=r.units;omega
def u2(r:gL k A):A.units+2<cc:=by have:=r.units;omega
def u9(r:gL k A):A.units+9<cc:=by have:=r.units;omega
theorem aX(C:Cl X.prog X.w X.K X.mg X.base cK k x ps (dJ X.K R))(hr:gL k X.A)
  (ha:yR X (e::es) t) (hg:Gl X x:=by rfl) (hdb:Zu x:=by decide) (he:Zs X e es:=by rfl) (hpl:Q0k X pos es:=by rfl):
  bZ X (.Call (.Name x p) (e::es) [] pos) (aL R t):=by
 obtain⟨F,hm,hk,hb⟩:=C;refine cE (Ur F hr hm hk hb ha hg hdb he hpl) λρ Q Jh=>?_;obtain⟨d,e,q⟩:=Jh;obtain⟨ds,ed,e⟩:=bnd e;refine⟨ds,ed,d,?_,q⟩
 cases h:R ds with
 |ok d'=>rw[h] at e;cases e;rfl
 |no=>rw[h] at e;cases e
 |ex c=>rw[h] at e;cases e
def p6(hc:X.calm=ae)(hm:X.mg "list"=ab)(hmr:X.mg "range"=ab)(ha:yR X [a] t)(hg:Gl X "list":=by rfl)(hgr:Gl X "range":=by rfl)(hs:aq [a] X.env=[(af,eval a X.env)]:=by rfl)
  (he:aq [.Call (.Name "range" p2) [a] [] pos2] X.env=(af,eval (.Call (.Name "range" p2) [a] [] pos2) X.env)::aq [] X.env:=by rfl):
  fR X (.Call (.Name "list" p) [.Call (.Name "range" p2) [a] [] pos2] [] pos) (pB t):=cF (JG hc hm hmr ha hg hgr hs he) λρ Q Jg=>by
 obtain⟨d,e,q⟩:=Jg;obtain⟨ds,ed,e⟩:=bnd e;refine⟨ds,ed,?_⟩;split at e
 .rename_i j;by_cases h:j.natAbs<=16777216
  .rw [Z_ h] at e;cases e;exact⟨⟨by omega,by omega⟩,q⟩
  .rw [Zz h] at e;cases e
 .cases e
section
variable{tg:ar}
def fD(h:bZ X l f):VP X tg l (aZ f):=cI (Ug h) λρ Q Kl=>by
 obtain⟨ds,e,q⟩:=Kl;obtain⟨d,ed,e⟩:=bnd e;refine⟨d,ed,?_⟩;cases d<;>first|cases e;done|skip
 all_goals (cases e;exact q)
def VV(h:aB fa aF ρ=aa as):∃a,fa ρ=aa a/\as=[a]:=by obtain⟨a,ea,e⟩:=bnd h;cases e;exact⟨a,ea,rfl⟩
def Xk(h:aB fa (aB fb aF) ρ=aa as):∃a b,fa ρ=aa a/\fb ρ=aa b/\as=[a,b]:=by obtain⟨a,ea,e⟩:=bnd h;obtain⟨r,er,e⟩:=bnd e;obtain⟨b,eb,rfl⟩:=VV er;cases e;exact⟨a,b,ea,eb,rfl⟩
def bR(hm:X.mg "range"=ab)(ha:bZ X a fa)(hg:Gl X "range":=by rfl)(hs:aq [a] X.env=[(af,eval a X.env)]:=by rfl):VP X tg (.Call (.Name "range" p) [a] [] pos) (aQ (aB fa aF)):=cI (Ym hm (aE ha aI hs) hg hs) λρ Q Kk=>by
 obtain⟨ds,e,q⟩:=Kk;obtain⟨as,ea,e⟩:=bnd e;refine⟨as,ea,?_⟩;obtain⟨a,ha',rfl⟩:=VV ea
 clear ea ha'
 cases a<;>first|cases e;done|skip
 rename_i j;by_cases h:j.natAbs<4611686018427387904
 .have e:(if j.natAbs<4611686018427387904 then aa ((a9 0 j.toNat).map D.int) else ab)=aa ds:=e;rw[Z_ h] at e;cases e;exact⟨⟨by omega,by omega⟩,q⟩
 .have e:(if j.natAbs<4611686018427387904 then aa ((a9 0 j.toNat).map D.int) else ab)=aa ds:=e;rw[Zz h] at e;cases e
def aA3(hm:X.mg "range"=ab)(ha:bZ X a fa)(hb:bZ X b fb)(hg:Gl X "range":=by rfl)(hs:aq [a,b] X.env=[(af,eval a X.env),(af,eval b X.env)]:=by rfl)(hs2:aq [b] X.env=[(af,eval b X.env)]:=by rfl):
  VP X tg (.Call (.Name "range" p) [a,b] [] pos) (aQ (aB fa (aB fb aF))):=cI (aAK hm (aE ha (aE hb aI hs2) (hs.trans (by rw[hs2]))) hg hs hs2) λρ Q Kj=>by
 obtain⟨ds,e,q⟩:=Kj;obtain⟨as,ea,e⟩:=bnd e;refine⟨as,ea,?_⟩;obtain⟨a,b,ha',hb',rfl⟩:=Xk ea
 clear ea ha' hb'
 cases a<;>first|(cases e;done)|skip
 all_goals (cases b<;>first|(cases e;done)|skip)
 rename_i i j;by_cases h:i.natAbs<4611686018427387904/\j.natAbs<4611686018427387904
 .have e:(if i.natAbs<4611686018427387904/\j.natAbs<4611686018427387904 then aa ((a9 i (j-i).toNat).map D.int) else ab)=aa ds:=e;rw[Z_ h] at e;cases e;exact⟨⟨by omega,by omega,by omega,by omega⟩,q⟩
 .have e:(if i.natAbs<4611686018427387904/\j.natAbs<4611686018427387904 then aa ((a9 i (j-i).toNat).map D.int) else ab)=aa ds:=e;rw[Zz h] at e;cases e
end
def lV(hm:X.mg "enumerate"=ab)(ha:yR X [a] t)(hg:Gl X "enumerate":=by rfl)(hs:aq [a] X.env=[(af,eval a X.env)]:=by rfl):VP X (.Tuple es kk tp) (.Call (.Name "enumerate" p) [a] [] pos) (lZ t):=cI (JL hm ha hg hs) λρ Q Ki=>by obtain⟨ds,e,q⟩:=Ki;obtain⟨as,ea,e⟩:=bnd e;refine⟨as,ea,?_⟩;unfold zK at e;split at e<;>first|(cases e;exact q)|cases e
theorem x8:∀(ds acc ys:List D) (Q:D->Prop),gS g t e ρ ds=aa ys->acc.length+ds.length<=bc->Q (.lst (acc++ys))->rJ (pz g) (wT t) (wE e) ρ ds acc Q
 |[],acc,ys,Q,h,_,q=>by cases h;rw[rJ];simpa using q
 |d::ds,acc,ys,Q,h,hl,q=>by
  rw[rJ];obtain⟨ρ1,e1,h⟩:=bnd h;obtain⟨b,e2,h⟩:=bnd h;simp only[cy] at hl;refine⟨ρ1,e1,b,e2,?_⟩
  cases b with
  |true =>
   rw[Z_ rfl] at h ⊢;obtain⟨y,e3,h⟩:=bnd h;obtain⟨zs,e4,rfl⟩:=kC h;exact⟨y,e3,by omega,x8 ds (acc++[y]) zs Q e4 (by simp;omega) (by simpa using q)⟩
  |false =>
   rw[Zz bt] at h ⊢;exact x8 ds acc ys Q h (by omega) q
def JO(ρ:dC)(Q:D->Prop)(w:wE (aV nl fr it g t e) ρ Q):F3 nl fr (wI it) (pz g) (wT t) (wE e) ρ Q:=by
 obtain⟨d,h,q⟩:=w;obtain⟨ds,e1,h⟩:=bnd h;refine⟨ds,e1,?_⟩;by_cases hl:ds.length<=mF
 .rw [Z_ hl] at h;obtain⟨ys,e2,rfl⟩:=kC h;exact x8 ds [] ys Q e2 (by rw[gp,me,qq];exact hl) (by simpa using q)
 .rw [Zz hl] at h;cases h
abbrev PR(X:Cx)(nl:Nat)(tg:ar)(g:Q0):Prop:=PG4 X nl tg (pz g)
abbrev VW(X:Cx)(ifs:List ar)(t:TF):Prop:=O4 X ifs (wT t)
def cG(h:PG4 X nl tg g)(c:∀d ρ Q,g' d ρ Q->g d ρ Q):PG4 X nl tg g':=FV h λ_ _ _ _ T_=>by obtain⟨S,ρ,d,Q3,hl,fc,sl,dn,hg,k⟩:=T_;exact⟨S,ρ,d,Q3,hl,fc,sl,dn,c d ρ Q3 hg,k⟩
def c9(nd:X.N.Nodup)(hil:i<nl)(hi:X.N[i]?=aa x:=by rfl)(hx:Loc X.env.scope x:=by walk_at "0")(hfx:Zr X x:=by walk_at "2"):PR X nl (.Name x pos) (g1 i):=cG (Tw nd hil hi hx hfx) λd ρ Q TM=>by obtain⟨ρ',e,q⟩:=TM;cases e;exact q
theorem MS(h:t9 d=aa p):d=.tup [p.1,p.2]:=by
 cases d<;>first|(cases h;done)|skip
 rename_i l
 cases l with
 |nil=>cases h
 |cons a l =>
  cases l with
  |nil=>cases h
  |cons b l =>
   cases l with
   |nil=>cases h;rfl
   |cons c l=>cases h
def lW(hc:X.calm=ae)(nd:X.N.Nodup)(hil:i<nl)(hjl:j<nl)(hi:X.N[i]?=aa x:=by rfl)(hj:X.N[j]?=aa y:=by rfl)(hx:Loc X.env.scope x:=by walk_at "0")(hfx:Zr X x:=by walk_at "2")(hy:Loc X.env.scope y:=by walk_at "0")(hfy:Zr X y:=by walk_at "2")
  (hn:Q0i X x y px py:=by rfl) (hst:Q0h X x y px py:=by rfl)
  (hs1:H0 X x y px py:=by rfl) (hs2:gV X y py:=by rfl):
  PR X nl (.Tuple [.Name x px,.Name y py] kk pos) (g2 i j):=cG (Tv hc nd hil hjl hi hj hx hfx hy hfy hn hst hs1 hs2) λd ρ Q Tg=>by
 obtain⟨ρ',e,q⟩:=Tg;obtain⟨p,ep,rfl⟩:=kC e;rw[MS ep];exact q
def fO:VW X [] bO:=λpins s σ H Q I Tf=>by obtain⟨S,ρ,Q3,fc,sl,⟨_,e,q⟩,k⟩:=Tf;cases e;exact zz pins s σ H Q I ⟨S,ρ,Q3,fc,sl,q,k⟩
def iC(h:uZ X c t):VW X [c] t:=Tu h
section
variable{ls fs:Q0g}{fr:List Nat}{sc:gk}{tg iter elt:ar}{ifs:List ar}{pos:bg}{it:AF}{g:Q0}{t:TF}{e:EF}
theorem eB(hc:X.calm=ae)(hi:VP X tg iter it)
  (hg:∀cl C pn ex s H,(blk X (ls++fs) sc cl C pn ex s H).N.Nodup->PR (blk X (ls++fs) sc cl C pn ex s H) ls.length tg g) (hf:∀cl C pn ex s H,VW (blk X (ls++fs) sc cl C pn ex s H) ifs t) (he:∀cl C pn ex s H,bZ (blk X (ls++fs) sc cl C pn ex s H) elt e)
  (B:chk X.env.scope.names sc X.N ls fs fr=ae:=by rfl) (hs:Zp X iter:=by intro _;rfl):fR X (.ListComp elt [⟨tg,iter,ifs,0⟩] sc pos) (aV ls.length fr it g t e):=cF (Tt hc hi hg hf he B hs) JO
variable{i:Nat}{x:aj}{spos pos':bg}
theorem oA(nd:X.N.Nodup)(hc:X.calm=ae)(hi:VP X tg iter it)
  (hg:∀cl C pn ex s H,(blk X (ls++fs) sc cl C pn ex s H).N.Nodup->PR (blk X (ls++fs) sc cl C pn ex s H) ls.length tg g) (hf:∀cl C pn ex s H,VW (blk X (ls++fs) sc cl C pn ex s H) ifs t) (he:∀cl C pn ex s H,bZ (blk X (ls++fs) sc cl C pn ex s H) elt e)
  (hx0:X.N[i]?=aa x:=by rfl) (hx:X.env.scope.names.lookup x=aa .local:=by rfl) (hsw:Rv X elt tg iter ifs sc pos x pos' spos:=by rfl)
  (B:chk X.env.scope.names sc X.N ls fs fr=ae:=by rfl) (hs:Zp X iter:=by intro _;rfl):uK X (.Assign [.Name x pos'] (.ListComp elt [⟨tg,iter,ifs,0⟩] sc pos) spos) (aY i (aV ls.length fr it g t e)) :=
 cS (O5 nd hc hi hg hf he hx0 hx hsw B hs) λE ρ w=>by
  unfold wS aY at w;unfold vt
  cases h:aV ls.length fr it g t e (gR ρ) with
  |none=>rw[h] at w;exact w.elim
  |some d=>rw[h] at w;exact JO _ _ ⟨d,h,w⟩
end
end
section
variable{X:Cx}
def cO(h:PO3 X e t)(c:∀ρ Q,t' ρ Q->t ρ Q):PO3 X e t':=λpins s σ H Q I Te=>by obtain⟨S,ρ,Q3,fc,sl,ht,k⟩:=Te;exact h pins s σ H Q I ⟨S,ρ,Q3,fc,sl,c ρ Q3 ht,k⟩
def no4:PO4 X ab X4:=cO Kx λ_ _ Td=>by obtain⟨_,e,q⟩:=Td;cases e;exact q
def po4(h:bZ X e f):PO4 X (aa e) (oE f):=cO (po3 h) λρ Q Tc=>by
 obtain⟨o,e,q⟩:=Tc;obtain⟨d,ed,e⟩:=bnd e;obtain⟨i,ei,rfl⟩:=kC e;refine⟨d,ed,?_⟩;cases d<;>first|cases ei;done|skip
 cases ei;exact q
def sl4{e:ar}{lo hi:Option ar}{p2 pos:bg}{f:EF}{fl fh:OF}(he:bZ X e f)(hl:PO4 X lo fl)(hh:PO4 X hi fh):bZ X (.Subscript e (.Slice lo hi ab p2) pos) (X5 f fl fh):=cE (sl3 he hl hh) λρ Q Tb=>by
 obtain⟨r,e,q⟩:=Tb;obtain⟨d,ed,e⟩:=bnd e;obtain⟨l,el,e⟩:=bnd e;obtain⟨h,eh,e⟩:=bnd e;refine⟨d,ed,l,el,h,eh,?_⟩;cases d<;>first|cases e;done|skip
 all_goals (cases e;exact q)
def px4(h:bZ X e f):MQ X e (jR f):=cX (px3 h) λρ Q Ta=>by
 obtain⟨p,e,q⟩:=Ta;obtain⟨d,ed,e⟩:=bnd e;refine⟨d,ed,?_⟩;by_cases hi:d.zJ=ae
 .rw [Z_ hi] at e;cases e;exact⟨hi,q⟩
 .rw [Zz hi] at e;cases e
def p7(h:bZ X e f):MQ X e (bB f):=cX (Mx h) λρ Q S_=>by obtain⟨p,e,q⟩:=S_;obtain⟨d,ed,e⟩:=bnd e;cases e;exact⟨d,ed,q⟩
def x9(h:l9 o=aa ds):o=aa (.ow (.lst ds)):=by
 unfold l9 at h;split at h
 .cases h;rfl
 .cases h
def C0(f:List D->D->(List D->D->Prop)->Prop)(m:List D->D->Option (List D×D)):Prop:=∀ds d q (Q:List D->D->Prop),m ds d=aa q->Q q.1 q.2->f ds d Q
def vm(h:C0 f m)(ρ:bH)(Q:bH->D->Prop)(w:wX (nN i m x) ρ Q):nu i f (wX x) ρ Q:=by obtain⟨r,e,q⟩:=w;obtain⟨ds0,e0,e⟩:=bnd e;obtain⟨p,ep,e⟩:=bnd e;obtain⟨ds,e1,e⟩:=bnd e;obtain⟨z,ez,rfl⟩:=kC e;have o0:=x9 e0;have o1:=x9 e1;refine⟨by rw[o0];trivial,p,ep,?_⟩;show(match p.1[i]? with|some (.ow (.lst ds))=>f ds p.2 λds' r=>Q (p.1.set i (.ow (.lst ds'))) r|_=>False);rw[o1];exact h ds p.2 z _ ez q
def PU:C0 vq iI:=λds d q Q e k=>by
 unfold iI at e;by_cases h:ds.length<mF
 .rw [Z_ h] at e;cases e;exact⟨by rw[gp];exact h,k⟩
 .rw [Zz h] at e;cases e
def AV:C0 wc Q9:=λds d q Q e k=>by
 cases d<;>first|cases e;done|skip
 rename_i i;have e:(if i.natAbs<9223372036854775808 then(NJ ds.length i).bind λj=>(ds[j]?).map λd=>(ds.eraseIdx j,d) else ab)=aa q:=e;by_cases h:i.natAbs<9223372036854775808
 .rw [Z_ h] at e;obtain⟨j,ej,e⟩:=bnd e;obtain⟨d,ed,rfl⟩:=kC e;have ej:ME ds.length i=aa j:=ej;refine⟨⟨by omega,by omega⟩,?_⟩;show(match ME ds.length i with|some j=>(match ds[j]? with|some d=>Q (ds.eraseIdx j) d|none=>False)|none=>False);rw[ej];dsimp only;rw[ed];exact k
 .rw [Zz h] at e;cases e
def PV:C0 vn NL:=λds d q Q e k=>by
 cases d<;>first|cases e;done|skip
 rename_i es;have e:(if ds.length+es.length<=mF then aa (ds++es,D.non) else ab)=aa q:=e;by_cases h:ds.length+es.length<=mF
 .rw [Z_ h] at e;cases e;exact⟨by rw[gp];exact h,k⟩
 .rw [Zz h] at e;cases e
section
variable{i:Nat}{x:aj}{e:ar}{p apos cpos:bg}{f:XF}
def C2(he:MQ X e f)(hN:X.N[i]?=aa x:=by rfl)(hv:y6 X.env.scope x:=by walk_at "1")(hd:Zu x:=by decide)(hcd:Zt x:=by decide)
  (hbase:attributeBase (.Name x p) "append" X.env (eval (.Name x p) X.env)=eval (.Name x p) X.env:=by rfl)
  (hfew:Zq X cpos e:=by rfl)
  (hline:Q0j apos cpos:=by rfl) (hs:Zs X e []:=by rfl):
  MQ X (.Call (.Attribute (.Name x p) "append" apos) [e] [] cpos) (nN i iI f):=cX (Mt he hN hv hd hcd hbase hfew hline hs) (vm PU)
def Kh(he:MQ X e f)(hN:X.N[i]?=aa x:=by rfl)(hv:y6 X.env.scope x:=by walk_at "1")(hd:Zu x:=by decide)(hcd:Zt x:=by decide)
  (hbase:attributeBase (.Name x p) "pop" X.env (eval (.Name x p) X.env)=eval (.Name x p) X.env:=by rfl)
  (hfew:Zq X cpos e:=by rfl)
  (hline:Q0j apos cpos:=by rfl) (hs:Zs X e []:=by rfl):
  MQ X (.Call (.Attribute (.Name x p) "pop" apos) [e] [] cpos) (nN i Q9 f):=cX (Ms he hN hv hd hcd hbase hfew hline hs) (vm AV)
def aA4(he:MQ X e f)(hN:X.N[i]?=aa x:=by rfl)(hv:y6 X.env.scope x:=by walk_at "1")(hd:Zu x:=by decide)(hcd:Zt x:=by decide)
  (hbase:attributeBase (.Name x p) "extend" X.env (eval (.Name x p) X.env)=eval (.Name x p) X.env:=by rfl)
  (hfew:Zq X cpos e:=by rfl)
  (hline:Q0j apos cpos:=by rfl) (hs:Zs X e []:=by rfl):
  MQ X (.Call (.Attribute (.Name x p) "extend" apos) [e] [] cpos) (nN i NL f):=cX (aAR he hN hv hd hcd hbase hfew hline hs) (vm PV)
end
def fK:zF X [] dG:=zq Ou λ_ _ w=>w
theorem S0(E:DE)(ρ:bH)(w:wS (aJ f g) E ρ):vv (wS f) (wS g) E ρ:=by
 unfold wS aJ at w;unfold vv wS
 cases h:f ρ with
 |nx ρ'=>rw[h] at w;exact w
 |rt d=>rw[h] at w;exact w
 |no=>rw[h] at w;exact w
 |ex c=>rw[h] at w;exact w
def aR{st:cz}{rest:List cz}{f g:SF}(h1:uK X st f)(h2:zF X rest g):zF X (st::rest) (aJ f g):=zq (Nm h1 h2) S0
def aM{st:cz}{f:SF}(h1:uK X st f):zF X [st] f:=Uo h1
theorem b9(h:bZ X e f):uK X (.Return (aa e) pos) (bE f):=cS (Nj h) λE ρ w=>by
 unfold wS bE at w
 cases h:f (bC ρ) with
 |none=>rw[h] at w;exact w.elim
 |some d=>rw[h] at w;exact⟨d,h,w⟩
theorem fF(hc:uZ X c t)(ha:zF X a f)(hb:zF X b g):uK X (.If c a b pos) (fY t f g):=cS (Ng hc ha hb) λE ρ w=>by
 unfold wS fY at w
 cases h:t (bC ρ) with
 |none=>rw[h] at w;exact w.elim
 |some c =>
  rw[h] at w;refine⟨c,h,?_⟩
  cases c with
  |true=>rw[Z_ rfl];exact w
  |false=>rw[Zz bt];exact w
section
variable{i:Nat}{x:aj}{e:ar}{f:EF}{pos pos':bg}
theorem b7(hN:X.N.Nodup)(he:bZ X e f)(hi:X.N[i]?=aa x:=by rfl)(hx:Loc X.env.scope x:=by walk_at "0")(hs:Si X e x pos' pos:=by rfl)(hf:Zr X x:=by walk_at "0"):
  uK X (.Assign [.Name x pos'] e pos) (aY i f):=cS (Nc hN he hi hx hs hf) λE ρ w=>by
 unfold wS aY at w
 cases h:f (gR ρ) with
 |none=>rw[h] at w;exact w.elim
 |some d=>rw[h] at w;exact⟨d,h,w⟩
theorem tS(hN:X.N.Nodup)(he:fR X e f)(hi:X.N[i]?=aa x:=by rfl)(hx:Loc X.env.scope x:=by walk_at "0")(hs:Si X e x pos' pos:=by rfl)(hf:Zr X x:=by walk_at "0"):
  uK X (.Assign [.Name x pos'] e pos) (iQ i f):=cS (Na hN he hi hx hs hf) λE ρ w=>by
 unfold wS iQ at w
 cases h:f (gR ρ) with
 |none=>rw[h] at w;exact w.elim
 |some d=>rw[h] at w;exact⟨d,h,w⟩
theorem Cm(hN:X.N.Nodup)(he:fR X e f)(hi:X.N[i]?=aa x:=by rfl)(hx:Loc X.env.scope x:=by walk_at "0")(hs:Si X e x pos' pos:=by rfl)(hf:Zr X x:=by walk_at "0"):
  uK X (.Assign [.Name x pos'] e pos) (kE i f):=cS (Tp hN he hi hx hs hf) λE ρ w=>by
 unfold wS kE at w
 cases h:f (bC ρ) with
 |none=>rw[h] at w;exact w.elim
 |some d =>
  rw[h] at w;dsimp only at w;by_cases hl:pC d=ae
  .rw [Z_ hl] at w;refine⟨d,h,?_,w⟩;cases d<;>first|exact hl|cases hl
  .rw [Zz hl] at w;exact w.elim
theorem Ck{f:XF}(hN:X.N.Nodup)(he:MQ X e f)(hi:X.N[i]?=aa x:=by rfl)(hx:Loc X.env.scope x:=by walk_at "0")(hs:Si X e x pos' pos:=by rfl)(hf:Zr X x:=by walk_at "0"):
  uK X (.Assign [.Name x pos'] e pos) (jS i f):=cS (Uk hN he hi hx hs hf) λE ρ w=>by
 unfold wS jS at w
 cases h:f ρ with
 |none=>rw[h] at w;exact w.elim
 |some d=>rw[h] at w;exact⟨d,h,w⟩
def GG(hN:X.N.Nodup)(hi:X.N[i]?=aa x:=by rfl)(hx:Loc X.env.scope x:=by walk_at "0")(hs:ft (.Dict [] [] p) (aa (.Name x pos')) pos.line X.env=pure af:=by rfl)(hf:Zr X x:=by walk_at "0"):
  uK X (.Assign [.Name x pos'] (.Dict [] [] p) pos) (zL i):=cS (VH hN hi hx hs hf) λE ρ w=>w
end
theorem oU(he:MQ X e f)(hs:ft e ab pos.line X.env=pure af:=by rfl):uK X (.Expr e pos) (sX f):=cS (Ui he hs) λE ρ w=>by
 unfold wS sX at w
 cases h:f ρ with
 |none=>rw[h] at w;exact w.elim
 |some d=>rw[h] at w;exact⟨d,h,w⟩
theorem Kg(he:MQ X e f)(hk:bZ X k fk)
  (hN:X.N[i]?=aa x:=by rfl) (hv:y6 X.env.scope x:=by walk_at "1") (hd:Zu x:=by decide) (hcd:Zt x:=by decide)
  (ha:∀v,assign (.Subscript (.Name x p) k pos') X.env v=(do
   let ov <- holding [v] (eval (.Name x p) X.env)
   let iv <- holding [v,ov] (eval k X.env)
   standAt pos'
   holding [v,ov,iv] (setItem ov iv v)
   release [v,ov,iv] []):=by intro _;rfl)
  (hs:swapsWithSole [.Subscript (.Name x p) k pos'] e pos.line X.env=pure af:=by rfl) (hw:swappedStores [.Subscript (.Name x p) k pos'] e X.env=pure ab:=by rfl)
  (h1:(cq [.Subscript (.Name x p) k pos'] X.env).map (·.2)=[assign (.Subscript (.Name x p) k pos') X.env]:=by rfl):
  uK X (.Assign [.Subscript (.Name x p) k pos'] e pos) (NM i f fk):=cS (put3 he hk hN hv hd hcd ha hs hw h1) λE ρ w=>by
 unfold wS NM at w
 cases h:((f ρ).bind λp=>(l9 p.1[i]?).bind λds=>(fk (bC p.1)).bind λkd=>(asInt kd).bind λkk=>(NJ ds.length kk).map λj=>p.1.set i (.ow (.lst (ds.set j p.2)))) with
 |none=>rw[h] at w;exact w.elim
 |some ρ' =>
  rw[h] at w;obtain⟨q,eq,h⟩:=bnd h;obtain⟨ds,ed,h⟩:=bnd h;obtain⟨kd,ek,h⟩:=bnd h;obtain⟨kk,e2,h⟩:=bnd h;obtain⟨j,ej,rfl⟩:=kC h;have o:=x9 ed;refine⟨q,eq,by unfold wb;rw[o];trivial,kd,ek,?_⟩;cases kd<;>first|cases e2;done|skip
  cases e2;have ej:ME ds.length kk=aa j:=ej
  show(match q.1[i]?,D.int kk with
   |some (.ow (.lst ds)),.int k=>(match ME ds.length k with|some j=>E.nx (q.1.set i (.ow (.lst (ds.set j q.2))))|none=>False)
   |_,_=>False)
  rw[o];dsimp only;rw[ej];exact w
def PX(h:sF o=aa p):o=aa (.ow (.gA p.1 p.2)):=by
 unfold sF at h;split at h
 .cases h;rfl
 .cases h
theorem Bp(hu:X.A.units+1<cc)(he:MQ X e f)(hk:bZ X k fk)
  (hN:X.N[i]?=aa x:=by rfl) (hv:y6 X.env.scope x:=by walk_at "1") (hd:Zu x:=by decide) (hcd:Zt x:=by decide)
  (hs:ft e (aa (.Subscript (.Name x p) k pos')) pos.line X.env=pure af:=by rfl):
  uK X (.Assign [.Subscript (.Name x p) k pos'] e pos) (vS i f fk):=cS (Tq hu he hk hN hv hd hcd hs) λE ρ w=>by
 unfold wS vS at w;cases h:((f ρ).bind λp=>(sF p.1[i]?).bind λkd=>(fk (bC p.1)).bind λkv=>(uS kv).bind λkk =>
  if(iH kd.1 kd.2 kk).isNone=ae/\kd.2.length<mF then aa (p.1.set i (.ow (.gA (kd.1++[kk]) (kd.2++[p.2])))) else ab) with
 |none=>rw[h] at w;exact w.elim
 |some ρ' =>
  rw[h] at w;obtain⟨q,eq,h⟩:=bnd h;obtain⟨kd,ed,h⟩:=bnd h;obtain⟨kv,ek,h⟩:=bnd h;obtain⟨kk,e2,h⟩:=bnd h;have o:=PX ed;by_cases hc:(iH kd.1 kd.2 kk).isNone=ae/\kd.2.length<mF
  .rw [Z_ hc] at h;cases h;refine⟨q,eq,by rw[o];trivial,kv,ek,?_⟩;have e3:F5 kv=aa kk:=by cases kv<;>first|exact e2|cases e2
   show(match q.1[i]?,F5 kv with
    |some (.ow (.gA ks ds)),aa k=>(jY ks ds k=ab/\ds.length<bc)/\E.nx (q.1.set i (.ow (.gA (ks++[k]) (ds++[q.2]))))
    |_,_=>False)
   rw[o,e3];refine⟨⟨?_,by rw[gp];exact hc.2⟩,w⟩;have:=hc.1
   cases hl:iH kd.1 kd.2 kk with
   |none=>exact hl
   |some d=>rw[hl] at this;cases this
  .rw [Zz hc] at h;cases h
def zr(h:O1 X tg g)(c:∀d ρ Q,g' d ρ Q->g d ρ Q):O1 X tg g':=FV h λ_ _ _ _ Sz=>by obtain⟨H₀,S,w,ρ,G,d,Q3,hl,st,dn,hg,k⟩:=Sz;exact⟨H₀,S,w,ρ,G,d,Q3,hl,st,dn,c d ρ Q3 hg,k⟩
def fI(hN:X.N.Nodup)(hi:X.N[i]?=aa x:=by rfl)(hx:Loc X.env.scope x:=by walk_at "0")(hf:Zr X x:=by walk_at "0"):O1 X (.Name x pos) (wG (iY i)) :=
 zr (Tz hN hi hx hf) λd ρ Q Sy=>by obtain⟨ρ',e,q⟩:=Sy;cases e;exact q
def GH(hc:X.calm=ae)(hN:X.N.Nodup)(hi:X.N[i]?=aa x:=by rfl)(hj:X.N[j]?=aa y:=by rfl)(hx:Loc X.env.scope x:=by walk_at "0")(hy:Loc X.env.scope y:=by walk_at "0")
  (hf:Zr X x:=by walk_at "0") (hf2:Zr X y:=by walk_at "0")
  (hn:Q0i X x y px py:=by rfl) (hst:Q0h X x y px py:=by rfl)
  (hs1:H0 X x y px py:=by rfl) (hs2:gV X y py:=by rfl):
  O1 X (.Tuple [.Name x px,.Name y py] k pos) (wG (KP i j)):=zr (Tx hc hN hi hj hx hy hf hf2 hn hst hs1 hs2) λd ρ Q Sx=>by
 obtain⟨ρ',e,q⟩:=Sx;obtain⟨p,ep,rfl⟩:=kC e;rw[MS ep];exact q
theorem iD(hc:X.calm=ae)(hp:qg (ay X.prog X.w) X.A X.env X.xe)(hi:VP X tg iter it)(hg:O1 X tg (wG g))(hb:zF X body b)
  (hs:Zp X iter:=by intro _;rfl):uK X (.For tg iter body [] pos) (cL it g b):=cS (Ma hc hp hi hg hb hs) λE ρ w=>by
 unfold wS cL at w
 cases h:it (gR ρ) with
 |none=>rw[h] at w;exact w.elim
 |some ds =>
  rw[h] at w;refine⟨ds,h,λi ρ'=>wS (eJ g b (ds.drop i)) E ρ',(by show wS (eJ g b (ds.drop 0)) E ρ;rw[ur];exact w),λi d ρ' hd iv=>?_,λρ' iv=>?_⟩
  .have hi:i<ds.length:=(cg.mp hd).1;have e1:ds[i]=d:=(cg.mp hd).2;have iv:wS (eJ g b (ds.drop i)) E ρ':=iv;rw[pj hi,e1] at iv;unfold wS eJ at iv
   cases hg:g d ρ' with
   |none=>rw[hg] at iv;exact iv.elim
   |some ρ1 =>
    rw[hg] at iv;dsimp only at iv;refine⟨ρ1,hg,?_⟩;unfold wS
    cases hb:b ρ1 with
    |nx ρ2=>rw[hb] at iv;dsimp only;rw[hb];exact iv
    |rt d=>rw[hb] at iv;dsimp only;rw[hb];exact iv
    |no=>rw[hb] at iv;dsimp only;rw[hb];exact iv
    |ex c=>rw[hb] at iv;dsimp only;rw[hb];exact iv
  .have iv:wS (eJ g b (ds.drop ds.length)) E ρ':=iv;rw[Gd] at iv;exact iv
theorem Xj(hp:qg (ay X.prog X.w) X.A X.env X.xe)(hc:uZ X c t)(hb:zF X body b):uK X (.While c body [] pos) (RB n t b):=cS (Xr hp hc hb) λE ρ w=>by
 have least:∀{p:Nat->Prop},(∃n,p n) ->∃n,p n /\∀m,p m->n<=m:=λ{p} ⟨n,hn⟩=>by
  induction n using yd with
  |ind n ih =>
   by_cases h:∃m,m<n/\p m
   .obtain ⟨m,hm,pm⟩:=h;exact ih m hm pm
   .exact ⟨n,hn,λm pm=>by apply Gm;intro z;exact h ⟨m,by omega,pm⟩⟩
 refine⟨λρ'=>∃m,wS (eU t b m) E ρ',λρ'=>(a22 λm=>wS (eU t b m) E ρ' /\∀k,wS (eU t b k) E ρ'->m<=k),⟨n,w⟩,λρ' iv=>?_⟩;obtain⟨m0,hm0⟩:=least iv;have hm:=a21 (p:=λm=>wS (eU t b m) E ρ' /\∀k,wS (eU t b k) E ρ'->m<=k) ⟨m0,hm0⟩;dsimp only;generalize (a22 λm=>wS (eU t b m) E ρ' /\∀k,wS (eU t b k) E ρ'->m<=k)=m at hm ⊢
 cases m with
 |zero=>exact hm.1.elim
 |succ m =>
  have h1:=hm.1;unfold wS eU at h1
  cases ht:t (bC ρ') with
  |none=>rw[ht] at h1;exact h1.elim
  |some c =>
   rw[ht] at h1;refine⟨c,ht,?_⟩
   cases c with
   |false=>rw[Zz bt];exact h1
   |true =>
    rw[Z_ rfl];dsimp only at h1;unfold wS
    cases hb:b ρ' with
    |nx ρ2 =>
     rw[hb] at h1;have h2:wS (eU t b m) E ρ2:=h1;refine⟨⟨m,h2⟩,?_⟩;obtain⟨k0,hk0⟩:=least (p:=λm=>wS (eU t b m) E ρ2) ⟨m,h2⟩;have hk:=a21 (p:=λm=>wS (eU t b m) E ρ2 /\∀k,wS (eU t b k) E ρ2->m<=k) ⟨k0,hk0⟩;exact Nat.lt_succ_of_le (hk.2 m h2)
    |rt d=>rw[hb] at h1;exact h1
    |no=>rw[hb] at h1;exact h1
    |ex c=>rw[hb] at h1;exact h1
end
theorem zx{P:bf}{w:az}{K:ao}{mg:Q0d}{base:a_}{x qual:aj}{st:cz}{f:ag}{fd:gq}{N ps:Q0g}{k n np:Nat}{b:SF}(F:Fun K x qual st f fd)(S:i7 N ps (bV st))(hn:N.length=n)(hp:ps.length=np)
  (hbody:∀(cdv:ai) (A:bq) (outer:List fz) (s:ak) (H:Hp) (E:XK),gL k (A.deeper (envOfC qual (bV st) s.heap.objs.size f cdv)) ->
   zF (xN cK P w K mg base N qual (bV st) f cdv A outer s H E).ZQ (gM st) b):lQ P w K mg base cK (k+1) f fd ps (dJ K (dA n np b)):=by
 subst hn hp;refine Mz F S (λds Q ⟨d,e,q⟩=>?_) λcdv A outer s H E hr=>⟨_,hbody cdv A outer s H E hr,λds Q ⟨d,e,q⟩=>?_⟩
 .unfold dA at e;by_cases h:ds.length=ps.length
  .exact h
  .rw [Zz h] at e;cases e
 .unfold dA at e;by_cases h:ds.length=ps.length
  .rw [Z_ h] at e;have e2:nB N ds=eO N.length ds:=rfl;unfold wS;rw[e2]
   cases hb:b (eO N.length ds) with
   |rt d'=>rw[hb] at e;cases e;exact q
   |nx ρ=>rw[hb] at e;cases e;exact q
   |no=>rw[hb] at e;cases e
   |ex c=>rw[hb] at e;cases e
  .rw [Zz h] at e;cases e
theorem j9{P:bf}{w:az}{K:ao}{mg:Q0d}{base:a_}{x:aj}{st:cz}{N ps:Q0g}{k n np:Nat}{b:SF}(D:Df K mg x st ps)
  (h:∀{f:ag} {cdv:ai} {A:bq} {outer:List fz} {s:ak} {H:Hp} {E:XK},gL k (A.deeper (envOfC x (bV st) s.heap.objs.size f cdv))->N.Nodup->zF (xN cK P w K mg base N x (bV st) f cdv A outer s H E).ZQ (gM st) b)
  (S:i7 N ps (bV st):=by exact⟨rfl,rfl,rfl,by decide+kernel,rfl,by decide+kernel,by decide+kernel⟩) (hn:N.length=n:=by rfl) (hp:ps.length=np:=by rfl):Cl P w K mg base cK (k+1) x ps (dJ K (dA n np b)):=by
 obtain⟨_,F,m,q⟩:=D;exact⟨zx F S hn hp λ_ _ _ _ _ _ hr=>h hr S.nd,m,F.kp,q⟩
def Sw{P:bf}{w:az}{K:ao}{mg:Q0d}{base:a_}{k:Nat}{f:ag}{fd:gq}{ps:Q0g}:lQ P w K mg base cK k f fd ps (dJ K λ_=>.no) :=
 ⟨λ_ _ _ _ h=>(by obtain⟨_,_,_,_,_,⟨_,e,_⟩,_⟩:=h;cases e),λ_ _ _ _ _ _ _ _ _ _ _ _ _ h=>(by obtain⟨_,_,_,_,_,⟨_,e,_⟩,_⟩:=h;cases e)⟩
def nn4{P:bf}{w:az}{K:ao}{mg:Q0d}{base:a_}{k:Nat}{x:aj}{st:cz}{ps:Q0g}(D:Df K mg x st ps):Cl P w K mg base cK k x ps (dJ K λ_=>.no):=by obtain⟨_,F,m,q⟩:=D;exact⟨Sw,m,F.kp,q⟩
section
variable{X:Cx}{pins:Q0b}{σ:L2.St}{H:Hp}
theorem uL(I:Inv X pins σ H s)(rx:RelV x v)(e:x=.bl k\/(∃p xs,x=.ref p/\(eE X.K H p xs\/fS X.K H p xs)/\k=!xs.isEmpty))
  (q:∀tk,Q k {s with toks:=tk}):ax (ay X.prog X.w) A (truthy v) Q E s:=by
 have hs:bc=16777216:=gp;rcases e with rfl|⟨p,xs,rfl,hx,rfl⟩
 .cases rx;exact kb (q s.toks)
 .cases rx;rcases hx with hx|hx
  .obtain ⟨its,r,pl,hz⟩:=I.list hx;have hlen:=r.length;exact a0c pl.isList (by simp only[cn];omega) (by rw[lP r];exact q _)
  .obtain ⟨its,r,pl,hz⟩:=I.tuple hx;have hlen:=r.length;exact a1P pl (by simp only[cn];omega) (by rw[lP r];exact q _)
def TrV(K:ao)(H:Hp)(x:V)(k:Bool):Prop:=x=.bl k\/(∃p xs,x=.ref p/\(eE K H p xs\/fS K H p xs)/\k=!xs.isEmpty)
def AW(h:j<n):(bh n).drop j=j::(bh n).drop (j+1):=by
 have hl:j<(bh n).length:=by rw[jr];exact h
 rw[pj hl,List.getElem_range]
section
variable{it:ag}{fp wr:List ag}{n:Nat}{P:Nat->ai->Prop}{St:Nat->a_->Prop}{R:Result->ak->Prop}{tr:Nat->Bool}
theorem AX(W:Walks X.prog X.w X.A.in1 it fp wr n P St)(hf:∀b∈wr,oG X pins H b)(ht:∀j v,P j v ->∃x,RelV x v/\TrV X.K H x (tr j)):
  ∀(m j:Nat) (st:ak),m+j=n->Inv X pins σ H st->St j st.heap->(∀st',Inv X pins σ H st'->R (.ok (.ret (.bool (((bh n).drop j).any tr)))) st')->mx (ay X.prog X.w) X.A (.builtin "any.loop" ⟨[.ref it],[]⟩) R st
 |0,j,st,hj,I,hS,k=>by
  obtain rfl:j=n:=by omega
  refine mw (a1y) ?_;rw[ng xr];refine av (W.done st _ _ hS λh2 t2 kp=>av (ny (bb ?_)));have:=k _ (F6 (t':=t2) I kp hf)
  rwa [Ge (by simp)] at this
 |m+1,j,st,hj,I,hS,k=>by
  have hjn:j<n:=by omega
  refine mw (a1y) ?_;rw[ng xr];refine av (W.item j st _ _ hjn hS λv h2 t2 pv uy kp=>?_);have I2:Inv X pins σ H {st with heap:=h2,toks:=t2}:=F6 (t':=t2) I kp hf;obtain⟨x,rx,hx⟩:=ht j v pv;rw[AW hjn,ji] at k;refine av (ju (uL I2 rx hx λt3=>av (a0k ?_)));have I3:Inv X pins σ H {st with heap:=h2,toks:=t3}:=I2.tok t3
  cases hb:tr j with
  |false =>
   rw[hb,yz] at k;rw[Zz bt];exact bb ⟨og xr _,AX W hf ht m (j+1) _ (by omega) I3 uy k⟩
  |true =>
   rw[hb,a23] at k;rw[Z_ rfl];exact av (ny (bb (k _ I3)))
theorem AZ(W:Walks X.prog X.w X.A.in1 it fp wr n P St)(hf:∀b∈wr,oG X pins H b)(ht:∀j v,P j v ->∃x,RelV x v/\TrV X.K H x (tr j)):
  ∀(m j:Nat) (st:ak),m+j=n->Inv X pins σ H st->St j st.heap->(∀st',Inv X pins σ H st'->R (.ok (.ret (.bool (((bh n).drop j).all tr)))) st')->mx (ay X.prog X.w) X.A (.builtin "all.loop" ⟨[.ref it],[]⟩) R st
 |0,j,st,hj,I,hS,k=>by
  obtain rfl:j=n:=by omega
  refine mw (a1z) ?_;rw[ng xt];refine av (W.done st _ _ hS λh2 t2 kp=>av (ny (bb ?_)));have:=k _ (F6 (t':=t2) I kp hf)
  rwa [Ge (by simp)] at this
 |m+1,j,st,hj,I,hS,k=>by
  have hjn:j<n:=by omega
  refine mw (a1z) ?_;rw[ng xt];refine av (W.item j st _ _ hjn hS λv h2 t2 pv uy kp=>?_);have I2:Inv X pins σ H {st with heap:=h2,toks:=t2}:=F6 (t':=t2) I kp hf;obtain⟨x,rx,hx⟩:=ht j v pv;rw[AW hjn,kz] at k;refine av (ju (uL I2 rx hx λt3=>av (a0k ?_)));have I3:Inv X pins σ H {st with heap:=h2,toks:=t3}:=I2.tok t3
  cases hb:tr j with
  |true =>
   rw[hb,lh] at k;rw[Z_ rfl];exact bb ⟨og xt _,AZ W hf ht m (j+1) _ (by omega) I3 uy k⟩
  |false =>
   rw[hb,y_] at k;rw[Zz bt];exact av (ny (bb (k _ I3)))
end
def vh(f:List Bool->Bool)(K:ao):List V->Hp->VK->Prop:=λxs H Q=>∃a ys bs,xs=[.ref a]/\H a=aa (.lst ys)/\bs.length=ys.length/\(∀(j:Nat) (y:V) (b:Bool),ys[j]?=aa y->bs[j]?=aa b->TrV K H y b)/\Q (.bl (f bs)) H
def PY(hc:X.calm=ae):fM X (.builtin "any") (vh (λbs=>bs.any id) X.K):=by
 intro pins s σ H xs us Q I r h;obtain⟨a,ys,bs,rfl,ha,hl,ht,q⟩:=h;obtain⟨u,rfl,ru⟩:=vals1 r;cases ru;obtain⟨its,rv,p,hz⟩:=I.list (eE.of ha);have hlt:a<s.heap.objs.size:=by obtain⟨o,n,e,_⟩:=p;exact b_ e
 have hn:its.length=ys.length:=rv.length.symm;have ht2:∀j v,its.toArray[j]?=aa v ->∃x,RelV x v/\TrV X.K H x (bs.getD j ae):=λj v e=>by
  have e1:its[j]?=aa v:=by simpa using e
  have hj:j<ys.length:=by have:=(cg.mp e1).1;omega
  obtain⟨u,e2,ru⟩:=rv.get (ba hj);rw[e1] at e2;cases e2;refine⟨_,ru,ht j _ _ (ba hj) ?_⟩;rw[fg,ba (by omega)];rfl
 refine a0K (F.kind_any) F.plain_any F.entry_any (F.args_any1 _) ?_;unfold Builtin.«any»;refine av (m:=oneArg "any" _) (bb (av (De p.isList (bb ⟨og xr _,?_⟩))));have hfr:H s.heap.objs.size=ab:=I.hok.fresh (bj _);have I1:Inv X pins σ H {s with heap:=s.heap.push {cls:=.type "list_iterator",data:=.fields #[.ref a,rawInt 0]} }:=I.kept (t':=s.toks) λb o e=>di _ e;refine AX (X:=X) (pins:=pins) (σ:=σ) (H:=H) (tr:=λj=>bs.getD j ae) (a0M (A:=X.A.in1) (show X.A.in1.handled=ab from I.ok.hd hc) s.heap.objs.size a (gd hlt) its.toArray) (λb hb=>?_) ht2 its.toArray.size 0 _ rfl I1
  ⟨⟨_,gc _ rfl,rfl,rfl⟩,p.isList.at λo e=>di _ e⟩ λst' I'=>?_
 .cases cm.mp hb;exact I.CA (bj _) hfr
 .refine ⟨.bl _,H,I',rfl,?_⟩;rw[ur,show its.toArray.size=bs.length by simp[hn,hl],range_any];exact q
def PZ(hc:X.calm=ae):fM X (.builtin "all") (vh (λbs=>bs.all id) X.K):=by
 intro pins s σ H xs us Q I r h;obtain⟨a,ys,bs,rfl,ha,hl,ht,q⟩:=h;obtain⟨u,rfl,ru⟩:=vals1 r;cases ru;obtain⟨its,rv,p,hz⟩:=I.list (eE.of ha);have hlt:a<s.heap.objs.size:=by obtain⟨o,n,e,_⟩:=p;exact b_ e
 have hn:its.length=ys.length:=rv.length.symm;have ht2:∀j v,its.toArray[j]?=aa v ->∃x,RelV x v/\TrV X.K H x (bs.getD j ae):=λj v e=>by
  have e1:its[j]?=aa v:=by simpa using e
  have hj:j<ys.length:=by have:=(cg.mp e1).1;omega
  obtain⟨u,e2,ru⟩:=rv.get (ba hj);rw[e1] at e2;cases e2;refine⟨_,ru,ht j _ _ (ba hj) ?_⟩;rw[fg,ba (by omega)];rfl
 refine a0K (F.kind_all) F.plain_all F.entry_all (F.args_all1 _) ?_;unfold Builtin.«all»;refine av (m:=oneArg "all" _) (bb (av (De p.isList (bb ⟨og xt _,?_⟩))));have hfr:H s.heap.objs.size=ab:=I.hok.fresh (bj _);have I1:Inv X pins σ H {s with heap:=s.heap.push {cls:=.type "list_iterator",data:=.fields #[.ref a,rawInt 0]} }:=I.kept (t':=s.toks) λb o e=>di _ e;refine AZ (X:=X) (pins:=pins) (σ:=σ) (H:=H) (tr:=λj=>bs.getD j ae) (a0M (A:=X.A.in1) (show X.A.in1.handled=ab from I.ok.hd hc) s.heap.objs.size a (gd hlt) its.toArray) (λb hb=>?_) ht2 its.toArray.size 0 _ rfl I1
  ⟨⟨_,gc _ rfl,rfl,rfl⟩,p.isList.at λo e=>di _ e⟩ λst' I'=>?_
 .cases cm.mp hb;exact I.CA (bj _) hfr
 .refine ⟨.bl _,H,I',rfl,?_⟩;rw[ur,show its.toArray.size=bs.length by simp[hn,hl],range_all];exact q
theorem Bo{K:ao}{S:ag->Prop}{H:Hp}:∀{es:List D} {ys:List V} {bs:List Bool},aS K S H es ys->pA es=aa bs->bs.length=ys.length /\∀(j:Nat) (y:V) (b:Bool),ys[j]?=aa y->bs[j]?=aa b->TrV K H y b
 |[],ys,bs,dn,h=>by simp only[aS] at dn;subst dn;cases h;exact⟨rfl,λj y b e=>by simp at e⟩
 |d::es,ys,bs,dn,h=>by
  obtain⟨v,r,rfl,h1,h2⟩:=dn.bD;obtain⟨b,eb,h⟩:=bnd h;obtain⟨bs',e2,rfl⟩:=kC h;obtain⟨hl,ih⟩:=Bo h2 e2;refine⟨by simp[hl],λj y c ey ec=>?_⟩
  cases j with
  |zero =>
   simp at ey ec;subst ey ec;cases d<;>first|cases eb;done|skip
   .cases eb;simp only[Dn] at h1;exact .inl h1
   .cases eb;simp only[Dn] at h1;obtain⟨a,xs,rfl,ha,da⟩:=h1;exact .inr ⟨a,xs,rfl,.inr (fS.of ha),by rw[<- da.empty]⟩
   .cases eb;simp only[Dn] at h1;obtain⟨a,xs,rfl,ha,_,da⟩:=h1;exact .inr ⟨a,xs,rfl,.inl (eE.of ha),by rw[<- da.empty]⟩
  |succ j=>exact ih j y c (by simpa using ey) (by simpa using ec)
def trF(f:List Bool->Bool):F1
 |[.lst es],Q=>∃bs,pA es=aa bs/\Q (.bl (f bs))
 |_,_=>False
theorem VX{K:ao}{f:List Bool->Bool}:C3 K (vh f K) (trF f):=by
 intro S H xs ds Q3 Q fc hd hf k
 match ds,hf with
 |[.lst es],⟨bs,eb,q⟩ =>
  obtain⟨v,r,rfl,h1,h2⟩:=hd.bD;simp only[aS] at h2;subst h2;simp only[Dn] at h1;obtain⟨a,ys,rfl,ha,sa,da⟩:=h1;obtain⟨hl,ht⟩:=Bo da eb;exact⟨a,ys,bs,rfl,ha,hl,ht,k _ H _ (Same.refl H) (by simp only[Dn]) q⟩
def zw{p pos:bg}{e:ar}{t:AF}(hc:X.calm=ae)(hm:X.mg "any"=ab)(ha:yR X [e] t)(hg:Gl X "any":=by rfl)(he:Zs X e []:=by rfl):bZ X (.Call (.Name "any" p) [e] [] pos) (bP anyM t) :=
 cE (tM (PY hc) VX a36 hg hm ha (by decide) (by decide) he (by rfl)) (u3 λds d Q e q=>by
  unfold anyM at e;split at e
  .obtain ⟨bs,eb,rfl⟩:=kC e;exact⟨bs,eb,q⟩
  .cases e)
def sk{p pos:bg}{e:ar}{t:AF}(hc:X.calm=ae)(hm:X.mg "all"=ab)(ha:yR X [e] t)(hg:Gl X "all":=by rfl)(he:Zs X e []:=by rfl):bZ X (.Call (.Name "all" p) [e] [] pos) (bP allM t) :=
 cE (tM (PZ hc) VX a37 hg hm ha (by decide) (by decide) he (by rfl)) (u3 λds d Q e q=>by
  unfold allM at e;split at e
  .obtain ⟨bs,eb,rfl⟩:=kC e;exact⟨bs,eb,q⟩
  .cases e)
end
end L4
namespace L3
open PySem.Spec PyProof.Rows L2
noncomputable def aNy(t:WA):WI:=λρ Q=>t ρ λds=>match ds with
 |[.lst ds]=>Q ds.reverse
 |[.tup ds]=>Q ds.reverse
 |_=>False
end L3
namespace L4
open PySem.Spec PyProof.Rows L2 L3
section
variable{X:Cx}{tg:ar}
noncomputable def CO:F1
 |[.int i],Q=>Q (.int i)
 |[.bl b],Q=>Q (.int (if b=ae then 1 else 0))
 |_,_=>False
theorem Xi{K:ao}:C3 K (λxs H Q=>(∃i,xs=[.int i]/\Q (.int i) H) \/∃k,xs=[.bl k]/\Q (.int (if k then 1 else 0)) H) CO:=by
 intro S H xs ds Q3 Q fc hd hf k
 match ds,hf with
 |[.int i],hf =>
  obtain⟨v,r,rfl,h1,h2⟩:=hd.bD;simp only[aS] at h2;subst h2;simp only[Dn] at h1;subst h1;exact .inl ⟨i,rfl,k _ H _ (Same.refl H) (by simp only[Dn]) hf⟩
 |[.bl b],hf =>
  obtain⟨v,r,rfl,h1,h2⟩:=hd.bD;simp only[aS] at h2;subst h2;simp only[Dn] at h1;subst h1;exact .inr ⟨b,rfl,k _ H _ (Same.refl H) (by simp only[Dn]) hf⟩
theorem GI:lU CO vR:=λds d Q e q=>by
 cases ds with
 |nil=>cases e
 |cons a ds =>
  cases a<;>first|(cases e;done)|skip
  all_goals (cases ds<;>first|(cases e;exact q)|(cases e;done))
def Kf(hc:X.calm=ae)(hm:X.mg "int"=ab)(ha:yR X [e] t)(hg:Gl X "int":=by rfl)(he:Zs X e []:=by rfl):bZ X (.Call (.Name "int" p) [e] [] pos) (bP vR t):=cE (MN OM Xi Et hg hm ha (by decide) (by decide) he (by rfl)) (u3 GI)
end
open PySem.W
noncomputable def told(lt:Nat->Nat->Bool){α:Type}:oi α->α
 |.ret a=>a
 |.ask i j k=>told lt (k (lt i j))
theorem jC{α β:Type}(f:α->oi β):∀t:oi α,told lt (t.bind f)=told lt (f (told lt t))
 |.ret _=>rfl
 |.ask i j k=>jC f (k (lt i j))
section
variable{lt:Nat->Nat->Bool}
def Up(lt:Nat->Nat->Bool)(p:Array Nat)(k:Nat):Prop:=∀i j,i<j->j<k->lt (p.getD j 0) (p.getD i 0)=af
def Q7(lt:Nat->Nat->Bool)(p:Array Nat)(k:Nat):Prop:=∀i j,i<j->j<k->lt (p.getD i 0) (p.getD j 0)=af
structure tT (lt:Nat->Nat->Bool):Prop where
 as:∀a b,lt a b=ae->lt b a=af
 tr:∀a b c,lt b a=af->lt c b=af->lt c a=af
theorem tT.Q2(O:tT lt)(x:Nat):lt x x=af:=by
 cases hb:lt x x with
 |false=>rfl
 |true=>have:=O.as _ _ hb;rw[hb] at this;exact this
def gO{p:Array Nat}{i:Nat}:p.getD i 0=(p[i]?).getD 0:=by rw[Array.getD_eq_getD_getElem?]
def iG{p:Array Nat}{i j:Nat}(hj:j<=p.size)(k:Nat):(ia p i j).getD k 0=if i<=k/\k<j then p.getD (i+j-1-k) 0 else p.getD k 0:=by unfold ia;rw[gO,getElem?_mirror_all hj];split<;>rw[gO]
def yA(p:Array Nat)(i j:Nat):(ia p i j).size=p.size:=mirror_size _ _ _ _
def gP(p:Array Nat)(i j:Nat):(ia p i j).Perm p:=mirror_perm _ _ _ _
theorem JP(O:tT lt)(p:Array Nat):∀f n,1<=n->Up lt p n->n<=told lt (ig p f n)/\told lt (ig p f n)<=n+f/\Up lt p (told lt (ig p f n))/\(told lt (ig p f n)<n+f->lt (p.getD (told lt (ig p f n)) 0) (p.getD (told lt (ig p f n)-1) 0)=ae)
 |0,n,h1,hu=>⟨bj _,bj _,hu,λh=>Zw h (ib _)⟩
 |f+1,n,h1,hu=>by
  show n<=told lt (if lt (p.getD n 0) (p.getD (n-1) 0)=ae then mz n else ig p f (n+1))/\told lt (if lt (p.getD n 0) (p.getD (n-1) 0)=ae then mz n else ig p f (n+1))<=n+(f+1)/\Up lt p (told lt (if lt (p.getD n 0) (p.getD (n-1) 0)=ae then mz n else ig p f (n+1)))/\(told lt (if lt (p.getD n 0) (p.getD (n-1) 0)=ae then mz n else ig p f (n+1))<n+(f+1)->lt (p.getD (told lt (if lt (p.getD n 0) (p.getD (n-1) 0)=ae then mz n else ig p f (n+1))) 0) (p.getD (told lt (if lt (p.getD n 0) (p.getD (n-1) 0)=ae then mz n else ig p f (n+1))-1) 0)=ae)
  cases hc:lt (p.getD n 0) (p.getD (n-1) 0) with
  |true=>exact⟨bj _,by show n<=n+(f+1);omega,hu,λ_=>hc⟩
  |false =>
   rw[Zz bt];have hu2:Up lt p (n+1):=λi j hij hj=>by
    by_cases hj2:j<n
    .exact hu i j hij hj2
    .have:j=n:=by omega
     subst this;by_cases hi:i=j-1
     .subst hi;exact hc
     .exact O.tr _ _ _ (hu i (j-1) (by omega) (by omega)) hc
   obtain⟨a,b,c,d⟩:=JP O p f (n+1) (by omega) hu2;exact⟨by omega,by omega,c,λh=>d (by omega)⟩
def Xh(hn:n<=p.size)(h:Q7 lt p n):Up lt (ia p 0 n) n:=λi j hij hj=>by rw[iG hn,iG hn,Z_ ⟨by omega,hj⟩,Z_ ⟨by omega,by omega⟩];exact h _ _ (by omega) (by omega)
def Last(lt:Nat->Nat->Bool)(p:Array Nat)(n q:Nat):Prop:=q+1<=n /\∀i j,n-(q+1)<=i->i<n->n-(q+1)<=j->j<n->lt (p.getD i 0) (p.getD j 0)=af
def rev_last(hn:n<=p.size)(h:Q7 lt p n)(l:Last lt p n q):Q7 lt (ia p (n-(q+1)) n) n:=λi j hij hj=>by
 have:=l.1;rw[iG hn,iG hn];by_cases h1:n-(q+1)<=i
 .rw [Z_ ⟨h1,by omega⟩,Z_ ⟨by omega,hj⟩];exact l.2 _ _ (by omega) (by omega) (by omega) (by omega)
 .rw [Zz (by omega)];by_cases h2:n-(q+1)<=j
  .rw [Z_ ⟨h2,hj⟩];exact h _ _ (by omega) (by omega)
  .rw [Zz (by omega)];exact h i j hij hj
def kW(O:tT lt)(h1:1<=n)(h:Q7 lt p n)(hc:lt (p.getD (n-1) 0) (p.getD n 0)=af):Q7 lt p (n+1):=λi j hij hj=>by
 by_cases hj2:j<n
 .exact h i j hij hj2
 .have:j=n:=by omega
  subst this;by_cases hi:i=j-1
  .subst hi;exact hc
  .exact O.tr _ _ _ hc (h i (j-1) (by omega) (by omega))
def VY(hn:n<p.size):(ia p (n-(q+1)) n).getD n 0=p.getD n 0:=by rw[iG (km hn),Zz (by omega)]
theorem nZ(O:tT lt):∀f (p:Array Nat) n q,1<=n->n+f<=p.size->Q7 lt p n->Last lt p n q ->∀r,r=told lt (oh f p n q)->r.1.Perm p/\r.2.1<=n+f/\n<=r.2.1/\Q7 lt r.1 r.2.1/\Last lt r.1 r.2.1 r.2.2
 |0,p,n,q,_,_,h,l,r,er=>by subst er;exact⟨rf _,bj _,bj _,h,l⟩
 |f+1,p,n,q,h1,hs,h,l,r,er=>by
  have er:r=told lt (if lt (p.getD n 0) (p.getD (n-1) 0)=ae then(if q>0 then oh f (ia p (n-(q+1)) n) (n+1) 0 else oh f p (n+1) 0) else .ask (p.getD (n-1) 0) (p.getD n 0) λd=>if d=ae then .ret (p,n,q) else oh f p (n+1) (q+1)):=er;have one:∀p:Array Nat,Last lt p (n+1) 0:=λp=>⟨by omega,λi j a b c d=>by
   have e1:i=n:=by omega
   have e2:j=n:=by omega
   rw[e1,e2];exact O.Q2 _⟩
  cases hc:lt (p.getD n 0) (p.getD (n-1) 0) with
  |true =>
   rw[hc,Z_ rfl] at er;have hc2:=O.as _ _ hc;by_cases hq:q>0
   .rw [Z_ hq] at er;have d1:=rev_last (by omega) h l;have lq:=l.1;have d2:Q7 lt (ia p (n-(q+1)) n) (n+1):=by refine kW O h1 d1 ?_;rw[VY (by omega),iG (by omega),Z_ ⟨by omega,by omega⟩];exact O.tr _ (p.getD (n-1) 0) _ hc2 (l.2 _ _ (by omega) (by omega) (by omega) (by omega))
    obtain⟨a,b,c,d,e⟩:=nZ O f (ia p (n-(q+1)) n) (n+1) 0 (by omega) (by rw[yA];omega) d2 (one _) r er;exact⟨a.trans (gP _ _ _),by omega,by omega,d,e⟩
   .rw [Zz hq] at er;obtain⟨a,b,c,d,e⟩:=nZ O f p (n+1) 0 (by omega) (by omega) (kW O h1 h hc2) (one _) r er;exact⟨a,by omega,by omega,d,e⟩
  |false =>
   rw[hc,Zz bt] at er;have er:r=told lt (if lt (p.getD (n-1) 0) (p.getD n 0)=ae then mz (p,n,q) else oh f p (n+1) (q+1)):=er
   cases hd:lt (p.getD (n-1) 0) (p.getD n 0) with
   |true =>
    rw[hd,Z_ rfl] at er;subst er;exact⟨rf _,by show n<=n+(f+1);omega,bj _,h,l⟩
   |false =>
    rw[hd,Zz bt] at er;have lq:=l.1;have l2:Last lt p (n+1) (q+1):=⟨by omega,λi j a b c d=>by
     by_cases hi:i<n
     .by_cases hj:j<n
      .exact l.2 i j (by omega) hi (by omega) hj
      .have:j=n:=by omega
       subst this;exact O.tr _ (p.getD (j-1) 0) _ hd (l.2 i (j-1) (by omega) hi (by omega) (by omega))
     .have:i=n:=by omega
      subst this;by_cases hj:j<i
      .exact O.tr _ (p.getD (i-1) 0) _ (l.2 (i-1) j (by omega) (by omega) (by omega) hj) hc
      .have:j=i:=by omega
       subst this;exact(one p).2 j j (by omega) (by omega) (by omega) (by omega)⟩
    obtain⟨a,b,c,d,e⟩:=nZ O f p (n+1) (q+1) (by omega) (by omega) (kW O h1 h hd) l2 r er;exact⟨a,by omega,by omega,d,e⟩
def A1{p q:Array Nat}(h:p.Perm q):p.size=q.size:=h.size_eq
def MT(O:tT lt)(h1:1<=n)(hn:n<=nrem)(hs:nrem<=p.size)(h:Q7 lt p n)(r:Nat×Array Nat)(er:r=told lt (Dz n nrem p)):r.2.Perm p/\1<=r.1/\r.1<=nrem/\Up lt r.2 r.1:=by unfold Dz at er;rw[jC] at er;obtain⟨a,b,c,_⟩:=JP O (ia p 0 n) (nrem-n) n h1 (Xh (by omega) h);subst er;exact⟨gP _ _ _,gb h1 a,(by show told lt _<=nrem;omega),c⟩
def uM(O:tT lt){n nrem:Nat}{p:Array Nat}(h1:1<=n)(hn:n+1<=nrem)(hs:nrem<=p.size)(h:Q7 lt p (n+1))(r:Nat×Array Nat)(er:r=told lt (xi n nrem p)):r.2.Perm p/\1<=r.1/\r.1<=nrem/\Up lt r.2 r.1:=by
 unfold xi at er;rw[jC] at er;have one:Last lt p (n+1) 0:=⟨by omega,λi j a b c d=>by
  have e1:i=n:=by omega
  have e2:j=n:=by omega
  rw[e1,e2];exact O.Q2 _⟩
 obtain⟨a,b,c,d,e⟩:=nZ O (nrem-(n+1)) p (n+1) 0 (by omega) (by omega) h one _ rfl;generalize told lt (oh (nrem-(n+1)) p (n+1) 0)=z at a b c d e er;have hz:=A1 a;by_cases hq:z.2.2>0
 .rw [Z_ hq] at er;obtain⟨a2,b2,c2,d2⟩:=MT O (n:=z.2.1) (nrem:=nrem) (p:=ia z.1 (z.2.1-(z.2.2+1)) z.2.1) (by omega) (by omega) (by rw[yA];omega) (rev_last (by omega) d e) r er;exact⟨a2.trans ((gP _ _ _).trans a),b2,c2,d2⟩
 .rw [Zz hq] at er;obtain⟨a2,b2,c2,d2⟩:=MT O (n:=z.2.1) (nrem:=nrem) (p:=z.1) (by omega) (by omega) (by omega) d r er;exact⟨a2.trans a,b2,c2,d2⟩
def VZ(O:tT lt)(h1:1<=n)(hs:n<=p.size)(r:Nat×Array Nat)(er:r=told lt (xj n p)):r.2.Perm p/\1<=r.1/\r.1<=n/\Up lt r.2 r.1:=by
 unfold xj at er;rw[jC] at er;obtain⟨a,b,c,d⟩:=JP O p (n-1) 1 (bj _) (λi j hij hj=>by omega);generalize told lt (ig p (n-1) 1)=m at a b c d er;by_cases hm:(m == n)=ae
 .rw [Z_ hm] at er;subst er;exact⟨rf _,a,by show m<=n;omega,c⟩
 .rw [Zz hm] at er;have hm:m≠n:=λe=>hm (by rw[e];simp);have hlt:=d (by omega);by_cases h2:m>1
  .rw [Z_ h2] at er;have er:r=told lt (if lt (p.getD 0 0) (p.getD (m-1) 0)=ae then mz (m,p) else xi m n (ia p 0 m)):=er
   cases hc:lt (p.getD 0 0) (p.getD (m-1) 0) with
   |true =>
    rw[hc,Z_ rfl] at er;subst er;exact⟨rf _,a,by show m<=n;omega,c⟩
   |false =>
    rw[hc,Zz bt] at er;have all:∀i j,i<m->j<m->lt (p.getD i 0) (p.getD j 0)=af:=λi j hi hj=>by
     have i0:∀i,i<m->lt (p.getD 0 0) (p.getD i 0)=af:=λi hi=>by
      by_cases he:i=m-1
      .subst he;exact hc
      .exact O.tr _ _ _ (c i (m-1) (by omega) (by omega)) hc
     have Q2:∀x,lt x x=af:=λx=>by
      cases hb:lt x x with
      |false=>rfl
      |true=>have:=O.as _ _ hb;rw[hb] at this;exact this
     have z0:lt (p.getD i 0) (p.getD 0 0)=af:=by
      by_cases hi0:i=0
      .subst hi0;exact Q2 _
      ·-- a later one is not less than the first one
       exact c 0 i (by omega) hi
     exact O.tr _ _ _ (i0 j hj) z0
    have dn:Q7 lt (ia p 0 m) (m+1):=by
     refine kW O a (λi j hij hj=>?_) ?_
     .rw [iG (by omega),iG (by omega),Z_ ⟨by omega,by omega⟩,Z_ ⟨by omega,by omega⟩];exact all _ _ (by omega) (by omega)
     .rw [iG (by omega),iG (by omega),Z_ ⟨by omega,by omega⟩,Zz (by omega)];exact O.tr _ (p.getD (m-1) 0) _ (O.as _ _ hlt) (all _ _ (by omega) (by omega))
    obtain⟨a2,b2,c2,d2⟩:=uM O a (by omega) (by rw[yA];exact hs) dn r er;exact⟨a2.trans (gP _ _ _),b2,c2,d2⟩
  .rw [Zz h2] at er;have:m=1:=by omega
   subst this;have dn:Q7 lt p (1+1):=kW O (bj _) (λi j hij hj=>by omega) (O.as _ _ hlt);exact uM O (bj _) (by omega) hs dn r er
theorem yB(O:tT lt)(p:Array Nat)(k:Nat):∀f l r,l<=r->r<=k->r-l<=f->Up lt p k->(∀i,i<l->lt (p.getD k 0) (p.getD i 0)=af)->(∀i,r<=i->i<k->lt (p.getD i 0) (p.getD k 0)=af) ->
  told lt (iw p k f l r)<=k/\(∀i,i<told lt (iw p k f l r)->lt (p.getD k 0) (p.getD i 0)=af) /\∀i,told lt (iw p k f l r)<=i->i<k->lt (p.getD i 0) (p.getD k 0)=af
 |0,l,r,hlr,hr,hf,_,h1,h2=>by
  have:l=r:=by omega
  subst this;exact⟨hr,h1,h2⟩
 |f+1,l,r,hlr,hr,hf,hu,h1,h2=>by
  unfold iw;by_cases hge:l >= r
  .rw [Z_ hge];have:l=r:=by omega
   subst this;exact⟨hr,h1,h2⟩
  .rw [Zz hge];show told lt (if lt (p.getD k 0) (p.getD ((l+r)/2) 0)=ae then iw p k f l ((l+r)/2) else iw p k f ((l+r)/2+1) r)<=k/\(∀i,i<told lt (if lt (p.getD k 0) (p.getD ((l+r)/2) 0)=ae then iw p k f l ((l+r)/2) else iw p k f ((l+r)/2+1) r)->lt (p.getD k 0) (p.getD i 0)=af) /\∀i,told lt (if lt (p.getD k 0) (p.getD ((l+r)/2) 0)=ae then iw p k f l ((l+r)/2) else iw p k f ((l+r)/2+1) r)<=i->i<k->lt (p.getD i 0) (p.getD k 0)=af
   cases hc:lt (p.getD k 0) (p.getD ((l+r)/2) 0) with
   |true =>
    rw[Z_ rfl];refine yB O p k f l ((l+r)/2) (by omega) (by omega) (by omega) hu h1 λi hi hik=>?_;by_cases he:i=(l+r)/2
    .subst he;exact O.as _ _ hc
    .exact O.tr _ _ _ (O.as _ _ hc) (hu _ i (by omega) hik)
   |false =>
    rw[Zz bt];refine yB O p k f ((l+r)/2+1) r (by omega) hr (by omega) hu (λi hi=>?_) h2;by_cases he:i=(l+r)/2
    .subst he;exact hc
    .exact O.tr _ _ _ (hu i ((l+r)/2) (by omega) (by omega)) hc
def MU{p:Array Nat}{k l:Nat}(hk:k<p.size)(hl:l<=k)(i:Nat):(bubble p k (k-l)).getD i 0=if i=l then p.getD k 0 else if l<i/\i<=k then p.getD (i-1) 0 else p.getD i 0:=by
 rw[gO,getElem?_bubble hk _ (by omega),show k-(k-l)=l by omega];by_cases h1:i=l
 .rw [Z_ h1,Z_ h1,gO]
 .rw [Zz h1,Zz h1];by_cases h2:l<i/\i<=k
  .rw [Z_ h2,Z_ h2,gO]
  .rw [Zz h2,Zz h2,gO]
theorem V0(O:tT lt):∀f (p:Array Nat) k,k+f<=p.size->Up lt p k->(told lt (xk f p k)).Perm p/\Up lt (told lt (xk f p k)) (k+f)
 |0,p,k,_,h=>⟨rf _,h⟩
 |f+1,p,k,hs,h=>by
  unfold xk;rw[jC];obtain⟨a,b,c⟩:=yB O p k k 0 k (by omega) (bj _) (by omega) h (λi hi=>by omega) (λi hi hik=>by omega);generalize told lt (iw p k k 0 k)=l at a b c;have hk:k<p.size:=by omega
  have h2:Up lt (bubble p k (k-l)) (k+1):=λi j hij hj=>by
   rw[MU hk a,MU hk a];by_cases hjl:j=l
   .rw [Z_ hjl,Zz (by omega),Zz (by omega)];exact b i (by omega)
   .rw [Zz hjl];by_cases hj2:l<j/\j<=k
    .rw [Z_ hj2];by_cases hil:i=l
     .rw [Z_ hil];exact c (j-1) (by omega) (by omega)
     .rw [Zz hil];by_cases hi2:l<i/\i<=k
      .rw [Z_ hi2];exact h _ _ (by omega) (by omega)
      .rw [Zz hi2];exact h _ _ (by omega) (by omega)
    .rw [Zz hj2,Zz (by omega),Zz (by omega)];exact h _ _ hij (by omega)
  obtain⟨e,g⟩:=V0 O f (bubble p k (k-l)) (k+1) (by rw[bubble_size];omega) h2;exact⟨e.trans (a10 _ _ _),by rw[show k+(f+1)=k+1+f by omega];exact g⟩
def MV(O:tT lt){n:Nat}(h1:1<=n):(told lt (qd n)).Perm (ye (bh n))/\Up lt (told lt (qd n)) n:=by
 unfold qd;rw[jC];obtain⟨a,b,c,d⟩:=VZ O (n:=n) (p:=ye (bh n)) h1 (by simp) _ rfl;generalize told lt (xj n (ye (bh n)))=r at a b c d;have hs:r.2.size=n:=by rw[A1 a];simp
 by_cases hr:r.1<n
 .rw [Z_ hr,show max r.1 1=r.1 by omega];obtain⟨e,g⟩:=V0 O (n-r.1) r.2 r.1 (by omega) d;exact⟨e.trans a,by rw[show r.1+(n-r.1)=n by omega] at g;exact g⟩
 .rw [Zz hr];have:r.1=n:=by omega
  exact⟨a,by rw[<- this];exact d⟩
end
open Z6
section
variable{prog:bf}{w:az}{A:bq}{s:ak}{Q:Bool->ak->Prop}
theorem Xg:∀(us:Q0f) (vs:Q0f) (as bs:Q0e) (i:Nat) (fin:Bool),(fin=Zv (us.length<vs.length))->jy us as->jy vs bs->Q (iR as bs) s->KatLex prog w A ae fin Q (us.zip vs) i s:=by
 intro us
 induction us with
 |nil =>
  intro vs as bs i fin hf ha hb q;cases ha
  cases hb with
  |nil=>subst hf;exact q
  |cons b t' hb=>subst hf;simpa[KatLex,iR] using q
 |cons u us ih =>
  intro vs as bs i fin hf ha hb q
  cases ha with
  |cons a t ha =>
   cases hb with
   |nil=>subst hf;simpa[KatLex,iR] using q
   |cons b t' hb =>
    rename_i as vs bs;refine Dy (a0r (kat_go (λe=>?_) (λe=>?_)))
    .have e:a=b:=by simpa using e
     refine Dx (ih _ _ _ (i+1) fin (by rw[hf];simp) ha hb ?_);simpa[iR,e] using q
    .have e:a≠b:=by simpa using e
     have q:Q (Zv (a<b)) s:=by simpa[iR,e] using q
     refine kat_no ?_
     cases hc:(ae&&i == 0) with
     |true=>exact oneLt_int q
     |false=>exact kat_one _ _ (lt_int q)
end
noncomputable def MW(n:Nat){α:Type}:oi α->(α->Prop)->Prop
 |.ret a,Q=>Q a
 |.ask i j k,Q=>i<n/\j<n /\∀b,MW n (k b) Q
theorem kX{n:Nat}{α β:Type}{f:α->oi β}{Q:β->Prop}:∀(t:oi α),MW n t (λa=>MW n (f a) Q)->MW n (t.bind f) Q
 |.ret a,h=>h
 |.ask i j k,h=>⟨h.1,h.2.1,λb=>kX (k b) (h.2.2 b)⟩
def Rg(n:Nat)(p:Array Nat):Prop:=p.Perm (ye (bh n))
theorem Rg.lt(h:Rg n p)(h1:1<=n)(k:Nat):p.getD k 0<n:=by
 rw[gO]
 cases q:p[k]? with
 |none=>exact h1
 |some x =>
  have:x∈p:=Array.mem_of_getElem? q;have:=h.mem_iff.mp this;simpa using this
section
variable{n:Nat}
theorem C4(h1:1<=n)(h:Rg n p)(q:∀m,Q m):∀f m,MW n (ig p f m) Q
 |0,m=>q m
 |f+1,m=>⟨h.lt h1 _,h.lt h1 _,λb=>by
  cases b with
  |true=>exact q m
  |false=>exact C4 h1 h q f (m+1)⟩
theorem rN(h1:1<=n)(q:∀r,Rg n r.1->Q r):∀f p m k,Rg n p->MW n (oh f p m k) Q
 |0,p,m,k,h=>q _ h
 |f+1,p,m,k,h=>⟨h.lt h1 _,h.lt h1 _,λb=>by
  cases b with
  |true =>
   show MW n (if k>0 then _ else _) Q;by_cases hk:k>0
   .rw [Z_ hk];exact rN h1 q f _ _ _ ((gP _ _ _).trans h)
   .rw [Zz hk];exact rN h1 q f _ _ _ h
  |false=>exact⟨h.lt h1 _,h.lt h1 _,λd=>by
    cases d with
    |true=>exact q _ h
    |false=>exact rN h1 q f _ _ _ h⟩⟩
def GJ(h1:1<=n){Q:Nat×Array Nat->Prop}(q:∀r,Rg n r.2->Q r){m k:Nat}{p:Array Nat}(h:Rg n p):MW n (Dz m k p) Q :=
 kX _ (C4 h1 ((gP _ _ _).trans h) (λm'=>q (m',ia p 0 m) ((gP _ _ _).trans h)) _ _)
def rO(h1:1<=n){Q:Nat×Array Nat->Prop}(q:∀r,Rg n r.2->Q r){m k:Nat}{p:Array Nat}(h:Rg n p):MW n (xi m k p) Q :=
 kX _ (rN h1 (λr hr=>by
  by_cases hk:r.2.2>0
  .rw [Z_ hk];exact GJ h1 q ((gP _ _ _).trans hr)
  .rw [Zz hk];exact GJ h1 q hr) _ _ _ _ h)
def P0(h1:1<=n){Q:Nat×Array Nat->Prop}(q:∀r,Rg n r.2->Q r){k:Nat}{p:Array Nat}(h:Rg n p):MW n (xj k p) Q :=
 kX _ (C4 h1 h (λm=>by
  by_cases e:(m == k)=ae
  .rw [Z_ e];exact q _ h
  .rw [Zz e];by_cases e2:m>1
   .rw [Z_ e2];exact⟨h.lt h1 _,h.lt h1 _,λc=>by
     cases c with
     |true=>exact q _ h
     |false=>exact rO h1 q ((gP _ _ _).trans h)⟩
   .rw [Zz e2];exact rO h1 q h) _ _)
theorem tU(h1:1<=n)(h:Rg n p)(q:∀m,Q m)(k:Nat):∀f l r,MW n (iw p k f l r) Q
 |0,l,r=>q l
 |f+1,l,r=>by
  unfold iw;by_cases e:l >= r
  .rw [Z_ e];exact q l
  .rw [Zz e];exact⟨h.lt h1 _,h.lt h1 _,λc=>by
    cases c with
    |true=>exact tU h1 h q k f _ _
    |false=>exact tU h1 h q k f _ _⟩
theorem MX(h1:1<=n){Q:Array Nat->Prop}(q:∀p,Q p):∀f p k,Rg n p->MW n (xk f p k) Q
 |0,p,k,h=>q p
 |f+1,p,k,h=>kX _ (tU h1 h (λl=>MX h1 q f _ _ ((a10 _ _ _).trans h)) k _ _ _)
def GK(h1:1<=n){Q:Array Nat->Prop}(q:∀p,Q p):MW n (qd n) Q :=
 kX _ (P0 h1 (λr hr=>by
  by_cases e:r.1<n
  .rw [Z_ e];exact MX h1 q _ _ _ hr
  .rw [Zz e];exact q _) (rf _))
variable{X:Cx}
def kZ(ts:Q0a)(i:Nat):List Int:=(ts[i]?).getD []
theorem C5(h:∀i j (C:Bool->ak->Prop),i<n->j<n->C (lt i j) s->tm prog w A κ vs i j C s){α:Type}:∀(t:oi α) (Q:α->ak->Prop),MW n t (λ_=>True)->Q (told lt t) s->t.kasWp (tm prog w A κ vs) Q s
 |.ret a,Q,_,q=>q
 |.ask i j k,Q,sf,q=>h i j _ sf.1 sf.2.1 (C5 h (k (lt i j)) Q (sf.2.2 _) q)
def JQ(K:ao):List V->Hp->VK->Prop:=λxs H Q=>∃(a:ag) (ps:List ag) (ts:Q0a),xs=[.ref a]/\H a=aa (.lst (ps.map V.ref))/\ps.length=ts.length/\2<=ts.length/\ts.length<64 /\
 (∀(j:Nat) (p:ag) (t:Q0e),ps[j]?=aa p->ts[j]?=aa t->fS K H p (t.map V.int)/\t≠[]) /\
 ∀ix:List Nat,ix.Perm (bh ts.length)->(∀i j:Nat,i<j->j<ts.length->iR (kZ ts (ix.getD j 0)) (kZ ts (ix.getD i 0))=af) ->∀q,H q=ab->Q (.ref q) (upd H q (.lst (ix.map λi=>V.ref (ps.getD i 0))))
theorem A2:∀{ps:List ag} {us:Q0f},Vals (ps.map V.ref) us->us=ps.map cx
 |[],_,.nil=>rfl
 |p::ps,_,.cons r t=>by rw[A2 t];rw[show _=cx p from r];rfl
theorem dO.live(x:L2.dO P w H h a o):∃u,h.get? a=aa u:=by
 cases o with
 |lst xs=>obtain⟨_,_,_,_,e⟩:=x;exact⟨_,e⟩
 |tup xs=>obtain⟨_,_,_,⟨_,e,_⟩,_⟩:=x;exact⟨_,e⟩
 |dK kvs=>obtain⟨_,_,_,_,o,_,_,e,_⟩:=x;exact⟨_,e⟩
 |dT kvs=>obtain⟨_,_,_,_,o,_,_,e,_⟩:=x;exact⟨_,e⟩
 |dX ob kvs=>obtain⟨_,_,e,_⟩:=x;exact⟨_,e⟩
 |set S n=>obtain⟨o,_,_,_,e,_⟩:=x;exact⟨_,e⟩
 |ins C dx fs=>obtain⟨_,_,_,e,_⟩:=x;exact⟨_,e⟩
 |own y=>obtain⟨_,e⟩:=x;exact⟨_,e⟩
 |xd fs=>obtain⟨_,⟨_,_,_,e,_⟩,_⟩:=x;exact⟨_,e⟩
 |rng lo hi=>obtain⟨_,_,_,e⟩:=x;exact⟨_,e⟩
 |xD ob u=>obtain⟨e,_⟩:=x;exact⟨_,e⟩
 |OD q=>obtain⟨_,e,_⟩:=x;exact⟨_,e⟩
 |met f y=>exact⟨_,(show h.get? a=aa _ from x)⟩
 |ext φ=>obtain⟨_,⟨_,e⟩,_⟩:=x;exact⟨_,e⟩
def C6:fM X (.builtin "sorted") (JQ X.K):=by
 intro pins s σ H xs us Q I r h;obtain⟨a,ps,ts,rfl,ha,hl,h2,fm,ht,q⟩:=h;obtain⟨u,rfl,ru⟩:=vals1 r;cases ru;obtain⟨its,rv,pl,hz⟩:=I.list (eE.of ha);have Ke:=A2 rv;subst Ke;obtain⟨m,hns,_⟩:=id I.loc;have hL:=I.lt;have hn:(ps.map cx).length=ts.length:=by rw[au];exact hl
 have tup:∀(j:Nat),j<ts.length ->∃(p:ag) (us:Q0f),ps[j]?=aa p/\gr s.heap p us.toArray/\jy us (kZ ts j)/\kZ ts j≠[]/\(ps.map cx).getD j ke=.ref p:=λj hj=>by
  obtain⟨q1,q2⟩:=ht j ps[j] ts[j] (by simp[hl,hj]) (by simp[hj]);obtain⟨us,ru,pt,_⟩:=I.tuple q1;refine⟨ps[j],us,by simp[hl,hj],pt,?_,?_,by simp[hl,hj]⟩
  .unfold kZ;rw[ba hj];exact intsAre_of ru
  .unfold kZ;rw[ba hj];exact q2
 refine kat_sorted (h₀:=xQ s.heap) (L:=X.env.locals) (m:=m) (news:=ledger s.heap X.env.locals s.heap.objs.size) (vs:=ps.map cx) (UI hns) (λp hp=>?_) pl.isList (by omega) (by omega) λD e1 h' F' N' hD=>?_
 .obtain ⟨x,o⟩:=p;obtain⟨n1,_,e⟩:=fN.mp hp;exact⟨e,n1,pV _ _⟩
 have keep':∀b o,b≠X.env.locals->s.heap.get? b=aa o->h'.get? b=aa o:=λb o hb e =>
  (N' (b,o) (dq _ (fN.mpr ⟨hb,gd (b_ e),e⟩))).1
 have vg:∀{p:ag} {us:Array ai},gr s.heap p us->p≠X.env.locals:=λ{p us} ⟨o,e,c,n,d⟩ z=>by subst z;obtain⟨o2,es,ep,e2,d2,_⟩:=hns;rw[e] at e2;cases e2;rw[d] at d2;cases d2
 -- the kind: tuples that begin with ints
 have kt:∀(ps':List ag) (fs:Q0f),ps'.length=fs.length->(∀(j:Nat) (p:ag) (f:ai),ps'[j]?=aa p->fs[j]?=aa f ->∃us:Array ai,gr h' p us/\us[0]?=aa f)->KatTups h' (ps'.map cx) fs:=by
  intro ps'
  induction ps' with
  |nil=>intro fs hf _;cases fs;exact trivial;simp at hf
  |cons p ps' ih =>
   intro fs hf h
   cases fs with
   |nil=>simp at hf
   |cons f fs =>
    obtain⟨us,⟨o,e,c,n,d⟩,u0⟩:=h 0 p f rfl rfl;exact a0W e c d u0 (ih fs (by simpa using hf) λj p' f' h1 h2=>h (j+1) p' f' (by simpa using h1) (by simpa using h2))
 have heads:∃fs:Q0f,fs.length=ps.length/\(∀v∈fs,∃i t,v=jv i t) /\∀(j:Nat) (p:ag) (f:ai),ps[j]?=aa p->fs[j]?=aa f ->∃us:Array ai,gr h' p us/\us[0]?=aa f:=by
  have:∀k,k<=ps.length ->∃fs:Q0f,fs.length=k/\(∀v∈fs,∃i t,v=jv i t) /\∀(j:Nat) (p:ag) (f:ai),ps[j]?=aa p->fs[j]?=aa f ->∃us:Array ai,gr h' p us/\us[0]?=aa f:=by
   intro k
   induction k with
   |zero=>intro _;exact⟨[],rfl,λv hv=>(nomatch hv),λj p f _ e=>by simp at e⟩
   |succ k ih =>
    intro hk;obtain⟨fs,f1,f2,f3⟩:=ih (by omega);obtain⟨p,us,hp,pt,hi,ne,_⟩:=tup k (by omega);obtain⟨i,t,us',rfl⟩:∃i t us',us=jv i t::us':=by
     generalize kZ ts k=w at hi ne
     cases hi with
     |nil=>exact Zw rfl ne
     |cons n t r=>exact⟨n,t,_,rfl⟩
    refine⟨fs++[jv i t],by simp[f1],λv hv=>?_,λj p' f' h1 h2=>?_⟩
    .rcases gu.mp hv with h|h
     .exact f2 v h
     .exact ⟨i,t,cm.mp h⟩
    .by_cases hj:j<k
     .rw [jg (by omega)] at h2;exact f3 j p' f' h1 h2
     .have:j=k:=by have:=(cg.mp h2).1;simp[f1] at this;omega
      subst this;rw[jf (by omega),f1,yc] at h2;rw[hp] at h1;cases h1;have h2:jv i t=f':=by simpa using h2
      subst h2;obtain⟨o,e,c⟩:=id pt;exact⟨_,⟨o,keep' p o (vg pt) e,c⟩,by simp⟩
  exact this ps.length (bj _)
 obtain⟨fs,f1,f2,f3⟩:=heads;refine kat_kind (T:=.type "int") (kt ps fs f1.symm f3) (by omega) (λv hv=>?_) (by decide) ?_
 .obtain ⟨i,t,rfl⟩:=f2 v hv;exact Looks.of_pure rfl
 have O:tT λi j=>iR (kZ ts i) (kZ ts j):=⟨λx y a=>HH _ _ a,λx y z a b=>HI _ _ _ a b⟩;rw[hn];refine C5 (n:=ts.length) (lt:=λi j=>iR (kZ ts i) (kZ ts j)) (λi j C hi hj hC=>?_) _ _ (GK (by omega) λ_=>trivial) ?_
 .obtain ⟨p,us,hp,pt,hi',_,ep⟩:=tup i hi;obtain⟨p2,us2,hp2,pt2,hi2,_,ep2⟩:=tup j hj;unfold tm;rw[ep,ep2,show(m_ "int" !=m_ "tuple")=ae from by decide];obtain⟨o,e,c,n,d⟩:=id pt;obtain⟨o2,e2,c2,n2,d2⟩:=id pt2;exact kat_lt (s:={s with heap:=h' }) (keep' p o (vg pt) e) d (keep' p2 o2 (vg pt2) e2) d2 (Xg us us2 _ _ 0 _ rfl hi' hi2 hC)
 obtain⟨sp,su⟩:=MV O (n:=ts.length) (by omega);generalize told (λi j=>iR (kZ ts i) (kZ ts j)) (qd ts.length)=pp at sp su;refine a0X F' N' (a0V λp hp z=>ib _ (z▸hD p hp)) λh'' c F'' N''=>?_;have nD:D≠X.env.locals:=(N' _ (cp ..)).2.1;have dead:s.heap.get? D=ab:=by
  cases e:s.heap.get? D with
  |none=>rfl
  |some o=>exact Zw (hD (D,o) (fN.mpr ⟨nD,gd (b_ e),e⟩)) (ib _)
 have MY:∀b o,b≠X.env.locals->s.heap.get? b=aa o->h''.get? b=aa o:=λb o hb e =>
  (N'' (b,o) (dq _ (fN.mpr ⟨hb,gd (b_ e),e⟩))).1
 have uz:=(N'' (D,_) (cp ..)).1;have hfr:H D=ab:=by
  cases e:H D with
  |none=>rfl
  |some u =>
   obtain⟨o,eo⟩:=dO.live (I.hok D u e);rw[dead] at eo;cases eo
 have neD:∀{b:ag} {o:aw},s.heap.get? b=aa o->b≠D:=λ{b o} e z=>by rw[z,dead] at e;cases e
 have P4:∀{b:ag} {u:HO},H b=aa u->b≠D:=λ{b u} e z=>by rw[z,hfr] at e;cases e
 have hlp:pp.toList.Perm (bh ts.length):=by simpa using sp.toList
 refine⟨.ref D,upd H D (.lst (pp.toList.map λi=>V.ref (ps.getD i 0))),?_,rfl,q pp.toList hlp (λi j hij hj=>?_) D hfr⟩
 .show L2.Inv X pins σ _ {s with heap:=h'' };refine I.step (s:=s) (h':=h'') (g':=s.gens) (t':=s.toks) (d':=s.drawn) (ch:=[]) (λb hb=>nomatch hb) (λb o hb _ _ e _=>MY b o hb e) (λb o hb _ _ e _=>⟨o.slots,MY b o hb e⟩) (λb o _ e n=>by rw[aW (neD e)];exact n) (λb o _ e=>?_)
   (λb xs e=>by rw[aW (P4 e)];exact e) (λb o u e=>by rw[aW (P4 e)];exact e) (λb ps e=>by rw[aW (P4 e),e]) (λm2 hm2=>?_) ?_ I.bare
  .by_cases hb:b=X.env.locals
   .subst hb;obtain⟨o2,_,_,e2,_⟩:=F''.ns;exact⟨o2,e2⟩
   .exact ⟨o,MY b o hb e⟩
  .have:m2=m:=by
    obtain⟨oa,ea,pa,h1,h2,_,h3⟩:=hm2;obtain⟨ob,eb,pb,k1,k2,_,k3⟩:=hns;rw[h1] at k1;cases k1;rw[h2] at k2;cases k2
    funext x
    rw[<- h3,<- k3]
   subst this;exact F''.ns
  .intro b u e;by_cases hb:b=D
   .subst hb;rw[aP] at e;cases e;refine⟨?_,pp.toList.map λi=>cx (ps.getD i 0),c,?_,uz.trans ?_⟩
    .rw [au,hlp.length_eq,jr,gp];omega
    .have:∀l:List Nat,Vals (l.map λi=>V.ref (ps.getD i 0)) (l.map λi=>cx (ps.getD i 0)):=λl=>by
      induction l with
      |nil=>exact .nil
      |cons a l ih=>exact .cons rfl ih
     exact this _
    .have:(pp.toList.map λi=>(ps.map cx).getD i ke)=pp.toList.map λi=>cx (ps.getD i 0):=gf λi hi=>by
      have:i<ts.length:=by simpa using hlp.mem_iff.mp hi
      simp[hl,this]
     rw[this]
   .rw [aW hb] at e;refine(I.hok b u e).stay (λc v hc ev=>MY c v (λz=>?_) ev) (λc ec=>by rw[aW (P4 ec)];exact ec) (λc ys ec=>by rw[aW (P4 ec)];exact ec) λc o u ec=>by rw[aW (P4 ec)];exact ec
    subst z;rcases hc with hc|hc
    .rw [<- hc,I.free] at e;cases e
    .rw [I.free] at hc;cases hc
 .have:=su i j hij hj;rw[gO,gO] at this;simpa using this
theorem V1(ho:s.heap.get? a=aa (seqObj "list" #[v] n))
  (h:P (.done (.ret .none)) {s with heap:=sortedHeap s.heap a [v] #[v]}):ax (ay prog w) A (Builtin.«list.sort» ⟨[.ref a],[]⟩) P E s:=by
 rw[list_sort_plain];have hlt:=b_ ho;refine av (listItems_at ho rfl (av (a1V ho rfl ?_)));have ho1:=get?_update_seq ho (λ_=>(#[]:Array ai));refine av (a1T ho1 rfl (av (wpAny_newTuple (av (Dg (ju ?_))))));have ho2:(((s.heap.update a (jn λ_=>(#[]:Array ai))).push (seqObj "tuple" #[v] 0)).push (seqObj "list" #[] 0)).get? a=_:=di _ (di _ ho1);show ax (ay prog w) A _ P E {s with heap:=((s.heap.update a (jn λ_=>(#[]:Array ai))).push (seqObj "tuple" #[v] 0)).push (seqObj "list" #[] 0)};dsimp only;rw[Z_ (show(#[v]:Array ai).size<2 from qt 1),Z_ (show(#[v]:Array ai).size<2 from qt 1)];refine av (bb ?_);rw[StateT.run_pure];refine av (bb (av (a1T ho2 rfl (av (a1V ho2 rfl ?_ (hsz2:=?_))))))
 .simp only[bne_self_eq_false,rb,if_false];have e:(arrOf (SortSt.mk' general' ((#[v]:Array ai).zip #[v]) #[] 7 ab)).map (·.2)=#[v]:=by show((#[v]:Array ai).zip #[v]).map (·.2)=#[v];simp
  rw[e];exact bb h
 .show (((#[v]:Array ai).zip #[v]).map (·.2)).size<=bc+1;simp
def C7:List V->Hp->VK->Prop:=λxs H Q=>∃(a:ag) (x:V),xs=[.ref a]/\H a=aa (.lst [x]) /\∀q,H q=ab->Q (.ref q) (upd H q (.lst [x]))
def rP:fM X (.builtin "sorted") C7:=by
 intro pins s σ H xs us Q I r h;obtain⟨a,x,rfl,ha,q⟩:=h;obtain⟨u,rfl,ru⟩:=vals1 r;cases ru;obtain⟨its,rv,pl,hz⟩:=I.list (eE.of ha);obtain⟨v,rfl,rx⟩:=vals1 rv;refine a1H a1W a1U a1Y (a12 (.ref a)) (show ax _ _ (Builtin.«sorted» _) _ _ _ from ?_);unfold Builtin.«sorted»;refine av (m:=checkCount "sorted" 1 1 _) (bb (av (collect_list pl.isList (av (Dg ?_)))));have hsz:((s.heap.push (seqObj "list" #[] 0)).update s.heap.objs.size (jn (· ++ [v].toArray))).objs.size=s.heap.objs.size+1:=by rw[qj,size_push']
 have hoL:(((s.heap.push (seqObj "list" #[] 0)).update s.heap.objs.size (jn (· ++ [v].toArray))).push (seqObj "list" [v].toArray 0)).get? (s.heap.objs.size+1)=aa (seqObj "list" #[v] 0):=by rw[<- hsz];exact gc _ rfl
 show ax _ _ _ _ _ {s with heap:=((s.heap.push (seqObj "list" #[] 0)).update s.heap.objs.size (jn (· ++ [v].toArray))).push (seqObj "list" [v].toArray 0)};rw[hsz];refine av (ju (iq a1R ⟨_,hoL,rfl⟩ a1Z (V1 hoL ⟨_,rfl,?_⟩) (a13 _)));refine bb ⟨.ref (s.heap.objs.size+1),rfl,?_⟩;obtain⟨e1,hat⟩:=Ep s.heap [v] #[v];have I1:L2.Inv X pins σ (upd H (s.heap.objs.size+1) (.lst [x])) {s with heap:=sortedAll s.heap [v] #[v]} :=
  I.laid (t':=s.toks) (λb o e=>Eo e) (lr _) ⟨by rw[gp];simp,[v],e1,.cons rx .nil,by simpa[seqObj] using hat⟩
 exact⟨.ref _,_,I1,rfl,q _ (I.hok.fresh (lr _))⟩
theorem C8:fM X (.builtin "sorted") (λxs H Q=>F4 xs H Q\/C7 xs H Q\/JQ X.K xs H Q):=by
 intro pins s σ H xs us Q I r h;rcases h with h|h|h
 .exact lR pins s σ H xs us Q I r h
 .exact rP pins s σ H xs us Q I r h
 .exact C6 pins s σ H xs us Q I r h
def V2:F1
 |[.lst ds],Q=>∃ts,pD ds=aa ts/\ts.length<64/\(∀t∈ts,t≠[])/\Q (.lst ((uA ts).map qD))
 |_,_=>False
def V3(h:Cu d=aa t):d=qD t:=by
 cases d<;>first|cases h;done|skip
 rename_i ds;unfold qD;rw[<- ints_of h]
theorem A3:∀{ds:List D} {ts:Q0a},pD ds=aa ts->ds=ts.map qD
 |[],ts,h=>by cases h;rfl
 |d::ds,ts,h=>by unfold pD at h;obtain⟨t,e1,h⟩:=bnd h;obtain⟨us,e2,rfl⟩:=kC h;rw[bp,V3 e1,A3 e2]
def Xf{K:ao}{S:ag->Prop}{H:Hp}{t:Q0e}{v:V}(h:Dn K S H (qD t) v):∃p,v=.ref p/\H p=aa (.tup (t.map V.int)):=by unfold qD at h;simp only[Dn] at h;obtain⟨a,xs,rfl,hl,da⟩:=h;rw[aS.ints.mp da] at hl;exact⟨a,rfl,hl⟩
theorem GL{K:ao}{S:ag->Prop}{H:Hp}:∀{ts:Q0a} {ys:List V},aS K S H (ts.map qD) ys ->∃ps:List ag,ys=ps.map V.ref/\ps.length=ts.length /\∀(j:Nat) (p:ag) (t:Q0e),ps[j]?=aa p->ts[j]?=aa t->H p=aa (.tup (t.map V.int))
 |[],ys,h=>by simp only[j_,aS] at h;exact⟨[],h,rfl,λj p t e=>by simp at e⟩
 |t::ts,ys,h=>by
  obtain⟨v,r,rfl,h1,h2⟩:=aS.bD h;obtain⟨p,rfl,hp⟩:=Xf h1;obtain⟨ps,rfl,hl,hh⟩:=GL h2;refine⟨p::ps,rfl,by simp[hl],λj q u e1 e2=>?_⟩
  cases j with
  |zero=>cases e1;cases e2;exact hp
  |succ j=>exact hh j q u (by simpa using e1) (by simpa using e2)
def V4(ts:Q0a):(bh ts.length).map (kZ ts)=ts:=by
 refine mi λi=>?_;rw[cf];by_cases h:i<ts.length
 .rw [js h];simp[kZ,h]
 .rw [gg (by simpa using h),gg (by simpa using h)];rfl
theorem V5{K:ao}:C3F K (λxs H Q=>F4 xs H Q\/C7 xs H Q\/JQ K xs H Q) V2:=by
 intro S H xs ds Q3 Q fc hd hf k
 match ds,hf with
 |[.lst es],hf =>
  obtain⟨v,r,rfl,h1,h2⟩:=hd.bD;simp only[aS] at h2;subst h2;simp only[Dn] at h1;obtain⟨a,ys,rfl,ha,sa,da⟩:=h1;obtain⟨ts,e,fm,hne,q⟩:=hf;rw[A3 e] at da;obtain⟨ps,rfl,hl,hh⟩:=GL da;have one:∀(p:ag) (t:Q0e) (H':Hp) (S':ag->Prop),Same H H'->H p=aa (.tup (t.map V.int))->Dn K S' H' (qD t) (.ref p):=λp t H' S' sm hp=>by unfold qD;simp only[Dn];exact⟨p,_,rfl,sm _ _ hp,aS.ints.mpr rfl⟩
  match ts,hl,hh,fm,hne,q with
  |[],hl,hh,fm,hne,q =>
   have:ps=[]:=nq.mp hl;subst this;refine .inl ⟨a,[],rfl,ha,by decide,λns' hp _ p hf=>?_⟩;have:ns'=[]:=Fs.mp hp;subst this;exact k p [] _ [] hf aP (aO hf) (by simp only[aS]) q
  |[t],hl,hh,fm,hne,q =>
   obtain⟨p,rfl⟩:∃p,ps=[p]:=by
    match ps,hl with
    |[p],_=>exact⟨p,rfl⟩
   exact .inr (.inl ⟨a,.ref p,rfl,ha,λl hf=>k l [.ref p] _ [qD t] hf aP (aO hf) (aS.one (one p t _ _ (aO hf) (hh 0 p t rfl rfl))) q⟩)
  |t1::t2::ts,hl,hh,fm,hne,q =>
   generalize hT:t1::t2::ts=T at *;refine .inr (.inr ⟨a,ps,T,rfl,ha,hl,by rw[<- hT];simp,fm,λj p t e1 e2=>⟨fS.of (hh j p t e1 e2),hne t (ik e2)⟩,λix hp hu l hf=>?_⟩);have hlen:ix.length=T.length:=by rw[hp.length_eq,jr]
   have es:uA T=ix.map (kZ T):=by
    refine KR ((lB T).trans ?_) (DQ T) ?_
    .have:=(hp.map (kZ T)).symm;rw[V4] at this;exact this
    .rw [UpT,ox,Fv];intro i j hi hj hij;have:=hu i j hij (by omega);simpa[hi,hj] using this
   have dn:∀(H':Hp),Same H H' ->∀jx:List Nat,(∀i∈jx,i<T.length)->aS K (λx=>S x/\x≠l) H' (jx.map λi=>qD (kZ T i)) (jx.map λi=>V.ref (ps.getD i 0)):=by
    intro H' sm jx
    induction jx with
    |nil=>intro _;exact aS.nil
    |cons i jx ih =>
     intro X0;have hi:=X0 i cp;refine aS.cons (one _ _ _ _ sm ?_) (ih λx hx=>X0 x (dq _ hx));exact hh i _ _ (by simp[hl,hi]) (by simp[kZ,hi])
   refine k l _ _ (ix.map λi=>qD (kZ T i)) hf aP (aO hf) (dn _ (aO hf) ix λi hi=>by simpa using hp.mem_iff.mp hi) ?_;rw[es,bx] at q;exact q
def GN:lU V2 lA:=λds d Q e q=>by
 unfold lA at e;split at e
 .rename_i a;obtain⟨ts,e1,e⟩:=bnd e;by_cases h:ts.length<64/\ts.all (λt=>!t.isEmpty)=ae
  .rw [Z_ h] at e;cases e;refine⟨ts,e1,h.1,λt ht z=>?_,q⟩;have:=gx.mp h.2 t ht;rw[z] at this;cases this
  .rw [Zz h] at e;cases e
 .cases e
def GO(hm:X.mg "sorted"=ab)(ha:yR X [e] t)(hg:Gl X "sorted":=by rfl)(he:Zs X e []:=by rfl):fR X (.Call (.Name "sorted" p) [e] [] pos) (bP lA t):=cF (vJ C8 V5 ua hg hm ha (by decide) (by decide) he (by rfl)) (u3 GN)
end
open PySem.SeqAt
section
variable{X:Cx}{pins:Q0b}{σ:L2.St}{H:Hp}{s:ak}{S:ag->Prop}
def EqI(n:Nat)(d e:D)(b:Bool):Prop:=(∃i j,d=.int i/\e=.int j/\b=Zv (i=j))\/(∃i,d=.bl i/\e=.bl i/\b=ae)\/(∃i,d=.str i/\e=.str i/\b=ae) \/∃m a c r,n=m+1/\d=.tup a/\e=.tup c/\BJ (eqP m) a c=aa r/\b=(r&&Zv (a.length=c.length))
theorem vL:∀{n:Nat} {d e:D} {b:Bool},eqP n d e=aa b->EqI n d e b:=by
 intro n d e b h;have one:∀{p:Prop} [Decidable p],(if p then aa ae else ab)=aa b->p/\b=ae:=λ{p} _ h=>by
  by_cases hp:p
  .rw [Z_ hp] at h;cases h;exact⟨hp,rfl⟩
  .rw [Zz hp] at h;exact nomatch h
 cases n with
 |zero =>
  cases d<;>first|(cases h;done)|skip
  all_goals (cases e<;>first|(cases h;done)|skip)
  .obtain ⟨rfl,hb⟩:=one h;exact .inr (.inl ⟨_,rfl,rfl,hb⟩)
  .cases h;exact .inl ⟨_,_,rfl,rfl,rfl⟩
  .obtain ⟨rfl,hb⟩:=one h;exact .inr (.inr (.inl ⟨_,rfl,rfl,hb⟩))
 |succ m =>
  cases d<;>first|(cases h;done)|skip
  all_goals (cases e<;>first|(cases h;done)|skip)
  .obtain ⟨rfl,hb⟩:=one h;exact .inr (.inl ⟨_,rfl,rfl,hb⟩)
  .cases h;exact .inl ⟨_,_,rfl,rfl,rfl⟩
  .obtain ⟨rfl,hb⟩:=one h;exact .inr (.inr (.inl ⟨_,rfl,rfl,hb⟩))
  .obtain ⟨r,e1,rfl⟩:=kC (show(BJ (eqP m) _ _).map _=aa b from h);exact .inr (.inr (.inr ⟨m,_,_,r,rfl,rfl,rfl,e1,rfl⟩))
theorem V6(I:L2.Inv X pins σ H s):∀(n:Nat) (d e:D) (x:V) (b:Bool),eqP n d e=aa b->Dn X.K S H d x->Dn X.K S H e x->b=ae:=by
 intro n
 induction n using yd with
 |ind n ih =>
  intro d e x b h hd he;rcases vL h with⟨i,j,rfl,rfl,rfl⟩|⟨i,rfl,rfl,hb⟩|⟨i,rfl,rfl,hb⟩|⟨m,a,c,r,rfl,rfl,rfl,e1,rfl⟩
  .simp only[Dn] at hd he;rw[hd] at he;cases he;exact Zx rfl
  .exact hb
  .exact hb
  .simp only[Dn] at hd he;obtain⟨p,xs,rfl,hp,da⟩:=hd;obtain⟨q,ys,eq,hq,dc⟩:=he;cases eq;have:=I.jB (fS.of hp) (fS.of hq);subst this;obtain⟨f,h1,h2⟩:=kF e1;have hl:a.length=c.length:=by rw[da.len,dc.len]
   rw[Zx hl,za,h2,gx];intro j hj;have hj:j<min a.length c.length:=by simpa using hj
   have ja:j<a.length:=f_ hj (Nat.min_le_left ..);have jc:j<c.length:=f_ hj (a2b ..);obtain⟨v,hv,dv⟩:=da.get (ba ja);obtain⟨v2,hv2,dv2⟩:=dc.get (ba jc);rw[hv] at hv2;cases hv2;exact ih m (qt m) _ _ v _ (h1 j _ _ (ba ja) (ba jc)) dv dv2
theorem Xe(I:L2.Inv X pins σ H s):∀(n:Nat) (A:bq) (d e:D) (x y:V) (u v:ai) (b:Bool),A.units+n<cc->eqP n d e=aa b->Dn X.K S H d x->Dn X.K S H e y->L2.RelV x u->L2.RelV y v->kg A s u v b:=by
 have onI:∀(A:bq) (i j:Int) (x y:V) (u v:ai),Dn X.K S H (.int i) x->Dn X.K S H (.int j) y->L2.RelV x u->L2.RelV y v->kg A s u v (Zv (i=j)):=by
  intro A i j x y u v hd he ru rv;simp only[Dn] at hd he;subst hd he;obtain⟨t,rfl⟩:=ru;obtain⟨t2,rfl⟩:=rv;have:=(a3r i j t t2).at A s
  rwa [show(i == j)=Zv (i=j) from by simp[Gs]] at this
 have onB:∀(A:bq) (i j b:Bool) (x y:V) (u v:ai),(if i=j then aa ae else ab)=aa b->Dn X.K S H (.bl i) x->Dn X.K S H (.bl j) y->L2.RelV x u->L2.RelV y v->kg A s u v b:=by
  intro A i j b x y u v h hd he ru rv;simp only[Dn] at hd he;subst hd he;split at h
  .rename_i e;cases h;subst e;cases ru;cases rv;exact qf _
  .cases h
 have onS:∀(A:bq) (i j:aj) (b:Bool) (x y:V) (u v:ai),(if i=j then aa ae else ab)=aa b->Dn X.K S H (.str i) x->Dn X.K S H (.str j) y->L2.RelV x u->L2.RelV y v->kg A s u v b:=by
  intro A i j b x y u v h hd he ru rv;simp only[Dn] at hd he;subst hd he;split at h
  .rename_i e;cases h;subst e;obtain⟨t,rfl⟩:=ru;obtain⟨t2,rfl⟩:=rv;have:=(a28 i i t t2).at A s
   rwa [show(i.cps.toList == i.cps.toList)=ae from by simp] at this
  .cases h
 intro n
 induction n using yd with
 |ind n ih =>
  intro A d e x y u v b hu h hd he ru rv;rcases vL h with⟨i,j,rfl,rfl,rfl⟩|⟨i,rfl,rfl,rfl⟩|⟨i,rfl,rfl,rfl⟩|⟨m,a,c,r,rfl,rfl,rfl,e1,rfl⟩
  .exact onI A _ _ x y u v hd he ru rv
  .exact onB A i i ae x y u v (Z_ rfl) hd he ru rv
  .exact onS A i i ae x y u v (Z_ rfl) hd he ru rv
  .have hd0:=hd;have he0:=he;simp only[Dn] at hd he;obtain⟨p,xs,rfl,hp,da⟩:=hd;obtain⟨q,ys,rfl,hq,dc⟩:=he;cases ru;cases rv;by_cases epq:p=q
   .subst epq;rw[V6 I (m+1) _ _ _ _ h hd0 he0];exact qf _
   .obtain ⟨f,h1,h2⟩:=kF e1;obtain⟨its,rx,pt,_⟩:=I.tuple (fS.of hp);obtain⟨its2,ry,pt2,_⟩:=I.tuple (fS.of hq);have l1:its.length=a.length:=by rw[<- rx.length,da.len]
    have l2:its2.length=c.length:=by rw[<- ry.length,dc.len]
    have key:=a05 (A:=A) (s:=s) (e:=f) (show s.heap.IsTuple p its.toArray from pt) (show s.heap.IsTuple q its2.toArray from pt2) (by omega) λj j1 j2=>by
     have j1:j<a.length:=by simpa[l1] using j1
     have j2:j<c.length:=by simpa[l2] using j2
     obtain⟨w,hw,dw⟩:=da.get (ba j1);obtain⟨w2,hw2,dw2⟩:=dc.get (ba j2);obtain⟨g,hg,rg⟩:=rx.get hw;obtain⟨g2,hg2,rg2⟩:=ry.get hw2;have e3:its.toArray[j]'(by simp;omega)=g:=by have:=(cg.mp hg).2;simpa using this
     have e4:its2.toArray[j]'(by simp;omega)=g2:=by have:=(cg.mp hg2).2;simpa using this
     rw[e3,e4];exact ih m (qt m) A.in1 _ _ w w2 g g2 _ (by show A.units+1+m<cc;omega) (h1 j _ _ (ba j1) (ba j2)) dw dw2 rg rg2
    refine Eb epq ?_;rw[h2];simpa[l1,l2,Gs] using key
theorem V7(I:L2.Inv X pins σ H s):∀(n:Nat) (d d2 e:D) (x:V) (b b2:Bool),eqP n d e=aa b->eqP n d2 e=aa b2->Dn X.K S H d x->Dn X.K S H d2 x->b=b2:=by
 intro n
 induction n using yd with
 |ind n ih =>
  intro d d2 e x b b2 h h2 hd hd2;rcases vL h with⟨i,j,rfl,rfl,rfl⟩|⟨i,rfl,rfl,rfl⟩|⟨i,rfl,rfl,rfl⟩|⟨m,a,c,r,rfl,rfl,rfl,e1,rfl⟩<;>rcases vL h2 with⟨i2,j2,rfl,e2,rfl⟩|⟨i2,rfl,e2,rfl⟩|⟨i2,rfl,e2,rfl⟩|⟨m2,a2,c2,r2,em,rfl,ec,e2,rfl⟩<;>first|(cases e2;done)|(cases ec;done)|skip
  .cases e2;simp only[Dn] at hd hd2;rw[hd] at hd2;cases hd2;rfl
  .rfl
  .rfl
  .cases em;cases ec;simp only[Dn] at hd hd2;obtain⟨p,xs,rfl,hp,da⟩:=hd;obtain⟨p2,ys,ep,hq,da2⟩:=hd2;cases ep;have:=I.jB (fS.of hp) (fS.of hq);subst this;obtain⟨f,f1,rfl⟩:=kF e1;obtain⟨g,g1,rfl⟩:=kF e2;have hl:a.length=a2.length:=by rw[da.len,da2.len]
   rw[hl];congr 1;rw[g_];simp only[gx];refine forall_congr' λj=>forall_congr' λhj=>?_;have hj:j<min a2.length c.length:=by simpa using hj
   obtain⟨v,hv,dv⟩:=da.get (ba (show j<a.length by omega));obtain⟨v2,hv2,dv2⟩:=da2.get (ba (show j<a2.length by omega));rw[hv] at hv2;cases hv2;rw[ih m (qt m) _ _ _ v _ _ (f1 j _ _ (ba (by omega)) (ba (show j<c.length by omega))) (g1 j _ _ (ba (by omega)) (ba (by omega))) dv dv2]
noncomputable def G_:ai->V
 |.none=>.non
 |.bool b=>.bl b
 |.int i _=>.int i
 |.str x _=>.str x
 |.bytes b _=>.IG b
 |.float b _=>.flt b
 |.ref a=>.ref a
 |.type n=>.ty n
 |_=>.non
theorem MZ(h:L2.RelV x u):G_ u=x:=by
 cases x with
 |non=>cases (show u=ke from h);rfl
 |bl b=>cases (show u=oj b from h);rfl
 |int i=>obtain⟨t,rfl⟩:=h;rfl
 |str z=>obtain⟨t,rfl⟩:=h;rfl
 |IG b=>obtain⟨t,rfl⟩:=h;rfl
 |flt b=>obtain⟨t,rfl⟩:=h;rfl
 |ref a=>cases (show u=cx a from h);rfl
 |ty n=>cases (show u=m_ n from h);rfl
def V8(h:L2.RelV x u)(h2:L2.RelV x2 u):x=x2:=(MZ h).symm.trans (MZ h2)
theorem A4:∀{ds:List D} {b:Bool},sH dx ds=aa b ->∃e:Nat->Bool,(∀(j:Nat) (d:D),ds[j]?=aa d->eqP 8 d dx=aa (e j))/\b=(bh ds.length).any e
 |[],b,h=>by cases h;exact⟨λ_=>af,λj d e=>by simp at e,by simp⟩
 |d::ds,b,h=>by
  unfold sH at h;obtain⟨c,e1,h⟩:=bnd h;obtain⟨r,e2,rfl⟩:=kC h;obtain⟨e,h1,rfl⟩:=A4 e2;refine⟨λj=>match j with|0=>c|j+1=>e j,λj x hx=>?_,?_⟩
  .cases j with
   |zero=>cases hx;exact e1
   |succ j=>exact h1 j x (by simpa using hx)
  .rw [cy,ou,ji,qz];rfl
open Classical in
theorem M0(I:L2.Inv X pins σ H s)(hu:A.units+8<cc)(hx:Dn X.K S H dx x)(rx:L2.RelV x v)(h:sH dx ds=aa b)(hd:aS X.K S H ds xs)(hv:Vals xs us):
  ∃e:ai->Bool,(∀y∈us,kg A s y v (e y))/\us.any e=b:=by
 obtain⟨f,h1,rfl⟩:=A4 h;have hl:us.length=ds.length:=by rw[<- hv.length,hd.len]
 have at_:∀(j:Nat) (u:ai),us[j]?=aa u ->∃(d:D) (w:V),ds[j]?=aa d/\eqP 8 d dx=aa (f j)/\Dn X.K S H d w/\L2.RelV w u:=λj u hj=>by
  have lt:j<ds.length:=by have:=(cg.mp hj).1;omega
  obtain⟨w,hw,dw⟩:=hd.get (ba lt);obtain⟨g,hg,rg⟩:=hv.get hw;rw[hg] at hj;cases hj;exact⟨_,w,ba lt,h1 j _ (ba lt),dw,rg⟩
 have one:∀(i j:Nat) (u:ai),us[i]?=aa u->us[j]?=aa u->f i=f j:=λi j u hi hj=>by obtain⟨d,w,_,e1,d1,r1⟩:=at_ i u hi;obtain⟨d2,w2,_,e2,d2',r2⟩:=at_ j u hj;have:=V8 r1 r2;subst this;exact V7 I 8 d d2 dx w _ _ e1 e2 d1 d2'
 refine⟨λy=>Zv (∃j,us[j]?=aa y/\f j=ae),λy hy=>?_,?_⟩
 .obtain ⟨j,hj⟩:=ni.mp hy;obtain⟨d,w,_,e1,d1,r1⟩:=at_ j y hj;have:Zv (∃j,us[j]?=aa y/\f j=ae)=f j:=by rw[g_,decide_eq_true_iff];exact⟨λ⟨i,hi,fi⟩=>by rw[one j i y hj hi];exact fi,λfj=>⟨j,hj,fj⟩⟩
  show kg A s y v (Zv (∃j,us[j]?=aa y/\f j=ae));rw[this];exact Xe I 8 A d dx w x y v _ hu e1 d1 hx r1 rx
 .rw [g_,pk,pk]
  constructor
  .rintro ⟨y,_,h⟩;obtain⟨j,hj,fj⟩:=of_decide_eq_true h;exact⟨j,by have:=(cg.mp hj).1;simp;omega,fj⟩
  .rintro ⟨j,hj,fj⟩;have lt:j<us.length:=by simp at hj;omega
   exact⟨us[j],mf lt,Zx ⟨j,ba lt,fj⟩⟩
def M1(K:ao)(neg:Bool):R2:=λx y H Q=>∃(S:ag->Prop) (dx dy:D) (ds:List D) (b:Bool),Dn K S H dx x/\Dn K S H dy y/\(dy=.lst ds\/dy=.tup ds)/\sH dx ds=aa b/\Q (.bl (if neg then !b else b)) H
noncomputable def Jf:Bool->CmpOp
 |true=>.NotIn
 |false=>.In
def P5(hu:X.A.units+9<cc):k9 X (compareOp (Jf neg)) (M1 X.K neg):=by
 intro pins s σ H x y v u Q I rx ry h;obtain⟨S,dx,dy,ds,b,hd,he,hk,hb,q⟩:=h;rcases hk with rfl|rfl
 .simp only[Dn] at he;obtain⟨p,ys,rfl,hp,_,dc⟩:=he;cases ry;obtain⟨its,ri,pl,_⟩:=I.list (eE.of hp);obtain⟨e,e1,e2⟩:=M0 I (A:=X.A.in1) (by show X.A.units+1+8<cc;omega) hd rx hb dc ri;have ea:its.toArray.any e=b:=by rw[a2L];exact e2
  cases neg with
  |false=>exact a04 e pl.isList (λw hw=>e1 w (by simpa using hw)) ⟨_,H,I,by rw[ea];rfl,q⟩
  |true=>exact a02 e pl.isList (λw hw=>e1 w (by simpa using hw)) ⟨_,H,I,by rw[ea];rfl,q⟩
 .simp only[Dn] at he;obtain⟨p,ys,rfl,hp,dc⟩:=he;cases ry;obtain⟨its,ri,pl,_⟩:=I.tuple (fS.of hp);obtain⟨e,e1,e2⟩:=M0 I (A:=X.A.in1) (by show X.A.units+1+8<cc;omega) hd rx hb dc ri;have ea:its.toArray.any e=b:=by rw[a2L];exact e2
  cases neg with
  |false=>exact a03 e (show s.heap.IsTuple p its.toArray from pl) (λw hw=>e1 w (by simpa using hw)) ⟨_,H,I,by rw[ea];rfl,q⟩
  |true=>exact a01 e (show s.heap.IsTuple p its.toArray from pl) (λw hw=>e1 w (by simpa using hw)) ⟨_,H,I,by rw[ea];rfl,q⟩
def zv(neg:Bool):F2:=λx y Q=>∃ds b,(y=.lst ds\/y=.tup ds)/\sH x ds=aa b/\Q (.bl (if neg then !b else b))
def Xd{K:ao}{neg:Bool}:O3 K (M1 K neg) (zv neg):=by intro S H x y dx dy Q3 Q fc hx hy hf k;obtain⟨ds,b,e,e2,q⟩:=hf;exact⟨S,dx,dy,ds,b,hx,hy,e,e2,k _ H _ (Same.refl H) (by simp only[Dn]) q⟩
def P6:Tells (zv neg) (uT neg):=λx y d Q e q=>by
 unfold uT at e;split at e
 .obtain ⟨b,e1,rfl⟩:=kC e;exact⟨_,b,.inl rfl,e1,q⟩
 .obtain ⟨b,e1,rfl⟩:=kC e;exact⟨_,b,.inr rfl,e1,q⟩
 .cases e
def Xc(x y d:D)(e:uT neg x y=aa d):∃b,d=.bl b:=by
 unfold uT at e;split at e
 .rename_i ds
  cases q:sH x ds with
  |none=>rw[q] at e;cases e
  |some b=>rw[q] at e;cases e;exact⟨_,rfl⟩
 .rename_i ds
  cases q:sH x ds with
  |none=>rw[q] at e;cases e
  |some b=>rw[q] at e;cases e;exact⟨_,rfl⟩
 .cases e
def Bn(hu:X.A.units+9<cc)(ha:bZ X a fa)(hb:bZ X b fb)(hm:behindInMarks .In b=af:=by with_unfolding_all rfl):uZ X (.Compare a [.In] [b] pos) (tV (aC (uT af) fa fb)):=cT (l5 (op:=.In) (P5 (neg:=af) hu) Xd ha hb hm) (l6 P6 Xc)
end
section
variable{X:Cx}
def Bm(i:Nat){st:cz}{f:SF}(h:uK X st f):uK X st (RD i f) :=
 jQ h λB σ H Su=>by obtain⟨H₀,S,w,ρ,G,E,hl,st,ht,ok⟩:=Su;exact⟨H₀,S,w,freeze ρ i,G,E,hl,st.frozen,ht,ok⟩
end
end L4
namespace L5
open PySem.Spec PyProof.Rows L2 L3 L4
open PySem.W Builtin.ObjectAttr Builtin.Getset_descriptor
structure aOJ (K:ao) (C:ag):Prop where
 hc:isClsIn K C=ae
 hm:mroIn K C (.type "object")=aa ae
 hs:subIn K (.ref C) (.type "BaseException")=aa ae
 hga:findIn K (.ref C) "__getattribute__"=aa (aa (.builtin "BaseException.__getattribute__"))
 hgg:findIn K (.ref C) "__getattr__"=aa ab
 ha:findIn K (.ref C) "__class__"=aa (aa (.builtin "object.__class__"))
 hn:specialIn K (.builtin "object.__class__") "__get__"=aa (aa (.builtin "getset_descriptor.__get__"))
 ht:takesIn K (.builtin "object.__class__")=aa ae
section
variable{X:Cx}
def P7(hc:X.calm=ae):fM X (.builtin "min") (λxs H Q=>∃a b,xs=[.int a,.int b]/\Q (.int (if b<a then b else a)) H):=by
 intro pins s σ H xs us Q I r h;obtain⟨a,b,rfl,q⟩:=h;obtain⟨u1,u2,rfl,⟨t1,rfl⟩,⟨t2,rfl⟩⟩:=vals2 r;refine min_two_ints (I.ok.hd hc) λh' tk hk=>⟨_,H,I.kept hk,?_,q⟩;by_cases z:b<a
 .rw [Z_ z,Z_ z];exact⟨_,rfl⟩
 .rw [Zz z,Zz z];exact⟨_,rfl⟩
theorem P8(hc:X.calm=ae):fM X (.builtin "max") (λxs H Q=>∃a b,xs=[.int a,.int b]/\Q (.int (if b>a then b else a)) H):=by
 intro pins s σ H xs us Q I r h;obtain⟨a,b,rfl,q⟩:=h;obtain⟨u1,u2,rfl,⟨t1,rfl⟩,⟨t2,rfl⟩⟩:=vals2 r;refine max_two_ints (I.ok.hd hc) λh' tk hk=>⟨_,H,I.kept hk,?_,q⟩;by_cases z:b>a
 .rw [Z_ z,Z_ z];exact⟨_,rfl⟩
 .rw [Zz z,Zz z];exact⟨_,rfl⟩
def V9(g:Int->Int->Int):F1
 |[.int a,.int b],Q=>Q (.int (g a b))
 |_,_=>False
theorem M4{K:ao}{g:Int->Int->Int}:C3 K (λxs H Q=>∃a b,xs=[.int a,.int b]/\Q (.int (g a b)) H) (V9 g):=by
 intro S H xs ds Q3 Q fc hd hf k
 match ds,hf with
 |[.int a,.int b],hf =>
  obtain⟨v,r,rfl,h1,h2⟩:=hd.bD;obtain⟨v2,r2,rfl,h3,h4⟩:=h2.bD;simp only[aS] at h4;subst h4;simp only[Dn] at h1 h3;subst h1 h3;exact⟨a,b,rfl,k _ H _ (Same.refl H) (by simp only[Dn]) hf⟩
def JR:lU (V9 λa b=>if b<a then b else a) DO:=λds d Q e q=>by
 unfold DO at e;split at e
 .cases e;exact q
 .cases e
def JS:lU (V9 λa b=>if b>a then b else a) oM:=λds d Q e q=>by
 unfold oM at e;split at e
 .cases e;exact q
 .cases e
def Ss(hc:X.calm=ae)(hm:X.mg "min"=ab)(ha:yR X [a,b] t)(hg:Gl X "min":=by rfl)(he:aq [a,b] X.env=(af,eval a X.env)::aq [b] X.env:=by rfl)(hpl:(dg pos (aq [b] X.env)).any (·.1)=af:=by rfl):bZ X (.Call (.Name "min" p) [a,b] [] pos) (bP DO t) :=
 cE (tM (P7 hc) M4 a32 hg hm ha (by decide) (by decide) he hpl) (u3 JR)
def WB(hc:X.calm=ae)(hm:X.mg "max"=ab)(ha:yR X [a,b] t)(hg:Gl X "max":=by rfl)(he:aq [a,b] X.env=(af,eval a X.env)::aq [b] X.env:=by rfl)(hpl:(dg pos (aq [b] X.env)).any (·.1)=af:=by rfl):bZ X (.Call (.Name "max" p) [a,b] [] pos) (bP oM t) :=
 cE (tM (P8 hc) M4 a33 hg hm ha (by decide) (by decide) he hpl) (u3 JS)
end
variable{K:ao}{C D:ag}
structure aLb (K:ao) (C D:ag):Prop where
 ne:(cx C == cx D)=af
 c:isClsIn K D=ae
 t:typeIn K (.ref D)=aa (.type "type")
 s:subIn K (.ref C) (.ref D)=aa af
end L5
namespace L5
open PySem.Spec PyProof.Rows L2 L3 L4
open Z6
section
variable{X:Cx}
def zu:F2
 |.lst a,.int n,Q=>a.length*n.toNat<=bc /\ -(2^63)<=n/\n<2^63/\Q (.lst (fq n.toNat a).flatten)
 |_,_,_=>False
theorem M5{K:ao}{S:ag->Prop}{H:Hp}{ds:List D}{xs:List V}(h:aS K S H ds xs):∀n:Nat,aS K S H (fq n ds).flatten (fq n xs).flatten
 |0=>aS.nil
 |n+1=>by rw[i_,i_,pf,pf];exact h.append (M5 h n)
def rep3(ha:dE X a ta)(hb:dE X b tb):JA X (.BinOp a .Mult b pos) (iA zu ta tb):=imp (T9 Yd ha hb) λσ H Q h=>by
 obtain⟨S,ρ,Q3,fc,sl,ht,k⟩:=h;refine⟨S,ρ,_,fc,sl,ht,λv H1 d s1 d1 q1=>?_⟩;refine⟨S,ρ,_,bQ fc s1,Sl.fits (.same s1) sl,q1,λu H2 d2 s2 d2' q2=>?_⟩;cases d<;>cases d2<;>try exact q2.elim
 rename_i ds n;simp only[Dn] at d1 d2';obtain⟨a,xs,rfl,ha,sa,da⟩:=d1;subst d2';have da':=aS.fits (.same s2) _ _ da;obtain⟨z1,z2,z3,q3⟩:=q2;refine⟨a,n,xs,rfl,rfl,s2 _ _ ha,z2,z3,by rw[<- da.len];exact z1,λp hp=>k p _ _ _ ((s1.trans s2).free hp) aP ((s1.trans s2).trans (aO hp)) ?_ q3⟩;exact aS.fits ((Fits.fresh hp).trans (.same (aO hp))) _ _ (M5 da' _)
def P9:Tells zu repLM:=λx y d Q e q=>by
 cases x<;>first|(cases e;done)|skip
 cases y<;>first|(cases e;done)|skip
 rename_i a n;have e:(if a.length*n.toNat<=mF/\n.natAbs<9223372036854775808 then aa (D.lst (fq n.toNat a).flatten) else ab)=aa d:=e;by_cases h:a.length*n.toNat<=mF/\n.natAbs<9223372036854775808
 .rw [Z_ h] at e;cases e;exact⟨by rw[gp];exact h.1,by have:=h.2;omega,by have:=h.2;omega,q⟩
 .rw [Zz h] at e;cases e
def Sr(ha:bZ X a fa)(hb:bZ X b fb):fR X (.BinOp a .Mult b pos) (aC repLM fa fb):=cF (rep3 ha hb) (jZ P9)
theorem GP(its:Q0f):∀m:Nat,m<=its.length->(bh m).filterMap (λk=>its[its.length-1-k]?)=its.reverse.take m
 |0,_=>rfl
 |m+1,hm=>by
  have hg:its[its.length-1-m]?=aa (its[its.length-1-m]'(by omega)):=ba _;have hr:its.reverse[m]?=aa (its[its.length-1-m]'(by omega)):=by rw[List.getElem?_reverse (by omega)];exact hg
  rw[Fq,List.filterMap_append,GP its m (by omega),ue,hr,ph,hg];rfl
def WC(its:Q0f):slicePick its.toArray ab ab (aa (-1))=its.reverse.toArray:=by
 have c:∀n:Nat,((if(n:Int)-1>-1 then((n:Int)-1 - -1 - -1-1) / - -1 else 0:Int)).toNat=n:=λn=>by rw[show(- -1:Int)=1 from rfl,a2Z];split<;>omega
 have b:sliceRange (((its.toArray.size:Nat):Int)-1) (-1) (-1)=(bh its.length).map λk=>its.length-1-k:=by unfold sliceRange;simp only[show ¬ ((-1:Int)>0) by decide,if_false,c,cn];refine gf λk hk=>?_;have:=d_.mp hk;omega
 unfold slicePick;show(a2B (λx=>its.toArray[x]?) (sliceRange (((its.toArray.size:Nat):Int)-1) (-1) (-1))).toArray=_;rw[b,yq];congr 1;have:=GP its its.length (bj _);rw[oq (by simp)] at this;rw[<- this];congr 1
 funext k
 simp
theorem M6{K:ao}{S:ag->Prop}{H:Hp}:∀{ds:List D} {xs:List V},aS K S H ds xs->aS K S H ds.reverse xs.reverse
 |[],xs,h=>by simp only[aS] at h;subst h;exact aS.nil
 |d::ds,xs,h=>by obtain⟨v,r,rfl,h1,h2⟩:=h.bD;rw[Fo (a:=d),Fo (a:=v)];exact(M6 h2).append (aS.one h1)
theorem GQ:∀{xs:List V} {us:Q0f},Vals xs us->Vals xs.reverse us.reverse
 |_,_,.nil=>.nil
 |_,_,.cons p q=>by simp only[Fo];exact(GQ q).append (.cons p .nil)
theorem M7(hk:bZ X k fk)
  (hN:X.N[i]?=aa x:=by rfl) (hv:y6 X.env.scope x:=by walk_at "1") (hd:Zu x:=by decide) (hcd:Zt x:=by decide)
  (ha:∀v,assign (.Subscript (.Name x p) k pos') X.env v=(do
   let ov <- holding [v] (eval (.Name x p) X.env)
   let iv <- holding [v,ov] (eval k X.env)
   standAt pos'
   holding [v,ov,iv] (setItem ov iv v)
   release [v,ov,iv] []):=by intro _;rfl):O1 X (.Subscript (.Name x p) k pos') (wG (yS i fk)) :=
 FV (T5 (lN hN hv hd hcd) hk set_list ha) λv σ H Q Sq=>by
  obtain⟨H₀,S,w,ρ,G,d,Q3,hl,st,dn,⟨ρ',e,q⟩,kq⟩:=Sq;obtain⟨ds,e0,e⟩:=bnd e;obtain⟨kd,ek,e⟩:=bnd e;obtain⟨kk,ekk,e⟩:=bnd e;obtain⟨j,ej,rfl⟩:=kC e;have o:=x9 e0;obtain⟨a0,_,_⟩:=st.own i _ o;cases kd<;>first|(cases ekk;done)|skip
  cases ekk;refine⟨_,a0,S,bC ρ,λd=>d=.int kk,st.MK,st.all,⟨_,ek,rfl⟩,λkv H2 dk s2 XZ q2=>?_⟩;subst q2;simp only[Dn] at XZ;have st2:=st.same s2;obtain⟨a,b,xs,hp,dx⟩:=st2.own i _ o;have nS:¬ SO S w ρ (w i):=λ⟨_,z⟩=>z i _ o rfl;have F:Fits X.K (SO S w ρ) (SO S w ρ) H2 (upd H2 (w i) (.lst (xs.set j v))):=.upd (.inl ⟨_,hp⟩) nS;have ej:ME ds.length kk=aa j:=ej;exact⟨w i,xs,kk,j,rfl,XZ,hp,by rw[<- dx.len];exact ej,kq σ _ _ hl (st2.write (d':=.lst (ds.set j d)) o ⟨_,aP,aS.fits F _ _ (dx.set j (Dn.fits (.same s2) _ _ dn))⟩) q⟩
theorem Bl(hc:X.calm=ae)(h1:O1 X t1 (wG g))(h2:O1 X t2 (wG h))
  (hn:(cq [t1,t2] X.env).length=2:=by rfl) (hst:(cq [t1,t2] X.env).findIdx? (·.1)=ab:=by rfl)
  (hs1:(cq [t1,t2] X.env).map (·.2)=assign t1 X.env::(cq [t2] X.env).map (·.2):=by rfl) (hs2:(cq [t2] X.env).map (·.2)=assign t2 X.env::(cq [] X.env).map (·.2):=by rfl):
  O1 X (.Tuple [t1,t2] k pos) (wG (RF g h)) :=
 FV (II (n:=2) hc (kQ h1 (kQ h2 B9 hs2) hs1) hn hst) λv σ H Q So=>by
  obtain⟨H₀,S,w,ρ,G,d,Q3,hl,st,dn,⟨ρ',e,q⟩,kq⟩:=So;obtain⟨pr,ep,e⟩:=bnd e;obtain⟨ρ1,eg,eh⟩:=bnd e;cases d<;>first|(cases ep;done)|skip
  rename_i ds
  match ds,ep with
  |[d1,d2],ep =>
   cases ep;simp only[Dn] at dn;obtain⟨a,xs,rfl,ha,da⟩:=dn;obtain⟨v1,r1,rfl,q1,q2⟩:=da.bD;obtain⟨v2,r2,rfl,q3,q4⟩:=q2.bD;simp only[aS] at q4;subst q4;have st':ST X.K H₀ S w σ H ρ ((d2,v2)::G):=st.ghost λz hz=>by
    rcases bz.mp hz with rfl|hm
    .exact q3
    .exact st.gh z hm
   refine⟨a,_,rfl,(fS.of ha),rfl,v1,[v2],rfl,H₀,S,w,ρ,(d2,v2)::G,d1,λρ2=>ρ1=ρ2,hl,st',q1,⟨ρ1,eg,rfl⟩,λσ1 H1 ρ2 hl1 st1 er=>?_⟩;subst er;exact⟨v2,[],rfl,H₀,S,w,ρ1,G,d2,_,hl1,st1.ghost λz hz=>st1.gh z (by simp[hz]),st1.gh (d2,v2) (by simp),⟨ρ',eh,q⟩,λσ2 H2 ρ3 hl2 st2 q5=>⟨rfl,kq σ2 H2 ρ3 hl2 st2 q5⟩⟩
def M8(he:MQ X e f)(hg:O1 X tg (wG g))(hs:swapsWithSole [tg] e pos.line X.env=pure af:=by rfl)(hw:swappedStores [tg] e X.env=pure ab:=by rfl)
  (h1:(cq [tg] X.env).map (·.2)=[assign tg X.env]:=by rfl):uK X (.Assign [tg] e pos) (yT f g) :=
 jQ (T6 he hg hs hw h1) λB σ H Sn=>by
  obtain⟨H₀,S,w,ρ,G,E,hl,st,ht,ok⟩:=Sn;unfold wS yT at ht
  cases e1:(f ρ).bind λp=>g p.2 p.1 with
  |none=>rw[e1] at ht;exact ht.elim
  |some ρ' =>
   rw[e1] at ht;obtain⟨p,ef,eg⟩:=bnd e1;refine⟨H₀,S,w,ρ,G,λρ2 d2=>ρ2=p.1/\d2=p.2,hl,st,⟨p,ef,rfl,rfl⟩,λw' v H' ρ2 d2 st' d' q'=>?_⟩;obtain⟨rfl,rfl⟩:=q';exact⟨H₀,S,w',p.1,G,p.2,_,hl,st',d',⟨ρ',eg,ht⟩,λσ' H2 ρ3 hl' st2 q3=>ok.nx w' σ' H2 ρ3 hl' st2 q3⟩
end
section
variable{X:Cx}
section
variable{ls fs:Q0g}{fr:List Nat}{sc:gk}{tg iter elt:ar}{ifs:List ar}{pos:bg}{i:Nat}{x:aj}{spos pos':bg}
theorem JT{ti:WI}{g:GE}{tf:WT}{te:WE}(nd:X.N.Nodup)(hc:X.calm=ae)(hi:Q6 X tg iter ti)
  (hg:∀cl C pn ex s H,(blk X (ls++fs) sc cl C pn ex s H).N.Nodup->PG4 (blk X (ls++fs) sc cl C pn ex s H) ls.length tg g) (hf:∀cl C pn ex s H,O4 (blk X (ls++fs) sc cl C pn ex s H) ifs tf) (he:∀cl C pn ex s H,dE (blk X (ls++fs) sc cl C pn ex s H) elt te)
  (hx0:X.N[i]?=aa x:=by rfl) (hx:X.env.scope.names.lookup x=aa .local:=by rfl) (hsw:Rv X elt tg iter ifs sc pos x pos' spos:=by rfl)
  (B:chk X.env.scope.names sc X.N ls fs fr=ae:=by rfl) (hs:Zp X iter:=by intro _;rfl):CU X (.Assign [.Name x pos'] (.ListComp elt [⟨tg,iter,ifs,0⟩] sc pos) spos) (Co i (F3 ls.length fr ti g tf te)) :=
 jQ (pW (g:=pX X.K ls.length (ls++fs).length g) (tf:=liftT X.K tf) (te:=lift X.K te) nd hx0 hx hc (iT B) hi (λcl C pn ex s H=>hg cl C pn ex s H (iT B).nd) hf he hsw hs) λBd σ H Sm=>by
 obtain⟨H₀,S,w,ρ,G,E,hl,st,ht,ok⟩:=Sm;exact tO (n:=(ls++fs).length) (by rw[ck,(iT B).CT]) ⟨_,bC ρ,_,st.MK,st.all,ht,λp xs H' ds hp hp' s' d' q'=>ok.nx w _ H' _ (by rw[gz];exact hl) ((st.same s').j5 (d:=.lst ds) (by rw[hl];exact iX hx0) (by simp only[Dn];exact⟨p,xs,rfl,hp',st.IZ p hp,aS.zJ q'.1 d'⟩)) q'.2⟩
variable{it:AF}{g:Q0}{t:TF}{e:EF}
def Sk{f:EF}{ρ:dC}{Q:D->Prop}{o:Out}{d:D}(h:f ρ=aa d)(hl:pC d=ae)(q:Q d):wE f ρ λd=>(match d with | .lst ds=>sC ds=ae|_=>False)/\Q d:=by refine⟨d,h,?_,q⟩;cases d<;>first|exact hl|cases hl
theorem JU(nd:X.N.Nodup)(hc:X.calm=ae)(hi:VP X tg iter it)
  (hg:∀cl C pn ex s H,(blk X (ls++fs) sc cl C pn ex s H).N.Nodup->PR (blk X (ls++fs) sc cl C pn ex s H) ls.length tg g) (hf:∀cl C pn ex s H,VW (blk X (ls++fs) sc cl C pn ex s H) ifs t) (he:∀cl C pn ex s H,bZ (blk X (ls++fs) sc cl C pn ex s H) elt e)
  (hx0:X.N[i]?=aa x:=by rfl) (hx:X.env.scope.names.lookup x=aa .local:=by rfl) (hsw:Rv X elt tg iter ifs sc pos x pos' spos:=by rfl)
  (B:chk X.env.scope.names sc X.N ls fs fr=ae:=by rfl) (hs:Zp X iter:=by intro _;rfl):uK X (.Assign [.Name x pos'] (.ListComp elt [⟨tg,iter,ifs,0⟩] sc pos) spos) (kE i (aV ls.length fr it g t e)) :=
 cS (JT nd hc hi hg hf he hx0 hx hsw B hs) λE ρ w=>by
  unfold wS kE at w
  cases h:aV ls.length fr it g t e (bC ρ) with
  |none=>rw[h] at w;exact w.elim
  |some d =>
   rw[h] at w;dsimp only at w;by_cases hl:pC d=ae
   .rw [Z_ hl] at w;exact JO _ _ (Sk (o:=.no) (Q:=λd=>E.nx (ρ.set i (.ro d))) h hl w)
   .rw [Zz hl] at w;exact w.elim
end
end
end L5
namespace L6
open PySem.Spec PyProof.Rows
section
variable{prog:bf}{w:az}{A:bq}{E:Q0c}{s:ak}
theorem stored(ho:s.heap.get? a=aa o)(hd:o.data=.set es ep t):
  (s.heap.update a (a08 es' t')).get? a=aa {o with data:=.set es' (ep+1) t' }:=by
 have q:=t_ (a08 es' t') ho (by rw[putSet_of es' t' hd];rfl)
 rwa [putSet_of es' t' hd] at q
end
open L2 L3 L4
theorem GR(ht:gr s.heap t its.toArray)(hz:its.length<=bc)
  (h:∀h',s.heap.objs.size<=h'.objs.size->(∀b u,s.heap.get? b=aa u->h'.get? b=aa u)->Q its {s with heap:=h' }):ax (ay prog w) A (collect (.ref t)) Q E s:=by
 obtain⟨ot,hot,hct,nt,hdt⟩:=id ht;unfold collect;apply av;apply wpAny_runValue;refine mw F.entry_proto_collect ?_;rw[ng F.plain_proto_collect]
 wp_walk
 refine⟨og a1s _,mw F.entry_list_iadd ?_⟩;rw[ng a1s];have g0:(s.heap.push {cls:=.type "list",data:=.seq #[]}).get? s.heap.objs.size=aa {cls:=.type "list",data:=.seq #[] 0}:=gc _ rfl;refine wpAny_extend_seq (R:=wants _ _) (s:={s with heap:=s.heap.push {cls:=.type "list",data:=.seq #[]} }) s.heap.objs.size t _ 0 (.inr rfl) g0 (di _ hot) hct hdt ?_ (by simpa using hz);have g1:=t_ (jn (· ++ its.toArray)) g0 rfl;apply av;apply wpAny_load g1;have fin:=h ((s.heap.push {cls:=.type "list",data:=.seq #[]}).update s.heap.objs.size (jn (· ++ its.toArray))) (km (b_ g1)) λb u e=>(Ee _ _ (iz (b_ e))).trans (di _ e);refine bb ?_;simpa using fin
theorem JV(ht:gr s.heap t its.toArray)(hv:jy its ns)(fm:ns.length<64)
  (h:∀h' tk l out ns' e,(∀b u,s.heap.get? b=aa u->h'.get? b=aa u)->s.heap.objs.size<=l->jy out ns'->ns'.Perm ns->ns'.Pairwise (· <= ·)->h'.get? l=aa (seqObj "list" out.toArray e)->Q (.ref l) {s with heap:=h',toks:=tk}):
  ax (ay prog w) A (call (.builtin "sorted") [.ref t]) Q E s:=by
 have lv:its.length<64:=by rw[IntsAre.length hv];exact fm
 apply a1H a1W a1U a1Y (a12 _);unfold Builtin.«sorted»;refine av (m:=checkCount "sorted" 1 1 _) (bb (av (GR (A:=A.in1) ht (by rw[gp];omega) λh1 l1 keep=>?_)));apply av;refine Dg ?_ (by rw[gp];omega);have g1:(h1.push (seqObj "list" its.toArray 0)).get? h1.objs.size=aa (seqObj "list" its.toArray 0):=gc _ rfl;refine av (ju (iq a1R ⟨_,g1,rfl⟩ a1Z (list_sort_tree g1 hv lv λout ns' a1 a2 a3=>⟨_,rfl,?_⟩) (a13 _)));obtain⟨e,g2⟩:=sortedHeap_at (out:=out) g1;refine bb ⟨_,rfl,h _ s.toks _ out.toList ns' e (λb u q=>?_) l1 a1 a2 a3 (by simpa using g2)⟩;have lb:=b_ (keep b u q);rw[sortedHeap_old (gd lb) (by rw[tw];exact uc lb)];exact di _ (keep b u q)
section
variable{X:Cx}
def Xb(K:ao):List V->Hp->VK->Prop:=λxs H Q=>∃(a:ag) (ns:Q0e),xs=[.ref a]/\fS K H a (ns.map V.int)/\ns.length<64 /\∀ns':Q0e,ns'.Perm ns->ns'.Pairwise (· <= ·) ->∀p,H p=ab->Q (.ref p) (upd H p (.lst (ns'.map V.int)))
def JW:fM X (.builtin "sorted") (Xb X.K):=by
 intro pins s σ H xs us Q I r h;obtain⟨a,ns,rfl,ha,fm,q⟩:=h;obtain⟨u,rfl,ru⟩:=vals1 r;cases ru;obtain⟨its,rv,pl,hz⟩:=I.tuple ha;refine JV pl (intsAre_of rv) fm λh' tk l out ns' e keep hl a1 a2 a3 g=>?_;have hz2:ns'.length<=bc:=by rw[a2.length_eq,gp];omega
 have I1:=I.laid (t':=tk) (a:=l) (o:=.lst (ns'.map V.int)) keep hl ⟨by rw[au];exact hz2,out,e,n8 a1,by simpa[seqObj] using g⟩;exact⟨.ref l,_,I1,rfl,q ns' a2 a3 l (I.hok.fresh hl)⟩
def WD(hm:X.mg "sorted"=ab)(ha:yR X [e] t)(hg:Gl X "sorted":=by rfl)(he:Zs X e []:=by rfl):
  fR X (.Call (.Name "sorted" p) [e] [] pos) (bP mI t) :=
 imp (rB JW hg hm ua ha (by decide) (by decide) he (by rfl)) λσ H Q Sj=>by
  obtain⟨S,ρ,Q3,fc,sl,⟨d,ed,q3⟩,k⟩:=Sj;obtain⟨ds,eds,ed⟩:=bnd ed;refine⟨S,ρ,λes=>es=ds,fc,sl,⟨_,eds,rfl⟩,λvs H1 es s1 d1 q1=>?_⟩;subst q1;unfold mI at ed;split at ed
  .rename_i a;obtain⟨ns,e1,ed⟩:=bnd ed;by_cases hl:ns.length<64
   .rw [Z_ hl] at ed;cases ed;rw[ints_of e1] at d1;obtain⟨v,r,rfl,h1,h2⟩:=d1.bD;simp only[aS] at h2;subst h2;simp only[Dn] at h1;obtain⟨t1,xs,rfl,ht,dt⟩:=h1;rw[aS.ints.mp dt] at ht;refine⟨t1,ns,rfl,fS.of ht,hl,λns' pm so l hl2=>?_⟩;have e3:ns'=sortI ns:=p5 (pm.trans (nF _).symm) so (j8 _);subst e3;exact k l _ _ _ (s1.free hl2) aP (s1.trans (aO hl2)) (aS.ints.mpr rfl) q3
   .rw [Zz hl] at ed;cases ed
  .cases ed
end
end L6
namespace L7
open PySem.Spec PyProof.Rows L2 L3 L4 LL
section
variable(rd:List Int->List (List Int))
abbrev All:ag->Prop:=λ_=>True
end
def At(K:ao)(x:Q0a)(a:Q0e)(p:ag)(σ:L2.St)(H:Hp):Prop :=
 ∃vo va,σ[0]?=aa (aa vo)/\Dn K All H (aH x) vo/\σ[1]?=aa (aa va)/\Dn K All H (tupI a) va/\σ[2]?=aa (aa (.ref p))
section
variable{K:ao}{rd:List Int->List (List Int)}{x:Q0a}{Ok:List Int->Prop}{a:Q0e}{p:ag}{σ:L2.St}{H:Hp}{kvs:List (List Key×V)}
structure Parts (K:ao) (rd:List Int->List (List Int)) (x:Q0a) (a:Q0e) (C1:TT) (T1:TE) (T3:TS):Prop where
 c1:∀p σ H Q,At K x a p σ H->(∀H',Same H H'->Q (Zv (a.length=x.length)) H')->C1 σ H Q
 t1:∀σ H (Q:VK),(∀H',Same H H'->Q (.int 1) H')->T1 σ H Q
 t3:∀p (D:Ends) σ H,σ.length=4->At K x a p σ H->a.length<x.length->(∀(σ':L2.St) (H':Hp) (l:ag) (ps:List ag),Same H H'->At K x a p σ' H'->σ'[3]?=aa (aa (.ref l))->H' l=aa (.lst (ps.map V.ref))->ps.length=(rd a).length ->
  (∀(i:Nat) (q:ag) (b:Q0e),ps[i]?=aa q->(rd a)[i]?=aa b->H' q=aa (.tup (b.map V.int)))->D.nx σ' H')->T3 D σ H
end
end L7
namespace L8
open PySem.Spec PyProof.Rows L2
def f7(kvs:List (KX×V×V))(k:KX):Option V:=(kvs.find? λp=>Zv (p.1=k)).map (·.2.2)
def eV(kvs:List (KX×V×V))(k:KX)(y v:V):List (KX×V×V):=if kvs.any (λp=>Zv (p.1=k))=ae then kvs.map (λp=>if p.1=k then(p.1,p.2.1,v) else p) else kvs++[(k,y,v)]
def M9(H:Hp):KX->V->Prop
 |.inl k,y=>y=kV k
 |.inr ks,y=>∃b,y=.ref b/\m5 H ks b
def nG(kvs:List (KX×V×V))(k:KX):Prop:=∀p∈kvs,p.1.isLeft=k.isLeft
def GS(kvs:List (KX×V×V))(k:KX)(y v:V):(eV kvs k y v).length<=kvs.length+1:=by
 unfold eV;split
 .rw [au];omega
 .simp
abbrev PL:List (KX×V×V)->List (Key×ai)->Prop:=gm λp q=>p.1=.inl q.1/\p.2.1=kV q.1/\RelV p.2.2 q.2
abbrev PT(H:Hp):List (KX×V×V)->List (N1×ag×ai)->Prop:=gm λp q=>p.1=.inr q.1/\p.2.1=.ref q.2.1/\m5 H q.1 q.2.1/\RelV p.2.2 q.2.2
theorem PL.val(r:PL kvs vs)(k:Key):m4 (f7 kvs (.inl k)) (valueAt vs k):=by
 induction r with
 |nil=>exact jm
 | @cons p q ps qs h t ih =>
  by_cases e:q.1=k
  .have e1:p.1=.inl k:=by rw[h.1,e]
   have a:f7 (p::ps) (.inl k)=aa p.2.2:=by unfold f7;rw[gw,Zx e1];rfl
   have b:valueAt (q::qs) k=aa q.2:=by unfold valueAt;rw[gw];simp[e]
   rw[a,b];exact h.2.2
  .have e1:¬ p.1=.inl k:=λz=>e (by rw[h.1] at z;exact xb z);have a:f7 (p::ps) (.inl k)=f7 ps (.inl k):=by unfold f7;rw[gw,Zy e1]
   have b:valueAt (q::qs) k=valueAt qs k:=by unfold valueAt;rw[gw];simp[e]
   rw[a,b];exact ih
theorem PT.val(r:PT H kvs xs)(k:N1):m4 (f7 kvs (.inr k)) ((atKey xs k).map (·.2)):=by
 induction r with
 |nil=>exact jm
 | @cons p q ps qs h t ih =>
  by_cases e:q.1=k
  .have e1:p.1=.inr k:=by rw[h.1,e]
   have a:f7 (p::ps) (.inr k)=aa p.2.2:=by unfold f7;rw[gw,Zx e1];rfl
   have b:atKey (q::qs) k=aa q.2:=by unfold atKey;rw[gw];simp[e]
   rw[a,b];exact h.2.2.2
  .have e1:¬ p.1=.inr k:=λz=>e (by rw[h.1] at z;exact Cy z);have a:f7 (p::ps) (.inr k)=f7 ps (.inr k):=by unfold f7;rw[gw,Zy e1]
   have b:atKey (q::qs) k=atKey qs k:=by unfold atKey;rw[gw];simp[e]
   rw[a,b];exact ih
theorem WH(kvs:List (KX×V×V))(k:KX):kvs.any (λp=>Zv (p.1=k))=(f7 kvs k).isSome:=by
 unfold f7;rw[yb]
 induction kvs with
 |nil=>rfl
 |cons p ps ih =>
  rw[ji,gw,ih];cases Zv (p.1=k)<;>rfl
def PL.put(r:PL kvs vs)(k:Key)(rv:RelV v u):PL (eV kvs (.inl k) (kV k) v) (stored vs k u):=by
 have e:kvs.any (λp=>Zv (p.1=.inl k))=vs.any (λkv=>kv.1=k):=by
  induction r with
  |nil=>rfl
  | @cons p q ps qs h t ih =>
   rw[ji,ji,ih,h.1];congr 1;exact decide_eq_decide.2 ⟨λz=>xb z,λz=>by rw[z]⟩
 unfold eV stored;rw[e];split
 .rename_i hc
  clear hc e
  induction r with
  |nil=>exact .nil
  | @cons p q ps qs h t ih =>
   rw[bp,bp];refine .cons ?_ ih;by_cases z:q.1=k
   .rw [Z_ z,Z_ (by rw[h.1,z])];exact⟨h.1,h.2.1,rv⟩
   .rw [Zz z,Zz (λy=>z (by rw[h.1] at y;exact xb y))];exact h
 .exact xo r ⟨rfl,rfl,rv⟩
def PT.put(r:PT H kvs xs)(k:N1)(hb:m5 H k b)(rv:RelV v u):PT H (eV kvs (.inr k) (.ref b) v) (storedH xs k b u):=by
 have e:kvs.any (λp=>Zv (p.1=.inr k))=(atKey xs k).isSome:=by rw[WH];have:=(PT.val r k).n9;rw[yb] at this;exact this
 unfold eV storedH;rw[e];split
 .rename_i hc
  clear hc e
  induction r with
  |nil=>exact .nil
  | @cons p q ps qs h t ih =>
   rw[bp,bp];refine .cons ?_ ih;unfold putAt;by_cases z:q.1=k
   .rw [Z_ z,Z_ (by rw[h.1,z])];exact⟨h.1,h.2.1,h.2.2.1,rv⟩
   .rw [Zz z,Zz (λy=>z (by rw[h.1] at y;exact Cy y))];exact h
 .exact xo r ⟨rfl,rfl,hb,rv⟩
section
variable{P:bf}{w:az}{H:Hp}{h:a_}{a:ag}{o:aw}{kvs:List (KX×V×V)}
def oB(ok:oR P w H h)(n:m5 H ks b):(iO P w).is h ks b:=by
 obtain⟨vs,e,r⟩:=n;obtain⟨_,its,rv,⟨q,h1,h2,m,h3⟩,_⟩:=(show dO P w H h b (.tup vs) from ok b _ e);have go:∀{ks:N1} {vs:List V} {us:Q0f},gm (xE H) ks vs->Vals vs us->gK (bA P w) h ks us:=by
  intro ks vs us r
  induction r generalizing us with
  |nil=>intro rv;cases rv;exact .nil
  | @cons k v ks vs i _ ih =>
   intro rv
   cases rv with
   | @cons _ u _ us ru rt =>
    refine .cons ?_ (ih rt)
    cases k with
    |inl k =>
     have i:v=kV k:=i;subst i;exact rG ru
    |inr k =>
     obtain⟨c,rfl,hc⟩:=i;have ru:u=.ref c:=ru;exact⟨c,ru,CL ok hc⟩
 exact⟨q,its.toArray,m,h1,h2,h3,by simpa using go r rv⟩
def rQ(x:xF P w H o kvs)(ho:h.get? a=aa o)(hp:∀p∈kvs,p.1.isLeft=ae):∃vs,PL kvs vs/\h.DictOf (bA P w) a vs:=by
 obtain⟨ex,es,ep,ed,hx⟩:=x;rcases hx with⟨vs,r,h1,h2,h3⟩|⟨xs,r,h1,h2⟩
 .exact ⟨vs,r,o,es,ep,ho,ex,ed,h1,h2,h3⟩
 .cases r with
  |nil =>
   have e0:es.toList=[]:=h1;have e1:es=#[]:=by simpa using e0
   subst e1;exact⟨[],.nil,o,#[],ep,ho,ex,ed,(λ_ he=>by simp at he),.nil,j7⟩
  | @cons p q ps qs hq t =>
   have:=hp p cp;rw[hq.1] at this;cases this
def vM(ok:oR P w H h)(x:xF P w H o kvs)(ho:h.get? a=aa o)(hp:∀p∈kvs,p.1.isLeft=af):∃xs,PT H kvs xs/\h.DictOfH (iO P w) a xs:=by
 obtain⟨ex,es,ep,ed,hx⟩:=x;rcases hx with⟨vs,r,h1,h2,h3⟩|⟨xs,r,h1,h2⟩
 .cases r with
  |nil =>
   have e0:es.toList=[]:=a2D (by rw[h2.length];rfl);exact⟨[],.nil,o,es,ep,ho,ex,ed,e0,(λ_ he=>by simp at he),j7⟩
  | @cons p q ps qs hq t =>
   have:=hp p cp;rw[hq.1] at this;cases this
 .refine ⟨xs,r,o,es,ep,ho,ex,ed,h1,?_,h2⟩;have go:∀{kvs:List (KX×V×V)} {xs:List (N1×ag×ai)},PT H kvs xs ->∀x∈xs,(iO P w).is h x.1 x.2.1:=by
   intro kvs xs r
   induction r with
   |nil=>intro x hx;cases hx
   |cons hq _ ih =>
    intro x hx;rcases bz.1 hx with e|hx
    .subst e;exact oB ok hq.2.2.1
    .exact ih x hx
  exact go r
variable{X:Cx}{pins:Q0b}{σ:L2.St}{s:ak}{y v z:V}{u r:ai}{A:bq}{E:Q0c}{k:KX}
def oV(I:Inv X pins σ H s)(e:H a=aa (.dX o kvs)):kvs.length<=bc/\(a == sysModules)=af/\s.heap.get? a=aa o/\xF X.prog X.w H o kvs:=I.hok a _ e
def si{k:Key}(kd:nG kvs (.inl k)):∀p∈kvs,p.1.isLeft=ae:=kd
def sh{k:N1}(kd:nG kvs (.inr k)):∀p∈kvs,p.1.isLeft=af:=kd
theorem QA(hu:A.units+2<cc)(I:Inv X pins σ H s)(e:H a=aa (.dX o kvs))(hk:M9 H k y)(kd:nG kvs k)(hv:f7 kvs k=aa v)(ry:RelV y u)(h:∀w' s',Inv X pins σ H s'->RelV v w'->Q w' s'):
  ax (ay X.prog X.w) A (getItem (.ref a) u) Q E s:=by
 obtain⟨z,hs,ho,hx⟩:=oV I e
 cases k with
 |inl k =>
  have hk:y=kV k:=hk;subst hk;obtain⟨vs,rel,dd⟩:=rQ hx ho (si kd);obtain⟨w',hw,IT⟩:=m4.some_of (v:=v) (o:=valueAt vs k) (by rw[<- hv];exact PL.val rel k);exact a0n (rG ry) dd.mapOf hw (h w' _ (I.tok _) IT)
 |inr k =>
  obtain⟨b,rfl,hb⟩:=hk;obtain rfl:u=cx b:=ry;obtain⟨xs,rel,dd⟩:=vM I.hok hx ho (sh kd);obtain⟨w',hw,IT⟩:=m4.some_of (v:=v) (o:=(atKey xs k).map (·.2)) (by rw[<- hv];exact PT.val rel k);obtain⟨p,hp,hp2⟩:=iy.mp hw;refine a0p (nest_room hu) (oB I.hok hb) dd hp ?_;rw[hp2];exact h w' _ (I.tok _) IT
theorem Je(neg:Bool)(hu:A.units+2<cc)(I:Inv X pins σ H s)(e:H a=aa (.dX o kvs))(hk:M9 H k y)(kd:nG kvs k)(ry:RelV y u)(h:∀s',Inv X pins σ H s'->Q (.bool (if neg then !(f7 kvs k).isSome else(f7 kvs k).isSome)) s'):
  ax (ay X.prog X.w) A (compareOp (if neg then .NotIn else .In) u (.ref a)) Q E s:=by
 obtain⟨z,hs,ho,hx⟩:=oV I e
 cases k with
 |inl k =>
  have hk:y=kV k:=hk;subst hk;obtain⟨vs,rel,dd⟩:=rQ hx ho (si kd);have ev:(f7 kvs (.inl k)).isSome=(valueAt vs k).isSome:=(PL.val rel k).n9;rw[ev] at h
  cases neg with
  |false=>exact wpAny_in_of (rG ry) hs dd.mapOf (h _ (I.tok _))
  |true=>exact wpAny_notIn_of (rG ry) hs dd.mapOf (h _ (I.tok _))
 |inr k =>
  obtain⟨b,rfl,hb⟩:=hk;obtain rfl:u=cx b:=ry;obtain⟨xs,rel,dd⟩:=vM I.hok hx ho (sh kd);have ev:=(PT.val rel k).n9;rw[yb] at ev;rw[ev] at h
  cases neg with
  |false=>exact wpAny_in_heap (nest_room hu) (oB I.hok hb) hs dd (h _ (I.tok _))
  |true=>exact wpAny_notIn_heap (nest_room hu) (oB I.hok hb) hs dd (h _ (I.tok _))
def rR(I:Inv X pins σ H s)(e:H a=aa (.dX o kvs)):s.TypeIs (.ref a) "dict":=by obtain⟨z,hs,ho,hx⟩:=oV I e;exact⟨o,ho,hx.1.1⟩
def WJ{P:bf}{w:az}{h':a_}{H':Hp}{kvs:List (KX×V×V)}{vs:List (Key×ai)}(rel:PL kvs vs)(dd:h'.DictOf (bA P w) a vs):∃o',h'.get? a=aa o'/\xF P w H' o' kvs:=by obtain⟨o',es,ep,h1,h2,h3,h4,h5,h6⟩:=dd;exact⟨o',h1,h2,es,ep,h3,.inl ⟨vs,rel,h4,h5,h6⟩⟩
def aA8{P:bf}{w:az}{h':a_}{H':Hp}{kvs:List (KX×V×V)}{xs:List (N1×ag×ai)}(rel:PT H' kvs xs)(dd:h'.DictOfH (iO P w) a xs):∃o',h'.get? a=aa o'/\xF P w H' o' kvs:=by obtain⟨o',es,ep,h1,h2,h3,h4,_,h6⟩:=dd;exact⟨o',h1,h2,es,ep,h3,.inr ⟨xs,rel,h4,h6⟩⟩
def aA9{H:Hp}{a:ag}{o:aw}{kvs:List (KX×V×V)}{u:HO}(e:H a=aa (.dX o kvs)):∀b ys,H b=aa (.tup ys)->upd H a u b=aa (.tup ys):=λb ys eb=>by rw[aW (Bw eb e (λz=>nomatch z))];exact eb
theorem QB(hu:A.units+2<cc)(I:Inv X pins σ H s)(e:H a=aa (.dX o kvs))(hk:M9 H k y)(kd:nG kvs k)(hl:kvs.length<bc)(ry:RelV y u)(rv:RelV v r)(h:∀o' s',Inv X pins σ (upd H a (.dX o' (eV kvs k y v))) s'->Q () s'):
  ax (ay X.prog X.w) A (setItem (.ref a) u r) Q E s:=by
 obtain⟨z,hs,ho,hx⟩:=oV I e;have hz:(eV kvs k y v).length<=bc:=by have:=GS kvs k y v;omega
 have mu:Mut (H a):=by rw[e];exact jm
 cases k with
 |inl k =>
  have hk:y=kV k:=hk;subst hk;obtain⟨vs,rel,dd⟩:=rQ hx ho (si kd);have hv:vs.length<=bc:=by rw[<- qh rel];exact z
  refine a0e (hsz:=hv) (rG ry) dd λh' dd' sb=>?_;obtain⟨o',g1,g2⟩:=WJ (H':=upd H a (.dX o (eV kvs (.inl k) (kV k) v))) (PL.put rel k rv) dd';exact h o' _ (vI I mu sb ⟨o',g1⟩ ⟨hz,hs,g1,g2.stay λb ys eb=>by
   by_cases hb:b=a
   .subst hb;rw[aP] at eb;cases eb
   .rw [aW hb] at eb ⊢;exact eb⟩)
 |inr k =>
  obtain⟨b,rfl,hb⟩:=hk;obtain rfl:u=cx b:=ry;obtain⟨xs,rel,dd⟩:=vM I.hok hx ho (sh kd);have hv:xs.length<=bc:=by rw[<- qh rel];exact z
  refine a0f (hsz:=hv) (nest_room hu) (oB I.hok hb) dd λh' dd' sb=>?_;obtain⟨o',g1,g2⟩:=aA8 (PT.put rel k hb rv) dd';exact h o' _ (vI I mu sb ⟨o',g1⟩ ⟨hz,hs,g1,g2.stay (aA9 e)⟩)
end
open L7
def Bk(td ty:TE):TE:=λσ H Q=>td σ H λx H1=>ty σ H1 λy H2=>∃a o kvs k v,x=.ref a/\H2 a=aa (.dX o kvs)/\M9 H2 k y/\nG kvs k/\f7 kvs k=aa v/\Q v H2
def ve(neg:Bool)(ty td:TE):TE:=λσ H Q=>ty σ H λy H1=>td σ H1 λx H2=>∃a o kvs k,x=.ref a/\H2 a=aa (.dX o kvs)/\M9 H2 k y/\nG kvs k/\Q (.bl (if neg then !(f7 kvs k).isSome else(f7 kvs k).isSome)) H2
def Sb(td ty tv:TE):TS:=λD σ H=>tv σ H λv H1=>td σ H1 λx H2=>ty σ H2 λy H3=>∃a o kvs k,x=.ref a/\H3 a=aa (.dX o kvs)/\M9 H3 k y/\nG kvs k/\kvs.length<bc /\∀o',D.nx σ (upd H3 a (.dX o' (eV kvs k y v)))
def Sa:TE:=λ_ H Q=>∀p o,H p=ab->Q (.ref p) (upd H p (.dX o []))
section
variable{X:Cx}{o i e f value:ar}{pos pos':bg}{td ty tv tz:TE}
def NA(hu:X.A.units+2<cc)(ho:PE X o td)(hi:PE X i ty)(hs:IY i):PE X (.Subscript o i pos) (Bk td ty):=by intro pins s σ H Q I h;refine MJ a1r.lookup hs (eK (ho pins s σ H _ I h) λu s1 ⟨x,H1,I1,rx,q1⟩=>?_);refine eK (hi pins s1 σ H1 _ I1 q1) λiv s2 R_=>?_;obtain⟨y,H2,I2,ry,a,ob,kvs,k,v,ex,e,hk,kd,hv,q2⟩:=R_;subst ex;obtain rfl:u=cx a:=rx;exact⟨rR I2 e,QA hu I2 e hk kd hv ry λw' s3 I3 r3=>⟨v,H2,I3,r3,q2⟩⟩
def QC(hu:X.A.units+2<cc)(hi:PE X i ty)(ho:PE X o td):PC X .NotIn i o (ve ae ty td):=by intro pins s σ H Q I h;refine eK (hi pins s σ H _ I h) λiv s1 Rz=>?_;obtain⟨y,H1,I1,ry,q1⟩:=Rz;refine eK (ho pins s1 σ H1 _ I1 q1) λu s2 Ry=>?_;obtain⟨x,H2,I2,rx,a,ob,kvs,k,ex,e,hk,kd,q2⟩:=Ry;subst ex;obtain rfl:u=cx a:=rx;exact Je ae hu I2 e hk kd ry λs3 I3=>⟨.bl _,H2,I3,rfl,q2⟩
def aAa(hu:X.A.units+2<cc)(ho:PE X o td)(hi:PE X i ty)(hv:PE X value tv)(hs:ft value (aa (.Subscript o i pos')) pos.line X.env=pure af):PS X (.Assign [.Subscript o i pos'] value pos) (Sb td ty tv):=by intro pins s σ H D I h;refine a0x (eK (hv pins s σ H _ I h) λr s1 ⟨v,H1,I1,rv,q1⟩=>?_) hs;refine eK (ho pins s1 σ H1 _ I1 q1) λu s2 Rx=>?_;obtain⟨x,H2,I2,rx,q2⟩:=Rx;refine eK (hi pins s2 σ H2 _ I2 q2) λiv s3 Ru=>?_;obtain⟨y,H3,I3,ry,a,ob,kvs,k,ex,e,hk,kd,hl,q3⟩:=Ru;subst ex;obtain rfl:u=cx a:=rx;exact QB hu I3 e hk kd hl ry rv λo' s4 I4=>⟨σ,_,I4,q3 o'⟩
def WK(h:a_)(hb:sysModules<h.objs.size):dO P w H (h.push {cls:=.type "dict",data:=.dict #[]}) h.objs.size (.dX {cls:=.type "dict",data:=.dict #[]} []) :=
 ⟨jq _,beq_eq_false_iff_ne.mpr (dh (gd hb)),gc _ rfl,⟨rfl,rfl,rfl⟩,#[],0,rfl,.inl ⟨[],.nil,(λ_ he=>by simp at he),.nil,j7⟩⟩
def aAb:PE X (.Dict [] [] pos) Sa:=λpins s σ H Q I h =>
 a0v ⟨.ref s.heap.objs.size,_,I.laid (t':=s.toks) (λ_ _ q=>di _ q) (bj _) (WK s.heap I.big),rfl,h _ _ (I.hok.fresh (bj _))⟩
end
def Rr(h:(bA P w).is k u=ae):RelV (kV k) u:=by
 rcases cU h with⟨i,t,rfl,rfl⟩|⟨i,t,rfl,rfl⟩
 .exact ⟨t,rfl⟩
 .exact ⟨t,rfl⟩
def WL(x:xF P w H o kvs):∃es ep,o.data=.dict es ep/\Vals (kvs.map (·.2.1)) (es.toList.map (·.key)) /\∀p∈kvs,M9 H p.1 p.2.1:=by
 obtain⟨_,es,ep,ed,hx⟩:=x;refine⟨es,ep,ed,?_⟩;rcases hx with⟨vs,r,_,h2,_⟩|⟨xs,r,h1,_⟩
 .have go:∀{kvs:List (KX×V×V)} {vs:List (Key×ai)} {l:List qm},PL kvs vs->Pairs (bA P w) l vs->Vals (kvs.map (·.2.1)) (l.map (·.key)) /\∀p∈kvs,M9 H p.1 p.2.1:=by
   intro kvs vs l r
   induction r generalizing l with
   |nil=>intro h2;cases h2;exact⟨.nil,λp hp=>by cases hp⟩
   | @cons p q ps qs hq t ih =>
    intro h2
    cases h2 with
    |cons k1 k2 k3 =>
     obtain⟨i1,i2⟩:=ih k3;refine⟨.cons ?_ i1,λp' hp'=>?_⟩
     .dsimp only;rw[hq.2.1];exact Rr k1
     .rcases bz.1 hp' with e|hp'
      .subst e;rw[hq.1,hq.2.1];rfl
      .exact i2 p' hp'
  exact go r h2
 .have go:∀{kvs:List (KX×V×V)} {xs:List (N1×ag×ai)},PT H kvs xs->Vals (kvs.map (·.2.1)) ((xs.map (entryOfKey (iO P w))).map (·.key)) /\∀p∈kvs,M9 H p.1 p.2.1:=by
   intro kvs xs r
   induction r with
   |nil=>exact⟨.nil,λp hp=>by cases hp⟩
   | @cons p q ps qs hq t ih =>
    obtain⟨i1,i2⟩:=ih;refine⟨.cons ?_ i1,λp' hp'=>?_⟩
    .dsimp only;rw[hq.2.1];rfl
    .rcases bz.1 hp' with e|hp'
     .subst e;rw[hq.1,hq.2.1];exact⟨_,rfl,hq.2.2.1⟩
     .exact i2 p' hp'
  rw[h1];exact go r
open L3 L4
section
variable{K:ao}{S:ag->Prop}{H:Hp}
def aAc(h:Dn K S H d v)(e:uS d=aa k):v=kV k:=by cases d<;>simp only[uS] at e<;>cases e<;>simp only[Dn] at h<;>exact h
theorem GU:∀{ds:List D} {xs:List V} {ks:List Key},aS K S H ds xs->zM ds=aa ks->xs=ks.map kV
 |[],xs,ks,h,e=>by simp only[aS] at h;cases e;exact h
 |d::ds,xs,ks,h,e=>by obtain⟨v,r,rfl,h1,h2⟩:=h.bD;obtain⟨k,ek,e⟩:=bnd e;obtain⟨ks',e2,rfl⟩:=kC e;rw[aAc h1 ek,GU h2 e2];rfl
theorem WM(h:Dn K S H d v)(e:RG d=aa k):xE H k v:=by
 cases d with
 |tup ds =>
  obtain⟨ks,e2,rfl⟩:=kC e;simp only[Dn] at h;obtain⟨a,xs,rfl,ha,dn⟩:=h;rw[GU dn e2] at ha;exact⟨a,rfl,ha⟩
 |int i=>cases e;simp only[Dn] at h;exact h
 |str i=>cases e;simp only[Dn] at h;exact h
 |_=>cases e
theorem A5:∀{ds:List D} {xs:List V} {ks:N1},aS K S H ds xs->vU ds=aa ks->gm (xE H) ks xs
 |[],xs,ks,h,e=>by simp only[aS] at h;cases e;subst h;exact .nil
 |d::ds,xs,ks,h,e=>by obtain⟨v,r,rfl,h1,h2⟩:=h.bD;obtain⟨k,ek,e⟩:=bnd e;obtain⟨ks',e2,rfl⟩:=kC e;exact .cons (WM h1 ek) (A5 h2 e2)
theorem rS(h:Dn K S H d v)(e:mB d=aa k):M9 H k v:=by
 cases d with
 |tup ds =>
  obtain⟨ks,e2,rfl⟩:=kC e;simp only[Dn] at h;obtain⟨a,xs,rfl,ha,dn⟩:=h;exact⟨a,rfl,xs,ha,A5 dn e2⟩
 |int i=>cases e;simp only[Dn] at h;exact h
 |str i=>cases e;simp only[Dn] at h;exact h
 |_=>cases e
def WN(k:Key):Dn K S H (dK k) (kV k):=by cases k<;>simp only[dK,Dn]<;>rfl
theorem WQ:∀ks:List Key,aS K S H (ks.map dK) (ks.map kV)
 |[]=>aS.nil
 |k::ks=>aS.cons (WN k) (WQ ks)
theorem A6:∀{ks:N1} {vs:List V},gm (xE H) ks vs->aS K S H (ks.map RH) vs
 |_,_,.nil=>aS.nil
 |k::ks,v::vs,.cons h t=>by
  refine aS.cons ?_ (A6 t)
  cases k with
  |inl k =>
   have h:v=kV k:=h;subst h;exact WN k
  |inr k =>
   obtain⟨b,rfl,hb⟩:=h;simp only[RH,Dn];exact⟨b,_,rfl,hb,WQ k⟩
theorem W_(h:M9 H k v):Dn K S H (mr k) v:=by
 cases k with
 |inl k =>
  have h:v=kV k:=h;subst h;exact WN k
 |inr k =>
  obtain⟨b,rfl,vs,hb,r⟩:=h;simp only[mr,Dn];exact⟨b,vs,rfl,hb,A6 r⟩
theorem p8:∀{kvs:List (KX×V×V)} {ds:List D},aS K S H ds (kvs.map (·.2.2))->(∀d,bY (kvs.map (·.1)) ds k=aa d ->∃v,f7 kvs k=aa v/\Dn K S H d v)/\(bY (kvs.map (·.1)) ds k=ab->f7 kvs k=ab)
 |[],ds,h=>⟨λd e=>by simp[bY] at e,λ_=>rfl⟩
 |p::kvs,ds,h=>by
  cases ds with
  |nil=>exact Zw h.len (by simp)
  |cons d0 ds =>
   obtain⟨v,r,e1,h1,h2⟩:=h.bD;rw[bp] at e1;cases e1;have ih:=p8 (k:=k) (kvs:=kvs) (ds:=ds) h2;by_cases e:p.1=k
   .have a:bY ((p::kvs).map (·.1)) (d0::ds) k=aa d0:=by simp[bY,e]
    have b:f7 (p::kvs) k=aa p.2.2:=by simp[f7,e]
    rw[a,b];exact⟨λd ed=>by cases ed;exact⟨_,rfl,h1⟩,λz=>nomatch z⟩
   .have a:bY ((p::kvs).map (·.1)) (d0::ds) k=bY (kvs.map (·.1)) ds k:=by simp[bY,e]
    have b:f7 (p::kvs) k=f7 kvs k:=by simp[f7,e]
    rw[a,b];exact ih
def yC(h:kindB (kvs.map (·.1)) k=ae):nG kvs k:=λp hp=>by unfold kindB at h;rw[gx] at h;simpa using h p.1 (yg hp)
theorem Rq(dv:Dn K S H d v):∀{kvs:List (KX×V×V)} {ds:List D},aS K S H ds (kvs.map (·.2.2)) ->
  (L8.eV kvs k y v).map (·.1)=(L4.eV (kvs.map (·.1)) ds k d).1/\aS K S H (L4.eV (kvs.map (·.1)) ds k d).2 ((L8.eV kvs k y v).map (·.2.2)):=by
 intro kvs ds h;have e:(kvs.map (·.1)).any (λq=>Zv (q=k))=kvs.any (λp=>Zv (p.1=k)):=by rw[qz];rfl
 unfold L8.eV L4.eV;rw[e];split
 .refine ⟨?_,?_⟩
  .simp only[bx];refine gf λp _=>?_;show(if p.1=k then(p.1,p.2.1,v) else p).1=p.1;split<;>rfl
  .dsimp only;have go:∀{kvs:List (KX×V×V)} {ds:List D},aS K S H ds (kvs.map (·.2.2))->aS K S H (((kvs.map (·.1)).zip ds).map λp=>if p.1=k then d else p.2) ((kvs.map λp=>if p.1=k then(p.1,p.2.1,v) else p).map (·.2.2)):=by
    intro kvs
    induction kvs with
    |nil=>intro ds h;cases ds with
     |nil=>exact aS.nil
     |cons d0 ds=>exact Zw h.len (by simp)
    |cons p kvs ih =>
     intro ds h
     cases ds with
     |nil=>exact Zw h.len (by simp)
     |cons d0 ds =>
      obtain⟨u,r,e1,h1,h2⟩:=h.bD;rw[bp] at e1;cases e1;refine aS.cons ?_ (ih h2);by_cases z:p.1=k
      .simpa [z] using dv
      .simpa [z] using h1
   exact go h
 .refine ⟨by simp,?_⟩;rw[e_];exact h.append (aS.one dv)
end
section
variable{X:Cx}
theorem Jd(hu:X.A.units+2<cc)(ho:bZ X o fo)(hi:bZ X i fi)(hs:IY i:=by intro _ _;rfl):bZ X (.Subscript o i pos) (aC Bb fo fi):=imp (NA hu ho hi hs) λσ H Q Rp=>by
 obtain⟨S,ρ,Q3,fc,sl,⟨d,e,q⟩,k⟩:=Rp;obtain⟨x,ex,e⟩:=bnd e;obtain⟨y,ey,e⟩:=bnd e;refine⟨S,ρ,λd=>d=x,fc,sl,⟨x,ex,rfl⟩,λv H1 d1 s1 oX e1=>?_⟩;subst e1;refine⟨S,ρ,λd=>d=y,bQ fc s1,Sl.fits (.same s1) sl,⟨y,ey,rfl⟩,λu H2 d2 s2 yQ e2=>?_⟩;subst e2;have oX:=Dn.fits (.same s2) _ _ oX
 cases d1 with
 |dP q0 ks ds =>
  obtain⟨kk,ek,e⟩:=bnd e;simp only[Dn] at oX;obtain⟨a,o,kvs,rfl,ha,sa,⟨rfl,_⟩,da⟩:=oX;by_cases hk:kindB (kvs.map (·.1)) kk=ae
  .rw [Z_ hk] at e;obtain⟨v3,ev,dv⟩:=(p8 da).1 d e;exact⟨a,o,kvs,kk,v3,rfl,ha,rS yQ ek,yC hk,ev,k v3 H2 d (s1.trans s2) dv q⟩
  .rw [Zz hk] at e;cases e
 |_=>cases e
theorem WR(h:lift X.K (wE (aC (NO neg) fi fo)) σ H Q):ve neg (lift X.K (wE fi)) (lift X.K (wE fo)) σ H Q:=by
 obtain⟨S,ρ,Q3,fc,sl,⟨d,e,q⟩,k⟩:=h;obtain⟨x,ex,e⟩:=bnd e;obtain⟨y,ey,e⟩:=bnd e;refine⟨S,ρ,λd=>d=x,fc,sl,⟨x,ex,rfl⟩,λv H1 d1 s1 oX e1=>?_⟩;subst e1;refine⟨S,ρ,λd=>d=y,bQ fc s1,Sl.fits (.same s1) sl,⟨y,ey,rfl⟩,λu H2 d2 s2 yQ e2=>?_⟩;subst e2;have oX:=Dn.fits (.same s2) _ _ oX
 cases d2 with
 |dP q0 ks ds =>
  obtain⟨kk,ek,e⟩:=bnd (o:=mB d1) e;simp only[Dn] at yQ;obtain⟨a,o,kvs,rfl,ha,sa,⟨rfl,_⟩,da⟩:=yQ;by_cases hk:kindB (kvs.map (·.1)) kk=ae
  .rw [Z_ hk] at e;cases e;have ev:(f7 kvs kk).isSome=(bY (kvs.map (·.1)) ds kk).isSome:=by
    cases hl:bY (kvs.map (·.1)) ds kk with
    |none=>rw[(p8 da).2 hl];rfl
    |some d3=>obtain⟨v3,e3,_⟩:=(p8 da).1 d3 hl;rw[e3];rfl
   refine⟨a,o,kvs,kk,rfl,ha,rS oX ek,yC hk,?_⟩;rw[ev];exact k _ H2 _ (s1.trans s2) (by simp only[Dn]) q
  .rw [Zz hk] at e;cases e
 |_=>cases e
section
variable{o i:ar}{pos:bg}{fo fi:EF}
def QD(h:liftT X.K (wT (tV (aC (NO neg) fi fo))) σ H Q):tB (ve neg (lift X.K (wE fi)) (lift X.K (wE fo))) σ H Q:=by
 obtain⟨S,ρ,Q3,fc,sl,⟨b,e,q⟩,k⟩:=h;obtain⟨d,e1,e2⟩:=bnd e;have eb:d=.bl b:=by
  obtain⟨x,ex,e⟩:=bnd e1;obtain⟨y,ey,e⟩:=bnd e
  cases y with
  |dP q0 ks ds =>
   obtain⟨kk,ek,e⟩:=bnd (o:=mB x) e;by_cases hk:kindB ks kk=ae
   .rw [Z_ hk] at e;cases e;cases e2;rfl
   .rw [Zz hk] at e;cases e
  |_=>cases e
 subst eb;refine WR ⟨S,ρ,λd=>d=.bl b,fc,sl,⟨_,e1,rfl⟩,λv H1 d s1 dn e3=>?_⟩;subst e3;simp only[Dn] at dn;exact⟨b,dn,k b H1 s1 q⟩
def Wz(hu:X.A.units+2<cc)(hi:bZ X i fi)(ho:bZ X o fo)(hm:behindInMarks .NotIn o=af:=by with_unfolding_all rfl):uZ X (.Compare i [.NotIn] [o] pos) (tV (aC (NO ae) fi fo)):=UU (aC9 (QC hu hi ho) hm) λ_ _ _=>QD
end
end
section
variable{X:Cx}
def Bj(hN:X.N.Nodup)(hi:X.N[i]?=aa x:=by rfl)(hx:Loc X.env.scope x:=by walk_at "0")(hs:ft (.Dict [] [] p) (aa (.Name x pos')) pos.line X.env=pure af:=by rfl)(hf:Zr X x:=by walk_at "0"):
  uK X (.Assign [.Name x pos'] (.Dict [] [] p) pos) (RI i):=jQ (pU hN hi hx aAb hs hf) λB σ H ⟨H₀,S,w,ρ,G,E,hl,st,ht,ok⟩=>λp o hp =>
 ok.nx _ _ _ _ (by rw[gz];exact hl) (st.I0 (d:=.dP qE [] []) (by rw[hl];exact iX hi) (aO hp) hp ⟨o,[],aP,⟨rfl,trivial⟩,aS.nil⟩) ht
def vN(h:HJ o=aa p):o=aa (.ow (.dP p.1 p.2.1 p.2.2)):=by
 unfold HJ at h;split at h
 .cases h;rfl
 .cases h
theorem Bi(hu:X.A.units+2<cc)(he:MQ X e f)(hk:bZ X k fk)
  (hN:X.N[i]?=aa x:=by rfl) (hv:y6 X.env.scope x:=by walk_at "1") (hd:Zu x:=by decide) (hcd:Zt x:=by decide)
  (hs:ft e (aa (.Subscript (.Name x p) k pos')) pos.line X.env=pure af:=by rfl):
  uK X (.Assign [.Subscript (.Name x p) k pos'] e pos) (qF i f fk):=jQ (aAa hu (lN hN hv hd hcd) hk he hs) λB σ H Ro=>by
 obtain⟨H₀,S,w,ρ,G,E,hl,st,ht,ok⟩:=Ro;unfold wS qF at ht;cases h:((f ρ).bind λp=>(HJ p.1[i]?).bind λkd=>(fk (bC p.1)).bind λkv=>(mB kv).bind λkk =>
  if kindB kd.2.1 kk=ae/\kd.2.2.length<mF then aa (p.1.set i (.ow (.dP (adr kd.1) (L4.eV kd.2.1 kd.2.2 kk p.2).1 (L4.eV kd.2.1 kd.2.2 kk p.2).2))) else ab) with
 |none=>rw[h] at ht;exact ht.elim
 |some ρ2 =>
  rw[h] at ht;obtain⟨⟨ρ1,d1⟩,eq,h⟩:=bnd h;obtain⟨⟨q0,ks,ds⟩,ed,h⟩:=bnd h;obtain⟨kv,ek,h⟩:=bnd h;obtain⟨kk,e2,h⟩:=bnd h;have o0:=vN ed;by_cases hc:kindB ks kk=ae/\ds.length<mF
  .rw [Z_ hc] at h;cases h;refine⟨H₀,S,w,ρ,G,λρ' d=>ρ'=ρ1/\d=d1,hl,st,⟨_,eq,rfl,rfl⟩,λw' v H' ρ' d st' dv q'=>?_⟩;obtain⟨rfl,rfl⟩:=q';obtain⟨a0,_,_⟩:=st'.own i _ o0;refine⟨_,a0,S,bC ρ',λy=>y=kv,st'.MK,st'.all,⟨kv,ek,rfl⟩,λy H2 y' s2 dy ey=>?_⟩;subst ey;have st2:=st'.same s2;obtain⟨a,b,c⟩:=st2.own i _ o0;obtain⟨o,kvs,hp,⟨e5,hq⟩,dn⟩:=c;subst e5;have nS:¬ SO S w' ρ' (w' i):=λ⟨_,z⟩=>z i _ o0 rfl;refine⟨w' i,o,kvs,kk,rfl,hp,rS dy e2,yC hc.1,?_,λo'=>?_⟩
   .have:=dn.len;rw[au] at this;rw[gp,<- this];exact hc.2
   .have F:Fits X.K (SO S w' ρ') (SO S w' ρ') H2 (upd H2 (w' i) (.dX o' (L8.eV kvs kk y v))):=.upd (.inr (.inr ⟨_,_,hp⟩)) nS;obtain⟨p1,p2⟩:=Rq (k:=kk) (y:=y) (Dn.fits (.same s2) _ _ dv) dn;exact ok.nx w' σ _ _ hl (st2.write (d':=.dP (adr q0) _ _) o0 ⟨o',_,aP,⟨p1,o,hq⟩,aS.fits F _ _ p2⟩) ht
  .rw [Zz hc] at h;cases h
end
def QE{K:ao}{H₀ H H':Hp}{S:ag->Prop}{w:Nat->ag}{σ:L2.St}{ρ:bH}{G:List (D×V)}{i:Nat}{d d':D}(h:ST K H₀ S w σ H ρ G)(e:ρ[i]?=aa (Sv.ow d))(hb:∀b u,b≠w i->H b=aa u->H' b=aa u)(q:xU K (SO S w ρ) H' d' (w i))(hr:∀xs,d'≠.rws xs:=by intro _ z;cases z):ST K H₀ S w σ H' (ρ.set i (.ow d')) G:=by
 obtain⟨a0,b0,c0⟩:=h.own i d e;have wr:=c0.wr;have so:SO S w (ρ.set i (.ow d'))=SO S w ρ:=by
  funext a
  refine propext ⟨λ⟨s,n⟩=>⟨s,λj f hf=>?_⟩,λ⟨s,n⟩=>⟨s,λj f hf=>?_⟩⟩
  .by_cases hj:j=i
   .subst hj;exact n j d' (by rw[ku (cg.1 e).1])
   .exact n j f (by rw[je (dh hj)];exact hf)
  .by_cases hj:j=i
   .subst hj;exact n j d e
   .exact n j f (by rw[je (dh hj)] at hf;exact hf)
 have ne:∀a,SO S w ρ a->a≠w i:=λa z=>z.2 i d e;have nt:∀a xs,H a=aa (.tup xs)->a≠w i:=λa xs z y=>by subst y;rcases wr with⟨_,k⟩|⟨_,k⟩|⟨_,_,k⟩<;>rw[z] at k<;>cases k
 have nf:∀a o u,H a=aa (.xD o u)->a≠w i:=λa o u z y=>by subst y;rcases wr with⟨_,k⟩|⟨_,k⟩|⟨_,_,k⟩<;>rw[z] at k<;>cases k
 have F:Fits K (SO S w ρ) (SO S w ρ) H H':=⟨λa xs z=>hb _ _ (nt a xs z) z,λa ns z=>z.elim (λ⟨o,y⟩=>.inl ⟨o,hb _ _ (nf a o _ y) y⟩) .inr,λa xs z s=>⟨hb _ _ (ne a s) z,s⟩,λa xs z s=>⟨hb _ _ (ne a s) z,s⟩,λa o xs z s=>⟨hb _ _ (ne a s) z,s⟩⟩;refine⟨h.fc,λb u z=>hb b u (bK z b0) (h.sm b u z),λj f hf=>?_,λj k d1 e1 h1 h2 z=>?_,λj f hf=>?_,λg hg=>by rw[so];exact Dn.fits F _ _ (h.gh g hg),λj xs hx=>?_⟩
 rotate_right
 .rcases get_set hx with⟨_,z,_⟩|⟨hj,z⟩
  .exact Zw (Sv.ow.inj z).symm (hr xs)
  .exact h.rwN z λob hob=>hb _ _ (λy=>hj (h.inj _ _ _ _ z e y)) hob
 .rw [so];rcases get_set hf with⟨hj,z,_⟩|⟨hj,z⟩
  .cases z;subst hj;exact⟨a0,b0,q⟩
  .obtain ⟨a,b,c⟩:=h.own j f z;exact⟨a,b,c.fits F λob hob=>hb _ _ (λy=>hj (h.inj _ _ _ _ z e y)) hob⟩
 .have old:∀{m:Nat} {y:D},(ρ.set i (.ow d'))[m]?=aa (Sv.ow y) ->∃y2,ρ[m]?=aa (Sv.ow y2):=λ{m y} hm=>by
   rcases get_set hm with⟨hj,_,_⟩|⟨_,z⟩
   .subst hj;exact⟨d,e⟩
   .exact ⟨_,z⟩
  obtain⟨_,g1⟩:=old h1;obtain⟨_,g2⟩:=old h2;exact h.inj j k _ _ g1 g2 z
 .rw [so];rcases get_set hf with⟨_,z,_⟩|⟨hj,z⟩
  .cases z
  .obtain ⟨u,a,b⟩:=h.ro j f z;exact⟨u,a,Dn.fits F f u b⟩
def X1(K:ao)(R:FnM):Sp:=λvs H Q _=>∃(T:ag->Prop) (ds:List D) (us:List V) (p:ag) (o:aw) (kvs:List (KX×V×V)) (xs:List D) (r:D×KD),vs=us++[.ref p]/\(∀a,H a=ab->T a)/\¬ T p/\H p=aa (.dX o kvs)/\aS K T H ds us/\aS K T H xs (kvs.map (·.2.2))/\R ds (kvs.map (·.1),xs)=.ok r /\
 ∀v H' o' kvs',(∀b u,b≠p->H b=aa u->H' b=aa u)->H' p=aa (.dX o' kvs')->kvs'.map (·.1)=r.2.1->aS K T H' r.2.2 (kvs'.map (·.2.2))->Dn K T H' r.1 v->Q v H'
def tW(K:ao)(t:AF)(j:Nat):TA:=λσ H Q=>∃(S:ag->Prop) (ρ:dC) (ds:List D) (p:ag),(∀a,H a=ab->S a)/\Sl K S H ρ σ/\t ρ=aa ds/\σ[j]?=aa (aa (.ref p)) /\∀vs H',Same H H'->aS K S H' ds vs->Q (vs++[.ref p]) H'
section
variable{X:Cx}
def A7(he:bZ X e f)(hr:PA X es (tW X.K g j))(hs:Zs X e es:=by rfl):PA X (e::es) (tW X.K (aB f g) j) :=
 UW (iF he hr hs) λσ H Q Rn=>by obtain⟨S,ρ,ds,p,fc,sl,et,ej,k⟩:=Rn;obtain⟨d,ed,et⟩:=bnd et;obtain⟨r,er,et⟩:=bnd et;cases et;refine⟨S,ρ,λy=>y=d,fc,sl,⟨d,ed,rfl⟩,λv H1 d1 s1 oX e1=>?_⟩;subst e1;refine⟨S,ρ,r,p,bQ fc s1,Sl.fits (.same s1) sl,er,ej,λvs H2 s2 yQ=>?_⟩;exact k (v::vs) H2 (s1.trans s2) (aS.cons (Dn.fits (.same s2) _ _ oX) yQ)
def Bh(hN:X.N[j]?=aa x:=by rfl)(hv:y6 X.env.scope x:=by walk_at "1")(hd:Zu x:=by decide)(hcd:Zt x:=by decide):PA X [.Name x pos] (tW X.K aF j) :=
 UW (iF (lN hN hv hd hcd) m9) λσ H Q Rm=>by obtain⟨S,ρ,ds,p,fc,sl,et,ej,k⟩:=Rm;cases et;exact⟨_,ej,k [] H (Same.refl H) aS.nil⟩
theorem A8{R:FnM}{t:AF}{j:Nat}{H₀ H:Hp}{S:ag->Prop}{w:Nat->ag}{σ:L2.St}{ρ:bH}{G:List (D×V)}{r:(Nat->aw->Prop)×D×KD}{Q:VK}(st:ST X.K H₀ S w σ H ρ G)(h:stepM R t j ρ=aa r)
  (k:∀v H',ST X.K H₀ S w σ H' (ρ.set j (.ow (.dP (adr r.1) r.2.2.1 r.2.2.2))) G->Dn X.K (SO S w ρ) H' r.2.1 v->Q v H'):Bs (X1 X.K R) [] E0 (tW X.K t j) σ H Q:=by
 obtain⟨ds,et,h⟩:=bnd h;obtain⟨⟨q0,ks,xs⟩,eo,h⟩:=bnd h;have o0:=vN eo
 cases hR:R ds (ks,xs) with
 |no=>dsimp only at h;rw[hR] at h;cases h
 |ex c=>dsimp only at h;rw[hR] at h;cases h
 |ok r0 =>
  dsimp only at h;rw[hR] at h;cases h;obtain⟨a0,b0,_⟩:=st.own j _ o0;refine⟨SO S w ρ,gR ρ,ds,w j,st.IZ,st.rd,et,a0,λvs H1 s1 dn=>?_⟩;have st1:=st.same s1;obtain⟨_,_,⟨o,kvs,hp,⟨e5,hq⟩,dk⟩⟩:=st1.own j _ o0;subst e5;show X1 X.K R ((vs++[V.ref (w j)])++[]) H1 Q E0;rw[jh];refine⟨SO S w ρ,ds,vs,w j,o,kvs,xs,r0,rfl,st1.IZ,λz=>z.2 j _ o0 rfl,hp,dn,dk,hR,λv H' o' kvs' hb hp' ek dx dv=>?_⟩;exact k v H' (QE st1 o0 hb ⟨o',kvs',hp',⟨ek,o,hq⟩,dx⟩) dv
theorem Wy(C:Cl X.prog X.w X.K X.mg X.base cK k y ps (X1 X.K R))(hr:gL k X.A)(hij:i≠j)(hN:X.N.Nodup)
  (ha:PA X (e::es) (tW X.K t j)) (hi:X.N[i]?=aa x:=by rfl) (hx:Loc X.env.scope x:=by walk_at "0") (hg:Gl X y:=by rfl) (hdb:Zu y:=by decide) (he:Zs X e es:=by rfl) (hpl:Q0k X cpos es:=by rfl)
  (hs:ft (.Call (.Name y p) (e::es) [] cpos) (aa (.Name x pos')) pos.line X.env=pure af:=by rfl) (hf:Zr X x:=by walk_at "0"):
  uK X (.Assign [.Name x pos'] (.Call (.Name y p) (e::es) [] cpos) pos) (sI i R t j):=by
 obtain⟨F,hm,hk,hb⟩:=C;refine jQ (pU hN hi hx (CD F hr hg hm hk hb .nil UL ha hdb he hpl) hs hf) λB σ H Rl=>?_;obtain⟨H₀,S,w,ρ,G,E,hl,st,ht,ok⟩:=Rl;unfold wS sI at ht
 cases h:stepM R t j ρ with
 |none=>rw[h] at ht;exact ht.elim
 |some r =>
  rw[h] at ht;refine A8 st h λv H' st' dv=>ok.nx w _ H' _ (by rw[gz];exact hl) (st'.j5 (by rw[hl];exact iX hi) (Dn.fits (.mono λa z=>?_) _ _ dv)) ht;refine⟨z.1,λm y hm=>?_⟩;rcases get_set hm with⟨hj,_,hlt⟩|⟨_,q⟩
  .subst hj;obtain⟨_,et,h⟩:=bnd h;obtain⟨⟨q0,ks,xs⟩,eo,h⟩:=bnd h;exact z.2 m _ (vN eo)
  .exact z.2 m y q
theorem Jc(C:Cl X.prog X.w X.K X.mg X.base cK k y ps (X1 X.K R))(hr:gL k X.A)
  (ha:PA X (e::es) (tW X.K t j)) (hg:Gl X y:=by rfl) (hdb:Zu y:=by decide) (he:Zs X e es:=by rfl) (hpl:Q0k X cpos es:=by rfl)
  (hs:ft (.Call (.Name y p) (e::es) [] cpos) ab pos.line X.env=pure af:=by rfl):
  uK X (.Expr (.Call (.Name y p) (e::es) [] cpos) pos) (X8 R t j):=by
 obtain⟨F,hm,hk,hb⟩:=C;refine jQ (LY (CD F hr hg hm hk hb .nil UL ha hdb he hpl) hs) λB σ H Rk=>?_;obtain⟨H₀,S,w,ρ,G,E,hl,st,ht,ok⟩:=Rk;unfold wS X8 at ht
 cases h:stepM R t j ρ with
 |none=>rw[h] at ht;exact ht.elim
 |some r =>
  rw[h] at ht;exact A8 st h λv H' st' _=>ok.nx w _ H' _ hl st' ht
abbrev WU(K:ao)(j:Nat)(k:EF):TS:=An (Bk (IH j) (lift K (wE k)))
def Rj{st:cz}{b:SF}{j:Nat}{x:aj}{i:ar}{k:EF}{p pos pos':bg}(hu:X.A.units+2<cc)(h:uK X st b)(hk:bZ X i k)(hN:X.N[j]?=aa x:=by rfl)(hv:y6 X.env.scope x:=by walk_at "1")(hd:Zu x:=by decide)(hcd:Zt x:=by decide)(hs:IY i:=by intro _ _;rfl):
  y7 X [st,.Return (aa (.Subscript (.Name x p) i pos)) pos'] (OG (xX X.K (XC X) X.N.length (wS b)) (WU X.K j k)):=xJ h (LX (T2 (NA hu (lN hN hv hd hcd) hk hs)))
theorem mL{st:cz}{rest:List cz}{f g:SF}{tl:TS}(h1:uK X st f)(h2:y7 X rest (OG (xX X.K (XC X) X.N.length (wS g)) tl)):y7 X (st::rest) (OG (xX X.K (XC X) X.N.length (wS (aJ f g))) tl):=FT (xJ h1 h2) λB σ H Ri=>by
 obtain⟨H₀,S,w,ρ,G,E,hl,st,ht,ok⟩:=Ri;unfold wS aJ at ht;refine⟨H₀,S,w,ρ,G,{E with nx:=wS g E},hl,st,?_,⟨λw' σ' H' ρ' hl' st' q=>⟨H₀,S,w',ρ',G,E,hl',st',q,ok⟩,ok.rt,ok.bk,ok.ct,ok.ex⟩⟩;unfold wS
 cases hf:f ρ with
 |nx ρ'=>rw[hf] at ht;exact ht
 |rt d=>rw[hf] at ht;exact ht
 |ex c=>rw[hf] at ht;exact ht
 |no=>rw[hf] at ht;exact ht
end
theorem Jb{P:bf}{w:az}{K:ao}{mg:Q0d}{base:a_}{x qual:aj}{st:cz}{f:ag}{fd:gq}{N ps:Q0g}{k n np:Nat}{b:SF}{key:EF}(F:Fun K x qual st f fd)(S:i7 N ps (bV st))(hn:N.length=n)(hp:ps.length=np)
  (hbody:∀(cdv:ai) (A:bq) (outer:List fz) (s:ak) (H:Hp) (E:XK),gL k (A.deeper (envOfC qual (bV st) s.heap.objs.size f cdv)) ->
   ∃xc,y7 (xN cK P w K mg base N qual (bV st) f cdv A outer s H E).ZQ (gM st) (OG (xX K xc N.length (wS b)) (WU K (np-1) key))):lQ P w K mg base cK (k+1) f fd ps (X1 K (runM n np b key)):=by
 subst hn hp;refine F.ok S (λvs H Q E h=>?_) λcdv A outer s H vs Q E hr h=>?_
 .obtain ⟨T,ds,us,p,o,kvs,xs,r,rfl,fc,np,hp,du,dx,hR,kk⟩:=h;have hb:=KS hR qE;unfold vW at hb;split at hb
  .rename_i hl;rw[ck,<- du.len];exact hl
  .cases hb
 .obtain ⟨xc,hb⟩:=hbody cdv A outer s H E hr;obtain⟨T,ds,us,p,o,kvs,xs,r,rfl,fc,nT,hp,du,dx,hR,kk⟩:=h;refine⟨_,hb,?_⟩;have hq:=KS hR (λa _=>a=p);unfold vW at hq;split at hq
  case isFalse=>cases hq
  rename_i hl;have hlu:=du.len;have hpN:ps.length<=N.length:=by have:=congrArg oz S.pre;rw[jb] at this;omega
  have j0:ps.length-1=ds.length:=by omega
  have sj:(startM N.length ds (λa _=>a=p) (kvs.map (·.1),xs))[ds.length]?=aa (Sv.ow (.dP (λa _=>a=p) (kvs.map (·.1)) xs)):=by unfold startM;rw[jf (by simp)];simp
  have sv:∀i,i<ds.length->(startM N.length ds (λa _=>a=p) (kvs.map (·.1),xs))[i]?=(ds[i]?).map Sv.ro:=λi hi=>by unfold startM;rw[jg (by simpa using hi),cf]
  have sn:∀i,ds.length<i ->∀y,(startM N.length ds (λa _=>a=p) (kvs.map (·.1),xs))[i]?=aa y->y=Sv.no:=λi hi y e=>by
   unfold startM at e;rw[jf (by simp;omega)] at e;obtain⟨m,hm⟩:∃m,i-(yi Sv.ro ds).length=m+1:=⟨i-ds.length-1,by simp;omega⟩;rw[hm,o_,mh] at e;split at e
   .cases e;rfl
   .cases e
  have ow:∀(i:Nat) (d:D),(startM N.length ds (λa _=>a=p) (kvs.map (·.1),xs))[i]?=aa (Sv.ow d)->i=ds.length/\d=.dP (λa _=>a=p) (kvs.map (·.1)) xs:=λi d e=>by
   rcases a2c i ds.length with h|h|h
   .rw [sv i h] at e;obtain⟨y,_,ey⟩:=iy.1 e;cases ey
   .subst h;rw[sj] at e;cases e;exact⟨rfl,rfl⟩
   .cases sn i h _ e
  have so:∀a,T a->SO (λa=>T a\/a=p) (λ_=>p) (startM N.length ds (λa _=>a=p) (kvs.map (·.1),xs)) a:=λa ta=>⟨.inl ta,λi d e z=>nT (by rw[<- show a=p from z];exact ta)⟩;have σl:L2.start N (us++[.ref p])=us.map aa++aa (.ref p)::fq (N.length-(us.length+1)) ab:=by unfold L2.start;simp
  cases hbs:b (startM N.length ds (λa _=>a=p) (kvs.map (·.1),xs)) with
  |no=>rw[hbs] at hq;cases hq
  |rt d=>rw[hbs] at hq;cases hq
  |ex c=>rw[hbs] at hq;cases hq
  |nx ρ1 =>
   rw[hbs] at hq;dsimp only at hq;refine⟨λc=>if c=p then ab else H c,λa=>T a\/a=p,λ_=>p,startM N.length ds (λa _=>a=p) (kvs.map (·.1),xs),[],{nx:=λρ=>ρ=ρ1,rt:=λ_=>False,bk:=λ_=>False,ct:=λ_=>False,ex:=λ_=>False},?_,?_,?_,?_⟩
   .rw [σl];simp;omega
   .refine ⟨λa e=>?_,λc u e=>?_,λi d e=>?_,λi i' d d' h1 h2 _=>(ow i d h1).1.trans (ow i' d' h2).1.symm,λi d e=>?_,λg hg=>(by cases hg),λi xs e=>by have:=(ow i _ e).2;cases this⟩
    .by_cases z:a=p
     .exact .inr z
     .exact .inl (fc a (by simpa[z] using e))
    .by_cases z:c=p
     .simp [z] at e
     .simpa [z] using e
    .obtain ⟨rfl,rfl⟩:=ow i d e;refine⟨?_,by simp,o,kvs,hp,⟨rfl,rfl⟩,aS.fits (.mono so) _ _ dx⟩;rw[σl,jf (by simp;omega)];simp[hlu]
    .by_cases hi:i<ds.length
     .rw [sv i hi] at e;obtain⟨y,e1,ey⟩:=iy.1 e;cases ey;obtain⟨v,ev,dv⟩:=du.get e1;refine⟨v,?_,Dn.fits (.mono so) _ _ dv⟩;have hv:i<us.length:=(cg.1 ev).1;rw[σl,jg (by simpa using hv),cf,ev];rfl
     .rcases Nat.lt_or_ge ds.length i with h|h
      .cases sn i h _ e
      .have:i=ds.length:=by omega
       subst this;rw[sj] at e;cases e
   .unfold wS;rw[hbs]
   .refine ⟨λw' σ' H' ρ' hl' st' e=>?_,λ_ _ _ _ _ z=>z.elim,λ_ _ _ _ _ _ z=>z.elim,λ_ _ _ _ _ _ z=>z.elim,λ_ _ _ z=>z.elim⟩;subst e;rw[j0] at hq ⊢;obtain⟨⟨q',ks',xs'⟩,eo,hq⟩:=bnd hq;obtain⟨kv,ek,hq⟩:=bnd hq;obtain⟨kk',e2,hq⟩:=bnd hq;have o0:=vN eo;obtain⟨a0,b0,⟨o1,aOM,hp1,⟨e5,hq1⟩,dk1⟩⟩:=st'.own ds.length _ o0;split at hq
    case isFalse=>cases hq
    rename_i hc;obtain⟨d,ed,hq9⟩:=kC hq;obtain⟨_,hwp⟩:=hc.2 _ _ hq1;have hwp:w' ds.length=p:=hwp;refine⟨_,a0,SO (λa=>T a\/a=p) w' ρ',gR ρ',λy=>y=kv,st'.IZ,st'.rd,⟨kv,ek,rfl⟩,λy H2 y' s2 dy ey=>?_⟩;subst ey;have st2:=st'.same s2;obtain⟨_,_,⟨o2,C9,hp2,⟨e6,_⟩,XZ⟩⟩:=st2.own ds.length _ o0;have toT:∀a,SO (λa=>T a\/a=p) w' ρ' a->T a:=λa z=>z.1.elim id λy=>Zw (y.trans hwp.symm) (z.2 _ _ o0);have e7:C9.map (·.1)=ks':=e6;have hk2:kindB (C9.map (·.1)) kk'=ae:=by rw[e7];exact hc.1
    have ed2:bY (C9.map (·.1)) xs' kk'=aa d:=by rw[e7];exact ed
    obtain⟨v3,ev,dv⟩:=(p8 XZ).1 d ed2;refine⟨w' ds.length,o2,C9,kk',v3,rfl,hp2,rS dy e2,yC hk2,ev,?_⟩;have er:r=(d,ks',xs'):=hq9.symm;subst er;rw[hwp] at hp2;exact kk v3 H2 o2 C9 (λc u ne hc=>s2 _ _ (st'.sm c u (by simpa[ne] using hc))) hp2 e7 (aS.fits (.mono toT) _ _ XZ) (Dn.fits (.mono toT) _ _ dv)
theorem fdM{P:bf}{w:az}{K:ao}{mg:Q0d}{base:a_}{x:aj}{st:cz}{N ps:Q0g}{k n np:Nat}{b:SF}{key:EF}(D:Df K mg x st ps)
  (h:∀{f:ag} {cdv:ai} {A:bq} {outer:List fz} {s:ak} {H:Hp} {E:XK},gL k (A.deeper (envOfC x (bV st) s.heap.objs.size f cdv))->N.Nodup ->∃xc,y7 (xN cK P w K mg base N x (bV st) f cdv A outer s H E).ZQ (gM st) (OG (xX K xc N.length (wS b)) (WU K (np-1) key)))
  (S:i7 N ps (bV st):=by exact⟨rfl,rfl,rfl,by decide+kernel,rfl,by decide+kernel,by decide+kernel⟩) (hn:N.length=n:=by rfl) (hp:ps.length=np:=by rfl):Cl P w K mg base cK (k+1) x ps (X1 K (runM n np b key)):=by
 obtain⟨_,F,m,q⟩:=D;exact⟨Jb F S hn hp λ_ _ _ _ _ _ hr=>h hr S.nd,m,F.kp,q⟩
def Rh{P:bf}{w:az}{K:ao}{mg:Q0d}{base:a_}{k:Nat}{f:ag}{fd:gq}{ps:Q0g}:lQ P w K mg base cK k f fd ps (X1 K λ_ _=>.no) :=
 ⟨λ_ _ _ _ h=>(by obtain⟨_,_,_,_,_,_,_,_,_,_,_,_,_,_,e,_⟩:=h;cases e),λ_ _ _ _ _ _ _ _ _ _ _ _ _ h=>(by obtain⟨_,_,_,_,_,_,_,_,_,_,_,_,_,_,e,_⟩:=h;cases e)⟩
def nnM{P:bf}{w:az}{K:ao}{mg:Q0d}{base:a_}{k:Nat}{x:aj}{st:cz}{ps:Q0g}(D:Df K mg x st ps):Cl P w K mg base cK k x ps (X1 K λ_ _=>.no):=by obtain⟨_,F,m,q⟩:=D;exact⟨Rh,m,F.kp,q⟩
section
variable{X:Cx}
def zt(hm:X.mg "zip"=ab)(ha:yR X [a,b] t)(hg:Gl X "zip":=by rfl)(hs:aq [a,b] X.env=[(af,eval a X.env),(af,eval b X.env)]:=by rfl)(hs2:aq [b] X.env=[(af,eval b X.env)]:=by rfl):
  VP X (.Tuple es kk tp) (.Call (.Name "zip" p) [a,b] [] pos) (vV t):=cI (K_ hm ha hg hs hs2) λρ Q Rf=>by
 obtain⟨ds,e,q⟩:=Rf;obtain⟨as,ea,e⟩:=bnd e;refine⟨as,ea,?_⟩;unfold Ct at e;split at e<;>first|(cases e;exact q)|cases e
end
open L5
end L8
namespace L4
open PySem.Spec PyProof.Rows L2 L3 PySem.W Z6
def NB(X:Cx)(n:Nat)(lt:Nat->Nat->Bool)(ks:List V)(H:Hp):Prop :=
 ∀(pins:Q0b) (σ:L2.St) (s:ak) (us:Q0f),Inv X pins σ H s->Vals ks us ->
  ∃κ,(∀Q:SortKind->ak->Prop,Q κ s->ax (ay X.prog X.w) X.A.in1.in1 (keyKind' us.toArray) Q (λ_ _=>False) s) /\
   ∀(i j:Nat) (C:Bool->ak->Prop),i<n->j<n->C (lt i j) s->tm X.prog X.w X.A.in1.in1 κ us i j C s
theorem k5:∀{ks:List V} {us:Q0f},Vals ks us->ks.length=us.length
 |_,_,.nil=>rfl
 |_,_,.cons q h=>by rw[cy,cy,k5 h]
theorem A9(r:Vals xs us):∀ix:List Nat,(∀i∈ix,i<us.length)->Vals (ix.map λi=>xs.getD i .non) (ix.map λi=>us.getD i ke)
 |[],_=>.nil
 |i::ix,h=>by
  have hi:=h i cp;have hl:=k5 r;obtain⟨u,hu,ru⟩:=r.get (i:=i) (x:=xs[i]'(by omega)) (by simp[hl,hi]);have e1:xs.getD i .non=xs[i]'(by omega):=by simp[hl,hi]
  have e2:us.getD i ke=u:=by rw[fg,hu];rfl
  refine .cons ?_ (A9 r ix λj hj=>h j (dq _ hj));show RelV (xs.getD i .non) (us.getD i ke);rw[e1,e2];exact ru
section
variable{X:Cx}{pins:Q0b}{σ:L2.St}{H:Hp}{s:ak}{P:Q0b}{f:ai}{t:V->Hp->VK->Prop}{xs:List V}{us:Q0f}{a kS:ag}{e1:Nat}{E:Q0c}
 {W:Nat->List V->Hp->Prop}
end
theorem aAd:∀(us:Q0f),us.length=1 ->∃a0,us=[a0]
 |[a0],_=>⟨a0,rfl⟩
theorem aAe:∀(us:Q0f),us.length=2 ->∃a0 a1,us=[a0,a1]
 |[a0,a1],_=>⟨a0,a1,rfl⟩
theorem aAf:∀(us:Q0f),us.length=3 ->∃a0 a1 a2,us=[a0,a1,a2]
 |[a0,a1,a2],_=>⟨a0,a1,a2,rfl⟩
theorem aAg:∀(us:Q0f),us.length=4 ->∃a0 a1 a2 a3,us=[a0,a1,a2,a3]
 |[a0,a1,a2,a3],_=>⟨a0,a1,a2,a3,rfl⟩
def nH{K:ao}{x:aj}(h:nsIn K h_ x=aa ab):tabIn K x=ab:=by unfold tabIn;rw[h]
theorem QF{K:ao}{r1 r2 r3 r4 r5:Option (ag×ag)}(h1:tabIn K "going_of"=r1)(h2:tabIn K "count_of_chain"=r2)(h3:tabIn K "cut_paper"=r3)(h4:tabIn K "downsets"=r4)(h5:tabIn K "strictest_chains"=r5):
  fH K=([("going_of",r1),("count_of_chain",r2),("cut_paper",r3),("downsets",r4),("strictest_chains",r5)]:List (aj×Option (ag×ag))).filterMap λp=>p.2.map λt=>(p.1,t.1,t.2):=by
 subst h1 h2 h3 h4 h5;rfl
def tabs_ok{K:ao}{q:bf}{L:List (aj×ag×ag)}(h:fH K=L)(nd:(L.map (·.2.2)).Nodup)(rc:∀t∈L,∃e,(recsOf q).find? (λe=>e.name == t.1)=aa e):TabsOk K q:=⟨by rw[h];exact nd,by rw[h];exact rc⟩
section
variable{prog:bf}{w:az}{A:bq}{E:Q0c}{s:ak}{z TI TO i1 i2:ag}{f1 f2:List ag}{n1 n2 k:Nat}{P1 P2:Nat->ai->Prop}{S1 S2:Nat->a_->Prop}{a b:ai}
structure Zap (z TI TO i1 i2:ag) (f1 f2:List ag):Prop where
 zO:z≠TO
 zI:z≠TI
 OI:TO≠TI
 m1:i1∈f1
 m2:i2∈f2
 z1:z∉f1
 z2:z∉f2
 o1:TO∉f1
 o2:TO∉f2
 c1:i1∉f2
 c2:i2∉f1
 I1:TI≠i1
 I2:TI≠i2
def Zap.q1(p:Zap z TI TO i1 i2 f1 f2):z≠i1:=λe=>p.z1 (e▸p.m1)
def Zap.q2(p:Zap z TI TO i1 i2 f1 f2):z≠i2:=λe=>p.z2 (e▸p.m2)
def Zap.p1(p:Zap z TI TO i1 i2 f1 f2):TO≠i1:=λe=>p.o1 (e▸p.m1)
end
open PySem.SeqAt
section
variable{X:Cx}
noncomputable def isI(k:Int):ai->Bool
 |.int a _=>a == k
 |_=>af
theorem j3:∀{ns:Q0e} {us:Q0f},Vals (ns.map V.int) us ->∀(j:Nat) (y:ai),us[j]?=aa y ->∃a u,ns[j]?=aa a/\y=jv a u
 |[],_,.nil,j,y,h=>by cases h
 |n::ns,_,.cons q r,j,y,h=>by
  cases j with
  |zero =>
   obtain⟨t,e⟩:=q;cases h;exact⟨n,t,rfl,e⟩
  |succ j=>exact j3 r j y h
end
end L4
namespace L9
open PySem.SeqAt PySem.Spec PyProof.Rows L2 L3 L4 L5
open MeetsSeq3 MeetsSeq2 MeetsSeq
open AutoSeq1 (wpAny_loadPart')  -- objects read
def Ja(A:bq)(s:ak)(x y:ai)(r:Bool):Prop :=
 ∀(prog:bf) (w:az) (E:Q0c) (Q:Q0c),Q (.bool r) s->ax (ay prog w) A (richCompare .Lt x y) Q E s
section
variable{X:Cx}
def I_{K:ao}{S:ag->Prop}{H:Hp}{a b:D}{xs:List V}(h:aS K S H [a,b] xs):∃u w,xs=[u,w]/\Dn K S H a u/\Dn K S H b w:=by simp only[aS] at h;obtain⟨u,r,rfl,h1,w,r2,rfl,h2,rfl⟩:=h;exact⟨u,w,rfl,h1,h2⟩
end
end L9
namespace L4
open PySem.Spec PyProof.Rows L2 L3 L5
section
variable{X:Cx}
def Rc{e st:ar}{f:EF}{p2 pos:bg}(he:bZ X e f)(hst:bZ X st (sE (eC (.int 1)))):fR X (.Subscript e (.Slice ab ab (aa st) p2) pos) (RE f):=by
 intro pins s σ H Q I h;obtain⟨S,ρ,Q3,fc,sl,⟨d,e1,q⟩,k⟩:=h;obtain⟨d0,e2,e3⟩:=bnd e1;cases d0<;>first|(cases e3;done)|skip
 rename_i ds;cases e3;refine x_ (eK (he pins s σ H (λx H1=>Same H H1/\Dn X.K S H1 (.lst ds) x) I ⟨S,ρ,λd=>d=.lst ds,fc,sl,⟨_,e2,rfl⟩,λv H' d s' d' q'=>by subst q';exact⟨s',d'⟩⟩) λv s1 ⟨x,H1,I1,r1,s1',d1⟩=>?_);refine a0u ?_;rw[Dr];refine bb ?_;refine bb ?_;rw[a0G];refine eK (hst pins s1 σ H1 (λx H2=>Same H1 H2/\x=.int (-1)) I1 ⟨S,ρ,λd=>d=.int (-1),bQ fc s1',Sl.fits (.same s1') sl,⟨_,rfl,rfl⟩,λv H' d s' d' q'=>by subst q';simp only[Dn] at d';exact⟨s',d'⟩⟩) λu s2 Rb=>?_;obtain⟨y,H2,I2,r2,s2',ey⟩:=Rb;subst ey;obtain⟨t,rfl⟩:=r2;simp only[Dn] at d1;obtain⟨a,xs,rfl,ha,sa,da⟩:=d1;cases r1;have hH:=s2' _ _ ha;have I3:Inv X pins σ H2 {s2 with heap:=s2.heap.push {cls:=.type "slice",data:=.fields #[.none,.none,.int (-1) t]} }:=I2.kept (t':=s2.toks) λb ob q=>di _ q;obtain⟨z,its,n,r,hl,e9⟩:=I3.tJ hH;show ax (ay X.prog X.w) X.A (subscriptTail e (.Slice ab ab (aa st) p2) (.ref a) (.ref s2.heap.objs.size)) (EP X pins σ Q) X.xe {s2 with heap:=s2.heap.push {cls:=.type "slice",data:=.fields #[.none,.none,.int (-1) t]} };refine tail_any (ops:=[.ref a,.ref s2.heap.objs.size]) (T:="list") ⟨_,e9,rfl⟩ PySem.F.slot_list_getitem.lookup ?_ (by with_unfolding_all rfl);refine a0o (items:=its.toArray) ⟨_,e9,rfl,n,rfl⟩ (a1f ..) .none .none (.int (-1) t) (by decide) ?_ (by rw[cn,<- hl];exact z);rw[WC];have dl:=M6 (aS.fits (.same s2') _ _ da);exact⟨.ref _,_,I3.vz (t':=s2.toks) (GQ r) (by rw[List.length_reverse];exact z),rfl,k _ _ _ _ ((s1'.trans s2').free I3.fresh) aP ((s1'.trans s2').trans (aO I3.fresh)) (aS.fits ((Fits.fresh I3.fresh).trans (.same (aO I3.fresh))) _ _ dl) q⟩
end
def vc(g:D->D->Option D):F2:=λx y Q=>∃d,g x y=aa d/\Q d
def tm2(g:D->D->Option D):Tells (vc g) g:=λ_ _ d _ e q=>⟨d,e,q⟩
section
variable{X:Cx}{pos:bg}{a b:ar}{fa fb:EF}
def Wx{K:ao}{r:R2}{g:D->D->Option D}(h:∀(dx dy d:D),g dx dy=aa d->d.zJ=ae /\∀(S:ag->Prop) (H:Hp) (x y:V) (Q:VK),Dn K S H dx x->Dn K S H dy y->(∀v,Dn K S H d v->Q v H)->r x y H Q):O3 K r (vc g):=by intro S H x y dx dy Q3 Q fc hx hy ⟨d,e,q⟩ k;exact(h dx dy d e).2 S H x y Q hx hy λv dv=>k v H d (Same.refl H) dv q
theorem oC:∀{ds:List D} {ys:Q0g},oN ds=aa ys->ds=ys.map D.str
 |[],ys,h=>by cases h;rfl
 |d::ds,ys,h=>by
  cases d<;>first|(cases h;done)|skip
  rename_i x;obtain⟨z,e,rfl⟩:=kC (show(oN ds).map (x :: ·)=aa ys from h);rw[oC e];rfl
end
end L4
namespace L8
open PySem.Spec PyProof.Rows L2 L3 L4
section
variable{X:Cx}{pins:Q0b}{σ:L2.St}{H:Hp}{s:ak}{a:ag}{o:aw}{kvs:List (KX×V×V)}{k:KX}{y:V}{u:ai}{A:bq}{E:Q0c}
theorem Ww(hu:A.units+2<cc)(I:Inv X pins σ H s)(e:H a=aa (.dX o kvs))(hk:M9 H k y)(kd:nG kvs k)(ry:RelV y u)(h:∀w' s',Inv X pins σ H s'->RelV ((f7 kvs k).getD .non) w'->Q w' s'):
  ax (ay X.prog X.w) A (call (.builtin "dict.get") [.ref a,u]) Q E s:=by
 have rz:RelV .non ke:=rfl;obtain⟨_,hs,ho,hx⟩:=oV I e;have tI:=rR I e
 cases k with
 |inl k =>
  have hk:y=kV k:=hk;subst hk;obtain⟨vs,rel,dd⟩:=rQ hx ho (si kd);exact a0J Ej tI a1x (a1D _ _) (meets_dict_get (bA X.prog X.w) a (rG ry) hs) ⟨_,dd.mapOf,h _ _ (I.tok _) ((PL.val rel k).getD rz)⟩
 |inr k =>
  obtain⟨b,rfl,hb⟩:=hk;obtain rfl:u=cx b:=ry;obtain⟨xs,rel,dd⟩:=vM I.hok hx ho (sh kd);exact a0J Ej tI a1x (a1D _ _) (meetsH_dict_get (iO X.prog X.w) a b hs) ⟨nest_room hu,k,xs,oB I.hok hb,dd,h _ _ (I.tok _) ((PT.val rel k).getD rz)⟩
end
section
variable{X:Cx}{o e:ar}{td ty:TE}{apos cpos:bg}
def Wv(td ty:TE):TE:=λσ H Q=>td σ H λx H1=>∃a,x=.ref a/\(∃o kvs,H1 a=aa (.dX o kvs))/\ty σ H1 λy H2=>∃o kvs k,H2 a=aa (.dX o kvs)/\M9 H2 k y/\nG kvs k/\Q ((f7 kvs k).getD .non) H2
def WV(hu:X.A.units+2<cc)(ho:PE X o td)(he:PE X e ty)(hbase:attributeBase o "get" X.env (eval o X.env)=eval o X.env:=by rfl)
  (hfew:Zq X cpos e:=by rfl)
  (hline:Q0j apos cpos:=by rfl) (ht:dg cpos (aq [e] X.env)=[(af,eval e X.env)]:=by rfl):PE X (.Call (.Attribute o "get" apos) [e] [] cpos) (Wv td ty):=by
 intro pins s σ H Q I h;refine a0w hbase hfew hline a1t Ej F.type_dict_get (eK (ho pins s σ H _ I h) λu s1 ⟨x,H1,I1,rx,a,ex,⟨ob,kvs,e1⟩,q1⟩=>?_);subst ex;obtain rfl:u=cx a:=rx;refine⟨rR I1 e1,λb q=>?_,?_⟩
 .cases q;obtain⟨_,_,h3,h4⟩:=oV I1 e1;exact⟨ob,h3,h4.1.2.1⟩
 rw[ht];refine Em rfl (a1G (a1F (eK (he pins s1 σ H1 _ I1 q1) λiv s2 ⟨y,H2,I2,ry,o3,aOR,k,e3,hk,kd,q3⟩=>a1E ?_)));exact Ww hu I2 e3 hk kd ry λw' s4 I4 r4=>⟨_,H2,I4,r4,q3⟩
def DA(hu:X.A.units+2<cc)(ho:bZ X o fo)(he:bZ X e fe)(hbase:attributeBase o "get" X.env (eval o X.env)=eval o X.env:=by rfl)
  (hfew:Zq X cpos e:=by rfl)
  (hline:Q0j apos cpos:=by rfl) (ht:dg cpos (aq [e] X.env)=[(af,eval e X.env)]:=by rfl):bZ X (.Call (.Attribute o "get" apos) [e] [] cpos) (aC gE fo fe) :=
 imp (WV hu ho he hbase hfew hline ht) λσ H Q Ra=>by
  obtain⟨S,ρ,Q3,fc,sl,⟨d,e,q⟩,k⟩:=Ra;obtain⟨x,ex,e⟩:=bnd e;obtain⟨y,ey,e⟩:=bnd e
  cases x with
  |dP q0 ks ds =>
   obtain⟨kk,ek,e'⟩:=bnd (o:=mB y) e;refine⟨S,ρ,λd=>d=.dP q0 ks ds,fc,sl,⟨_,ex,rfl⟩,λv H1 d1 s1 oX e1=>?_⟩;subst e1;have Iz:=oX;simp only[Dn] at oX;obtain⟨a,o,kvs,rfl,ha,sa,⟨rfl,_⟩,da⟩:=oX;refine⟨a,rfl,⟨o,kvs,ha⟩,S,ρ,λd=>d=y,bQ fc s1,Sl.fits (.same s1) sl,⟨y,ey,rfl⟩,λu H2 d2 s2 yQ e2=>?_⟩;subst e2;have oX:=Dn.fits (.same s2) _ _ Iz;simp only[Dn] at oX;obtain⟨a',o,C9,ea,ha,sa,⟨e3,_⟩,da⟩:=oX;cases ea;rw[<- e3] at e';by_cases hk:kindB (C9.map (·.1)) kk=ae
   .rw [Z_ hk] at e';cases e';refine⟨o,C9,kk,ha,rS yQ ek,yC hk,?_⟩
    cases hl:bY (C9.map (·.1)) ds kk with
    |none =>
     rw[hl] at q;rw[(p8 da).2 hl];exact k _ H2 _ (s1.trans s2) (show Dn X.K S H2 .non .non by simp only[Dn]) q
    |some d4 =>
     rw[hl] at q;obtain⟨v4,e4,dv⟩:=(p8 da).1 d4 hl;rw[e4];exact k _ H2 _ (s1.trans s2) dv q
   .rw [Zz hk] at e';cases e'
  |_=>cases e
variable{pos:bg}{a b:ar}{fa fb:EF}
def Wu{K:ao}:O3 K uw (vc vX):=Wx λdx dy d e=>by
 obtain⟨c,ec,rfl⟩:=kC e;refine⟨rfl,λS H x y Q hx hy k=>?_⟩;cases dx<;>first|(cases ec;done)|skip
 all_goals (cases dy<;>first|(cases ec;done)|skip)
 all_goals simp only[Dn] at hx hy
 all_goals subst hx;subst hy
 .cases ec;exact⟨rfl,k _ (by simp only[Dn];rfl)⟩
 .cases ec;exact⟨rfl,k _ (by simp only[Dn];rfl)⟩
 .cases ec;exact⟨rfl,k _ (by simp only[Dn];rfl)⟩
 .cases ec;rename_i i j;refine⟨rfl,k _ ?_⟩;simp only[Dn];congr 2;rw[decide_eq_decide];exact⟨λh=>by cases h;rfl,λh=>by rw[h]⟩
def Wt(x y d:D)(h:vX x y=aa d):∃b,d=.bl b:=by obtain⟨c,_,rfl⟩:=kC h;exact⟨_,rfl⟩
def Bf(ha:bZ X a fa)(hb:bZ X b fb):uZ X (.Compare a [.NotEq] [b] pos) (tV (aC vX fa fb)):=cT (l5 Bu Wu ha hb (h8 _)) (l6 (tm2 _) Wt)
end
section
variable{prog:bf}{w:az}{A:bq}{E:Q0c}{s:ak}{d it:ag}{o:aw}{es:Array qm}{ep i:Nat}{ok ov:ai}
def WW{h:a_}{c:ai}{dd:Option ag}{vs:Array ai}{sl:Array (Option ai)}{f:Array ai->Array ai}(e:h.get? it=aa ⟨c,dd,.fields vs,sl⟩):(h.update it (a09 f)).get? it=aa ⟨c,dd,.fields (f vs),sl⟩ :=
 t_ _ e (a1a (vs:=f vs) rfl)
def rT{h:a_}{b:ag}{f:aw->aw}(n:b≠it):(h.update it f).get? b=h.get? b:=Heap.get?_update_ne _ _ _ _ n
def yD:((a3s "dict_itemiterator").elim "dict_itemiterator" λx=>x.tpName)="dict_itemiterator":=by rw[find?_eq_fast];kernel_rfl
def yE:a3V "dict_itemiterator"=ae:=by decide
theorem JX{Q:Option ai->ak->Prop}(hi:Ed s.heap it d i es.size ep ok ov)(ho:s.heap.get? d=aa o)(hd:o.data=.dict es ep)(hl:i<es.size)
  (h:∀h',a1e h' it d (i+1) es.size ep es[i].key es[i].val s.heap.objs.size->h'.get? s.heap.objs.size=aa {cls:=.type "tuple",data:=.seq #[es[i].key,es[i].val]}->h'.objs.size=s.heap.objs.size+1 ->
   (∀b u,b≠it->s.heap.get? b=aa u->h'.get? b=aa u)->Q (aa (.ref s.heap.objs.size)) {s with heap:=h' }):ax (ay prog w) A (pyNext (.ref it)) Q E s:=by
 have tI:s.TypeIs (.ref it) "dict_itemiterator":=⟨_,hi,rfl⟩;unfold pyNext;refine av (a0s (qc (name:=xn "__next__") tI ql (iq ql tI a1w ?_ (a1C _))));unfold Builtin.«dict_itemiterator.__next__»
 wp_walk
 rw[yD,yE,Z_ rfl];rw[hd];refine bb ?_;rw[Zz (by simp)]
 wp_walk
 rw[hd];refine bb ?_;rw[Zz (by simp)];refine bb ?_;dsimp only;rw[Zz (by omega),jt,lj hl];dsimp only
 wp_walk
 simp only[yD,yE,if_true];generalize hb:List.any _ _=bw;have eb:bw=af:=by rw[<- hb];decide
 subst eb;simp only[rb,if_false];have hz:(s.heap.update it (a09 λx=>x.setIfInBounds (2+1) (rawInt ((i:Int)+1)))).objs.size=s.heap.objs.size:=qj ..;have hlt:it<s.heap.objs.size:=b_ hi;have e1:=WW (f:=λx=>x.setIfInBounds (2+1) (rawInt ((i:Int)+1))) hi;have e2:=di {cls:=m_ "tuple",data:=Data.seq #[es[i].key,es[i].val]} e1;have e3:=WW (f:=λx=>x.setIfInBounds 6 es[i].key) e2;have e4:=WW (f:=λx=>x.setIfInBounds (6+1) es[i].val) e3;have e5:=WW (f:=λx=>x.setIfInBounds 0 (rawInt ((s.heap.objs.size:Nat):Int))) e4;have e6:=WW (f:=λx=>x.setIfInBounds 1 (oj af)) e5;refine⟨_,rfl,bb ?_⟩;rw[hz];refine h _ ?_ ?_ ?_ λb u nb e=>?_
 .unfold a1e;rw[e6];have e:((i+1:Nat):Int)=(i:Int)+1:=by omega
  rw[e];rfl
 .rw [rT (iz hlt),rT (iz hlt),rT (iz hlt),rT (iz hlt),<- hz];exact gc _ rfl
 .rw [qj,qj,qj,qj,tw,hz]
 .rw [rT nb,rT nb,rT nb,rT nb];exact di _ ((rT nb).trans e)
theorem QG(hh:A.handled=ab)(hi:Ed s.heap it d i es.size ep ok ov)(ho:s.heap.get? d=aa o)(hd:o.data=.dict es ep)(hl:es.size<=i)
  (h:∀h',a1g it s.heap h'->Q ab {s with heap:=h' }):ax (ay prog w) A (pyNext (.ref it)) Q E s:=by
 have tI:s.TypeIs (.ref it) "dict_itemiterator":=⟨_,hi,rfl⟩;unfold pyNext;refine av (a0s (qc (name:=xn "__next__") tI ql (iq ql tI a1w ?_ (a1C _))));unfold Builtin.«dict_itemiterator.__next__»
 wp_walk
 rw[yD,yE,Z_ rfl];rw[hd];refine bb ?_;rw[Zz (by simp)]
 wp_walk
 rw[hd];refine bb ?_;rw[Zz (by simp)];refine bb ?_;dsimp only;rw[Zz (by omega),jt,a26 hl];dsimp only
 wp_walk
 have hA:A.in1.handled=ab:=hh;unfold raiseNew;apply av;apply a0m;rw[hA];refine av (bb (a0d (av ?_)));refine Dh (b:=ae) (T:="StopIteration") ?_ isSubtype_stop ?_
 .exact ⟨_,gc _ rfl,rfl⟩
 apply bb;apply h;exact((Ef ..).extBut.push _).push _
theorem JY(hs:(d == sysModules)=af)(ho:s.heap.get? d=aa o)(hx:o.ExactDict)(hd:o.data=.dict es ep)
  (h:Q (.ref s.heap.objs.size) {s with heap:=s.heap.push {cls:=.type "dict_items",data:=.fields #[.ref d]} }):ax (ay prog w) A (call (.builtin "dict.items") [.ref d]) Q E s:=by
 have tD:s.TypeIs (.ref d) "dict":=⟨o,ho,hx.1⟩;refine iq a1p tD F.entry_dict_items ?_ (F.args_dict_items_1 _);unfold Builtin.«dict.items»
 wp_walk
 rw[hx.1,Zz (by decide)]
 wp_walk
 exact⟨_,rfl,h⟩
theorem JZ(hv:s.heap.IsItemsView v d)(ho:s.heap.get? d=aa o)(hd:o.data=.dict es ep)
  (h:Q (.ref s.heap.objs.size) {s with heap:=s.heap.push {cls:=.type "dict_itemiterator",data:=.fields #[.none,.bool af,.ref d,.int 0 0,.int es.size 0,.int ep 0,.none,.none]} }):ax (ay prog w) A (pyIter (.ref v)) Q E s:=by
 have tV:=hv.typeIs;obtain⟨ob,hb,hc,hf⟩:=id hv;refine a0j tV a1o (iq a1o tV F.entry_dict_items_iter ?_ (F.args_dict_items_iter_1 _))
 (unfold Builtin.«dict_items.__iter__»;skip)
 wp_walk
 rw[hf];refine bb ?_
 wp_walk
 rw[hd];refine bb ?_
 wp_walk
 rw[hd];refine bb ?_
 wp_walk
 exact⟨_,rfl,"dict_itemiterator",_,⟨_,gc _ rfl,rfl⟩,ql.lookup,h⟩
end
def Iit(a:ag)(o:aw)(ps:List (V×V)):It:=Itp (λi H=>(∃kvs,H a=aa (.dX o kvs))/\i<ps.length) (λi _ vs=>∃p,ps[i]?=aa p/\vs=[p.1,p.2]) (λi H=>(∃kvs,H a=aa (.dX o kvs))/\ps.length<=i)
def Ws:entryFor table "dict_itemiterator.__iter__"=aa Builtin.«dict_keyiterator.__iter__»:=entryFor_alias (id':="dict_keyiterator.__iter__") (by kernel_rfl) rfl (by decide+kernel) (by kernel_rfl)
def J0(t:s.TypeIs (.ref it) "dict_itemiterator")(h:Q (.ref it) s):ax (ay prog w) A (pyIter (.ref it)) Q E s:=by
 refine a0j t a1q (iq a1q t Ws ?_ (F.args_dict_itemiterator_iter_1 _));unfold Builtin.«dict_keyiterator.__iter__»
 wp_walk
 exact⟨_,rfl,"dict_itemiterator",_,t,ql.lookup,h⟩
theorem J1{P:bf}{w:az}{K:ao}{el:List ar}{kk:Nat}{tp:bg}{a it:ag}{o:aw}{ps:List (V×V)}{es:Array qm}{ep:Nat}(hd:o.data=.dict es ep)(h1:Vals (ps.map (·.1)) (es.toList.map (·.key)))(h2:Vals (ps.map (·.2)) (es.toList.map (·.val))):
  Turn P w K (.Tuple el kk tp) (Iit a o ps) [it] it (λi h=>∃ok ov,Ed h it a i es.size ep ok ov):=by
 have hz:es.size=ps.length:=by have:=h1.length;simp at this;omega
 refine⟨cm.mpr rfl,λi h st b hb=>?_,λi h h' ⟨ok,ov,st⟩ k=>⟨ok,ov,k it (cm.mpr rfl) _ st⟩,?_,?_,λA i s Q E ⟨ok,ov,st⟩ h=>J0 ⟨_,st,rfl⟩ h⟩
 .cases cm.1 hb;obtain⟨ok,ov,e⟩:=st;exact⟨_,e,λv z=>by cases z⟩
 .intro X hP hw hK hc i pins s σ H E I hf ⟨ok,ov,st⟩ hg;cases hP;cases hw;obtain⟨⟨kvs,ha⟩,hi⟩:=hg;obtain⟨_,_,ho,_⟩:=oV I ha;have hl:i<es.size:=by rw[hz];exact hi
  refine JX st ho hd hl λh1' e1 e2 e3 kp=>⟨_,rfl,?_⟩;refine wpAny_letOwnedTupleGo_items e1 λh2' e4 sb=>?_;have hit:it<s.heap.objs.size:=b_ st;have nT:s.heap.objs.size≠it:=iz hit;have e5:=(sb.2 _ nT).trans e2;obtain⟨u,hu,ru⟩:=h1.get (i:=i) (x:=ps[i].1) (by rw[cf,ba hi];rfl);obtain⟨v,hv,rv⟩:=h2.get (i:=i) (x:=ps[i].2) (by rw[cf,ba hi];rfl);have hku:u=es[i].key:=by rw[cf,Gv,lj hl] at hu;exact(c_ hu).symm
  have hkv:v=es[i].val:=by rw[cf,Gv,lj hl] at hv;exact(c_ hv).symm
  subst hku hkv;have ht:gr h2' s.heap.objs.size [es[i].key,es[i].val].toArray:=⟨_,e5,rfl,_,rfl⟩;have I2:=turnT (t':=s.toks) (ch:=[it]) (h':=h2') (xs:=[ps[i].1,ps[i].2]) I (λb ob hb e=>(sb.2 b λz=>hb (by rw[z];exact cm.mpr rfl)).trans (kp b ob (λz=>hb (by rw[z];exact cm.mpr rfl)) e)) hf (bj _) (.cons ru (.cons rv .nil)) (rK) ht (DL.is e5 rfl);refine⟨.ref s.heap.objs.size,_,I2,rfl,⟨s.heap.objs.size,_,rfl,I.hok.fresh (bj _),rfl,ps[i],ba hi,rfl⟩,⟨_,_,e4⟩,λb hb=>?_⟩;cases cm.1 hb;rw[aW (dh nT)];exact(hf it (cm.mpr rfl)).1
 .intro X hP hw hK hc i pins s σ H E I hf ⟨ok,ov,st⟩ hg;cases hP;cases hw;obtain⟨f0,f1,_,f3,f4,f5⟩:=hf it (cm.mpr rfl);obtain⟨⟨kvs,ha⟩,hi⟩:=hg;obtain⟨_,_,ho,_⟩:=oV I ha;exact QG (I.ok.hd hc) st ho hd (by rw[hz];exact hi) λh' eb=>⟨rfl,I.turned (t':=s.toks) (λb ob nb e=>eb b ob nb e) f0 f1 f3 f4 f5⟩
def WY(x:xF P w H o kvs)(ed:o.data=.dict es ep):Vals (kvs.map (·.2.2)) (es.toList.map (·.val)):=by
 obtain⟨_,es',ep',ed',hx⟩:=x;rw[ed] at ed';cases ed';rcases hx with⟨vs,r,_,h2,z⟩|⟨xs,r,h1,z⟩
 .clear ed z
  generalize es.toList=l at h2 ⊢
  induction r generalizing l with
  |nil=>cases h2;exact .nil
  | @cons p q ps qs hq t ih =>
   cases h2 with
   |cons k1 k2 k3=>exact .cons (by dsimp only;rw[k2];exact hq.2.2) (ih _ k3)
 .rw [h1]
  clear h1 ed z
  induction r with
  |nil=>exact .nil
  | @cons p q ps qs hq t ih=>exact .cons hq.2.2.2 ih
def aAh(tl:TE):TI:=λσ H R=>tl σ H λx H1=>∃a o kvs,x=.ref a/\H1 a=aa (.dX o kvs)/\((∀p∈kvs,M9 H1 p.1 p.2.1)->R (Iit a o (kvs.map (·.2))) H1)
def WZ{X:Cx}{l:ar}{tl:TE}{el:List ar}{kk:Nat}{tp apos cpos:bg}(hl:PE X l tl)(hbase:attributeBase l "items" X.env (eval l X.env)=eval l X.env:=by rfl)(hline:Q0j apos cpos:=by rfl):PI X (.Tuple el kk tp) (.Call (.Attribute l "items" apos) [] [] cpos) (aAh tl):=by
 intro pins s σ H R I h;refine a0w hbase rfl hline a1t a1p F.type_dict_items (eK (hl pins s σ H _ I h) λu s1 ⟨x,H1,I1,rx,a,o,kvs,ex,ha,q⟩=>?_);subst ex;obtain rfl:u=cx a:=rx;obtain⟨_,hs,ho,hx⟩:=oV I1 ha;obtain⟨es,ep,ed,ks,hk⟩:=WL hx;have vs:=WY hx ed;refine⟨rR I1 ha,λb z=>?_,?_⟩
 .cases z;exact⟨o,ho,hx.1.2.1⟩
 refine Em rfl (PySem.evalArgs_none ?_);refine JY hs ho hx.1 ed ?_;have I2:=I1.kept (t':=s1.toks) (h':=s1.heap.push {cls:=.type "dict_items",data:=.fields #[.ref a]}) λb ob e=>di _ e;have hw:Heap.IsItemsView (s1.heap.push {cls:=.type "dict_items",data:=.fields #[.ref a]}) s1.heap.objs.size a:=⟨_,gc _ rfl,rfl,rfl⟩;obtain⟨_,_,ho2,_⟩:=oV I2 ha;refine JZ (s:={s1 with heap:=s1.heap.push {cls:=.type "dict_items",data:=.fields #[.ref a]} }) hw ho2 ed ?_;refine⟨_,[_],_,_,H1,rfl,I2.kept (t':=s1.toks) λb ob e=>di _ e,J1 (ps:=kvs.map (·.2)) ed (by rw[bx];exact ks) (by rw[bx];exact vs),⟨_,_,gc _ rfl⟩,λb hb=>?_,q hk⟩;rw[cm.1 hb];exact I2.CA (bj _) (I2.hok.fresh (bj _))
theorem QH{K:ao}{a:ag}{o:aw}{kvs:List (KX×V×V)}{ds:List D}(hz:ds.length=kvs.length):Wlk K (Iit a o (kvs.map (·.2))) ((((kvs.map (·.1)).zip ds).map λp=>D.tup [mr p.1,p.2])) ((.dP (λ_ u=>u=o) (kvs.map (·.1)) ds,.ref a)::((kvs.map λp=>(mr p.1,p.2.1))++ds.zip (kvs.map (·.2.2)))) where
 go:=λS H fc hg i d e=>by
  have h:=hg _ cp;simp only[Dn] at h;obtain⟨b,o',kvs',eb,hb,sb,⟨_,eo⟩,dn⟩:=h;cases eb;have eo:o'=o:=eo;subst eo;obtain⟨pq,ep,ed⟩:=iy.1 (by rw[cf] at e;exact e);obtain⟨e1,e2⟩:=qv.1 ep;rw[cf] at e1;obtain⟨p,e3,e4⟩:=iy.1 e1;have hi:i<kvs.length:=(cg.1 e3).1;refine⟨⟨⟨kvs',hb⟩,by simpa using hi⟩,λx H' y=>?_⟩;obtain⟨T,vs,rfl,hT,rfl,p',y1,rfl⟩:=y;rw[cf,e3] at y1;cases y1;cases ed;have sm:Same H (upd H T (.tup [p.2.1,p.2.2])):=λc u hc=>by rw[aW (bK hc hT)];exact hc
  refine⟨sm,?_⟩;simp only[Dn];refine⟨T,_,rfl,aP,aS.cons ?_ (aS.one ?_)⟩
  .rw [<- e4];exact Dn.fits (.same sm) _ _ (hg (mr p.1,p.2.1) (dq _ (kr _ (yg (ik e3)))))
  .exact Dn.fits (.same sm) _ _ (hg (pq.2,p.2.2) (dq _ (il _ (ik (i:=i) (by rw[qv];exact⟨e2,by rw[cf,e3];rfl⟩)))))
 stop:=λS H hg i hi=>by have h:=hg _ cp;simp only[Dn] at h;obtain⟨b,o',kvs',eb,hb,sb,⟨_,eo⟩,dn⟩:=h;cases eb;have eo:o'=o:=eo;subst eo;exact⟨⟨kvs',hb⟩,by simp[hz] at hi ⊢;omega⟩
theorem NC{X:Cx}{l:ar}{f:EF}{el:List ar}{kk:Nat}{tp apos cpos:bg}(h:bZ X l f)(hbase:attributeBase l "items" X.env (eval l X.env)=eval l X.env:=by rfl)(hline:Q0j apos cpos:=by rfl):VP X (.Tuple el kk tp) (.Call (.Attribute l "items" apos) [] [] cpos) (qG f):=JD (WZ h hbase hline) λσ H R Q_=>by
 obtain⟨S,ρ,Q3,fc,sl,⟨es,e,q⟩,k⟩:=Q_;obtain⟨x,ex,e⟩:=bnd e;refine⟨S,ρ,λd=>d=x,fc,sl,⟨x,ex,rfl⟩,λv H1 d1 s1 oX e1=>?_⟩;subst e1
 cases d1 with
 |dP q0 ks ds =>
  cases e;simp only[Dn] at oX;obtain⟨a,o,kvs,rfl,ha,sa,⟨rfl,_⟩,da⟩:=oX;have hz:ds.length=kvs.length:=by simpa using da.len
  refine⟨a,o,kvs,rfl,ha,λhk=>k _ H1 _ _ s1 (λg hg=>?_) (QH (ds:=ds) hz) q⟩;rcases bz.1 hg with e|hg
  .subst e;simp only[Dn];exact⟨a,o,kvs,rfl,ha,sa,⟨rfl,rfl⟩,da⟩
  rcases gu.1 hg with hg|hg
  .obtain ⟨p,hp,rfl⟩:=de.1 hg;exact W_ (hk p hp)
  .obtain ⟨i,hi⟩:=ni.1 hg;obtain⟨e1,e2⟩:=qv.1 hi;obtain⟨v,ev,dv⟩:=da.get e1;rw[e2] at ev;cases ev;exact dv
 |_=>cases e
end L8
namespace L4
open PySem.Spec PyProof.Rows L2 L3 L5
section
variable{K:ao}{H₀ H H':Hp}{S:ag->Prop}{w:Nat->ag}{σ:L2.St}{ρ:bH}{G:List (D×V)}
def W0(e:ρ[i]?=aa (Sv.ow d)):SO S w (ρ.set i (.ow d'))=SO S w ρ:=by
 have hi:=(cg.1 e).1
 funext a
 refine propext ⟨λ⟨s,n⟩=>⟨s,λj f hf=>?_⟩,λ⟨s,n⟩=>⟨s,λj f hf=>?_⟩⟩
 .by_cases hj:j=i
  .subst hj;exact n j d' (by rw[ku hi])
  .exact n j f (by rw[je (dh hj)];exact hf)
 .rcases get_set hf with⟨hj,_,_⟩|⟨_,z⟩
  .subst hj;exact n j d e
  .exact n j f z
def W2{α:Type}{l:List α}{i:Nat}{x:α}(e:l[i]?=aa x):l.set i x=l:=by obtain⟨h,rfl⟩:=cg.1 e;exact List.set_getElem_self h
def yF(H:Hp)(a:ag):Hp:=λb=>if b=a then ab else H b
def W3(h:H p=aa (.lst zs)):Fits K (λa=>S a/\a≠p) S H (yF H p):=by
 have go:∀{a:ag} {o:HO},a≠p->H a=aa o->yF H p a=aa o:=λn e=>by unfold yF;rw[Zz n];exact e
 refine⟨λa xs e=>go (λz=>?_) e,λa ns e=>?_,λa xs e s=>⟨go s.2 e,s.1⟩,λa xs e s=>⟨go s.2 e,s.1⟩,λa _ xs e s=>⟨go s.2 e,s.1⟩⟩
 .rw [z,h] at e;cases e
 .rcases e with⟨o,e⟩|e
  .exact .inl ⟨o,go (λz=>by rw[z,h] at e;cases e) e⟩
  .exact .inr e
theorem QI{nl n i p:Nat}{fr:List Nat}{it:AF}{g:Q0}{e:EF}{Q:VK}(hn:nl+fr.length=n)(hfr:fr[p]?=aa i)(st:ST K H₀ S w σ H ρ G){cur ds:List D}(e0:ρ[i]?=aa (.ow (.lst cur)))(hit:it (gR ρ)=aa ds)(hsz:ds.length<=mF){r:List D×List D}(hx:uB g e nl fr ρ i ds cur=aa r)
  (k:∀(acc:ag) (Hx:Hp) (zs:List V),H acc=ab->Hx acc=ab->aS K (SO S w ρ) Hx r.1 zs->ST K H₀ S w σ Hx (ρ.set i (.ow (.lst r.2))) G->Q (.ref acc) (upd Hx acc (.lst zs))):
  FY nl fr (U9 K (wI it)) (pX K nl n (pz g)) (liftT K VE) (qa K "list" xP (IH (nl+p)) (FK (lift K (wE e)) OP)) σ H Q:=by
 refine⟨SO S w ρ,gR ρ,λy=>y=ds,st.IZ,st.rd,⟨ds,hit,rfl⟩,λJ H1 ds' Gw s1 hG wk q1=>?_⟩;subst q1;intro acc hacc;have hi0:=(cg.1 e0).1;have st1:=st.same s1;have st1:ST K H₀ S w σ H1 ρ (G++Gw):=⟨st1.fc,st1.sm,st1.own,st1.inj,st1.ro,λg hg=>(gu.1 hg).elim (st1.gh g) (hG g),st1.rw⟩;refine⟨λj m H2 zs=>m=ds'.length-j/\j<=ds'.length /\∃(Hx:Hp) (dn cu:List D) (r2:List D×List D),Hx acc=ab/\H2=upd Hx acc (.lst zs)/\aS K (SO S w ρ) Hx dn zs/\dn.length=j/\ST K H₀ S w σ Hx (ρ.set i (.ow (.lst cu))) (G++Gw)/\uB g e nl fr ρ i (ds'.drop j) cu=aa r2/\dn++r2.1=r.1/\r2.2=r.2,
  ⟨_,rfl,jq _,H1,[],cur,r,hacc,rfl,aS.nil,rfl,by rw[W2 e0];exact st1,hx,rfl,rfl⟩,?_⟩
 rintro j m H2 zs ⟨rfl,hj,Hx,dn,cu,r2,hxa,rfl,dz,dl,stx,rc,er1,er2⟩;refine⟨aP,?_⟩;have so:SO S w (ρ.set i (.ow (.lst cu)))=SO S w ρ:=W0 e0;have ec:(ρ.set i (.ow (.lst cu)))[i]?=aa (Sv.ow (.lst cu)):=ku hi0;have st2:=stx.same (aO (o:=.lst zs) hxa);have gh2:∀g∈Gw,Dn K (SO S w (ρ.set i (.ow (.lst cu)))) (upd Hx acc (.lst zs)) g.1 g.2:=λg hg=>st2.gh g (il _ hg);by_cases hlt:j<ds'.length
 .refine .inr ?_;obtain⟨g1,g2⟩:=wk.go _ _ st2.IZ gh2 j ds'[j] (by simp[hlt]);refine⟨g1,λx H' y=>?_⟩;obtain⟨s3,dx⟩:=g2 x H' y;rw[pj hlt,uB] at rc;obtain⟨ρ2,e1,rc⟩:=bnd rc;obtain⟨jd,e2,rc⟩:=bnd rc;obtain⟨q,e3,rc⟩:=bnd rc;obtain⟨r3,e4,rfl⟩:=kC rc;have st3:=st2.same s3;refine⟨S,_,ds'[j],λy=>y=ρ2,?_,st3.MK,MO st3.all,Dn.fits (.mono λ_ z=>z.1) _ _ dx,⟨ρ2,e1,rfl⟩,λσ' ρ' sl' hd q'=>?_⟩
  .unfold CV;rw[ck,nk,au];exact hn
  subst q';have hdr:σ'.drop nl=fr.map λj=>(σ[j]?).join:=by rw[hd];unfold CV;rw[a2H (by simp),a2E];simp
  refine⟨hdr,S,ρ',λb=>b=ae,st3.MK,sl',rfl,λb H3 s4 q4=>?_⟩;subst q4;rw[Z_ rfl];have st4:=st3.same s4;obtain⟨a4,b4,xs4,hp4,dn4⟩:=st4.own i _ ec;have Iy:σ'[nl+p]?=aa (aa (.ref (w i))):=by have z:=congrArg (λl=>l[p]?) hdr;simp only[ym,cf,hfr] at z;rw[z];show aa (σ[i]?).join=_;rw[a4];rfl
  refine⟨_,Iy,.inl ⟨rfl,xs4,eE.of hp4⟩,S,ρ',λy=>y=jd,st4.MK,Sl.fits (.same s4) sl',⟨jd,e2,rfl⟩,λv H4 dj s5 dj' q5=>?_⟩;subst q5;have st5:=st4.same s5;obtain⟨a5,b5,xs5,hp5,dn5⟩:=st5.own i _ ec;rw[so] at dn5;have dj2:Dn K (SO S w ρ) H4 dj v:=by
   cases dj<;>first|(cases e3;done)|skip
   simp only[Dn] at dj' ⊢;exact dj'
  have wa:w i≠acc:=λz=>by obtain⟨_,_,xs,hp,_⟩:=stx.own i _ ec;rw[z,hxa] at hp;cases hp
  have zd:Same (upd Hx acc (.lst zs)) H4:=(s3.trans s4).trans s5;have zp:H4 acc=aa (.lst zs):=zd _ _ aP;obtain⟨_,_,xsx,hpx,dnx⟩:=stx.own i _ ec;rw[so] at dnx;have sx4:Same Hx H4:=(aO hxa).trans zd;have Iw:aS K (λa=>SO S w ρ a/\a≠acc) H4 cu xsx:=aS.fits ((Fits.fresh hxa).trans (.same sx4)) _ _ dnx;have dj3:Dn K (λa=>SO S w ρ a/\a≠acc) H4 dj v:=by
   cases dj<;>first|(cases e3;done)|skip
   simp only[Dn] at dj' ⊢;exact dj'
  unfold OP;dsimp only;refine U8 (λa=>SO S w ρ a/\a≠acc) H4 (w i) xsx cu v dj (λa b=>a=q.1/\b=q.2) _ (sx4 _ _ hpx) Iw dj3 (AV _ _ _ _ e3 ⟨rfl,rfl⟩) λys2 cu2 v2 d2 dnc dv2 q2=>?_;obtain⟨rfl,rfl⟩:=q2;refine⟨by rw[aW (dh wa)];exact zp,?_,_,by omega,rfl,hlt,?_⟩
  .rw [<- dz.len,dl,gp];exact f_ hlt hsz
  have sx:Same Hx (yF H4 acc):=λc o hc=>by
   have nc:c≠acc:=λz=>by rw[z,hxa] at hc;cases hc
   unfold yF;rw[Zz nc];exact sx4 c o hc
  have hpc:yF H4 acc (w i)=aa (.lst xsx):=sx _ _ hpx;have nS:¬ SO S w ρ (w i):=λ⟨_,z⟩=>z i _ e0 rfl;have stc:=stx.same sx;have F:Fits K (SO S w ρ) (SO S w ρ) (yF H4 acc) (upd (yF H4 acc) (w i) (.lst ys2)):=.upd (.inl ⟨_,hpc⟩) nS;have F2:=(W3 (K:=K) (S:=SO S w ρ) zp).trans F;refine⟨upd (yF H4 acc) (w i) (.lst ys2),dn++[q.2],q.1,r3,?_,?_,?_,by rw[ck,dl];rfl,?_,e4,by rw[mj];exact er1,er2⟩
  .rw [aW (dh wa)];unfold yF;rw[Z_ rfl]
  .funext b
   by_cases hb:b=acc
   .subst hb;rw[aP,aP]
   rw[aW hb,aW hb];by_cases hb2:b=w i
   .subst hb2;rw[aP,aP]
   rw[aW hb2,aW hb2];unfold yF;rw[Zz hb]
  .exact (aS.fits ((Fits.same sx).trans F) _ _ dz).append (aS.one (Dn.fits F2 _ _ dv2))
  .have:=stc.write (o:=.lst ys2) (d':=.lst q.1) ec (by rw[so];exact⟨ys2,aP,aS.fits F2 _ _ dnc⟩);rw[List.set_set] at this;exact this
 .have ej:j=ds'.length:=by omega
  subst ej;rw[Gd,uB] at rc;cases rc;rw[jh] at er1;subst er1;have er2:cu=r.2:=er2;subst er2;exact .inl ⟨wk.stop _ _ gh2 _ rfl,k acc Hx zs (s1.free hacc) hxa dz ⟨stx.fc,stx.sm,stx.own,stx.inj,stx.ro,λg hg=>stx.gh g (kr _ hg),stx.rw⟩⟩
end
section
variable{X:Cx}
section
variable{ls fs:Q0g}{fr:List Nat}{sc:gk}{tg iter e:ar}{pos apos cpos pp:bg}{it:AF}{g:Q0}{fe:EF}{y:aj}{i p:Nat}
theorem W4(nd:X.N.Nodup)(hc:X.calm=ae)(hi:VP X tg iter it)(hg:∀cl C pn ex s H,(blk X (ls++fs) sc cl C pn ex s H).N.Nodup->PR (blk X (ls++fs) sc cl C pn ex s H) ls.length tg g)
  (he:∀cl C pn ex s H,PE (blk X (ls++fs) sc cl C pn ex s H) (.Call (.Attribute (.Name y pp) "pop" apos) [e] [] cpos) (qa X.K "list" xP (IH (ls.length+p)) (FK (lift X.K (wE fe)) OP))) (hfr:fr[p]?=aa i:=by rfl)
  (hx0:X.N[ix]?=aa x:=by rfl) (hx:X.env.scope.names.lookup x=aa .local:=by rfl) (hsw:ft (.ListComp (.Call (.Attribute (.Name y pp) "pop" apos) [e] [] cpos) [⟨tg,iter,[],0⟩] sc pos) (aa (.Name x pos')) spos.line X.env=pure ae:=by rfl)
  (B:chk X.env.scope.names sc X.N ls fs fr=ae:=by rfl) (hs:Zp X iter:=by intro _;rfl):uK X (.Assign [.Name x pos'] (.ListComp (.Call (.Attribute (.Name y pp) "pop" apos) [e] [] cpos) [⟨tg,iter,[],0⟩] sc pos) spos) (jS ix (DR i ls.length fr it g fe)) :=
 jQ (pW (g:=pX X.K ls.length (ls++fs).length (pz g)) (tf:=liftT X.K VE) nd hx0 hx hc (iT B) hi (λcl C pn ex s H=>hg cl C pn ex s H (iT B).nd) (λcl C pn ex s H=>zz) he hsw hs) λBd σ H Qz=>by
  obtain⟨H₀,S,w,ρ,G,E,hl,st,ht,ok⟩:=Qz;unfold wS jS at ht
  cases h:DR i ls.length fr it g fe ρ with
  |none=>rw[h] at ht;exact ht.elim
  |some r =>
   rw[h] at ht;obtain⟨cur,e0,h⟩:=bnd h;obtain⟨ds,e1,h⟩:=bnd h;by_cases hz:ds.length<=mF
   .rw [Z_ hz] at h;obtain⟨r2,e2,rfl⟩:=kC h;have o0:=x9 e0;refine QI (by rw[ck,(iT B).CT]) hfr st o0 e1 hz e2 λacc Hx zs h1 h2 h3 h4=>?_;refine ok.nx w _ _ _ (by rw[gz];exact hl) ((h4.same (aO h2)).j5 (d:=.lst r2.1) (by rw[hl];exact iX hx0) ?_) ht;simp only[Dn];exact⟨acc,zs,rfl,aP,h4.IZ acc h2,by rw[W0 o0];exact aS.fits (.same (aO h2)) _ _ h3⟩
   .rw [Zz hz] at h;cases h
def Qy(he:bZ X e fe)(hN:X.N[j]?=aa y:=by rfl)(hv:y6 X.env.scope y:=by walk_at "1")(hd:Zu y:=by decide)(hcd:Zt y:=by decide)
  (hbase:attributeBase (.Name y pp) "pop" X.env (eval (.Name y pp) X.env)=eval (.Name y pp) X.env:=by rfl)
  (hfew:Zq X cpos e:=by rfl)
  (hline:Q0j apos cpos:=by rfl) (hs:Zs X e []:=by rfl):
  PE X (.Call (.Attribute (.Name y pp) "pop" apos) [e] [] cpos) (qa X.K "list" xP (IH j) (FK (lift X.K (wE fe)) OP)) :=
 MG xu Eh a1h FP (lN hN hv hd hcd) (iF he m9 hs) hbase hfew hline hs (by rfl)
end
end
end L4
namespace L9
open PySem.SeqAt PySem.Spec PyProof.Rows L2 L3 L4 L5
open MeetsSeq3 MeetsSeq2 MeetsSeq
open AutoSeq1 (wpAny_loadPart')  -- objects read
def vT(p:aj×gy):ai:=.str p.1 p.2
theorem k6:∀{is:Q0g} {us:Q0f},Vals (is.map V.str) us ->∃ps:List (aj×gy),us=ps.map vT/\ps.map (·.1)=is
 |[],_,.nil=>⟨[],rfl,rfl⟩
 |i::is,_,.cons r t=>by obtain⟨ps,e,h⟩:=k6 t;obtain⟨k,e2⟩:=r;subst e2;exact⟨(i,k)::ps,by rw[e];rfl,by rw[bp,h]⟩
theorem QJ(l b:ag)(n n2:Nat)(dd dd2:Option ag)(sl sl2:Array (Option ai))(ps qs:List (aj×gy)):∀(us vs:List (aj×gy)) (i:Nat),us=ps.drop i->vs=qs.drop i->i<=ps.length->i<=qs.length ->
  Meets (Builtin.«list.__eq__.loop» ⟨[.ref l,.ref b,rawInt i,rawInt 0],[]⟩) λA R s =>
   s.heap.get? l=aa ⟨.type "list",dd,.seq (ps.map vT).toArray n,sl⟩/\s.heap.get? b=aa ⟨.type "list",dd2,.seq (qs.map vT).toArray n2,sl2⟩/\R (.ok (.ret (.bool (sL yO (us.map (·.1)) (vs.map (·.1)))))) s:=by
 intro us
 induction us with
 |nil =>
  intro vs i hu hv hi hj prog w A R s h;obtain⟨hh,g,dw,tk,os⟩:=s;obtain⟨hl,hb,h⟩:=h
  wp_walk using ie hb,ie hl
  have hle:ps.length<=i:=a2F.1 hu.symm;have g1:(ps.map vT).toArray[((i:Nat):Int).toNat]?=ab:=by simp[hle]
  rw[g1]
  wp_walk using ie hb,ie hl
  have e:sL yO (([]:List (aj×gy)).map (·.1)) (vs.map (·.1))=Zv (ps.length<qs.length):=by
   have hvl:vs.length+i=qs.length:=by rw[hv,ui];omega
   cases vs with
   |nil=>exact(Zy (by simp only[me] at hvl;omega)).symm
   |cons q vs=>exact(Zx (by simp only[cy] at hvl;omega)).symm
  rw[e] at h;show R (.ok (.ret (.bool (Zv ((ps.map vT).toArray.size<(qs.map vT).toArray.size))))) _;simpa using h
 |cons p us ih =>
  intro vs i hu hv hi hj prog w A R s h;obtain⟨hh,g,dw,tk,os⟩:=s;obtain⟨hl,hb,h⟩:=h;have K1:us.length+1+i=ps.length:=by have:=congrArg oz hu;rw[ui,cy] at this;omega
  have p1:ps[i]?=aa p:=by have:=congrArg (λt:List (aj×gy)=>t[0]?) hu;simp only[uo,ym] at this;exact this.symm
  have g1:(ps.map vT).toArray[((i:Nat):Int).toNat]?=aa (vT p):=by simp[p1]
  cases vs with
  |nil =>
   have hle:qs.length<=i:=a2F.1 hv.symm;have g2:(qs.map vT).toArray[((i:Nat):Int).toNat]?=ab:=by simp[hle]
   wp_walk using ie hb,ie hl
   rw[g1,g2]
   wp_walk using ie hb,ie hl
   show R (.ok (.ret (.bool (Zv ((ps.map vT).toArray.size<(qs.map vT).toArray.size))))) _;have e:Zv ((ps.map vT).toArray.size<(qs.map vT).toArray.size)=af:=Zy (by simp;omega);rw[e];exact h
  |cons q vs =>
   have hvl:vs.length+1+i=qs.length:=by have:=congrArg oz hv;rw[ui,cy] at this;omega
   have q1:qs[i]?=aa q:=by have:=congrArg (λt:List (aj×gy)=>t[0]?) hv;simp only[uo,ym] at this;exact this.symm
   have g2:(qs.map vT).toArray[((i:Nat):Int).toNat]?=aa (vT q):=by simp[q1]
   have hu':us=ps.drop (i+1):=by rw[<- a2G,<- hu];rfl
   have hv':vs=qs.drop (i+1):=by rw[<- a2G,<- hv];rfl
   have hc:((i:Int)+1)=((i+1:Nat):Int):=by omega
   wp_walk using ie hb,ie hl
   rw[g1,g2];refine av (Ea p.1 p.2 q.1 q.2 prog w _ _ ?_);rw[bp,bp,sL] at h;by_cases z:p.1=q.1
   .rw [Z_ z] at h;rw[show(p.1 == q.1)=ae from beq_iff_eq.2 z]
    wp_walk
    rw[hc];refine⟨og xp _,mw a1c ?_⟩;rw[(ng xp _)];exact ih vs (i+1) hu' hv' (by omega) (by omega) prog w A R _ ⟨hl,hb,h⟩
   .rw [Zz z] at h;rw[show(p.1 == q.1)=af from beq_eq_false_iff_ne.2 z];have step:∀{A:bq} {Q:Q0c} {E:Q0c},Q (.bool (yO p.1 q.1)) ⟨hh,g,dw,tk,os⟩->ax (ay prog w) A (richCompare .Lt (vT p) (vT q)) Q E ⟨hh,g,dw,tk,os⟩:=λh=>lt_str h
    wp_walk using ie hb,ie hl
    rw[g1,g2]
    wp_walk using step
    exact h
theorem W5(l b:ag)(ps qs:List (aj×gy))(n n2:Nat)(dd dd2:Option ag)(sl sl2:Array (Option ai)):
  Meets (Builtin.«list.__lt__» ⟨[.ref l,.ref b],[]⟩) λA R s =>
   s.heap.get? l=aa ⟨.type "list",dd,.seq (ps.map vT).toArray n,sl⟩/\s.heap.get? b=aa ⟨.type "list",dd2,.seq (qs.map vT).toArray n2,sl2⟩/\R (.ok (.ret (.bool (sL yO (ps.map (·.1)) (qs.map (·.1)))))) s:=by
 intro prog w A R s h;obtain⟨hh,g,dw,tk,os⟩:=s;obtain⟨hl,hb,h⟩:=h;have f9:=a3W
 wp_walk using ie hb,ie hl
 refine⟨og xp _,mw a1c ?_⟩;rw[(ng xp _)];exact QJ l b n n2 dd dd2 sl sl2 ps qs ps qs 0 rfl rfl (jq _) (jq _) prog w A R _ ⟨hl,hb,h⟩
section
variable{X:Cx}
def rV(I:L2.Inv X pins σ H s)(hp:H p=aa (.lst (m.map V.str)))(hq:H q=aa (.lst (n.map V.str)))(hu:A.units<cc):kg A s (.ref p) (.ref q) (Zv (m=n))/\Ja A s (.ref p) (.ref q) (sL yO m n):=by
 obtain⟨z,its,k,r,hl,e⟩:=I.tJ hp;obtain⟨z2,its2,k2,r2,hl2,e2⟩:=I.tJ hq;rw[au] at hl hl2;obtain⟨ps,ep,f1⟩:=k6 r;obtain⟨qs,eq,f2⟩:=k6 r2;subst ep eq
 constructor
 .by_cases hpq:p=q
  .subst hpq;rw[hp] at hq;have:m=n:=by have h:=HO.lst.inj (c_ hq);exact(a2q (λa b h=>V.str.inj h)).1 h
   rw[Zx this];exact qf _
  .refine Eb hpq ?_;have L1:s.heap.IsList p (ps.map vT).toArray:=⟨_,e,rfl,k,rfl⟩;have L2':s.heap.IsList q (qs.map vT).toArray:=⟨_,e2,rfl,k2,rfl⟩;have lm:m.length=ps.length:=by rw[<- f1,au]
   have ln:n.length=qs.length:=by rw[<- f2,au]
   by_cases hs:ps.length=qs.length
   .have R:=a3a (A:=A) (e:=λj=>Zv (m[j]?=n[j]?)) L1 L2' (by simp;omega) hu (λj j1 j2=>?_)
    .have ev:(bh (ps.map vT).toArray.size).all (λj=>Zv (m[j]?=n[j]?))=Zv (m=n):=by
      rw[g_];simp only[gx,d_,decide_eq_true_eq,cn,au]
      constructor
      .intro hj;apply mi;intro j;by_cases hjl:j<ps.length
       .exact hj j hjl
       .rw [gg (by omega),gg (by omega)]
      .intro hj j _;rw[hj]
     rw[ev] at R;exact R
    .have j1:j<ps.length:=by simpa using j1
     have j2:j<qs.length:=by simpa using j2
     have key:=Ea (A:=A.in1) (s:=s) (ps[j]).1 (ps[j]).2 (qs[j]).1 (qs[j]).2;have ee:((ps[j]).1 == (qs[j]).1)=Zv (m[j]?=n[j]?):=by rw[<- f1,<- f2,cf,cf,ba j1,ba j2];simp[Gs]
     rw[<- ee];simpa[vT] using key
   .have R:=a29 (A:=A) L1 L2' (by simp;omega) hu;rw[Zy (λz=>hs (by rw[<- lm,<- ln,z]))];exact R
 .intro prog w E Q h;refine richCompare_meets_room (op:=.Lt) ⟨_,e,rfl⟩ ⟨_,e2,rfl⟩ Ei a1v (a1B _ _) (W5 p q ps qs k k2 ab ab #[] #[]) ⟨e,e2,?_⟩ hu;rw[f1,f2];exact⟨(λz=>by cases z),h⟩
end
end L9
namespace L4
open PySem.Spec PyProof.Rows L2 L3
theorem ND:∀{ss:Q0g} {us:Q0f},Vals (ss.map V.str) us->StrsAre us ss
 |[],_,.nil=>.nil
 |a::ss,_,.cons r t=>by obtain⟨k,rfl⟩:=r;exact .cons a k (ND t)
theorem BA:∀{us:Q0f} {ss:Q0g},StrsAre us ss->Vals (ss.map V.str) us
 |_,_,.nil=>.nil
 |_,_,.cons x t h=>.cons ⟨t,rfl⟩ (BA h)
theorem NF:∀(p:aj) (l:Q0g),risingS p l=ae->UpB yO (p::l)
 |p,[],_=>Fu ..
 |p,x::r,h=>by
  have h:(!ltCps x.cps.toList p.cps.toList&&risingS x r)=ae:=h;rw[gn,Gr,ltCps_eq] at h;have u:=NF x r h.2;refine fv.2 ⟨λy hy=>?_,u⟩;rcases bz.1 hy with rfl|hy
  .exact h.1
  .exact lD.tr y x p ((fv.1 u).1 y hy) h.1
theorem W6(h:sortedS l=ae):UpB yO l:=by
 cases l with
 |nil=>exact .nil
 |cons p l=>exact NF p l h
section
variable{X:Cx}
def W7:List V->Hp->VK->Prop:=λxs H Q=>∃a ss,xs=[.ref a]/\H a=aa (.lst (ss.map V.str))/\ss.length<64 /\∀p,H p=ab->Q (.ref p) (upd H p (.lst ((jP yO ss).map V.str)))
def DB:fM X (.builtin "sorted") W7:=by
 intro pins s σ H xs us Q I r h;obtain⟨a,ns,rfl,ha,fm,q⟩:=h;obtain⟨u,rfl,ru⟩:=vals1 r;cases ru;obtain⟨its,rv,p,hz⟩:=I.list (eE.of ha);have hlen:its.length=ns.length:=by have:=rv.length;rw[au] at this;exact this.symm
 refine sorted_strs p.isList (ND rv) (by omega) λout ns' a1 a2 a3=>?_;have hfr:H (s.heap.objs.size+1)=ab:=I.hok.fresh (lr _);obtain⟨e1,hat⟩:=Ep s.heap its out;have en:ns'=jP yO ns:=vA lD (a2.trans (gU ns).symm) (W6 a3) (qH lD ns);subst en;have I1:Inv X pins σ (upd H (s.heap.objs.size+1) (.lst ((jP yO ns).map V.str))) {s with heap:=sortedAll s.heap its out} :=
  I.laid (t':=s.toks) (λb o e=>Eo e) (lr _) ⟨by rw[au,a2.length_eq,gp];omega,out.toList,e1,BA a1,by simpa[seqObj] using hat⟩
 exact⟨.ref _,_,I1,rfl,q _ hfr⟩
theorem k7{K:ao}{S:ag->Prop}{H:Hp}:∀{ss:Q0g} {xs:List V},aS K S H (ss.map D.str) xs↔xs=ss.map V.str
 |[],xs=>by simp only[j_,aS]
 |a::ss,xs=>by
  simp only[bp,aS,Dn]
  constructor
  .rintro ⟨v,r,rfl,rfl,h⟩;rw[k7.1 h]
  .rintro rfl;exact⟨_,_,rfl,rfl,k7.2 rfl⟩
def Wq:F1:=λds Q=>∃d,pE ds=aa d/\Q d
def W8{K:ao}:C3F K W7 Wq:=by
 intro S H xs ds Q3 Q fc hd ⟨d,e,q⟩ k;unfold pE at e;split at e
 .rename_i es;obtain⟨ss,e1,e⟩:=bnd e;by_cases fm:ss.length<64
  .rw [Z_ fm] at e;cases e;have e1:=oC e1;subst e1;obtain⟨v,r,rfl,h1,h2⟩:=hd.bD;simp only[aS] at h2;subst h2;simp only[Dn] at h1;obtain⟨a,ys,rfl,ha,sa,da⟩:=h1;have e2:=k7.1 da;subst e2;exact⟨a,ss,rfl,ha,fm,λp hp=>k p _ _ _ hp aP (aO hp) (k7.2 rfl) q⟩
  .rw [Zz fm] at e;cases e
 .cases e
def GV{p pos:bg}{e:ar}{t:AF}(hm:X.mg "sorted"=ab)(ha:yR X [e] t)(hg:Gl X "sorted":=by rfl)(he:Zs X e []:=by rfl):fR X (.Call (.Name "sorted" p) [e] [] pos) (bP pE t):=cF (vJ DB W8 ua hg hm ha (by decide) (by decide) he (by rfl)) (u3 λds d Q e q=>⟨d,e,q⟩)
end
open PySem.W Z6
section
variable{X:Cx}
def W9(X:Cx):List V->Hp->VK->Prop:=λxs H Q=>∃(a:ag) (ys:List V) (lt:Nat->Nat->Bool),xs=[.ref a]/\H a=aa (.lst ys)/\2<=ys.length/\ys.length<64/\tT lt/\NB X ys.length lt ys H /\
 ∀ix:List Nat,ix.Perm (bh ys.length)->(∀i j:Nat,i<j->j<ys.length->lt (ix.getD j 0) (ix.getD i 0)=af) ->∀q,H q=ab->Q (.ref q) (upd H q (.lst (ix.map λi=>ys.getD i .non)))
def DC:fM X (.builtin "sorted") (W9 X):=by
 intro pins s σ H xs us Q I r h;obtain⟨a,ys,lt,rfl,ha,h2,fm,O,ask,q⟩:=h;obtain⟨u,rfl,ru⟩:=vals1 r;cases ru;obtain⟨its,rv,pl,hz⟩:=I.list (eE.of ha);obtain⟨m,hns,_⟩:=id I.loc;have hn:its.length=ys.length:=(k5 rv).symm;refine kat_sorted (h₀:=xQ s.heap) (L:=X.env.locals) (m:=m) (news:=ledger s.heap X.env.locals s.heap.objs.size) (vs:=its) (UI hns) (λp hp=>?_) pl.isList (by omega) (by omega) λD e1 h' F' N' hD=>?_
 .obtain ⟨x,o⟩:=p;obtain⟨n1,_,e⟩:=fN.mp hp;exact⟨e,n1,pV _ _⟩
 have nD:D≠X.env.locals:=(N' _ (cp ..)).2.1;have dead:s.heap.get? D=ab:=by
  cases e:s.heap.get? D with
  |none=>rfl
  |some o=>exact Zw (hD (D,o) (fN.mpr ⟨nD,gd (b_ e),e⟩)) (ib _)
 have hfr:H D=ab:=by
  cases e:H D with
  |none=>rfl
  |some u =>
   obtain⟨o,eo⟩:=dO.live (I.hok D u e);rw[dead] at eo;cases eo
 have neD:∀{b:ag} {o:aw},s.heap.get? b=aa o->b≠D:=λ{b o} e z=>by rw[z,dead] at e;cases e
 have P4:∀{b:ag} {u:HO},H b=aa u->b≠D:=λ{b u} e z=>by rw[z,hfr] at e;cases e
 -- the old objects stand,whatever lies at D
 have step:∀(g:a_) (H':Hp),(∀b,b≠D->H' b=H b)->(∀b o,b≠X.env.locals->s.heap.get? b=aa o->g.get? b=aa o)->g.Ns X.env.locals m->(∀u,H' D=aa u->L2.dO X.prog X.w H' g D u)->L2.Inv X pins σ H' {s with heap:=g}:=λg H' eH kp ns hd=>by
  refine I.step (s:=s) (h':=g) (g':=s.gens) (t':=s.toks) (d':=s.drawn) (ch:=[]) (λb hb=>nomatch hb) (λb o hb _ _ e _=>kp b o hb e) (λb o hb _ _ e _=>⟨o.slots,kp b o hb e⟩) (λb o _ e n=>by rw[eH b (neD e)];exact n) (λb o _ e=>?_)
   (λb xs e=>by rw[eH b (P4 e)];exact e) (λb o u e=>by rw[eH b (P4 e)];exact e) (λb ps e=>by rw[eH b (P4 e),e]) (λm2 hm2=>?_) ?_ I.bare
  .by_cases hb:b=X.env.locals
   .subst hb;obtain⟨o2,_,_,e2,_⟩:=ns;exact⟨o2,e2⟩
   .exact ⟨o,kp b o hb e⟩
  .have:m2=m:=by
    obtain⟨oa,ea,pa,h1,h2,_,h3⟩:=hm2;obtain⟨ob,eb,pb,k1,k2,_,k3⟩:=hns;rw[h1] at k1;cases k1;rw[h2] at k2;cases k2
    funext x
    rw[<- h3,<- k3]
   subst this;exact ns
  .intro b u e;by_cases hb:b=D
   .subst hb;exact hd u e
   .rw [eH b hb] at e;refine(I.hok b u e).stay (λc v hc ev=>kp c v (λz=>?_) ev) (λc ec=>by rw[eH c (P4 ec)];exact ec) (λc ys ec=>by rw[eH c (P4 ec)];exact ec) λc o u ec=>by rw[eH c (P4 ec)];exact ec
    subst z;rcases hc with hc|hc
    .rw [<- hc,I.free] at e;cases e
    .rw [I.free] at hc;cases hc
 have I':L2.Inv X pins σ H {s with heap:=h' }:=step h' H (λ_ _=>rfl) (λb o hb e=>(N' (b,o) (dq _ (fN.mpr ⟨hb,gd (b_ e),e⟩))).1) F'.ns λu e=>by rw[hfr] at e;cases e
 obtain⟨κ,kk,ka⟩:=ask _ _ _ its I' rv;refine kk _ ?_;rw[hn];refine C5 (n:=ys.length) (lt:=lt) (λi j C hi hj hC=>ka i j C hi hj hC) _ _ (GK (by omega) λ_=>trivial) ?_;obtain⟨sp,su⟩:=MV O (n:=ys.length) (by omega);generalize told lt (qd ys.length)=pp at sp su;refine a0X F' N' (a0V λp hp z=>ib _ (z▸hD p hp)) λh'' c F'' N''=>?_;have uz:=(N'' (D,_) (cp ..)).1;have hlp:pp.toList.Perm (bh ys.length):=by simpa using sp.toList
 have hix:∀i∈pp.toList,i<its.length:=λi hi=>by rw[hn];simpa using hlp.mem_iff.mp hi
 refine⟨.ref D,upd H D (.lst (pp.toList.map λi=>ys.getD i .non)),?_,rfl,q pp.toList hlp (λi j hij hj=>?_) D hfr⟩
 .refine step h'' _ (λb hb=>aW hb) (λb o hb e=>(N'' (b,o) (dq _ (fN.mpr ⟨hb,gd (b_ e),e⟩))).1) F''.ns λu e=>?_;rw[aP] at e;cases e;exact⟨by rw[au,hlp.length_eq,jr,gp];omega,_,c,A9 rv _ hix,uz⟩
 .have:=su i j hij hj;rw[gO,gO] at this;simpa using this
end
end L4
namespace L9
open PySem.SeqAt PySem.Spec PyProof.Rows L2 L3 L4 L5 PySem.W Z6
def tX(H:Hp)(x:Lk)(v:V):Prop:=∃a p q,v=.ref a/\H a=aa (.tup [.ref p,.ref q])/\H p=aa (.lst (x.1.map V.str))/\H q=aa (.lst (x.2.map V.str))
section
variable{X:Cx}{pins:Q0b}{σ:L2.St}{H:Hp}{s:ak}
def NG{m n:Q0g}(h:aa (HO.lst (m.map V.str))=aa (HO.lst (n.map V.str))):m=n:=(a2q (λa b h=>V.str.inj h)).1 (HO.lst.inj (c_ h))
def p9(I:L2.Inv X pins σ H s)(h:tX H x v)(r:L2.RelV v u):∃a p q,u=.ref a/\H a=aa (.tup [.ref p,.ref q])/\s.heap.IsTuple a #[.ref p,.ref q]/\H p=aa (.lst (x.1.map V.str))/\H q=aa (.lst (x.2.map V.str)):=by obtain⟨a,p,q,rfl,ha,hp,hq⟩:=h;cases r;obtain⟨t1,v1,P1,_⟩:=I.tuple (fS.of ha);obtain⟨x0,x1,rfl,r0,r1⟩:=vals2 v1;cases r0;cases r1;exact⟨a,p,q,rfl,ha,P1,hp,hq⟩
def Be{x y:Lk}{v v2:V}{u u2:ai}{A:bq}(I:L2.Inv X pins σ H s)(h:tX H x v)(h2:tX H y v2)(r:L2.RelV v u)(r2:L2.RelV v2 u2)(hu:A.units+1<cc):RcAt A s u u2 (Zv (x=y)):=by
 obtain⟨a,p,q,rfl,ha,ta,hp,hq⟩:=p9 I h r;obtain⟨b,p2,q2,rfl,hb,tb,hp2,hq2⟩:=p9 I h2 r2;have e0:=(rV I hp hp2 (A:=A.in1) (by omega)).1;have e1:=(rV I hq hq2 (A:=A.in1) (by omega)).1;have R:=a05 (A:=A) (e:=λj=>if j=0 then Zv (x.1=y.1) else Zv (x.2=y.2)) ta tb (by omega) (λj j1 j2=>by
  match j,j1 with
  |0,_=>exact e0
  |1,_=>exact e1)
 have ev:((bh (min (#[cx p,.ref q]:Array ai).size (#[cx p2,.ref q2]:Array ai).size)).all (λj=>if j=0 then Zv (x.1=y.1) else Zv (x.2=y.2))&&(#[cx p,.ref q]:Array ai).size == (#[cx p2,.ref q2]:Array ai).size)=Zv (x=y):=by show((bh 2).all _&&ae)=_;rw[show bh 2=[0,1] from rfl];simp only[kz,List.all_nil,za,if_true,if_false,Nat.one_ne_zero];rw[g_];simp[a15]
 rw[ev] at R;exact R
def Sg{x y:Lk}{v v2:V}{u u2:ai}{A:bq}(I:L2.Inv X pins σ H s)(h:tX H x v)(h2:tX H y v2)(r:L2.RelV v u)(r2:L2.RelV v2 u2)(hu:A.units+1<cc):kg A s u u2 (Zv (x=y)):=by
 have R:=Be I h h2 r r2 hu;obtain⟨a,p,q,rfl,ha,ta,hp,hq⟩:=p9 I h r;obtain⟨b,p2,q2,rfl,hb,tb,hp2,hq2⟩:=p9 I h2 r2;by_cases e:a=b
 .subst e;rw[ha] at hb;cases hb;rw[hp] at hp2;rw[hq] at hq2;rw[Zx (jz (NG hp2) (NG hq2))];exact qf _
 .exact Eb e R
def Wo(I:L2.Inv X pins σ H s)(hp:H p=aa (.lst (m.map V.str)))(hq:H q=aa (.lst (n.map V.str)))(hu:A.units<cc)(h:Q (sL yO m n) s):ax (ay X.prog X.w) A (oneLt' ae (.ref p) (.ref q)) Q E s:=by obtain⟨z,its,k,r,hl,e⟩:=I.tJ hp;obtain⟨z2,its2,k2,r2,hl2,e2⟩:=I.tJ hq;obtain⟨ps,ep,f1⟩:=k6 r;obtain⟨qs,eq,f2⟩:=k6 r2;subst ep eq;rw[oneLt'_eq];simp only[if_true];refine av (wpAny_cRoomFor hu (av (wpAny_callSpecialIfBound?_slot ⟨_,e,rfl⟩ Ei ?_)));refine my Ei ⟨_,e,rfl⟩ a1v (a1B _ _) (W5 p q ps qs k k2 ab ab #[] #[]) ⟨e,e2,?_⟩;rw[f1,f2];exact kb h
theorem XA(I:L2.Inv X pins σ H s):∀{xs:List Lk} {ys:List V} {us:Q0f},gm (tX H) xs ys->Vals ys us ->∃fs:Q0f,fs.length=us.length/\(∀v∈fs,Looks (ay X.prog X.w) s.heap (typeOf v) (.type "list"))/\KatTups s.heap us fs
 |_,_,_,.nil,.nil=>⟨[],rfl,λv hv=>(nomatch hv),KatTups.nil⟩
 |_,_,_,.cons h t,.cons r t2=>by
  obtain⟨fs,f1,f2,f3⟩:=XA I t t2;obtain⟨a,p,q,rfl,ha,⟨o,e,c,n,d⟩,hp,hq⟩:=p9 I h r;obtain⟨z,its,k,_,_,e2⟩:=I.tJ hp;refine⟨.ref p::fs,by simp[f1],λv hv=>?_,a0W e c d rfl f3⟩;rcases bz.1 hv with rfl|hv
  .exact (Looks.ld e2).andThen .now
  .exact f2 v hv
theorem yG{α β:Type}{F:α->β->Prop}:∀{xs:List α} {ys:List β} {i:Nat},gm F xs ys ->∀(h:i<xs.length),∃y,ys[i]?=aa y/\F xs[i] y
 |_,_,0,.cons h t,_=>⟨_,rfl,h⟩
 |_,_,i+1,.cons h t,hi=>by obtain⟨y,e,f⟩:=yG t (i:=i) (by simpa using hi);exact⟨y,e,f⟩
def aAi{xs:List Lk}{ys:List V}(h:gm (tX H) xs ys)(h2:2<=ys.length)(hu:X.A.units+5<cc):NB X ys.length (λi j=>G7 (xs.getD i ([],[])) (xs.getD j ([],[]))) ys H:=by
 intro pins σ s us I r;obtain⟨fs,f1,f2,f3⟩:=XA I h r;have hl:=h.length;have hl2:=k5 r;refine⟨_,λQ q=>kat_kind (T:=.type "list") f3 (by omega) f2 (by decide) q,λi j C hi hj hC=>?_⟩;obtain⟨v,ev,lv⟩:=yG h (i:=i) (by omega);obtain⟨v2,ev2,lv2⟩:=yG h (i:=j) (by omega);obtain⟨u,eu,ru⟩:=r.get ev;obtain⟨u2,eu2,ru2⟩:=r.get ev2;obtain⟨a,p,q,rfl,ha,⟨o,e,c,n,d⟩,hp,hq⟩:=p9 I lv ru;obtain⟨b,p2,q2,rfl,hb,⟨o2,e2,c2,n2,d2⟩,hp2,hq2⟩:=p9 I lv2 ru2;have gi:xs.getD i ([],[])=xs[i]:=by rw[fg,ba (by omega)];rfl
 have gj:xs.getD j ([],[])=xs[j]:=by rw[fg,ba (by omega)];rfl
 have hC:C (G7 (xs.getD i ([],[])) (xs.getD j ([],[]))) s:=hC;rw[gi,gj] at hC;generalize xs[i]=x at *;generalize xs[j]=y at *;unfold tm;rw[fg,fg,eu,eu2];refine kat_lt e d e2 d2 ?_;have u2:X.A.in1.in1.units=X.A.units+2:=rfl;have t0:=rV I hp hp2 (A:=X.A.in1.in1) (by omega);have t1:=rV I hq hq2 (A:=X.A.in1.in1) (by omega);unfold G7 zN at hC;refine Dy (t0.1 _ _ _ _ (kat_go (λe=>?_) (λe=>?_)))
 .rw [Z_ (by simpa using e)] at hC;refine Dx (Dy (t1.1 _ _ _ _ (kat_go (λe=>?_) (λe=>?_))))
  .have e:x.2=y.2:=by simpa using e
   rw[e,(BL lD).Q2] at hC;exact Dx (kat_nil hC)
  .exact kat_no (kat_one _ _ (t1.2 _ _ _ _ (show W.BoolBack C (oj _) s from hC)))
 .rw [Zz (by simpa using e)] at hC;exact kat_no (Wo I hp hp2 (by omega) hC)
end
section
variable{X:Cx}
def DD(h:NQ d=aa x):d=mG x:=by
 unfold NQ at h;split at h
 .rename_i a b;obtain⟨m,e1,h⟩:=bnd h;obtain⟨n,e2,rfl⟩:=kC h;unfold mG;rw[oC e1,oC e2]
 .cases h
theorem rW:∀{ds:List D} {xs:List Lk},oO ds=aa xs->ds=xs.map mG
 |[],xs,h=>by cases h;rfl
 |d::ds,xs,h=>by unfold oO at h;obtain⟨x,e1,h⟩:=bnd h;obtain⟨ys,e2,rfl⟩:=kC h;rw[bp,DD e1,rW e2]
def XB{K:ao}{S:ag->Prop}{H:Hp}{x:Lk}{v:V}(h:Dn K S H (mG x) v):tX H x v:=by unfold mG at h;simp only[Dn] at h;obtain⟨a,xs,rfl,ha,da⟩:=h;obtain⟨u0,u1,rfl,b0,b1⟩:=I_ da;simp only[Dn] at b0 b1;obtain⟨l0,z0,rfl,g0,_,f0⟩:=b0;obtain⟨l1,z1,rfl,g1,_,f1⟩:=b1;rw[k7.1 f0] at g0;rw[k7.1 f1] at g1;exact⟨a,l0,l1,rfl,ha,g0,g1⟩
theorem DF{K:ao}{S:ag->Prop}{H:Hp}:∀{xs:List Lk} {ys:List V},aS K S H (xs.map mG) ys->gm (tX H) xs ys
 |[],ys,h=>by simp only[j_,aS] at h;subst h;exact .nil
 |x::xs,ys,h=>by obtain⟨v,r,rfl,h1,h2⟩:=aS.bD h;exact .cons (XB h1) (DF h2)
def XD(X:Cx):List V->Hp->VK->Prop:=λxs H Q=>F4 xs H Q\/C7 xs H Q\/W9 X xs H Q
def DG:fM X (.builtin "sorted") (XD X):=by
 intro pins s σ H xs us Q I r h;rcases h with h|h|h
 .exact lR pins s σ H xs us Q I r h
 .exact rP pins s σ H xs us Q I r h
 .exact DC pins s σ H xs us Q I r h
def Wn:F1:=λds Q=>∃d,mJ ds=aa d/\Q d
def map_getD{α:Type}(xs:List α)(z:α):(bh xs.length).map (λi=>xs.getD i z)=xs:=by
 refine mi λi=>?_;rw[cf];by_cases h:i<xs.length
 .rw [js h];simp[h]
 .rw [gg (by simpa using h),gg (by simpa using h)];rfl
def XE(hu:X.A.units+5<cc):C3F X.K (XD X) Wn:=by
 intro S H xs ds Q3 Q fc hd ⟨d,e,q⟩ k;unfold mJ at e;split at e
 .rename_i es;obtain⟨T,e1,e⟩:=bnd e;by_cases fm:T.length<64
  .rw [Z_ fm] at e;cases e;have e1:=rW e1;subst e1;obtain⟨v,r,rfl,h1,h2⟩:=hd.bD;simp only[aS] at h2;subst h2;simp only[Dn] at h1;obtain⟨a,ys,rfl,ha,sa,da⟩:=h1;have hl:T.length=ys.length:=by simpa using da.len
   match T,ys,hl,da,ha,fm,q with
   |[],[],hl,da,ha,fm,q =>
    refine .inl ⟨a,[],rfl,ha,by decide,λns' hp _ p hf=>?_⟩;have:ns'=[]:=Fs.mp hp;subst this;exact k p [] _ [] hf aP (aO hf) aS.nil q
   |[t],[y],hl,da,ha,fm,q =>
    exact .inr (.inl ⟨a,y,rfl,ha,λl hf=>k l [y] _ [mG t] hf aP (aO hf) (aS.fits ((Fits.fresh hf).trans (.same (aO hf))) _ _ da) q⟩)
   |t1::t2::ts,ys,hl,da,ha,fm,q =>
    generalize hT:t1::t2::ts=T at *;have h2:2<=ys.length:=by rw[<- hl,<- hT];simp
    refine .inr (.inr ⟨a,ys,λi j=>G7 (T.getD i ([],[])) (T.getD j ([],[])),rfl,ha,h2,by omega,⟨λx y a=>vY.as _ _ a,λx y z a b=>vY.tr _ _ _ b a⟩,aAi (DF da) h2 hu,λix hp hs l hf=>?_⟩);rw[<- hl] at hp hs;have hlen:ix.length=T.length:=by rw[hp.length_eq,jr]
    have es:jP G7 T=ix.map (λi=>T.getD i ([],[])):=by
     refine vA vY ((gU T).trans ?_) (qH vY T) ?_
     .have:=(hp.map λi=>T.getD i ([],[])).symm;rw[map_getD] at this;exact this
     .rw [UpB,ox,Fv];intro i j hi hj hij;have:=hs i j hij (by omega);simpa[hi,hj] using this
    have dn:∀jx:List Nat,(∀i∈jx,i<T.length)->aS X.K S H (jx.map λi=>mG (T.getD i ([],[]))) (jx.map λi=>ys.getD i .non):=by
     intro jx
     induction jx with
     |nil=>intro _;exact aS.nil
     |cons i jx ih =>
      intro X0;have hi:=X0 i cp;refine aS.cons ?_ (ih λx hx=>X0 x (dq _ hx));obtain⟨v,ev,dv⟩:=da.get (i:=i) (d:=mG T[i]) (by rw[cf,ba hi];rfl);dsimp only;rw[fg,fg,ev,ba hi];exact dv
    refine k l _ _ (ix.map λi=>mG (T.getD i ([],[]))) hf aP (aO hf) (aS.fits ((Fits.fresh hf).trans (.same (aO hf))) _ _ (dn ix λi hi=>by simpa using hp.mem_iff.mp hi)) ?_;rw[es,bx] at q;exact q
  .rw [Zz fm] at e;cases e
 .cases e
def GW(hu:X.A.units+9<cc)(hm:X.mg "sorted"=ab)(ha:yR X [e] t)(hg:Gl X "sorted":=by rfl)(he:Zs X e []:=by rfl):fR X (.Call (.Name "sorted" p) [e] [] pos) (bP mJ t):=cF (vJ DG (XE (by omega)) ua hg hm ha (by decide) (by decide) he (by rfl)) (u3 λds d Q e q=>⟨d,e,q⟩)
def Bd:V->V->Hp->VK->Prop:=λx y H Q=>∃a b,tX H a x/\tX H b y/\Q (.bl (Zv (a=b))) H
def XG:V->V->Hp->VK->Prop:=λx y H Q=>∃p q xs ys a b,x=.ref p/\y=.ref q/\H p=aa (.lst xs)/\H q=aa (.lst ys)/\gm (tX H) a xs/\gm (tX H) b ys/\Q (.bl (!Zv (a=b))) H
def aAj(hu:X.A.units+1<cc):k9 X (compareOp .Eq) Bd:=by intro pins s σ H x y v u Q I rx ry ⟨a,b,h1,h2,q⟩;exact Be I h1 h2 rx ry hu _ _ _ _ ⟨.bl _,H,I,rfl,q⟩
def XH(hu:X.A.units+2<cc):k9 X (compareOp .NotEq) XG:=by
 intro pins s σ H x y v u Q I rx ry ⟨p,p2,xs,ys,a,b,ex,ey,hp,hq,h1,h2,q⟩;subst ex ey;cases rx;cases ry;obtain⟨its,rv,pl,hz⟩:=I.list (eE.of hp);obtain⟨its2,rv2,pl2,hz2⟩:=I.list (eE.of hq);have l1:=h1.length;have l2:=h2.length;have l3:=k5 rv;have l4:=k5 rv2;have u1:X.A.in1.units=X.A.units+1:=rfl;by_cases hs:its.length=its2.length
 .have R:=RcNeAt.lists (A:=X.A) (e:=λj=>Zv (a[j]?=b[j]?)) pl.isList pl2.isList (by simpa using hs) (by omega) (λj j1 j2=>by
   have j1:j<its.length:=by simpa using j1
   have j2:j<its2.length:=by simpa using j2
   obtain⟨v,ev,lv⟩:=yG h1 (i:=j) (by omega);obtain⟨v2,ev2,lv2⟩:=yG h2 (i:=j) (by omega);obtain⟨u,eu,ru⟩:=rv.get ev;obtain⟨u2,eu2,ru2⟩:=rv2.get ev2;rw[ba j1] at eu;rw[ba j2] at eu2;cases eu;cases eu2;have E:=Sg I lv lv2 ru ru2 (A:=X.A.in1) (by omega);have ee:Zv (a[j]=b[j])=Zv (a[j]?=b[j]?):=by rw[ba (by omega),ba (by omega)];simp
   rw[ee] at E;simpa using E)
  have ev:(bh its.toArray.size).all (λj=>Zv (a[j]?=b[j]?))=Zv (a=b):=by
   rw[g_];simp only[gx,d_,decide_eq_true_eq,cn]
   constructor
   .intro hj;apply mi;intro j;by_cases hjl:j<its.length
    .exact hj j hjl
    .rw [gg (by omega),gg (by omega)]
   .intro hj j _;rw[hj]
  rw[ev] at R;exact R _ _ _ _ ⟨.bl _,H,I,rfl,q⟩
 .have R:=RcNeAt.lists_lengths (A:=X.A) pl.isList pl2.isList (by simpa using hs) (by omega);rw[Zy (λz=>hs (by rw[z] at l1;omega))] at q;exact R _ _ _ _ ⟨.bl _,H,I,rfl,q⟩
def vd(m:D->D->Option D):F2:=λx y Q=>∃d,m x y=aa d/\Q d
def aAk{K:ao}:O3 K Bd (vd zP):=by intro S H x y dx dy Q3 Q fc hx hy ⟨d,e,q⟩ k;obtain⟨a,e1,e⟩:=bnd e;obtain⟨b,e2,rfl⟩:=kC e;rw[DD e1] at hx;rw[DD e2] at hy;exact⟨a,b,XB hx,XB hy,k _ H _ (Same.refl H) (by simp only[Dn]) q⟩
def XI{K:ao}:O3 K XG (vd pF):=by
 intro S H x y dx dy Q3 Q fc hx hy ⟨d,e,q⟩ k;unfold pF at e;split at e
 .obtain ⟨a,e1,e⟩:=bnd e;obtain⟨b,e2,rfl⟩:=kC e;have e1:=rW e1;have e2:=rW e2;subst e1 e2;simp only[Dn] at hx hy;obtain⟨p,xs,rfl,hp,_,da⟩:=hx;obtain⟨p2,ys,rfl,hq,_,dc⟩:=hy;exact⟨p,p2,xs,ys,a,b,rfl,rfl,hp,hq,DF da,DF dc,k _ H _ (Same.refl H) (by simp only[Dn]) q⟩
 .cases e
def aAl(x y d:D)(e:zP x y=aa d):∃b,d=.bl b:=by obtain⟨a,_,e⟩:=bnd e;obtain⟨b,_,rfl⟩:=kC e;exact⟨_,rfl⟩
def XJ(x y d:D)(e:pF x y=aa d):∃b,d=.bl b:=by
 unfold pF at e;split at e
 .obtain ⟨a,_,e⟩:=bnd e;obtain⟨b,_,rfl⟩:=kC e;exact⟨_,rfl⟩
 .cases e
def tf2(m:D->D->Option D):Tells (vd m) m:=λx y d Q e q=>⟨d,e,q⟩
section
variable{a b:ar}{fa fb:EF}{pos:bg}
def Wm(hu:X.A.units+9<cc)(ha:bZ X a fa)(hb:bZ X b fb):uZ X (.Compare a [.Eq] [b] pos) (tV (aC zP fa fb)):=cT (l5 (aAj (by omega)) aAk ha hb (h8 _)) (l6 (tf2 _) aAl)
def aAm(hu:X.A.units+9<cc)(ha:bZ X a fa)(hb:bZ X b fb):uZ X (.Compare a [.NotEq] [b] pos) (tV (aC pF fa fb)):=cT (l5 (XH (by omega)) XI ha hb (h8 _)) (l6 (tf2 _) XJ)
end
end
end L9
namespace L4
open PySem.SeqAt PySem.Spec PyProof.Rows L2 L3
section
variable{X:Cx}
def aAn(K:ao):V->List V->Hp->VK->Prop:=λx xs H Q=>∃(a:ag) (ns:Q0e) (k:Int),x=.ref a/\xs=[.int k]/\eE K H a (ns.map V.int)/\k∈ns/\Q (.int ((ns.idxOf k:Nat):Int)) H
def QK:MtR X "list.index" (aAn X.K):=by
 intro pins s σ H x xs v us Q I rx r h;obtain⟨a,ns,k,rfl,rfl,ha,hk,q⟩:=h;obtain⟨u,rfl,t,rfl⟩:=vals1 r;cases rx;obtain⟨its,rv,p,hz⟩:=I.list ha;obtain⟨o,n,ho,hc,hd,hq⟩:=id p;obtain⟨cls,dd,data,sl⟩:=o;simp only at hc hd hq;subst hc hd hq;have hb:bc<2^62:=by decide
 have hlen:ns.length=its.length:=by have:=rv.length;rwa [au] at this
 have hj:ns.idxOf k<ns.length:=a2t.2 hk;have at':∀(m:Nat) (hm:m<its.length),isI k its[m]=(ns[m]'(by omega) == k):=λm hm=>by obtain⟨b,w,e1,e2⟩:=j3 rv m its[m] (ba hm);rw[e2];rw[ba (by omega)] at e1;have e1:=c_ e1;show(b == k)=_;rw[<- e1]
 refine my a1j ⟨_,ho,rfl⟩ PySem.F.entry_list_index (PySem.F.args_list_index_2 _ _) (list_indexAt a its.toArray n ab sl (.int k t) (isI k) (ns.idxOf k) (by simpa[hlen] using hj) (by rw[au] at hz;omega) ?_ λm hm hlt=>?_) ⟨ho,λy hy=>?_,?_⟩
 .have:=at' (ns.idxOf k) (by omega);simp only[a2u];rw[this];simpa using (a2w hj)
 .have hm:m<its.length:=by simpa using hm
  simp only[a2u];rw[at' m hm];have:=List.not_of_lt_findIdx (p:=λy=>y == k) (xs:=ns) (i:=m) hlt;simpa using this
 .have hy:y∈its:=by simpa using hy
  obtain⟨m,hm,e⟩:=uj hy;obtain⟨b,w,e1,e2⟩:=j3 rv m y (by rw[ba hm,e]);rw[e2];exact Ec b w k t
 .exact ⟨.int ((ns.idxOf k:Nat):Int),H,I.tok _,⟨_,rfl⟩,q⟩
section
variable{o e:ar}{fo fe:EF}{apos cpos:bg}
def aAo(ho:bZ X o fo)(he:bZ X e fe)(hbase:attributeBase o "index" X.env (eval o X.env)=eval o X.env:=by rfl)
  (hfew:Zq X cpos e:=by rfl)
  (hline:Q0j apos cpos:=by rfl) (hs:Zs X e []:=by rfl) (hplain:(dg cpos (aq [] X.env)).any (·.1)=af:=by rfl):
  bZ X (.Call (.Attribute o "index" apos) [e] [] cpos) (aC RK fo fe) :=
 imp (MG xu a1j PySem.F.type_list_index QK ho (iF he m9 hs) hbase hfew hline hs hplain) λσ H Q Sf=>by
  obtain⟨S,ρ,Q3,fc,sl,⟨d,ed,q3⟩,k⟩:=Sf;obtain⟨dx,ex,edA⟩:=bnd ed;obtain⟨dy,ey,edB⟩:=bnd edA;obtain⟨ds,i,rfl,rfl⟩:∃ds i,dx=.lst ds/\dy=.int i:=by cases dx<;>cases dy<;>first|exact⟨_,_,rfl,rfl⟩|cases edB
  clear ed edA
  .have ed:((intsOf ds).bind λns=>if ns.contains i=ae then aa (D.int ((ns.idxOf i:Nat):Int)) else ab)=aa d:=edB
   clear edB
   obtain⟨ns,eb,ed⟩:=bnd ed;by_cases hc:ns.contains i=ae
   case neg=>rw[Zz hc] at ed;cases ed
   rw[Z_ hc] at ed;cases ed;refine⟨S,ρ,λz=>z=.lst ds,fc,sl,⟨_,ex,rfl⟩,λv H1 d1 s1 oX q1=>?_⟩;subst q1;simp only[Dn] at oX;obtain⟨a,xs,rfl,ha,sa,oX⟩:=oX;rw[ints_of eb] at oX;have ex2:=aS.ints.mp oX;subst ex2;refine⟨.inl ⟨rfl,_,eE.of ha⟩,S,ρ,λz=>z=.int i,bQ fc s1,Sl.fits (.same s1) sl,⟨_,ey,rfl⟩,λv2 H2 d2 s2 yQ q2=>?_⟩;subst q2;simp only[Dn] at yQ;subst yQ;exact⟨a,ns,i,rfl,rfl,eE.of (s2 _ _ ha),by simpa using hc,k _ H2 _ (s1.trans s2) (by simp only[Dn]) q3⟩
end
def Bc:F2:=λx y Q=>isD y=ae/\Q (.bl (!isD x))
def aAp{K:ao}:O3 K (λx y H Q=>y=.non/\Q (.bl (!Zv (x=.non))) H) Bc:=by
 intro S H x y dx dy Q3 Q fc hx hy hf k;obtain⟨h1,h2⟩:=hf;cases dy<;>try exact Zw (show af=ae from h1) bt
 simp only[Dn] at hy;have e:Zv (x=V.non)=isD dx:=by
  cases dx<;>simp only[Dn] at hx
  all_goals first
   | (subst hx;simp[isD])
   | (obtain⟨a,xs,rfl,_⟩:=hx;simp[isD])
   | (obtain⟨a,_,xs,rfl,_⟩:=hx;simp[isD])
   | (obtain⟨a,rfl,_⟩:=hx;simp[isD])
 exact⟨hy,k _ H _ (Same.refl H) (by simp only[Dn];rw[e]) h2⟩
def QL:Tells Bc BH:=λx y d Q e q=>by
 unfold BH at e;split at e
 .rename_i h;cases e;refine⟨(by cases y<;>first|rfl|cases h),?_⟩;cases x<;>exact q
 .cases e
def Wl(x y d:D)(e:BH x y=aa d):∃b,d=.bl b:=by
 unfold BH at e;split at e
 .cases e;exact⟨_,rfl⟩
 .cases e
def XM(ha:bZ X a fa)(hb:bZ X b fb):uZ X (.Compare a [.IsNot] [b] pos) (tV (aC BH fa fb)):=cT (l5 ZU aAp ha hb (h8 _)) (l6 QL Wl)
end
end L4
namespace L4
open PySem.SeqAt PySem.Spec PyProof.Rows L2 L3
section
variable{X:Cx}
theorem NH{k:Int}:∀{ns:Q0e} {us:Q0f},Vals (ns.map V.int) us->us.countP (isI k)=lC ns k
 |[],_,.nil=>rfl
 |n::ns,_,.cons r t=>by
  have ih:=NH (k:=k) t;obtain⟨w,rfl⟩:=r;rw[List.countP_cons,ih];unfold lC;rw[qy];show _+(if(n == k)=ae then 1 else 0)=_;by_cases h:(n == k)=ae
  .rw [Z_ h,Z_ h];rfl
  .rw [Zz h,Zz h];rfl
def aAq(K:ao):V->List V->Hp->VK->Prop:=λx xs H Q=>∃(a:ag) (ns:Q0e) (k:Int),x=.ref a/\xs=[.int k]/\eE K H a (ns.map V.int)/\Q (.int (lC ns k:Nat)) H
def QM:MtR X "list.count" (aAq X.K):=by
 intro pins s σ H x xs v us Q I rx r h;obtain⟨a,ns,k,rfl,rfl,ha,q⟩:=h;obtain⟨u,rfl,t,rfl⟩:=vals1 r;cases rx;obtain⟨its,rv,p,hz⟩:=I.list ha;obtain⟨o,n,ho,hc,hd,hq⟩:=id p;obtain⟨cls,dd,data,sl⟩:=o;simp only at hc hd hq;subst hc hd hq;refine my a1l ⟨_,ho,rfl⟩ PySem.F.entry_list_count (PySem.F.args_list_count_2 _ _) (list_countAt a its.toArray n ab sl (.int k t) (isI k)) ⟨ho,λy hy=>?_,?_⟩
 .have hy:y∈its:=by simpa using hy
  obtain⟨m,hm,e⟩:=uj hy;obtain⟨b,w,e1,e2⟩:=j3 rv m y (by rw[ba hm,e]);rw[e2];exact Ec b w k t
 .rw [show its.toArray.toList=its from rfl,NH rv];exact⟨.int (lC ns k:Nat),H,I.tok _,⟨_,rfl⟩,q⟩
section
variable{o e:ar}{fo fe:EF}{apos cpos:bg}
def aAr(ho:bZ X o fo)(he:bZ X e fe)(hbase:attributeBase o "count" X.env (eval o X.env)=eval o X.env:=by rfl)
  (hfew:Zq X cpos e:=by rfl)
  (hline:Q0j apos cpos:=by rfl) (hs:Zs X e []:=by rfl) (hplain:(dg cpos (aq [] X.env)).any (·.1)=af:=by rfl):
  bZ X (.Call (.Attribute o "count" apos) [e] [] cpos) (aC BK fo fe) :=
 imp (MG xu a1l PySem.F.type_list_count QM ho (iF he m9 hs) hbase hfew hline hs hplain) λσ H Q Se=>by
  obtain⟨S,ρ,Q3,fc,sl,⟨d,ed,q3⟩,k⟩:=Se;obtain⟨dx,ex,edA⟩:=bnd ed;obtain⟨dy,ey,edB⟩:=bnd edA;obtain⟨ds,i,rfl,rfl⟩:∃ds i,dx=.lst ds/\dy=.int i:=by cases dx<;>cases dy<;>first|exact⟨_,_,rfl,rfl⟩|cases edB
  have e2:((intsOf ds).bind λns=>aa (D.int (lC ns i)))=aa d:=edB
  clear ed edA edB
  obtain⟨ns,eb,e2⟩:=bnd e2;cases e2;refine⟨S,ρ,λz=>z=.lst ds,fc,sl,⟨_,ex,rfl⟩,λv H1 d1 s1 oX q1=>?_⟩;subst q1;simp only[Dn] at oX;obtain⟨a,xs,rfl,ha,sa,oX⟩:=oX;rw[ints_of eb] at oX;have ex2:=aS.ints.mp oX;subst ex2;refine⟨.inl ⟨rfl,_,eE.of ha⟩,S,ρ,λz=>z=.int i,bQ fc s1,Sl.fits (.same s1) sl,⟨_,ey,rfl⟩,λv2 H2 d2 s2 yQ q2=>?_⟩;subst q2;simp only[Dn] at yQ;subst yQ;exact⟨a,ns,i,rfl,rfl,eE.of (s2 _ _ ha),k _ H2 _ (s1.trans s2) (by simp only[Dn]) q3⟩
end
end
end L4
namespace K52
open L2 L3 L4 L6 L7 L8 L9 L5
def top(i : Nat):cz:=PySem.Challenge.pw_risecount_k52_whole_alike_or_apart.main.body.getD i (.Pass ⟨0,0,0,0⟩)
section
variable(P:bf)(w:az){K:ao}{mg:Q0d}(base:a_)(kk:Nat)
def J3(F:Df K mg "ties_of" (top 1) ["order"])(bF:mg "sorted"=ab)(bJ:mg "tuple"=ab)(cV:mg "enumerate"=ab):Cl P w K mg base cK (kk+1) "ties_of" ["order"] (dJ K LL.g4):=by
 refine j9 (N:=["order","ties","b","row"]) F (λhr nd=>?_);exact(aR (tS (i:=1) nd (kU aI))
  (aR (iD rfl fu (lV cV (aE (x4 0) aI)) (GH (i:=2) (j:=3) rfl nd)
   (aM (oU (aA4 (i:=1) (p7 (fR.pe (eB (ls:=["a"]) (fs:=["b"]) (fr:=[2]) rfl (fD (x4 3)) (λ_ _ _ _ _ _ nd=>c9 (i:=0) nd (by decide)) (λ_ _ _ _ _ _=>fO) (λ_ _ _ _ _ _=>(fT (aE (x4 0) (aE (x4 1) aI)))))))))))
  (aM (b9 (iU bJ (aE (fR.pe (GO bF (aE (x4 1) aI))) aI))))))
def J4(F:Df K mg "is_bare" (top 2) ["order","tie"])(BB:mg "any"=ab):Cl P w K mg base cK (kk+1) "is_bare" ["order","tie"] (dJ K kB.g5):=by
 refine j9 (N:=["order","tie","lower","upper"]) F (λhr nd=>?_);exact(aR (b7 (i:=2) nd (fJ (x4 1) i4))
  (aR (b7 (i:=3) nd (fJ (x4 1) i4))
  (aM (b9 (Ac (zw rfl BB (aE (fR.pe (eB (ls:=["between"]) (fs:=["lower","order"]) (fr:=[2,0]) rfl (fD (fJ (x4 0) (x4 3))) (λ_ _ _ _ _ _ nd=>c9 (i:=0) nd (by decide)) (λ_ _ _ _ _ _=>fO) (λ_ _ _ _ _ _=>(in4 (x4 1) (fJ (x4 2) (x4 0)))))) aI)))))))
def u4(F:Df K mg "ready_things" (top 4) ["order","ahead"])(k8:mg "all"=ab)(aU:mg "len"=ab)(aK:mg "range"=ab):Cl P w K mg base cK (kk+1) "ready_things" ["order","ahead"] (dJ K LL.eS):=by
 refine j9 (N:=["order","ahead","others"]) F (λhr nd=>?_);exact(aR (oA (i:=2) (ls:=["thing"]) (fs:=["ahead"]) (fr:=[1]) nd rfl (bR aK (e8 aU (aE (x4 0) aI))) (λ_ _ _ _ _ _ nd=>c9 (i:=0) nd (by decide)) (λ_ _ _ _ _ _=>iC (x6 (x4 0) (x4 1))) (λ_ _ _ _ _ _=>(x4 0)))
  (aM (b9 (fR.pe (eB (ls:=["thing"]) (fs:=["ahead","order"]) (fr:=[1,0]) rfl (fD (x4 2)) (λ_ _ _ _ _ _ nd=>c9 (i:=0) nd (by decide)) (λ_ _ _ _ _ _=>iC (tR (sk rfl k8 (aE (fR.pe (eB (ls:=["lower"]) (fs:=["ahead"]) (fr:=[1]) rfl (fD (fJ (x4 2) (x4 0))) (λ_ _ _ _ _ _ nd=>c9 (i:=0) nd (by decide)) (λ_ _ _ _ _ _=>fO) (λ_ _ _ _ _ _=>(in4 (x4 0) (x4 1))))) aI)))) (λ_ _ _ _ _ _=>(x4 0)))))))
def QN(F:Df K mg "joined" (top 5) ["ahead","thing"])(bF:mg "sorted"=ab)(bJ:mg "tuple"=ab):Cl P w K mg base cK (kk+1) "joined" ["ahead","thing"] (dJ K LL.fW):=by refine j9 (N:=["ahead","thing"]) F (λhr nd=>?_);exact(aM (b9 (iU bJ (aE (fR.pe (WD bF (aE (eD (x4 0) (fT (aE (x4 1) aI))) aI))) aI))))
def XN(F:Df K mg "added" (top 10) ["one","other"])(BC:mg "zip"=ab):Cl P w K mg base cK (kk+1) "added" ["one","other"] (dJ K LL.lK):=by refine j9 (N:=["one","other"]) F (λhr nd=>?_);exact(aM (b9 (fR.pe (eB (ls:=["a","b"]) (fs:=[]) (fr:=[]) rfl (zt BC (aE (x4 0) (aE (x4 1) aI))) (λ_ _ _ _ _ _ nd=>lW (i:=0) (j:=1) rfl nd (by decide) (by decide)) (λ_ _ _ _ _ _=>fO) (λ_ _ _ _ _ _=>(eD (x4 0) (x4 1)))))))
def oH(F:Df K mg "one_descent_more" (top 9) ["shares"]):Cl P w K mg base cK (kk+1) "one_descent_more" ["shares"] (dJ K LL.bX):=by refine j9 (N:=["shares"]) F (λhr nd=>?_);exact(aM (b9 (eD (fR.pe (kU (aE i4 aI))) (sl4 (x4 0) no4 (po4 (sy i4))))))
theorem nI(F:Df K mg "find_shares" (top 8) ["order","ahead","last","shares"])(gQ:Cl P w K mg base cK kk "ready_things" ["order","ahead"] (dJ K LL.eS))(vO:Cl P w K mg base cK kk "added" ["one","other"] (dJ K LL.lK))(fA:Cl P w K mg base cK kk "one_descent_more" ["shares"] (dJ K LL.bX))(rX:Cl P w K mg base cK kk "joined" ["ahead","thing"] (dJ K LL.fW))(aU:mg "len"=ab)(oY:mg "max"=ab):∀n:Nat,Cl P w K mg base cK (kk+n) "find_shares" ["order","ahead","last","shares"] (X1 K (LL.bG n))
 |0=>nnM F
 |n+1=>by
  have kA:=nI F gQ vO fA rX aU oY n;have gQ:=gQ.up (kn kk n);have vO:=vO.up (kn kk n);have fA:=fA.up (kn kk n);have rX:=rX.up (kn kk n);refine fdM (N:=["order","ahead","last","shares","state","some","thing","further"]) F (λhr nd=>?_);exact⟨_,(mL (b7 (i:=4) nd (fT (aE (x4 1) (aE (x4 2) aI))))
  (Rj (j:=3) (u2 hr) (fF (Wz (u2 hr) (x4 4) (x4 3))
   (aR (tS (i:=5) nd (Sr (fR.pe (kU (aE i4 aI))) (WB rfl oY (aE (e8 aU (aE (x4 0) aI)) (aE i4 aI)))))
   (aR (fF (rL (e8 aU (aE (x4 1) aI)) (e8 aU (aE (x4 0) aI)))
    (aM (Kg (i:=5) (p7 i4) i4))
    fK)
   (aR (Bm 5 (iD rfl fu (fD (aX gQ hr (aE (x4 0) (aE (x4 1) aI)))) (fI (i:=6) nd)
    (aR (Wy (i:=7) (j:=3) kA hr (by decide) nd (A7 (x4 0) (A7 (aX rX hr (aE (x4 1) (aE (x4 6) aI))) (A7 (x4 6) (Bh (j:=3))))))
    (aM (b7 (i:=5) nd (aX vO hr (aE (x4 5) (aE (if4 (JN (x4 2) (x4 6)) (aX fA hr (aE (x4 7) aI)) (x4 7)) aI))))))))
   (aM (Bi (i:=3) (u2 hr) (p7 (x4 5)) (x4 4))))))
   fK) (x4 4)))⟩
def DH(F:Df K mg "shares_on" (top 7) ["order"])(kA:Cl P w K mg base cK kk "find_shares" ["order","ahead","last","shares"] (X1 K (LL.bG 11))):Cl P w K mg base cK (kk+1) "shares_on" ["order"] (dJ K LL.iM):=by
 refine j9 (N:=["order","shares"]) F (λhr nd=>?_);exact(aR (Bj (i:=1) nd)
  (aR (Jc (j:=1) kA hr (A7 (x4 0) (A7 (fT aI) (A7 i4 (Bh (j:=1))))))
  (aM (b9 (x4 1)))))
def mE(F:Df K mg "shares_by_descents" (top 6) ["order"])(GX:Cl P w K mg base cK kk "shares_on" ["order"] (dJ K LL.iM))(bJ:mg "tuple"=ab):Cl P w K mg base cK (kk+1) "shares_by_descents" ["order"] (dJ K LL.dI):=by refine j9 (N:=["order"]) F (λhr nd=>?_);exact(aM (b9 (iU bJ (aE (Jd (u2 hr) (aX GX hr (aE (x4 0) aI)) (fT (aE (fT aI) (aE i4 aI)))) aI))))
def QO(F:Df K mg "chosen" (top 12) ["x","m"])(aK:mg "range"=ab):Cl P w K mg base cK (kk+1) "chosen" ["x","m"] (dJ K LL.mX):=by
 refine j9 (N:=["x","m","many","step"]) F (λhr nd=>?_);exact(aR (b7 (i:=2) nd i4)
  (aR (iD rfl fu (bR aK (x4 1)) (fI (i:=3) nd)
   (aM (b7 (i:=2) nd (VQ (tQ (x4 2) (nE (x4 0) (x4 3))) (eD (x4 3) i4)))))
  (aM (b9 (x4 2)))))
def nJ(F:Df K mg "sum_over_descents" (top 13) ["shares","n","k"])(XO:Cl P w K mg base cK kk "chosen" ["x","m"] (dJ K LL.mX))(cV:mg "enumerate"=ab)(BD:mg "sum"=ab):Cl P w K mg base cK (kk+1) "sum_over_descents" ["shares","n","k"] (dJ K LL.dQ):=by refine j9 (N:=["shares","n","k"]) F (λhr nd=>?_);exact(aM (b9 (Ab rfl BD (aE (fR.pe (eB (ls:=["d","share"]) (fs:=["n","k"]) (fr:=[1,2]) rfl (lV cV (aE (x4 0) aI)) (λ_ _ _ _ _ _ nd=>lW (i:=0) (j:=1) rfl nd (by decide) (by decide)) (λ_ _ _ _ _ _=>fO) (λ_ _ _ _ _ _=>(tQ (x4 1) (aX XO hr (aE (nE (nE (eD (x4 3) (x4 2)) i4) (x4 0)) (aE (x4 2) aI))))))) aI))))
def nK(F:Df K mg "first_differences" (top 15) ["values"])(bJ:mg "tuple"=ab)(BC:mg "zip"=ab):Cl P w K mg base cK (kk+1) "first_differences" ["values"] (dJ K LL.dR):=by
 refine j9 (N:=["values","firsts","row"]) F (λhr nd=>?_);exact(aR (tS (i:=1) nd (kU aI))
  (aR (b7 (i:=2) nd (x4 0))
  (aR (Xj fu (tR (x4 2))
   (aR (oU (C2 (i:=1) (p7 (fJ (x4 2) i4))))
   (aM (oA (i:=2) (ls:=["a","b"]) (fs:=[]) (fr:=[]) nd rfl (zt BC (aE (x4 2) (aE (sl4 (x4 2) (po4 i4) no4) aI))) (λ_ _ _ _ _ _ nd=>lW (i:=0) (j:=1) rfl nd (by decide) (by decide)) (λ_ _ _ _ _ _=>fO) (λ_ _ _ _ _ _=>(nE (x4 1) (x4 0)))))))
  (aM (b9 (iU bJ (aE (x4 1) aI)))))))
def qA(F:Df K mg "shares_by_steps" (top 14) ["order"])(oI:Cl P w K mg base cK kk "first_differences" ["values"] (dJ K LL.dR))(oJ:Cl P w K mg base cK kk "sum_over_descents" ["shares","n","k"] (dJ K LL.dQ))(nL:Cl P w K mg base cK kk "shares_by_descents" ["order"] (dJ K LL.dI))(aK:mg "range"=ab)(aU:mg "len"=ab):Cl P w K mg base cK (kk+1) "shares_by_steps" ["order"] (dJ K LL.dN):=by
 refine j9 (N:=["order","n","shares"]) F (λhr nd=>?_);exact(aR (b7 (i:=1) nd (e8 aU (aE (x4 0) aI)))
  (aR (b7 (i:=2) nd (aX nL hr (aE (x4 0) aI)))
  (aM (b9 (aX oI hr (aE (fR.pe (eB (ls:=["k"]) (fs:=["shares","n"]) (fr:=[2,1]) rfl (bR aK (eD (x4 1) i4)) (λ_ _ _ _ _ _ nd=>c9 (i:=0) nd (by decide)) (λ_ _ _ _ _ _=>fO) (λ_ _ _ _ _ _=>(aX oJ hr (aE (x4 1) (aE (x4 2) (aE (x4 0) aI))))))) aI))))))
def J5(F:Df K mg "kind_of" (top 19) ["order","tie"])(QP:Cl P w K mg base cK kk "is_bare" ["order","tie"] (dJ K kB.g5)):Cl P w K mg base cK (kk+1) "kind_of" ["order","tie"] (dJ K kB.kM):=by
 refine j9 (N:=["order","tie"]) F (λhr nd=>?_);exact(aR (fF (MR (tR (aX QP hr (aE (x4 0) (aE (x4 1) aI)))))
   (aM (b9 s4))
   fK)
  (aM (b9 (if4 (JN (fJ (x4 1) i4) (fJ (x4 1) i4)) s4 s4))))
def u5(F:Df K mg "ties_by_kind" (top 18) ["order"])(QQ:Cl P w K mg base cK kk "ties_of" ["order"] (dJ K LL.g4))(QR:Cl P w K mg base cK kk "kind_of" ["order","tie"] (dJ K kB.kM)):Cl P w K mg base cK (kk+1) "ties_by_kind" ["order"] (dJ K kB.d8):=by
 refine j9 (N:=["order","kinds","tie"]) F (λhr nd=>?_);exact(aR (Bj (i:=1) nd)
  (aR (iD rfl fu (fD (aX QQ hr (aE (x4 0) aI))) (fI (i:=2) nd)
   (aM (Bi (i:=1) (u2 hr) (p7 (aX QR hr (aE (x4 0) (aE (x4 2) aI)))) (x4 2))))
  (aM (b9 (x4 1)))))
def J6(F:Df K mg "look_of" (top 21) ["kinds","thing"])(bF:mg "sorted"=ab):Cl P w K mg base cK (kk+1) "look_of" ["kinds","thing"] (dJ K kB.kN):=by
 refine j9 (N:=["kinds","thing","above","below"]) F (λhr nd=>?_);exact(aR (b7 (i:=2) nd (fR.pe (GV bF (aE (fR.pe (eB (ls:=["tie","kind"]) (fs:=["thing"]) (fr:=[1]) rfl (NC (x4 0)) (λ_ _ _ _ _ _ nd=>lW (i:=0) (j:=1) rfl nd (by decide) (by decide)) (λ_ _ _ _ _ _=>iC (rL (fJ (x4 0) i4) (x4 2))) (λ_ _ _ _ _ _=>(x4 1)))) aI))))
  (aR (b7 (i:=3) nd (fR.pe (GV bF (aE (fR.pe (eB (ls:=["tie","kind"]) (fs:=["thing"]) (fr:=[1]) rfl (NC (x4 0)) (λ_ _ _ _ _ _ nd=>lW (i:=0) (j:=1) rfl nd (by decide) (by decide)) (λ_ _ _ _ _ _=>iC (rL (fJ (x4 0) i4) (x4 2))) (λ_ _ _ _ _ _=>(x4 1)))) aI))))
  (aM (b9 (fT (aE (x4 2) (aE (x4 3) aI)))))))
def GY(F:Df K mg "looks_of" (top 20) ["order","kinds"])(QS:Cl P w K mg base cK kk "look_of" ["kinds","thing"] (dJ K kB.kN))(aU:mg "len"=ab)(aK:mg "range"=ab):Cl P w K mg base cK (kk+1) "looks_of" ["order","kinds"] (dJ K kB.g7):=by refine j9 (N:=["order","kinds"]) F (λhr nd=>?_);exact(aM (b9 (fR.pe (eB (ls:=["thing"]) (fs:=["kinds"]) (fr:=[1]) rfl (bR aK (e8 aU (aE (x4 0) aI))) (λ_ _ _ _ _ _ nd=>c9 (i:=0) nd (by decide)) (λ_ _ _ _ _ _=>fO) (λ_ _ _ _ _ _=>(aX QS hr (aE (x4 1) (aE (x4 0) aI))))))))
def J7(F:Df K mg "goes_on" (top 24) ["kinds","other_kinds","begun","thing"])(cV:mg "enumerate"=ab)(aU:mg "len"=ab):Cl P w K mg base cK (kk+1) "goes_on" ["kinds","other_kinds","begun","thing"] (dJ K kB.g8):=by
 refine j9 (N:=["kinds","other_kinds","begun","thing","last","place","laid"]) F (λhr nd=>?_);exact(aR (b7 (i:=4) nd (e8 aU (aE (x4 2) aI)))
  (aR (iD rfl fu (lV cV (aE (x4 2) aI)) (GH (i:=5) (j:=6) rfl nd)
   (aR (fF (Bf (DA (u2 hr) (x4 0) (fT (aE (x4 5) (aE (x4 4) aI)))) (DA (u2 hr) (x4 1) (fT (aE (x4 6) (aE (x4 3) aI)))))
    (aM (b9 b4))
    fK)
   (aM (fF (Bf (DA (u2 hr) (x4 0) (fT (aE (x4 4) (aE (x4 5) aI)))) (DA (u2 hr) (x4 1) (fT (aE (x4 3) (aE (x4 6) aI)))))
    (aM (b9 b4))
    fK))))
  (aM (b9 b4))))
theorem oZ(F:Df K mg "first_laid" (top 23) ["kinds","other_kinds","choices","begun"])(oF:Cl P w K mg base cK kk "goes_on" ["kinds","other_kinds","begun","thing"] (dJ K kB.g8))(aU:mg "len"=ab):∀n:Nat,Cl P w K mg base cK (kk+n) "first_laid" ["kinds","other_kinds","choices","begun"] (dJ K (kB.cN n))
 |0=>nn4 F
 |n+1=>by
  have lX:=oZ F oF aU n;have oF:=oF.up (kn kk n);refine j9 (N:=["kinds","other_kinds","choices","begun","thing","found"]) F (λhr nd=>?_);exact(aR (fF (rL (e8 aU (aE (x4 3) aI)) (e8 aU (aE (x4 2) aI)))
   (aM (b9 (x4 3)))
   fK)
  (aR (iD rfl fu (fD (fJ (x4 2) (e8 aU (aE (x4 3) aI)))) (fI (i:=4) nd)
   (aM (fF (DM.pt (GC (x6 (x4 4) (x4 3)) (GB (tR (aX oF hr (aE (x4 0) (aE (x4 1) (aE (x4 3) (aE (x4 4) aI)))))))))
    (aR (b7 (i:=5) nd (aX lX hr (aE (x4 0) (aE (x4 1) (aE (x4 2) (aE (eD (x4 3) (fT (aE (x4 4) aI))) aI))))))
    (aM (fF (XM (x4 5) n4)
     (aM (b9 (x4 5)))
     fK)))
    fK)))
  (aM (b9 n4))))
def DI(F:Df K mg "places_of" (top 22) ["look","looks"])(cV:mg "enumerate"=ab):Cl P w K mg base cK (kk+1) "places_of" ["look","looks"] (dJ K kB.gB):=by refine j9 (N:=["look","looks"]) F (λhr nd=>?_);exact(aM (b9 (fR.pe (eB (ls:=["place","other"]) (fs:=["look"]) (fr:=[0]) rfl (lV cV (aE (x4 1) aI)) (λ_ _ _ _ _ _ nd=>lW (i:=0) (j:=1) rfl nd (by decide) (by decide)) (λ_ _ _ _ _ _=>iC (Wm (u9 hr) (x4 1) (x4 2))) (λ_ _ _ _ _ _=>(x4 0))))))
def QT(F:Df K mg "laying" (top 17) ["one","other"])(lX:Cl P w K mg base cK kk "first_laid" ["kinds","other_kinds","choices","begun"] (dJ K (kB.cN 11)))(GZ:Cl P w K mg base cK kk "places_of" ["look","looks"] (dJ K kB.gB))(yH:Cl P w K mg base cK kk "looks_of" ["order","kinds"] (dJ K kB.g7))(nM:Cl P w K mg base cK kk "ties_by_kind" ["order"] (dJ K kB.d8))(bF:mg "sorted"=ab):Cl P w K mg base cK (kk+1) "laying" ["one","other"] (dJ K kB.m3):=by
 refine j9 (N:=["one","other","kinds","other_kinds","looks","other_looks","choices"]) F (λhr nd=>?_);exact(aR (b7 (i:=2) nd (aX nM hr (aE (x4 0) aI)))
  (aR (b7 (i:=3) nd (aX nM hr (aE (x4 1) aI)))
  (aR (b7 (i:=4) nd (aX yH hr (aE (x4 0) (aE (x4 2) aI))))
  (aR (b7 (i:=5) nd (aX yH hr (aE (x4 1) (aE (x4 3) aI))))
  (aR (fF (aAm (u9 hr) (fR.pe (GW (u9 hr) bF (aE (x4 4) aI))) (fR.pe (GW (u9 hr) bF (aE (x4 5) aI))))
   (aM (b9 n4))
   fK)
  (aR (oA (i:=6) (ls:=["look"]) (fs:=["other_looks"]) (fr:=[5]) nd rfl (fD (x4 4)) (λ_ _ _ _ _ _ nd=>c9 (i:=0) nd (by decide)) (λ_ _ _ _ _ _=>fO) (λ_ _ _ _ _ _=>(aX GZ hr (aE (x4 0) (aE (x4 1) aI)))))
  (aM (b9 (aX lX hr (aE (x4 2) (aE (x4 3) (aE (x4 6) (aE (fT aI) aI)))))))))))))
def G0(F:Df K mg "share_at" (top 27) ["shares","place"])(aU:mg "len"=ab):Cl P w K mg base cK (kk+1) "share_at" ["shares","place"] (dJ K sA.d9):=by refine j9 (N:=["shares","place"]) F (λhr nd=>?_);exact(aM (b9 (if4 (r9 (x4 1) (e8 aU (aE (x4 0) aI))) (fJ (x4 0) (x4 1)) i4)))
def u6(F:Df K mg "first_unlike" (top 26) ["shares","others"])(yI:Cl P w K mg base cK kk "share_at" ["shares","place"] (dJ K sA.d9))(aK:mg "range"=ab)(aU:mg "len"=ab)(oY:mg "max"=ab):Cl P w K mg base cK (kk+1) "first_unlike" ["shares","others"] (dJ K sA.eA):=by
 refine j9 (N:=["shares","others","longer","place"]) F (λhr nd=>?_);exact(aR (b7 (i:=2) nd (WB rfl oY (aE (e8 aU (aE (x4 0) aI)) (aE (e8 aU (aE (x4 1) aI)) aI))))
  (aR (iD rfl fu (bR aK (x4 2)) (fI (i:=3) nd)
   (aM (fF (PK (aX yI hr (aE (x4 0) (aE (x4 3) aI))) (aX yI hr (aE (x4 1) (aE (x4 3) aI))))
    (aM (b9 (x4 3)))
    fK)))
  (aM (b9 n4))))
def zG(F:Df K mg "told_apart" (top 25) ["one","other"])(yJ:Cl P w K mg base cK kk "first_unlike" ["shares","others"] (dJ K sA.eA))(j4:Cl P w K mg base cK kk "shares_by_steps" ["order"] (dJ K LL.dN))(XQ:Cl P w K mg base cK kk "laying" ["one","other"] (dJ K kB.m3)):Cl P w K mg base cK (kk+1) "told_apart" ["one","other"] (dJ K sA.eZ):=by
 refine j9 (N:=["one","other","found","k"]) F (λhr nd=>?_);exact(aR (b7 (i:=2) nd (aX XQ hr (aE (x4 0) (aE (x4 1) aI))))
  (aR (fF (XM (x4 2) n4)
   (aM (b9 (fT (aE s4 (aE (x4 2) aI)))))
   fK)
  (aR (b7 (i:=3) nd (aX yJ hr (aE (aX j4 hr (aE (x4 0) aI)) (aE (aX j4 hr (aE (x4 1) aI)) aI))))
  (aR (fF (Ad (x4 3) n4)
   (aM (b9 (fT (aE s4 aI))))
   fK)
  (aM (b9 (fT (aE s4 (aE (x4 3) aI)))))))))
def QU(F:Df K mg "_law_cell" (top 29) ["_law_script","_law_k"])(aU:mg "len"=ab):Cl P w K mg base cK (kk+1) "_law_cell" ["_law_script","_law_k"] (dJ K LL.dY):=by
 refine j9 (N:=["_law_script","_law_k"]) F (λhr nd=>?_);exact(aR (fF (rL (e8 aU (aE (x4 0) aI)) i4)
   (aM (b9 i4))
   fK)
  (aM (b9 (fJ (x4 0) (i8 (x4 1) (e8 aU (aE (x4 0) aI)))))))
def J8(F:Df K mg "_law_mixed" (top 30) ["_law_cell_here","_law_k","_law_salt"]):Cl P w K mg base cK (kk+1) "_law_mixed" ["_law_cell_here","_law_k","_law_salt"] (dJ K LL.gW):=by
 refine j9 (N:=["_law_cell_here","_law_k","_law_salt","_law_one","_law_two_here"]) F (λhr nd=>?_);exact(aR (b7 (i:=3) nd (i8 (tQ (eD (eD (eD (x4 0) (tQ (tQ i4 (x4 1)) (x4 1))) (tQ i4 (x4 1))) (x4 2)) i4) i4))
  (aR (b7 (i:=4) nd (i8 (eD (eD (tQ (x4 3) (eD (VQ (x4 3) i4) i4)) (tQ i4 (x4 1))) (x4 2)) i4))
  (aM (b9 (i8 (tQ (x4 4) i4) i4)))))
def J9(F:Df K mg "_law_draws" (top 31) ["_law_cell_here","_law_many","_law_salt"])(QV:Cl P w K mg base cK kk "_law_mixed" ["_law_cell_here","_law_k","_law_salt"] (dJ K LL.gW))(aK:mg "range"=ab):Cl P w K mg base cK (kk+1) "_law_draws" ["_law_cell_here","_law_many","_law_salt"] (dJ K LL.dB):=by
 refine j9 (N:=["_law_cell_here","_law_many","_law_salt","_law_found","_law_left","_law_k"]) F (λhr nd=>?_);exact(aR (tS (i:=3) nd (kU aI))
  (aR (b7 (i:=4) nd i4)
  (aR (fF (Jw (x4 0) (Jx i4 i4))
   (aM (b7 (i:=4) nd (x4 0)))
   fK)
  (aR (iD rfl fu (bR aK (x4 1)) (fI (i:=5) nd)
   (aM (fF (JN (x4 4) i4)
    (aR (oU (C2 (i:=3) (p7 (i8 (x4 4) i4))))
    (aM (b7 (i:=4) nd (VQ (x4 4) i4))))
    (aM (oU (C2 (i:=3) (p7 (aX QV hr (aE (x4 0) (aE (x4 5) (aE (x4 2) aI)))))))))))
  (aM (b9 (x4 3)))))))
def KC(F:Df K mg "_law_order" (top 32) ["_law_draws_here","_law_n","_law_thick"])(aK:mg "range"=ab)(bF:mg "sorted"=ab)(bJ:mg "tuple"=ab)(aU:mg "len"=ab)(lY:mg "list"=ab):Cl P w K mg base cK (kk+1) "_law_order" ["_law_draws_here","_law_n","_law_thick"] (dJ K LL.gX):=by
 refine j9 (N:=["_law_draws_here","_law_n","_law_thick","_law_rest","_law_word","_law_k","_law_low","_law_at","_law_j","_law_under","_law_i"]) F (λhr nd=>?_);exact(aR (tS (i:=3) nd (p6 rfl lY aK (aE (x4 1) aI)))
  (aR (tS (i:=4) nd (kU aI))
  (aR (iD rfl fu (bR aK (x4 1)) (fI (i:=5) nd)
   (aM (oU (C2 (i:=4) (Kh (i:=3) (px4 (i8 (fJ (x4 0) (x4 5)) (e8 aU (aE (x4 3) aI)))))))))
  (aR (GG (i:=6) nd)
  (aR (b7 (i:=7) nd (x4 1))
  (aR (iD rfl fu (bR aK (x4 1)) (fI (i:=8) nd)
   (aR (b7 (i:=9) nd (fR.pe (kU aI)))
   (aR (iD rfl fu (bR aK (x4 8)) (fI (i:=10) nd)
    (aR (fF (r9 (i8 (fJ (x4 0) (x4 7)) i4) (x4 2))
     (aM (Cm (i:=9) nd (Cn (x4 9) (fR.pe (eB (ls:=["_law_a"]) (fs:=["_law_under"]) (fr:=[9]) rfl (fD (eD (sr (u1 hr) (x4 6) (fJ (x4 4) (x4 10))) (fR.pe (kU (aE (fJ (x4 4) (x4 10)) aI))))) (λ_ _ _ _ _ _ nd=>c9 (i:=0) nd (by decide)) (λ_ _ _ _ _ _=>iC (x6 (x4 0) (x4 1))) (λ_ _ _ _ _ _=>(x4 0)))))))
     fK)
    (aM (b7 (i:=7) nd (eD (x4 7) i4)))))
   (aM (Bp (i:=6) (u1 hr) (p7 (x4 9)) (fJ (x4 4) (x4 8)))))))
  (aM (b9 (iU bJ (aE (fR.pe (eB (ls:=["_law_b"]) (fs:=["_law_low"]) (fr:=[6]) rfl (bR aK (x4 1)) (λ_ _ _ _ _ _ nd=>c9 (i:=0) nd (by decide)) (λ_ _ _ _ _ _=>fO) (λ_ _ _ _ _ _=>(iU bJ (aE (fR.pe (vK bF (aE (sr (u1 hr) (x4 1) (x4 0)) aI))) aI))))) aI))))))))))
def KG(F:Df K mg "_law_drawn" (top 33) ["_law_script","_law_k","_law_most","_law_salt"])(tY:Cl P w K mg base cK kk "_law_order" ["_law_draws_here","_law_n","_law_thick"] (dJ K LL.gX))(eT:Cl P w K mg base cK kk "_law_draws" ["_law_cell_here","_law_many","_law_salt"] (dJ K LL.dB))(fP:Cl P w K mg base cK kk "_law_cell" ["_law_script","_law_k"] (dJ K LL.dY)):Cl P w K mg base cK (kk+1) "_law_drawn" ["_law_script","_law_k","_law_most","_law_salt"] (dJ K LL.i9):=by
 refine j9 (N:=["_law_script","_law_k","_law_most","_law_salt","_law_head","_law_n","_law_draws_here"]) F (λhr nd=>?_);exact(aR (b7 (i:=4) nd (aX eT hr (aE (aX fP hr (aE (x4 0) (aE (x4 1) aI))) (aE i4 (aE (x4 3) aI)))))
  (aR (b7 (i:=5) nd (i8 (fJ (x4 4) i4) (eD (x4 2) i4)))
  (aR (b7 (i:=6) nd (aX eT hr (aE (aX fP hr (aE (x4 0) (aE (eD (x4 1) i4) aI))) (aE (eD (x4 5) (VQ (tQ (x4 5) (nE (x4 5) i4)) i4)) (aE (eD (x4 3) i4) aI)))))
  (aM (b9 (aX tY hr (aE (x4 6) (aE (x4 5) (aE (fJ (fR.pe (kU (aE i4 (aE i4 (aE i4 (aE i4 (aE i4 (aE i4 (aE i4 (aE i4 aI)))))))))) (i8 (fJ (x4 4) i4) i4)) aI)))))))))
theorem BE(F:Df K mg "_law_same" (top 34) ["_law_found","_law_due"])(cP:mg "isinstance"=ab)(NI:mg "str"=ab)(uN:mg "int"=ab)(tZ:mg "bool"=ab)(bJ:mg "tuple"=ab)(aU:mg "len"=ab)(aK:mg "range"=ab)(k8:mg "all"=ab):∀n:Nat,Cl P w K mg base cK (kk+n) "_law_same" ["_law_found","_law_due"] (dJ K (LL.eP n))
 |0=>nn4 F
 |n+1=>by
  have rY:=BE F cP NI uN tZ bJ aU aK k8 n;refine j9 (N:=["_law_found","_law_due"]) F (λhr nd=>?_);exact(aR (fF (tR (GF JF.t cP bJ Er (x4 1)))
   (aR (fF (DM.pt (VT (MR (tR (GF JF.t cP bJ Er (x4 0)))) (VS (PK (e8 aU (aE (x4 0) aI)) (e8 aU (aE (x4 1) aI))))))
    (aM (b9 b4))
    fK)
   (aM (b9 (sk rfl k8 (aE (fR.pe (eB (ls:=["_law_k"]) (fs:=["_law_found","_law_due"]) (fr:=[0,1]) rfl (bR aK (e8 aU (aE (x4 1) aI))) (λ_ _ _ _ _ _ nd=>c9 (i:=0) nd (by decide)) (λ_ _ _ _ _ _=>fO) (λ_ _ _ _ _ _=>(aX rY hr (aE (fJ (x4 1) (x4 0)) (aE (fJ (x4 2) (x4 0)) aI)))))) aI)))))
   fK)
  (aR (fF (Ad (x4 1) n4)
   (aM (b9 (is4 (x4 0) n4)))
   fK)
  (aR (fF (tR (GF JF.b cP tZ Eu (x4 1)))
   (aM (b9 (s_ (GF JF.b cP tZ Eu (x4 0)) (r6 (eq4 (x4 0) (x4 1))))))
   fK)
  (aR (fF (tR (GF JF.i cP uN Et (x4 1)))
   (aM (b9 (s_ (GF JF.i cP uN Et (x4 0)) (s_ (Ac (GF JF.b cP tZ Eu (x4 0))) (r6 (eq4 (x4 0) (x4 1)))))))
   fK)
  (aM (b9 (s_ (GF JF.s cP NI a31 (x4 0)) (r6 (eq4 (x4 0) (x4 1))))))))))
def QW(F:Df K mg "_law_ties" (top 35) ["_law_order_here"])(bF:mg "sorted"=ab)(aU:mg "len"=ab)(aK:mg "range"=ab):Cl P w K mg base cK (kk+1) "_law_ties" ["_law_order_here"] (dJ K LL.fV):=by
 refine j9 (N:=["_law_order_here","_law_found","_law_b"]) F (λhr nd=>?_);exact(aR (b7 (i:=1) nd (fR.pe (kU aI)))
  (aR (iD rfl fu (bR aK (e8 aU (aE (x4 0) aI))) (fI (i:=2) nd)
   (aM (b7 (i:=1) nd (eD (x4 1) (fR.pe (eB (ls:=["_law_a"]) (fs:=["_law_b"]) (fr:=[2]) rfl (fD (fJ (x4 0) (x4 2))) (λ_ _ _ _ _ _ nd=>c9 (i:=0) nd (by decide)) (λ_ _ _ _ _ _=>fO) (λ_ _ _ _ _ _=>(fT (aE (x4 0) (aE (x4 1) aI))))))))))
  (aM (b9 (fR.pe (GO bF (aE (x4 1) aI)))))))
def G2(F:Df K mg "_law_goings" (top 36) ["_law_order_here"])(aU:mg "len"=ab)(aK:mg "range"=ab)(k8:mg "all"=ab):Cl P w K mg base cK (kk+1) "_law_goings" ["_law_order_here"] (dJ K LL.jK):=by
 refine j9 (N:=["_law_order_here","_law_words","_law_step","_law_longer","_law_word","_law_b"]) F (λhr nd=>?_);exact(aR (b7 (i:=1) nd (fR.pe (kU (aE (fT aI) aI))))
  (aR (iD rfl fu (bR aK (e8 aU (aE (x4 0) aI))) (fI (i:=2) nd)
   (aR (tS (i:=3) nd (kU aI))
   (aR (iD rfl fu (fD (x4 1)) (fI (i:=4) nd)
    (aM (iD rfl fu (bR aK (e8 aU (aE (x4 0) aI))) (fI (i:=5) nd)
     (aM (fF (DM.pt (GC (x6 (x4 5) (x4 4)) (GB (tR (sk rfl k8 (aE (fR.pe (eB (ls:=["_law_a"]) (fs:=["_law_word"]) (fr:=[4]) rfl (fD (fJ (x4 0) (x4 5))) (λ_ _ _ _ _ _ nd=>c9 (i:=0) nd (by decide)) (λ_ _ _ _ _ _=>fO) (λ_ _ _ _ _ _=>(in4 (x4 0) (x4 1))))) aI))))))
      (aM (oU (C2 (i:=3) (p7 (eD (x4 4) (fT (aE (x4 5) aI)))))))
      fK)))))
   (aM (Bm 3 (b7 (i:=1) nd (x4 3)))))))
  (aM (b9 (x4 1)))))
def zH(F:Df K mg "_law_descents" (top 37) ["_law_word"])(aU:mg "len"=ab)(aK:mg "range"=ab):Cl P w K mg base cK (kk+1) "_law_descents" ["_law_word"] (dJ K gJ):=by refine j9 (N:=["_law_word"]) F (λhr nd=>?_);exact(aM (b9 (fR.pe (eB (ls:=["_law_k"]) (fs:=["_law_word"]) (fr:=[0]) rfl (bR aK (nE (e8 aU (aE (x4 0) aI)) i4)) (λ_ _ _ _ _ _ nd=>c9 (i:=0) nd (by decide)) (λ_ _ _ _ _ _=>iC (JN (fJ (x4 1) (x4 0)) (fJ (x4 1) (eD (x4 0) i4)))) (λ_ _ _ _ _ _=>(x4 0))))))
def G3(F:Df K mg "_law_chosen" (top 38) ["_law_x","_law_m"])(aK:mg "range"=ab):Cl P w K mg base cK (kk+1) "_law_chosen" ["_law_x","_law_m"] (dJ K LL.jJ):=by
 refine j9 (N:=["_law_x","_law_m","_law_top","_law_low","_law_k"]) F (λhr nd=>?_);exact(aR (b7 (i:=2) nd i4)
  (aR (b7 (i:=3) nd i4)
  (aR (iD rfl fu (bR aK (x4 1)) (fI (i:=4) nd)
   (aR (b7 (i:=2) nd (tQ (x4 2) (nE (x4 0) (x4 4))))
   (aM (b7 (i:=3) nd (tQ (x4 3) (eD (x4 4) i4))))))
  (aM (b9 (VQ (x4 2) (x4 3)))))))
def QX(F:Df K mg "_law_bare" (top 39) ["_law_order_here"])(yK:Cl P w K mg base cK kk "_law_ties" ["_law_order_here"] (dJ K LL.fV))(BB:mg "any"=ab):Cl P w K mg base cK (kk+1) "_law_bare" ["_law_order_here"] (dJ K kB.jL):=by
 refine j9 (N:=["_law_order_here","_law_found","_law_a","_law_b"]) F (λhr nd=>?_);exact(aR (tS (i:=1) nd (kU aI))
  (aR (iD rfl fu (fD (aX yK hr (aE (x4 0) aI))) (GH (i:=2) (j:=3) rfl nd)
   (aM (fF (MR (tR (zw rfl BB (aE (fR.pe (eB (ls:=["_law_c"]) (fs:=["_law_a","_law_order_here"]) (fr:=[2,0]) rfl (fD (fJ (x4 0) (x4 3))) (λ_ _ _ _ _ _ nd=>c9 (i:=0) nd (by decide)) (λ_ _ _ _ _ _=>fO) (λ_ _ _ _ _ _=>(in4 (x4 1) (fJ (x4 2) (x4 0)))))) aI))))
    (aM (oU (C2 (i:=1) (p7 (fT (aE (x4 2) (aE (x4 3) aI)))))))
    fK)))
  (aM (b9 (x4 1)))))
def QY(F:Df K mg "_law_fits" (top 40) ["_law_one","_law_other","_law_bare_here","_law_laid"])(aK:mg "range"=ab)(aU:mg "len"=ab):Cl P w K mg base cK (kk+1) "_law_fits" ["_law_one","_law_other","_law_bare_here","_law_laid"] (dJ K kB.iN):=by
 refine j9 (N:=["_law_one","_law_other","_law_bare_here","_law_laid","_law_last","_law_c"]) F (λhr nd=>?_);exact(aR (b7 (i:=4) nd (nE (e8 aU (aE (x4 3) aI)) i4))
  (aR (iD rfl fu (bR aK (x4 4)) (fI (i:=5) nd)
   (aR (fF (DM.pt (VT (PK (in4 (x4 5) (fJ (x4 0) (x4 4))) (in4 (fJ (x4 3) (x4 5)) (fJ (x4 1) (fJ (x4 3) (x4 4))))) (VS (PK (in4 (x4 4) (fJ (x4 0) (x4 5))) (in4 (fJ (x4 3) (x4 4)) (fJ (x4 1) (fJ (x4 3) (x4 5))))))))
    (aM (b9 b4))
    fK)
   (aM (fF (DM.pt (VT (DM.pt (GC (Bn (u9 hr) (fT (aE (x4 5) (aE (x4 4) aI))) (x4 2)) (GB (JN (fJ (x4 3) (x4 5)) (fJ (x4 3) (x4 4)))))) (VS (DM.pt (GC (Bn (u9 hr) (fT (aE (x4 4) (aE (x4 5) aI))) (x4 2)) (GB (r9 (fJ (x4 3) (x4 4)) (fJ (x4 3) (x4 5)))))))))
    (aM (b9 b4))
    fK))))
  (aM (b9 b4))))
def G4(F:Df K mg "_law_laying" (top 41) ["_law_one","_law_other"])(XR:Cl P w K mg base cK kk "_law_fits" ["_law_one","_law_other","_law_bare_here","_law_laid"] (dJ K kB.iN))(yL:Cl P w K mg base cK kk "_law_bare" ["_law_order_here"] (dJ K kB.jL))(aU:mg "len"=ab)(aK:mg "range"=ab):Cl P w K mg base cK (kk+1) "_law_laying" ["_law_one","_law_other"] (dJ K kB.jM):=by
 refine j9 (N:=["_law_one","_law_other","_law_bare_here","_law_found","_law_step","_law_longer","_law_laid","_law_fresh"]) F (λhr nd=>?_);exact(aR (fF (PK (e8 aU (aE (x4 0) aI)) (e8 aU (aE (x4 1) aI)))
   (aM (b9 n4))
   fK)
  (aR (b7 (i:=2) nd (aX yL hr (aE (x4 0) aI)))
  (aR (b7 (i:=3) nd (fR.pe (kU (aE (fT aI) aI))))
  (aR (iD rfl fu (bR aK (e8 aU (aE (x4 0) aI))) (fI (i:=4) nd)
   (aR (b7 (i:=5) nd (fR.pe (kU aI)))
   (aR (iD rfl fu (fD (x4 3)) (fI (i:=6) nd)
    (aR (oA (i:=7) (ls:=["_law_thing"]) (fs:=["_law_laid"]) (fr:=[6]) nd rfl (bR aK (e8 aU (aE (x4 0) aI))) (λ_ _ _ _ _ _ nd=>c9 (i:=0) nd (by decide)) (λ_ _ _ _ _ _=>iC (x6 (x4 0) (x4 1))) (λ_ _ _ _ _ _=>(eD (x4 1) (fT (aE (x4 0) aI)))))
    (aM (b7 (i:=5) nd (eD (x4 5) (fR.pe (eB (ls:=["_law_row"]) (fs:=["_law_one","_law_other","_law_bare_here"]) (fr:=[0,1,2]) rfl (fD (x4 7)) (λ_ _ _ _ _ _ nd=>c9 (i:=0) nd (by decide)) (λ_ _ _ _ _ _=>iC (tR (aX XR hr (aE (x4 1) (aE (x4 2) (aE (x4 3) (aE (x4 0) aI))))))) (λ_ _ _ _ _ _=>(x4 0)))))))))
   (aM (b7 (i:=3) nd (x4 5))))))
  (aR (fF (rL (e8 aU (aE (x4 3) aI)) i4)
   (aM (b9 n4))
   fK)
  (aM (b9 (fJ (x4 3) i4))))))))
def KH(F:Df K mg "_law_named" (top 42) ["_law_order_here","_law_word"])(bJ:mg "tuple"=ab)(bF:mg "sorted"=ab):Cl P w K mg base cK (kk+1) "_law_named" ["_law_order_here","_law_word"] (dJ K kB.g9):=by
 refine j9 (N:=["_law_order_here","_law_word","_law_rows","_law_thing"]) F (λhr nd=>?_);exact(aR (tS (i:=2) nd (kU aI))
  (aR (iD rfl fu (fD (x4 1)) (fI (i:=3) nd)
   (aM (oU (C2 (i:=2) (p7 (iU bJ (aE (fR.pe (vK bF (aE (fR.pe (eB (ls:=["_law_a"]) (fs:=["_law_word"]) (fr:=[1]) rfl (fD (fJ (x4 0) (x4 3))) (λ_ _ _ _ _ _ nd=>c9 (i:=0) nd (by decide)) (λ_ _ _ _ _ _=>fO) (λ_ _ _ _ _ _=>(aAo (x4 1) (x4 0))))) aI))) aI)))))))
  (aM (b9 (iU bJ (aE (x4 2) aI))))))
def t6(F:Df K mg "_law_named_alike" (top 43) ["_law_order_here","_law_draws_here"])(t7:Cl P w K mg base cK kk "_law_named" ["_law_order_here","_law_word"] (dJ K kB.g9))(yL:Cl P w K mg base cK kk "_law_bare" ["_law_order_here"] (dJ K kB.jL))(aU:mg "len"=ab)(aK:mg "range"=ab)(k8:mg "all"=ab)(oY:mg "max"=ab)(XS:mg "min"=ab):Cl P w K mg base cK (kk+1) "_law_named_alike" ["_law_order_here","_law_draws_here"] (dJ K kB.cH):=by
 refine j9 (N:=["_law_order_here","_law_draws_here","_law_bare_here","_law_ahead","_law_word","_law_k","_law_free"]) F (λhr nd=>?_);exact(aR (b7 (i:=2) nd (aX yL hr (aE (x4 0) aI)))
  (aR (b7 (i:=3) nd (fR.pe (eB (ls:=["_law_thing"]) (fs:=["_law_bare_here"]) (fr:=[2]) rfl (bR aK (e8 aU (aE (x4 0) aI))) (λ_ _ _ _ _ _ nd=>c9 (i:=0) nd (by decide)) (λ_ _ _ _ _ _=>fO) (λ_ _ _ _ _ _=>(fR.pe (eB (ls:=["_law_a","_law_b"]) (fs:=["_law_thing"]) (fr:=[0]) rfl (fD (x4 1)) (λ_ _ _ _ _ _ nd=>lW (i:=0) (j:=1) rfl nd (by decide) (by decide)) (λ_ _ _ _ _ _=>iC (rL (WB rfl oY (aE (x4 0) (aE (x4 1) aI))) (x4 2))) (λ_ _ _ _ _ _=>(Ss rfl XS (aE (x4 0) (aE (x4 1) aI))))))))))
  (aR (tS (i:=4) nd (kU aI))
  (aR (iD rfl fu (bR aK (e8 aU (aE (x4 0) aI))) (fI (i:=5) nd)
   (aR (JU (i:=6) (ls:=["_law_b"]) (fs:=["_law_word","_law_ahead"]) (fr:=[4,3]) nd rfl (bR aK (e8 aU (aE (x4 0) aI))) (λ_ _ _ _ _ _ nd=>c9 (i:=0) nd (by decide)) (λ_ _ _ _ _ _=>iC (DM.pt (GC (x6 (x4 0) (x4 1)) (GB (tR (sk rfl k8 (aE (fR.pe (eB (ls:=["_law_a"]) (fs:=["_law_word"]) (fr:=[1]) rfl (fD (fJ (x4 2) (x4 0))) (λ_ _ _ _ _ _ nd=>c9 (i:=0) nd (by decide)) (λ_ _ _ _ _ _=>fO) (λ_ _ _ _ _ _=>(in4 (x4 0) (x4 1))))) aI))))))) (λ_ _ _ _ _ _=>(x4 0)))
   (aM (oU (C2 (i:=4) (p7 (fJ (x4 6) (i8 (fJ (x4 1) (x4 5)) (e8 aU (aE (x4 6) aI))))))))))
  (aM (b9 (aX t7 hr (aE (x4 0) (aE (x4 4) aI)))))))))
def XT(F:Df K mg "_law_two" (top 44) ["_law_script","_law_k","_law_most","_law_salt"])(tY:Cl P w K mg base cK kk "_law_order" ["_law_draws_here","_law_n","_law_thick"] (dJ K LL.gX))(eT:Cl P w K mg base cK kk "_law_draws" ["_law_cell_here","_law_many","_law_salt"] (dJ K LL.dB))(fP:Cl P w K mg base cK kk "_law_cell" ["_law_script","_law_k"] (dJ K LL.dY))(BF:Cl P w K mg base cK kk "_law_drawn" ["_law_script","_law_k","_law_most","_law_salt"] (dJ K LL.i9))(f6:Cl P w K mg base cK kk "_law_named_alike" ["_law_order_here","_law_draws_here"] (dJ K kB.cH))(yK:Cl P w K mg base cK kk "_law_ties" ["_law_order_here"] (dJ K LL.fV))(t7:Cl P w K mg base cK kk "_law_named" ["_law_order_here","_law_word"] (dJ K kB.g9))(aK:mg "range"=ab)(bF:mg "sorted"=ab)(bJ:mg "tuple"=ab)(aU:mg "len"=ab)(lY:mg "list"=ab):Cl P w K mg base cK (kk+1) "_law_two" ["_law_script","_law_k","_law_most","_law_salt"] (dJ K kB.nY):=by
 refine j9 (N:=["_law_script","_law_k","_law_most","_law_salt","_law_way","_law_one","_law_n","_law_draws_here","_law_other","_law_rest","_law_word","_law_ties_here"]) F (λhr nd=>?_);exact(aR (b7 (i:=4) nd (aX eT hr (aE (aX fP hr (aE (x4 0) (aE (x4 1) aI))) (aE i4 (aE (x4 3) aI)))))
  (aR (b7 (i:=5) nd (aX BF hr (aE (x4 0) (aE (eD (x4 1) i4) (aE (x4 2) (aE (eD (x4 3) i4) aI))))))
  (aR (b7 (i:=6) nd (e8 aU (aE (x4 5) aI)))
  (aR (b7 (i:=7) nd (aX eT hr (aE (aX fP hr (aE (x4 0) (aE (eD (x4 1) i4) aI))) (aE (x4 6) (aE (eD (x4 3) i4) aI)))))
  (aR (b7 (i:=8) nd (aX f6 hr (aE (x4 5) (aE (x4 7) aI))))
  (aR (fF (JN (i8 (fJ (x4 4) i4) i4) i4)
   (aR (tS (i:=9) nd (p6 rfl lY aK (aE (x4 6) aI)))
   (aR (W4 (ix:=10) (ls:=["_law_i"]) (fs:=["_law_rest","_law_draws_here"]) (fr:=[9,7]) (i:=9) (p:=0) nd rfl (bR aK (x4 6)) (λ_ _ _ _ _ _ nd=>c9 (i:=0) nd (by decide)) (λ_ _ _ _ _ _=>Qy (j:=1) (i8 (fJ (x4 2) (x4 0)) (e8 aU (aE (x4 1) aI)))))
   (aM (b7 (i:=8) nd (aX t7 hr (aE (x4 5) (aE (x4 10) aI)))))))
   fK)
  (aR (fF (DM.pt (VT (rL (i8 (fJ (x4 4) i4) i4) i4) (VS (rL (i8 (fJ (x4 4) i4) i4) i4))))
   (aR (b7 (i:=11) nd (fR.pe (eB (ls:=["_law_a","_law_b"]) (fs:=["_law_n"]) (fr:=[6]) rfl (fD (aX yK hr (aE (x4 5) aI))) (λ_ _ _ _ _ _ nd=>lW (i:=0) (j:=1) rfl nd (by decide) (by decide)) (λ_ _ _ _ _ _=>fO) (λ_ _ _ _ _ _=>(fT (aE (nE (nE (x4 2) i4) (x4 1)) (aE (nE (nE (x4 2) i4) (x4 0)) aI)))))))
   (aR (b7 (i:=8) nd (iU bJ (aE (fR.pe (eB (ls:=["_law_thing"]) (fs:=["_law_ties_here"]) (fr:=[11]) rfl (bR aK (x4 6)) (λ_ _ _ _ _ _ nd=>c9 (i:=0) nd (by decide)) (λ_ _ _ _ _ _=>fO) (λ_ _ _ _ _ _=>(iU bJ (aE (fR.pe (vK bF (aE (fR.pe (eB (ls:=["_law_a","_law_b"]) (fs:=["_law_thing"]) (fr:=[0]) rfl (fD (x4 1)) (λ_ _ _ _ _ _ nd=>lW (i:=0) (j:=1) rfl nd (by decide) (by decide)) (λ_ _ _ _ _ _=>iC (rL (x4 1) (x4 2))) (λ_ _ _ _ _ _=>(x4 0)))) aI))) aI))))) aI)))
   (aM (b7 (i:=8) nd (aX f6 hr (aE (x4 8) (aE (x4 7) aI)))))))
   fK)
  (aR (fF (JN (i8 (fJ (x4 4) i4) i4) i4)
   (aR (b7 (i:=8) nd (aX BF hr (aE (x4 0) (aE (eD (x4 1) i4) (aE (x4 2) (aE (eD (x4 3) i4) aI))))))
   (aM (fF (rL (i8 (fJ (x4 4) i4) i4) i4)
    (aM (b7 (i:=8) nd (aX tY hr (aE (aX eT hr (aE (aX fP hr (aE (x4 0) (aE (eD (x4 1) i4) aI))) (aE i4 (aE (eD (x4 3) i4) aI)))) (aE (x4 6) (aE i4 aI))))))
    fK)))
   fK)
  (aM (b9 (fT (aE (x4 5) (aE (x4 8) aI)))))))))))))
def G5(F:Df K mg "_law_counts" (top 45) ["_law_order_here"])(KI:Cl P w K mg base cK kk "_law_chosen" ["_law_x","_law_m"] (dJ K LL.jJ))(KJ:Cl P w K mg base cK kk "_law_goings" ["_law_order_here"] (dJ K LL.jK))(DJ:Cl P w K mg base cK kk "_law_descents" ["_law_word"] (dJ K gJ))(aK:mg "range"=ab)(BD:mg "sum"=ab)(aU:mg "len"=ab):Cl P w K mg base cK (kk+1) "_law_counts" ["_law_order_here"] (dJ K hJ):=by
 refine j9 (N:=["_law_order_here","_law_n","_law_many"]) F (λhr nd=>?_);exact(aR (b7 (i:=1) nd (e8 aU (aE (x4 0) aI)))
  (aR (b7 (i:=2) nd (fR.pe (eB (ls:=["_law_word"]) (fs:=[]) (fr:=[]) rfl (fD (aX KJ hr (aE (x4 0) aI))) (λ_ _ _ _ _ _ nd=>c9 (i:=0) nd (by decide)) (λ_ _ _ _ _ _=>fO) (λ_ _ _ _ _ _=>(e8 aU (aE (aX DJ hr (aE (x4 0) aI)) aI))))))
  (aM (b9 (fR.pe (eB (ls:=["_law_k"]) (fs:=["_law_n","_law_many"]) (fr:=[1,2]) rfl (bR aK i4) (λ_ _ _ _ _ _ nd=>c9 (i:=0) nd (by decide)) (λ_ _ _ _ _ _=>fO) (λ_ _ _ _ _ _=>(Ab rfl BD (aE (fR.pe (eB (ls:=["_law_d"]) (fs:=["_law_n","_law_k"]) (fr:=[1,0]) rfl (fD (x4 2)) (λ_ _ _ _ _ _ nd=>c9 (i:=0) nd (by decide)) (λ_ _ _ _ _ _=>fO) (λ_ _ _ _ _ _=>(aX KI hr (aE (nE (nE (eD (x4 2) (x4 1)) i4) (x4 0)) (aE (x4 1) aI)))))) aI)))))))))
def DK(F:Df K mg "_law_verdict" (top 46) ["_law_one","_law_other"])(yM:Cl P w K mg base cK kk "_law_counts" ["_law_order_here"] (dJ K hJ))(KL:Cl P w K mg base cK kk "_law_laying" ["_law_one","_law_other"] (dJ K kB.jM))(aK:mg "range"=ab):Cl P w K mg base cK (kk+1) "_law_verdict" ["_law_one","_law_other"] (dJ K fL):=by
 refine j9 (N:=["_law_one","_law_other","_law_found","_law_counts_here","_law_others","_law_k"]) F (λhr nd=>?_);exact(aR (b7 (i:=2) nd (aX KL hr (aE (x4 0) (aE (x4 1) aI))))
  (aR (fF (XM (x4 2) n4)
   (aM (b9 (fT (aE s4 (aE (x4 2) aI)))))
   fK)
  (aR (b7 (i:=3) nd (aX yM hr (aE (x4 0) aI)))
  (aR (b7 (i:=4) nd (aX yM hr (aE (x4 1) aI)))
  (aR (iD rfl fu (bR aK i4) (fI (i:=5) nd)
   (aM (fF (PK (fJ (x4 3) (x4 5)) (fJ (x4 4) (x4 5)))
    (aM (b9 (fT (aE s4 (aE (x4 5) aI)))))
    fK)))
  (aM (b9 (fT (aE s4 aI)))))))))
def KN(F:Df K mg "_law_tower" (top 47) ["_law_word","_law_layers","_law_draws_here"])(aU:mg "len"=ab)(aK:mg "range"=ab)(bF:mg "sorted"=ab)(bJ:mg "tuple"=ab):Cl P w K mg base cK (kk+1) "_law_tower" ["_law_word","_law_layers","_law_draws_here"] (dJ K hV):=by
 refine j9 (N:=["_law_word","_law_layers","_law_draws_here","_law_low","_law_j","_law_under","_law_i"]) F (λhr nd=>?_);exact(aR (GG (i:=3) nd)
  (aR (iD rfl fu (bR aK (e8 aU (aE (x4 0) aI))) (fI (i:=4) nd)
   (aR (b7 (i:=5) nd (fR.pe (kU aI)))
   (aR (iD rfl fu (bR aK (x4 4)) (fI (i:=6) nd)
    (aM (fF (DM.pt (VT (r9 (fJ (x4 1) (x4 6)) (fJ (x4 1) (x4 4))) (VS (rL (i8 (fJ (x4 2) (nE (eD (eD i4 (tQ i4 (x4 4))) (x4 4)) (x4 6))) i4) i4))))
     (aM (Cm (i:=5) nd (Cn (x4 5) (fR.pe (eB (ls:=["_law_a"]) (fs:=["_law_under"]) (fr:=[5]) rfl (fD (eD (sr (u1 hr) (x4 3) (fJ (x4 0) (x4 6))) (fR.pe (kU (aE (fJ (x4 0) (x4 6)) aI))))) (λ_ _ _ _ _ _ nd=>c9 (i:=0) nd (by decide)) (λ_ _ _ _ _ _=>iC (x6 (x4 0) (x4 1))) (λ_ _ _ _ _ _=>(x4 0)))))))
     fK)))
   (aM (Bp (i:=3) (u1 hr) (p7 (x4 5)) (fJ (x4 0) (x4 4)))))))
  (aM (b9 (iU bJ (aE (fR.pe (eB (ls:=["_law_b"]) (fs:=["_law_low"]) (fr:=[3]) rfl (bR aK (e8 aU (aE (x4 0) aI))) (λ_ _ _ _ _ _ nd=>c9 (i:=0) nd (by decide)) (λ_ _ _ _ _ _=>fO) (λ_ _ _ _ _ _=>(iU bJ (aE (fR.pe (vK bF (aE (sr (u1 hr) (x4 1) (x4 0)) aI))) aI))))) aI))))))
def QZ(F:Df K mg "_law_tall" (top 48) ["_law_script"])(BG:Cl P w K mg base cK kk "_law_tower" ["_law_word","_law_layers","_law_draws_here"] (dJ K hV))(f6:Cl P w K mg base cK kk "_law_named_alike" ["_law_order_here","_law_draws_here"] (dJ K kB.cH))(eT:Cl P w K mg base cK kk "_law_draws" ["_law_cell_here","_law_many","_law_salt"] (dJ K LL.dB))(fP:Cl P w K mg base cK kk "_law_cell" ["_law_script","_law_k"] (dJ K LL.dY))(aK:mg "range"=ab)(uN:mg "int"=ab)(lY:mg "list"=ab):Cl P w K mg base cK (kk+1) "_law_tall" ["_law_script"] (dJ K kO):=by
 refine j9 (N:=["_law_script","_law_draws_here","_law_n","_law_word","_law_k","_law_at","_law_layers","_law_j","_law_fresh","_law_one"]) F (λhr nd=>?_);exact(aR (b7 (i:=1) nd (aX eT hr (aE (aX fP hr (aE (x4 0) (aE i4 aI))) (aE i4 (aE i4 aI)))))
  (aR (b7 (i:=2) nd (eD i4 (i8 (fJ (x4 1) i4) i4)))
  (aR (tS (i:=3) nd (Rc (fR.pe (p6 rfl lY aK (aE (x4 2) aI))) (sy i4)))
  (aR (iD rfl fu (bR aK (i8 (fJ (x4 1) i4) i4)) (fI (i:=4) nd)
   (aR (b7 (i:=5) nd (i8 (fJ (x4 1) (eD i4 (x4 4))) (nE (x4 2) i4)))
   (aM (M8 (px4 (fT (aE (fJ (x4 3) (eD (x4 5) i4)) (aE (fJ (x4 3) (x4 5)) aI)))) (Bl rfl (M7 (i:=3) (x4 5)) (M7 (i:=3) (eD (x4 5) i4)))))))
  (aR (tS (i:=6) nd (kU (aE i4 aI)))
  (aR (iD rfl fu (aA3 aK i4 (x4 2)) (fI (i:=7) nd)
   (aR (Ck (i:=8) nd (px4 (or4 (gt4 (i8 (fJ (x4 1) (eD i4 (x4 7))) i4) i4) (r6 (gt4 (aAr (x4 6) (fJ (x4 6) (sy i4))) i4)))))
   (aM (oU (C2 (i:=6) (px4 (eD (fJ (x4 6) (sy i4)) (Kf rfl uN (aE (x4 8) aI)))))))))
  (aR (Ck (i:=9) nd (px4 (aX BG hr (aE (x4 3) (aE (x4 6) (aE (x4 1) aI))))))
  (aR (fF (rL (i8 (fJ (x4 1) i4) i4) i4)
   (aM (b9 (fT (aE (x4 9) (aE (aX f6 hr (aE (x4 9) (aE (aX eT hr (aE (aX fP hr (aE (x4 0) (aE i4 aI))) (aE (x4 2) (aE i4 aI)))) aI))) aI)))))
   fK)
  (aR (b7 (i:=5) nd (i8 (fJ (x4 1) i4) (nE (x4 2) i4)))
  (aR (M8 (px4 (fT (aE (fJ (x4 3) (eD (x4 5) i4)) (aE (fJ (x4 3) (x4 5)) aI)))) (Bl rfl (M7 (i:=3) (x4 5)) (M7 (i:=3) (eD (x4 5) i4))))
  (aM (b9 (fT (aE (x4 9) (aE (aX BG hr (aE (x4 3) (aE (x4 6) (aE (x4 1) aI)))) aI)))))))))))))))
def Wk{f:ag}{fd:gq}(F:Fun K "law" "law" (top 49) f fd)(rY:Cl P w K mg base cK kk "_law_same" ["_law_found","_law_due"] (dJ K (LL.eP 6)))(uO:Cl P w K mg base cK kk "_law_verdict" ["_law_one","_law_other"] (dJ K fL))(rZ:Cl P w K mg base cK kk "told_apart" ["one","other"] (dJ K sA.eZ))(eT:Cl P w K mg base cK kk "_law_draws" ["_law_cell_here","_law_many","_law_salt"] (dJ K LL.dB))(fP:Cl P w K mg base cK kk "_law_cell" ["_law_script","_law_k"] (dJ K LL.dY))(XU:Cl P w K mg base cK kk "_law_tall" ["_law_script"] (dJ K kO))(aAs:Cl P w K mg base cK kk "_law_two" ["_law_script","_law_k","_law_most","_law_salt"] (dJ K kB.nY)):lQ P w K mg base cK (kk+1) f fd ["_law_script"] (dJ K z7):=by
 have S:i7 ["_law_script","_law_one","_law_other"] ["_law_script"] (bV (top 49)):=⟨rfl,rfl,rfl,by decide+kernel,rfl,by decide+kernel,by decide+kernel⟩;have nd:=S.nd;refine zx F S rfl rfl (λ_ _ _ _ _ _ hr=>?_);exact(aR (M8 (p7 (aX aAs hr (aE (x4 0) (aE i4 (aE i4 (aE i4 aI)))))) (GH (i:=1) (j:=2) rfl nd))
  (aR (fF (rL (i8 (fJ (aX eT hr (aE (aX fP hr (aE (x4 0) (aE i4 aI))) (aE i4 (aE i4 aI)))) i4) i4) i4)
   (aM (M8 (p7 (aX XU hr (aE (x4 0) aI))) (GH (i:=1) (j:=2) rfl nd)))
   fK)
  (aR (fF (MR (tR (aX rY hr (aE (aX rZ hr (aE (x4 1) (aE (x4 2) aI))) (aE (aX uO hr (aE (x4 1) (aE (x4 2) aI))) aI)))))
   (aM (b9 b4))
   fK)
  (aM (b9 (aX rY hr (aE (aX rZ hr (aE (x4 2) (aE (x4 1) aI))) (aE (aX uO hr (aE (x4 2) (aE (x4 1) aI))) aI))))))))
end
theorem all_mk{l:qe}{w:az}{K:ao}{h:a_}{mg:Q0d}{fa:ag}(X:K.In h)(G:h.Ns h_ mg)(hfa:mg "law"=aa (.ref fa))
  (D1:Df K mg "ties_of" (top 1) ["order"])
  (D2:Df K mg "is_bare" (top 2) ["order","tie"])
  (D3:Df K mg "ready_things" (top 4) ["order","ahead"])
  (D4:Df K mg "joined" (top 5) ["ahead","thing"])
  (D5:Df K mg "added" (top 10) ["one","other"])
  (D6:Df K mg "one_descent_more" (top 9) ["shares"])
  (D7:Df K mg "find_shares" (top 8) ["order","ahead","last","shares"])
  (D8:Df K mg "shares_on" (top 7) ["order"])
  (D9:Df K mg "shares_by_descents" (top 6) ["order"])
  (D10:Df K mg "chosen" (top 12) ["x","m"])
  (D11:Df K mg "sum_over_descents" (top 13) ["shares","n","k"])
  (D12:Df K mg "first_differences" (top 15) ["values"])
  (D13:Df K mg "shares_by_steps" (top 14) ["order"])
  (D14:Df K mg "kind_of" (top 19) ["order","tie"])
  (D15:Df K mg "ties_by_kind" (top 18) ["order"])
  (D16:Df K mg "look_of" (top 21) ["kinds","thing"])
  (D17:Df K mg "looks_of" (top 20) ["order","kinds"])
  (D18:Df K mg "goes_on" (top 24) ["kinds","other_kinds","begun","thing"])
  (D19:Df K mg "first_laid" (top 23) ["kinds","other_kinds","choices","begun"])
  (D20:Df K mg "places_of" (top 22) ["look","looks"])
  (D21:Df K mg "laying" (top 17) ["one","other"])
  (D22:Df K mg "share_at" (top 27) ["shares","place"])
  (D23:Df K mg "first_unlike" (top 26) ["shares","others"])
  (D24:Df K mg "told_apart" (top 25) ["one","other"])
  (D25:Df K mg "_law_cell" (top 29) ["_law_script","_law_k"])
  (D26:Df K mg "_law_mixed" (top 30) ["_law_cell_here","_law_k","_law_salt"])
  (D27:Df K mg "_law_draws" (top 31) ["_law_cell_here","_law_many","_law_salt"])
  (D28:Df K mg "_law_order" (top 32) ["_law_draws_here","_law_n","_law_thick"])
  (D29:Df K mg "_law_drawn" (top 33) ["_law_script","_law_k","_law_most","_law_salt"])
  (D30:Df K mg "_law_same" (top 34) ["_law_found","_law_due"])
  (D31:Df K mg "_law_ties" (top 35) ["_law_order_here"])
  (D32:Df K mg "_law_goings" (top 36) ["_law_order_here"])
  (D33:Df K mg "_law_descents" (top 37) ["_law_word"])
  (D34:Df K mg "_law_chosen" (top 38) ["_law_x","_law_m"])
  (D35:Df K mg "_law_bare" (top 39) ["_law_order_here"])
  (D36:Df K mg "_law_fits" (top 40) ["_law_one","_law_other","_law_bare_here","_law_laid"])
  (D37:Df K mg "_law_laying" (top 41) ["_law_one","_law_other"])
  (D38:Df K mg "_law_named" (top 42) ["_law_order_here","_law_word"])
  (D39:Df K mg "_law_named_alike" (top 43) ["_law_order_here","_law_draws_here"])
  (D40:Df K mg "_law_two" (top 44) ["_law_script","_law_k","_law_most","_law_salt"])
  (D41:Df K mg "_law_counts" (top 45) ["_law_order_here"])
  (D42:Df K mg "_law_verdict" (top 46) ["_law_one","_law_other"])
  (D43:Df K mg "_law_tower" (top 47) ["_law_word","_law_layers","_law_draws_here"])
  (D44:Df K mg "_law_tall" (top 48) ["_law_script"])
  (D45:Df K mg "law" (top 49) ["_law_script"])
  (bF:mg "sorted"=ab) (bJ:mg "tuple"=ab) (cV:mg "enumerate"=ab) (BB:mg "any"=ab) (k8:mg "all"=ab) (aU:mg "len"=ab) (aK:mg "range"=ab) (BC:mg "zip"=ab) (oY:mg "max"=ab) (BD:mg "sum"=ab) (lY:mg "list"=ab) (cP:mg "isinstance"=ab) (NI:mg "str"=ab) (uN:mg "int"=ab) (tZ:mg "bool"=ab) (XS:mg "min"=ab):
  ∃fd:gq,(∀(s:ak) (v:ai),qo s fd ⟨[v],[]⟩ [("_law_script",v)]) /\∀base:a_,K.In base->base.Ns h_ mg->lQ l.prog w K mg base cK 20 fa fd ["_law_script"] (dJ K z7):=by
 obtain @⟨_,fd,_,F,m,_⟩:=D45;cases hfa.symm.trans m;refine⟨fd,λs v=>?_,λbase _ _=>?_⟩
 .obtain ⟨_,_,_,_,_,_,_,_,_,e,_⟩:=F.ex;rw[e];exact .of_eq rfl
 have o1:=J3 l.prog w base 3 D1 bF bJ cV;have o2:=J4 l.prog w base 3 D2 BB;have o3:=u4 l.prog w base 3 D3 k8 aU aK;have o4:=QN l.prog w base 3 D4 bF bJ;have o5:=XN l.prog w base 3 D5 BC;have o6:=oH l.prog w base 3 D6 ;have o7:=nI l.prog w base 4 D7 o3.up o5.up o6.up o4.up aU oY 11;have o8:=DH l.prog w base 15 D8 o7.up;have o9:=mE l.prog w base 16 D9 o8.up bJ;have Ik:=QO l.prog w base 3 D10 aK;have Ij:=nJ l.prog w base 4 D11 Ik.up cV BD;have Ii:=nK l.prog w base 3 D12 bJ BC;have Ih:=qA l.prog w base 17 D13 Ii.up Ij.up o9.up aK aU;have Ig:=J5 l.prog w base 4 D14 o2.up;have Ie:=u5 l.prog w base 5 D15 o1.up Ig.up;have Ic:=J6 l.prog w base 3 D16 bF;have Ib:=GY l.prog w base 4 D17 Ic.up aU aK;have Ia:=J7 l.prog w base 3 D18 cV aU;have H_:=oZ l.prog w base 4 D19 Ia.up aU 11;have Hz:=DI l.prog w base 3 D20 cV;have Hy:=QT l.prog w base 15 D21 H_.up Hz.up Ib.up Ie.up bF;have Hw:=G0 l.prog w base 3 D22 aU;have Hv:=u6 l.prog w base 4 D23 Hw.up aK aU oY;have Hu:=zG l.prog w base 18 D24 Hv.up Ih.up Hy.up;have rk:=QU l.prog w base 3 D25 aU;have Ht:=J8 l.prog w base 3 D26 ;have rj:=J9 l.prog w base 4 D27 Ht.up aK;have zl:=KC l.prog w base 3 D28 aK bF bJ aU lY;have Hs:=KG l.prog w base 5 D29 zl.up rj.up rk.up;have Hr:=BE l.prog w base 3 D30 cP NI uN tZ bJ aU aK k8 6;have zk:=QW l.prog w base 3 D31 bF aU aK;have Hq:=G2 l.prog w base 3 D32 aU aK k8;have Ho:=zH l.prog w base 3 D33 aU aK;have Hn:=G3 l.prog w base 3 D34 aK;have zj:=QX l.prog w base 4 D35 zk.up BB;have Hm:=QY l.prog w base 3 D36 aK aU;have Hl:=G4 l.prog w base 5 D37 Hm.up zj.up aU aK;have zi:=KH l.prog w base 3 D38 bJ bF;have zh:=t6 l.prog w base 5 D39 zi.up zj.up aU aK k8 oY XS;have Hk:=XT l.prog w base 6 D40 zl.up rj.up rk.up Hs.up zh.up zk.up zi.up aK bF bJ aU lY;have Hj:=G5 l.prog w base 4 D41 Hn.up Hq.up Ho.up aK BD aU;have Hi:=DK l.prog w base 6 D42 Hj.up Hl.up aK;have Hh:=KN l.prog w base 3 D43 aU aK bF bJ;have Hg:=QZ l.prog w base 6 D44 Hh.up zh.up rj.up rk.up aK uN lY;exact Wk l.prog w base 19 F Hr.up Hi.up Hu.up rj.up rk.up Hg.up Hk.up
def Wj{K:ao}{H:Hp}{a:ag}{ns:Q0e}(o:Only H)(h:eE K H a (ns.map V.int)):Scr K H a ns:=by
 rcases h with h|h
 .rcases h with h|⟨b,h⟩
  .rcases o a with z|⟨_,_,z⟩|⟨_,z⟩<;>rw[z] at h<;>cases h
  .exact .inl ⟨b,h⟩
 .exact .inr (.inr h)
theorem walk{l:qe}{q:bf}{loose:Q0g}{XP:(aj->Option ai)->a_->Prop}{YP:az->a_->Prop}{d:DefRec}{K:Params->ao}(hn:l.most=aa 63)(hdf:d.params.defaults=[])
  (hY:∀(w:az) (h:a_),YP w h->(K w.params).In h) (rm:∀w:az,TabsOk (K w.params) q) (hnt:∀w:az,noTabs (K w.params)=ae)
  (F:∀(w:az) (mg:Q0d) (fa:ag) (h:a_),(K w.params).In h->h.Ns h_ mg->mg d.name=aa (.ref fa) ->
   ∃fd:gq,(∀(s:ak) (u:ai),qo s fd ⟨[u],[]⟩ [("_law_script",u)]) /\∀base:a_,(K w.params).In base->base.Ns h_ mg->lQ l.prog w (K w.params) mg base cK 20 fa fd ["_law_script"] (dJ (K w.params) z7)):
  D_ q loose XP YP l.row.toRowW d [] (λf vs=>Du f vs) :=
 L2.Z7 (n:=63) (k:=20) (x:="_law_script") (CX:=λ_=>cK) (sp:=λw=>dJ (K w.params) z7) hn (by decide) hdf ⟨rfl,by decide,by decide⟩ hY rm hnt F
  (λ_ H a ns hl o hS=>⟨λa=>H a=ab,[.jD ns],λd=>d=.bl ae,λ_ h=>h,⟨_,_,rfl,⟨a,rfl,Wj o hS⟩,rfl⟩,⟨_,TR ns hl,rfl⟩,λv H' d _ hd e=>by subst e;exact hd⟩) λ_ _ _ _ _ z=>z
end K52
open PySem.W PyProof.Rows
def PySem.W.Fast.tw5817290218923026053 := 0
def PySem.W.Fast.tw10903684250669324371 := 0
def PySem.W.Fast.tw4138661562111251117 := 0
def PySem.W.Fast.tw7332508919484029960 := 0
def PySem.W.Fast.tw11626006234229086623 := 0
def PySem.W.Fast.tw6300047742120877075 := 0
def PySem.W.Fast.tw3473216274328261438 := 0
def PySem.W.Fast.tw10643642951310576253 := 0
def PySem.W.Fast.tw16166330147953497834 := 0
def PySem.W.Fast.tw126375833478242995 := 0
def PySem.W.Fast.tw2631354539991347004 := 0
def PySem.W.Fast.tw6566526810173829376 := 0
def PySem.W.Fast.tw9377965914791331423 := 0
def PySem.W.Fast.tw15234410087690561499 := 0
def PySem.W.Fast.tw7597338458522534226 := 0
def PySem.W.Fast.tw1319882098655106585 := 0
def PySem.W.Fast.tw6950460159989836339 := 0
def PySem.W.Fast.tw10637461033159941226 := 0
def PySem.W.Fast.tw13560970581552035488 := 0
def PySem.W.Fast.tw6711831974080898610 := 0
def PySem.W.Fast.tw14318172944175538025 := 0
def PySem.W.Fast.tw15283611058302165754 := 0
def PySem.W.Fast.tw7275335877904436133 := 0
def PySem.W.Fast.tw16092406709211484314 := 0
def PySem.W.Fast.tw3928105198834136243 := 0
def PySem.W.Fast.tw7573708632493543058 := 0
def PySem.W.Fast.tw3810090771463424516 := 0
def PySem.W.Fast.tw16111426609558992651 := 0
def PySem.W.Fast.tw1075334075942497902 := 0
def PySem.W.Fast.tw224260321299226472 := 0
def PySem.W.Fast.tw7597747791676557332 := 0
def PySem.W.Fast.tw10336944732885450335 := 0
def PySem.W.Fast.tw1317529937709228574 := 0
def PySem.W.Fast.tw7972089882471388478 := 0
def PySem.W.Fast.tw9551870459693490130 := 0
def PySem.W.Fast.tw5836211440534506633 := 0
def PySem.W.Fast.tw4100840064909011299 := 0
def PySem.W.Fast.tw642353535250568343 := 0
def PySem.W.Fast.tw4610830159979857750 := 0
def PySem.W.Fast.tw14816536360755921650 := 0
def PySem.W.Fast.tw10514758423092841913 := 0
def PySem.W.Fast.tw16842947069580062810 := 0
def PySem.W.Fast.tw15819174049153733180 := 0
def PySem.W.Fast.tw17145688706323203717 := 0
set_option maxRecDepth 100000 in
set_option maxHeartbeats 0 in
theorem PySem.Challenge.cw_risecount_k52_whole_alike_or_apart_holds : PySem.Challenge.rw_risecount_k52_whole_alike_or_apart.Holds := by
 w_on; o_law; k_head; (case hw=>w_witness2)
 k_fill
 refine K52.walk (l := PySem.Challenge.rw_risecount_k52_whole_alike_or_apart) rfl rfl (fun w h Y => PySem.W.kIn_of Y) ?hTbs ?hNtb ?F
 case hTbs =>
  intro w
  refine' L4.tabs_ok (L4.QF ?t1 ?t2 ?t3 ?t4 ?t5) ?nd ?rc
  (case t1=>(refine' L4.nH ?p1; (case p1=>k_is)))
  (case t2=>(refine' L4.nH ?p1; (case p1=>k_is)))
  (case t3=>(refine' L4.nH ?p1; (case p1=>k_is)))
  (case t4=>(refine' L4.nH ?p1; (case p1=>k_is)))
  (case t5=>(refine' L4.nH ?p1; (case p1=>k_is)))
  (case nd=>decide)
  (case rc=>(intro t ht; cases ht))
 case hNtb =>
  intro w
  kernel_rfl
 case F =>
  intro w mg fa h KX G hmg
  refine' K52.all_mk KX G hmg ?_ ?_ ?_ ?_ ?_ ?_ ?_ ?_ ?_ ?_ ?_ ?_ ?_ ?_ ?_ ?_ ?_ ?_ ?_ ?_ ?_ ?_ ?_ ?_ ?_ ?_ ?_ ?_ ?_ ?_ ?_ ?_ ?_ ?_ ?_ ?_ ?_ ?_ ?_ ?_ ?_ ?_ ?_ ?_ ?_ ?_ ?_ ?_ ?_ ?_ ?_ ?_ ?_ ?_ ?_ ?_ ?_ ?_ ?_ ?_ ?_
  all_goals first | exact PySem.W.mg_none_of KX G (by k_is) | (refine' L4.aG7 KX G ?b ?a ?l ?c ?k; (case a=>k_is); (case l=>k_is); (case c=>k_is); (case k=>k_is); (case b=>(intro us hl; first | (obtain ⟨_,rfl⟩:=L4.aAd us hl; rfl) | (obtain ⟨_,_,rfl⟩:=L4.aAe us hl; rfl) | (obtain ⟨_,_,_,rfl⟩:=L4.aAf us hl; rfl) | (obtain ⟨_,_,_,_,rfl⟩:=L4.aAg us hl; rfl))))
end
