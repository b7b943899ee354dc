import PyProof.Rows.All
import PySem.Str
import PySem.Sem
import PyProof.StrBlockL
import PyProof.Rows.Walk
import Wide.All
import OpenK.AllK
import Wide.FinOn
import Lean
import PyProof.EqAt
import PyProof.EqKinds
import PyProof.TupleCall
import PyProof.SeqRoads2
import PyProof.ExcArgs
import KE.KIsAll
import PyProof.DictIter
import PyProof.Rows.CountFlat
import PyProof.NeKinds
import KE.KSortKey
import KE.KMinKey
import PySem.Challenge.RW_risecount_k16_whole_fillings_numbered
set_option Elab.async false
set_option linter.all false
set_option maxRecDepth 100000
set_option maxHeartbeats 3999999
open PySem.W (CodeHd OpenLaw codeIn excIn fnOf hideAll instObj keepIn lookIn methodObj noTabs tabObj)
open And renaming intro->vz
open Array renaming forIn_toList->a2C,getElem?_eq_getElem->qh,length_toList->sx,toList->a2B,toList_append->a2A
open Array.Perm renaming refl->sy
open Bool renaming and_eq_false_imp->I_,and_eq_true->iu,and_eq_true_iff->a2z,and_false->a2y,eq_iff_iff->mj,false->ag,false_and->sr,false_eq_true->oo,false_ne_true->bp,not_eq_true->a2x,not_eq_true'->Iz,not_false->Ar,not_true->Aq,or_eq_false_iff->Iy,true->af,true_and->vy
open Classical renaming byContradiction->mi,epsilon->a2w,epsilon_spec->a2v,propDecidable->Iw
open Decidable renaming decide->Zv
open Eq renaming trans->Iu
open False renaming elim->js
open ForInStep renaming done->a2u,yield->mh
open Function renaming comp->a3H,comp_def->a3G
open Int renaming add_mul->Ap,add_zero->vx,emod_lt_of_pos->om,emod_nonneg->lj,eq_of_mul_eq_mul_right->a2t,le_of_lt->Ir,le_refl->oj,le_trans->Iq,mul_assoc->Ao,mul_comm->oi,mul_one->a2s,natAbs_mul->a2r,ne_of_gt->a2q,ofNat_sub->Ip,one_mul->a2p,pow_pos->a2o,pow_succ->a2n,sub_zero->a2m,toNat_natCast->jr,zero_add->j_,zero_mul->qg
open List renaming Nodup->Io,all_cons->oh,all_eq_true->gp,all_map->qf,any_cons->mf,any_eq_true->a2k,append_assoc->og,append_inj'->Am,append_nil->ij,append_of_mem->n_,concat_eq_append->Il,cons_append->vt,drop_drop->a2i,drop_eq_getElem_cons->r_,drop_eq_nil_iff->a2h,drop_eq_nil_of_le->a2g,drop_length->Ik,drop_zero->nz,eq_nil_of_length_eq_zero->Ij,eq_nil_or_concat->vq,eq_of_mem_replicate->a2f,ext_getElem->Ii,ext_getElem?->Ak,filterMap_cons->Ih,filter_append->Ig,filter_congr->Ie,filter_cons->vp,filter_eq_nil_iff->a2e,filter_eq_self->a2d,filter_nil->a2c,find?_cons->ig,flatten_cons->qe,foldl->Ic,foldl_cons->me,forIn_cons->lh,forIn_nil->vn,fst_mem_of_mem_zipIdx->a2b,getD_eq_getElem?_getD->j7,getElem?_append_left->jz,getElem?_append_right->jy,getElem?_cons_succ->la,getElem?_cons_zero->r9,getElem?_drop->Ib,getElem?_eq_getElem->bw,getElem?_eq_none->jq,getElem?_eq_some_iff->cb,getElem?_map->cf,getElem?_nil->Ia,getElem?_range->r6,getElem?_replicate->jj,getElem?_set_ne->jo,getElem?_set_self->md,getElem?_take_of_lt->Aj,getElem?_zipIdx->Ai,getElem?_zip_eq_some->Ah,getElem_inj->a2a,getElem_map->qd,getElem_mem->k_,getElem_of_mem->Ag,getElem_toArray->a19,length->ny,length_append->di,length_cons->cx,length_drop->qc,length_eq_zero_iff->vm,length_filter_le->qb,length_map->a_,length_nil->iq,length_pos_iff->H_,length_pos_of_mem->a18,length_range->nu,length_replicate->ie,length_set->gn,length_singleton->Af,length_take->kz,length_zip->a17,length_zipIdx->a16,lookup_append->Hz,lookup_cons->rn,map->a15,map_append->g_,map_congr_left->f_,map_cons->bj,map_id->Hy,map_inj_right->a14,map_map->de,map_nil->ma,map_take->Hx,mem_append->gm,mem_append_left->gj,mem_append_right->gq,mem_cons->bh,mem_cons_of_mem->fj,mem_cons_self->b_,mem_filter->ji,mem_filterMap->qa,mem_flatMap->Hw,mem_iff_getElem?->Ae,mem_map->fw,mem_map_of_mem->Hv,mem_of_getElem?->l_,mem_range->lz,mem_singleton->cc,nil_append->ku,nodup_append->rm,nodup_cons->kr,nodup_nil->rj,nodup_range->a13,not_mem_nil->ib,of_mem_zip->rh,pairwise_append->vk,pairwise_cons->ft,pairwise_iff_getElem->vj,pairwise_lt_range->Hu,pairwise_map->nq,range->bz,range_succ->a12,range_succ_eq_map->Ht,replicate->bu,replicate_succ->jh,replicate_zero->Ad,set_cons_succ->Ac,set_cons_zero->Ab,set_nil->Hs,size_toArray->bt,sum->nj,sum_append->vi,sum_cons->ia,take_add_one->Hr,take_append_drop->a1Z,take_length->a1Y,take_of_length_le->rf,take_sublist->a1X,take_zero->a1W,toArray->Aa,zipIdx_cons->a1V,zip_append->a1U,zip_cons_cons->a1T,zip_map->a1S
open List.Nodup renaming idxOf_getElem->vw,sublist->a3F
open List.Pairwise renaming filter->vv,imp->An,imp_of_mem->a2l,map->si,nil->Im
open List.Perm renaming refl->a3E,swap->a3D
open List.cons renaming inj->Al,injEq->a2j
open Nat renaming add_assoc->a1R,add_left_cancel->a1Q,le_add_right->jn,le_of_eq->nh,le_of_lt->kq,le_refl->bg,le_succ->p_,le_trans->gx,lt_asymm->a1P,lt_irrefl->jb,lt_log2_self->a1O,lt_of_lt_of_eq->a1N,lt_of_lt_of_le->fz,lt_succ_of_lt->p0,lt_succ_self->vh,lt_trans->a1M,ne_of_gt->ko,ne_of_lt->e_,pow_le_pow_right->z_,sub_self->Hq,sub_zero->pz,succ_mul->Ho,succ_ne_self->a1L,zero_add->kj,zero_le->jm
open Ne renaming symm->d_
open Option renaming bind_none->Hn,bind_some->c_,getD_none->a1K,isSome_map->zz,join_none->zy,join_some->zx,map_eq_some_iff->ip,map_none->Hm,map_some->ng,none->ae,some->aa
open Option.some renaming inj->cj
open Or renaming inl->cy,inr->br
open Prod.mk renaming inj->a1J
open PyProof.Rows renaming AllBare->kn,Call_->vg,IntsAre->jw,IsTup->gy,Subscript_->Hk,args_list_sort->a1H,args_sorted1->a1G,args_tuple_getitem->a1F,boot_all->a3C,boot_bool->vf,boot_int->ve,boot_isinstance->Hj,boot_list->a3B,boot_max->Hi,boot_range->a1E,boot_sorted->zw,boot_str->a3A,boot_sum->a3z,boot_tuple->zv,bubble_perm->a1D,callWith_builtin1->a3y,callWith_type1->q_,entry_list_sort->Hh,entry_sorted->Hg,entry_tuple_getitem->a1C,fact_split->a3x,get?_update_seq->vd,kind_sorted->Hf,listItems_at->He,listUpdate_at->qz,plain_sorted->Hd,seqEpoch_at->zu,slicePart_none->a1B,slot_list_sort->Hc,slot_tuple_getitem->pw,sortedAll_at->a1A,sortedAll_old->a1z,subscriptTail_builtinR->a1y,truthy_tuple->a1x,tupleItemsOf_->a1w
open PyProof.Rows.IsTup renaming new->Hl
open PyProof.Rows.SortSt renaming mk'->a1I
open PySem renaming Addr->ah,Arguments->Hb,Around->bq,BindsTo->qx,Draws->jg,Env->dh,Expr->aw,Fin->zi,FuncData->fv,Heap->ay,IntMulOk->vc,IsEnum->vb,IsPair->dj,IsPart->kl,IsRangeIter->a06,IsZip->gu,Keyword->gi,Meets->u_,Model->uz,NameKind->ja,Obj->ax,Paired->i_,PassesOwn->qr,Pos->bf,Program->bc,Result->yx,Scope->fq,Shared->ak,Stmt->bx,Str->aj,Tok->gk,Value->ai,Within->a0F,World->ba,assignEach->dg,backTo->cu,cLine->cz,call->Gi,callType_new->a0E,call_max_walk->a0D,call_meets->oz,call_range_1->a0C,codeAny->mx,codeAny_builtin->ly,codeAny_call_builtin->a0B,codeAny_mono->Gh,concat_meets->Gf,eqIsQuiet_byValue->a0A,evalPart_none->a0z,fitsIndex_both->a0y,intBits_le_64->a0x,intItems_at->ym,isSubtype_tuple_tuple->a0w,keywordEach->kg,mainGlobals->df,mem_of_lookup->ju,model->av,name_of_addr->a0v,noFill_tuple_add->Ge,nums_intItems->Gb,plainId_quiet->ql,pushCells_keeps->a0u,rangeSize_one->Ga,richCompare_meets_room->a0t,seqIndex_neg->F_,seqIndex_of->Fz,seq_tuple_add->Fy,sizeLine->bb,sizeLine_eq->fm,slot_list_getitem->a0s,small_one->Fx,starEach->ar,swapsWith->dq,tupleKind_room_in1->a0r,typeIs_int->Fw,wpAny->au,wpAny_Assign_Subscript->a0q,wpAny_Call_Name_kw->yl,wpAny_Dict_empty->a0p,wpAny_Name->Fv,wpAny_assign_Name->a0o,wpAny_attempt->qk,wpAny_bind->aq,wpAny_call->yj,wpAny_callSpecial?_slot->oy,wpAny_call_entry->kc,wpAny_eqBool_int->a0n,wpAny_execs_cons->Fu,wpAny_execs_nil->yi,wpAny_field->il,wpAny_getItem_heap->a0m,wpAny_getItem_of->a0l,wpAny_holding->iw,wpAny_isInstance->Ft,wpAny_isTrue_Compare1->a0k,wpAny_letGo->ur,wpAny_load->Fs,wpAny_loadPart'->gr,wpAny_mono->ik,wpAny_newList->uq,wpAny_newObj_type->uo,wpAny_newTuple->Fq,wpAny_of_eq->a0j,wpAny_onRaise->yh,wpAny_passesOwn->ox,wpAny_pure->az,wpAny_pyIter_enum->yg,wpAny_pyIter_list->Fo,wpAny_pyIter_tuple->ou,wpAny_pyIter_zip->um,wpAny_rule->mw,wpAny_runValue->a0i,wpAny_seqItems->lr,wpAny_sequenceKey->a0h,wpAny_setField->a0g,wpAny_setField_rec->qj,wpAny_setFlight_noneW->a0f,wpAny_setItem_heap->a0e,wpAny_setItem_pairs->a0d,wpAny_specialOf->Fn,wpAny_standAt->Fm,wpAny_truthy_bool->kb,wpAny_truthy_list->a0c,wpAny_tupleItemsOf->a0b,wpAny_typeOf->Fl,wpAny_updateSeq_pair->Fj
open PySem.Around renaming frames_deeper->a1v,under_plainId->nc
open PySem.AutoListH renaming list___mul___list_int_3->a3w
open PySem.AutoSeq1 renaming list_extend_list_list_0->a3v,sub_list_list->a3u,sub_tuple_tuple->a3t
open PySem.Builtin.List renaming listTooLong->zt
open PySem.Builtin.ObjectAttr renaming dataDescriptor?->a3s,find->a3r
open PySem.Builtin.Range renaming rangeSize->zr,small->a3q
open PySem.Builtin.Slice renaming sliceAdjust->Ha,sliceApplied->a1u,sliceFields->a3p,slicePartIndex->a3o,slicePlaces->zq
open PySem.Builtin.SmallTypes renaming nextOf->qw,ownedTupleHandOut->a3n,ownedTupleIsFree->zp
open PySem.Builtin.Tuple renaming tupleExact->zo,tupleHashOf->a1t,tupleIsExact->a3m,tupleItemsOf->a1s
open PySem.Calls renaming Name_function_global->a1r,call_function_entry->a1q,evalArgs_plain->a1p
open PySem.CmpOf renaming ints_gt->a1o
open PySem.DictEntry renaming refKey->a3l
open PySem.EqMixed renaming eq_bool_str->a3k,eq_int_str->a3j,eq_str_bool->a3i,eq_str_int->a3h,ne_bool_str->a3g,ne_int_str->a3f,ne_str_bool->a3e,ne_str_int->a3d
open PySem.EqNone renaming eq_bool_none->a3c,eq_int_none->a3b,eq_none_bool->a3a,eq_none_int->a29,eq_none_none->a28,eq_none_str->a27,eq_str_none->a26,ne_bool_none->a25,ne_int_none->a24,ne_none_bool->a23,ne_none_int->a22,ne_none_none->a21,ne_none_str->a20,ne_str_none->a2Z
open PySem.F renaming args_tuple_add_2->G_,args_tuple_iterator_next_1->a1n,args_zip_next_1->Gz,entry_all_loop->a1m,entry_list_iadd->a1l,entry_proto_collect->a1k,entry_tuple_add->Gy,entry_tuple_iterator_next->a1j,entry_zip_next->Gx,excAttr_ValueError->a1i,plainAttrs_list->Gw,plain_all_loop->zm,plain_list_iadd->zk,plain_proto_collect->a1h,slot_dict_getitem->a1g,slot_int_rmul->a1f,slot_list_append->a1e,slot_list_count->a1d,slot_list_extend->a1c,slot_list_index->a1b,slot_list_pop->a1a,slot_tuple_add->Gv,slot_tuple_eq->a09,slot_tuple_iterator_next->zj,slot_zip_next->qv
open PySem.Heap renaming ExtBut->a08,SameBut->m_,get?_none_of_le->a07,get?_push_of_some->cn,get?_push_size->dm,get?_update_other->Gu,get?_update_self->y_,lt_size->bo,size_push->km
open PySem.Heap.DictOf renaming new->a2Y
open PySem.Heap.IsSliceOf renaming new->a2X
open PySem.Heap.SameBut renaming update->qu
open PySem.IsL renaming update->a2W
open PySem.MeetsSeq renaming list_pop_at->a2V
open PySem.MeetsSeq3 renaming entry_eq_loop->a05,plain_eq_loop->yz
open PySem.NameKind renaming cell->ki,free->jf
open PySem.Obj renaming data_mapFields->a04,mapSeq->fg,putSet->a03
open PySem.Paired renaming length->qt,snoc->yy
open PySem.PassesOwn renaming never->gw
open PySem.SeqAt renaming EqAt->qq
open PySem.SeqAt.EqAt renaming bool_bool->a02,bool_int->a2U,bool_none->a2T,bool_str->a2S,int_bool->a2R,int_int->Gs,int_none->a2Q,int_str->a01,int_tuple->a2P,none_bool->a2O,none_int->a2N,none_str->a2M,same->Gr,str_bool->a2L,str_int->a00,str_none->a2K,str_str->a2J,str_tuple->a2I,tuple_int->a2H,tuple_str->a2G
open PySem.SeqAt.RcAt renaming lists->a2F,lists_lengths->a2E
open PySem.Str renaming ofString->pq
open PySem.Txt renaming split->pj
open PySem.Value renaming bool->kh,builtin->a0Z,float->a0Y,int->jv,isInt->a0X,isStrOf->a0W,none->je,ref->cp,str->yw,type->ph
open PySem.Value.ref renaming inj->a2D
open PySem.W renaming Frag->ao,KasT->pf,KatTups->yu,Looks->uy,OpenLaw->qp,WalkO->Gq,cellsFrom_some->a0Q,exmOne->a0P,findIn->a0O,funFrames_hide->a0N,hideAll_get->ux,hideAll_none->uw,isClsIn->a0M,kas_asc->jd,kas_ask->uv,kas_bin->yt,kas_count->yr,kas_desc->o_,kas_descPart->yq,kas_place->jl,kas_rev->iz,kas_sort->my,kas_tail3->Gp,kia_one->jc,kitOne->qo,kitx_dict->a0L,kitx_list->Gm,kitx_tuple->a0K,kla_fn->yp,kla_obj->yo,looks_findIn->Gk,mg_of->iy,nsIn->h_,of_hideAll->Gj,plainGet->a0J,subIn->qm,tabIn->uu,tail_of_in->a0I,typeIn->a0H
open PySem.W.KF renaming slot_gs->a0V
open PySem.W.KasT renaming ret->mz
open PySem.W.KatTups renaming cons->a0U
open PySem.W.Looks renaming of_pure->a0T
open PySem.W.WData renaming int->a0S
open PySem.W.WShape renaming has->a0R
open PySem.Walks renaming list->a0G
open Sum renaming inl->cm,inr->jk
open Sum.inl renaming inj->yf,injEq->a0a
open Sum.inr renaming inj->Fi
open True renaming intro->jt
open PySem
set_option genSizeOf false
set_option compiler.extract_closed false
set_option bootstrap.genMatcherCode false
noncomputable section
local macro_rules|`(tactic|lia)=>`(tactic|omega)
local macro_rules|`(∅)=>`(by omega)
local macro_rules|`(tactic|show $t)=>`(tactic|first|refine $t|fail)
set_option hygiene false
local macro_rules|`(tactic|symm$[$l:location]?)=>`(tactic|simp only[Dn]$[$l]?)
set_option hygiene true
local macro_rules|`(tactic|walk_at "0")=>`(tactic|first|show .inl rfl|show .inr rfl)
local macro_rules|`(tactic|walk_at "1")=>`(tactic|first|show cy rfl|show br (cy rfl)|show br (br rfl))
local macro_rules|`(tactic|walk_at "2")=>`(tactic|first|show .inr rfl|show .inl rfl)
abbrev Q0a:=List (List Int)
abbrev Q0b:=List (ah×ax)
abbrev Q0c:=ai->ak->Prop
abbrev Q0d:=aj->Option ai
abbrev Q0e:=List Int
abbrev Q0f:=List ai
abbrev Q0g:=List aj
abbrev Z_.{u}:=@if_pos.{u}
abbrev Zz.{u}:=@if_neg.{u}
abbrev Zy:=@decide_eq_false
abbrev Zx:=@decide_eq_true
abbrev Zw.{u}:=@absurd.{u}

namespace L3
inductive D where
 |non
 |bl (b:Bool)
 |int (i:Int)
 |str (x:aj)
 |tup (xs:List D)
 |lst (xs:List D)
 |j6 (ns:Q0e)
 |kZ (ks:List (Sum Int aj)) (xs:List D)
 |c8 (q:Nat->ax->Prop) (ks:List (Sum (Sum Int aj) (List (Sum (Sum Int aj) (List (Sum Int aj)))))) (xs:List D)
 |exc (c:aj) (a:Nat)
 |rws (xs:Q0a)
mutual
noncomputable def D.A2:D->Bool
 |.non=>af
 |.bl _=>af
 |.int _=>af
 |.str _=>af
 |.tup ds=>rH ds
 |.lst _=>ag
 |.j6 _=>af
 |.kZ _ _=>ag
 |.c8 _ _ _=>ag
 |.exc _ _=>af
 |.rws _=>ag
noncomputable def rH:List D->Bool
 |[]=>af
 |d::ds=>d.A2&&rH ds
end
abbrev dW:=List (Option D)
inductive Sv where
 |no
 |ro (d:D)
 |ow (d:D)
abbrev bU:=List Sv
noncomputable def Sv.all:Sv->Option D
 |.no=>ae
 |.ro d=>aa d
 |.ow d=>aa d
noncomputable def Sv.rd:Sv->Option D
 |.ro d=>aa d
 |_=>ae
def bR(ρ:bU):dW:=ρ.map Sv.all
def jL(ρ:bU):dW:=ρ.map Sv.rd
end L3
namespace L4
open L3
inductive M (α:Type) where
 |no
 |ex (c:aj)
 |ok (a:α)
inductive Out where
 |no
 |nx (ρ:bU)
 |rt (d:D)
 |ex (c:aj)
abbrev EF:=dW->Option D
abbrev TF:=dW->Option Bool
abbrev AF:=dW->Option (List D)
abbrev XF:=bU->Option (bU×D)
abbrev SF:=bU->Out
abbrev jM:=List D->M D
def nU:Nat:=16777216
def aB(i:Nat):EF:=λρ=>(ρ[i]?).join
def eC(d:D):EF:=λ_=>aa d
def aE(g:D->D->Option D)(a b:EF):EF:=λρ=>(a ρ).bind λx=>(b ρ).bind λy=>g x y
noncomputable def lF:D->Option Bool
 |.bl b=>aa b
 |.lst ds=>aa (!ds.isEmpty)
 |.tup ds=>aa (!ds.isEmpty)
 |_=>ae
def tV(f:EF):TF:=λρ=>(f ρ).bind lF
def lO(t:TF):TF:=λρ=>(t ρ).map (!·)
def pQ(t u:TF):TF:=λρ=>(t ρ).bind λb=>if b=af then u ρ else aa ag
def wU(t u:TF):TF:=λρ=>(t ρ).bind λb=>if b=af then aa af else u ρ
noncomputable def nV:D->Option Bool
 |.bl b=>aa b
 |_=>ae
def lP(a b:EF):EF:=λρ=>(a ρ).bind λx=>(nV x).bind λc=>if c=af then b ρ else aa (.bl ag)
def tw(a b:EF):EF:=λρ=>(a ρ).bind λx=>(nV x).bind λc=>if c=af then aa (.bl af) else b ρ
def DH(a:EF):EF:=λρ=>(a ρ).bind λx=>(nV x).map λc=>.bl (!c)
def TN(t:TF)(a b:EF):EF:=λρ=>(t ρ).bind λc=>if c=af then a ρ else b ρ
noncomputable def ZC:D->Option D
 |.int i=>aa (.int (-i))
 |_=>ae
def PM(a:EF):EF:=λρ=>(a ρ).bind ZC
def f7(f g:D->D->Option D)(a b c:EF):EF:=λρ=>(a ρ).bind λx=>(b ρ).bind λy=>(f x y).bind λz=>(nV z).bind λk=>if k=af then(c ρ).bind λw=>g y w else aa (.bl ag)
noncomputable def JK(g:Int->Int->D):D->D->Option D
 |.int i,.int j=>aa (g i j)
 |_,_=>ae
noncomputable def p6(c:Int->Int->Bool)(g:Int->Int->D):D->D->Option D
 |.int i,.int j=>if c i j=af then aa (g i j) else ae
 |_,_=>ae
noncomputable def cD:D->D->Option D
 |.int i,.int j=>aa (.int (i+j))
 |.lst a,.lst b=>if a.length+b.length<=nU then aa (.lst (a++b)) else ae
 |.tup a,.tup b=>if a.length+b.length<=nU then aa (.tup (a++b)) else ae
 |.str a,.str b=>if a.length+b.length<=nU then aa (.str (a++b)) else ae
 |_,_=>ae
def gP:D->D->Option D:=JK λi j=>.int (i-j)
def xV(i j:Int):Bool:=Zv (i.natAbs<18446744073709551616)||Zv (j.natAbs<18446744073709551616)||Zv (i.natAbs.log2+j.natAbs.log2<=134217700)
def mulM:D->D->Option D:=p6 xV λi j=>.int (i*j)
def iU:D->D->Option D:=p6 (λ_ j=>Zv (0<j)) λi j=>.int (i%j)
def pR:D->D->Option D:=p6 (λ_ j=>Zv (0<j)&&Zv (j.natAbs<1073741824)) λi j=>.int (i/j)
def F9:D->D->Option D:=p6 (λi j=>Zv (0<=j)&&Zv (j.natAbs<=1000000)&&Zv (i.natAbs<18446744073709551616)) λi j=>.int (i^j.toNat)
def GA:D->D->Option D:=JK λi j=>.bl (Zv (i<j))
def DI:D->D->Option D:=JK λi j=>.bl (Zv (i<=j))
def pS:D->D->Option D:=JK λi j=>.bl (Zv (j<i))
def geM:D->D->Option D:=JK λi j=>.bl (Zv (j<=i))
noncomputable def Fh:D->D->Option Bool
 |.int i,.int j=>aa (Zv (i=j))
 |.bl i,.bl j=>aa (Zv (i=j))
 |.str i,.str j=>aa (Zv (i=j))
 |.non,.non=>aa af
 |_,_=>ae
def rG:D->D->Option D:=λx y=>(Fh x y).map .bl
def Y8:D->D->Option D:=λx y=>(Fh x y).map λb=>.bl (!b)
noncomputable def xW:D->Bool
 |.non=>af
 |_=>ag
def ZD:D->D->Option D:=λx y=>if xW y=af then aa (.bl (xW x)) else ae
noncomputable def intsOf:List D->Option (List Int)
 |[]=>aa []
 |.int i::ds=>(intsOf ds).map (i :: ·)
 |_::_=>ae
noncomputable def vG:List D->Option (List Bool)
 |[]=>aa []
 |.bl i::ds=>(vG ds).map (i :: ·)
 |_::_=>ae
def xX(neg:Bool):D->D->Option D
 |.int i,.tup ds=>(intsOf ds).map λns=>.bl (if neg then !ns.contains i else ns.contains i)
 |.int i,.lst ds=>(intsOf ds).map λns=>.bl (if neg then !ns.contains i else ns.contains i)
 |_,_=>ae
def M1(n:Nat)(i:Int):Option Nat:=if 0<=i then(if i<n then aa i.toNat else ae) else if -(n:Int)<=i then aa (i+n).toNat else ae
def xZ{α:Type}(xs:List α)(i:Int):Option α:=(M1 xs.length i).bind λj=>xs[j]?
noncomputable def dQ:D->D->Option D
 |.lst a,.int i=>xZ a i
 |.tup a,.int i=>xZ a i
 |.j6 a,.int i=>(xZ a i).map D.int
 |_,_=>ae
noncomputable def x5:D->Option (Sum Int aj)
 |.int i=>aa (.inl i)
 |.str x=>aa (.inr x)
 |_=>ae
def k7(ks:List (Sum Int aj))(ds:List D)(k:Sum Int aj):Option D:=((ks.zip ds).find? λkv=>Zv (kv.1=k)).map (·.2)
def x6:D->D->Option D
 |.kZ ks ds,d=>(x5 d).bind λk=>k7 ks ds k
 |_,_=>ae
def aF:AF:=λ_=>aa []
def aA(a:EF)(t:AF):AF:=λρ=>(a ρ).bind λd=>(t ρ).bind λds=>aa (d::ds)
def iP(t:AF):EF:=λρ=>(t ρ).bind λds=>if ds.length<=nU then aa (.tup ds) else ae
def iV(t:AF):EF:=λρ=>(t ρ).bind λds=>if ds.length<=nU then aa (.lst ds) else ae
def cZ(g:List D->Option D)(t:AF):EF:=λρ=>(t ρ).bind g
noncomputable def rJ:M D->Option D
 |.ok d=>aa d
 |_=>ae
def aL(R:jM)(t:AF):EF:=λρ=>(t ρ).bind λds=>rJ (R ds)
noncomputable def b9:List D->Option D
 |[.lst a]=>aa (.int a.length)
 |[.tup a]=>aa (.int a.length)
 |[.j6 a]=>aa (.int a.length)
 |_=>ae
noncomputable def eX:List D->Option D
 |[.lst a]=>aa (.tup a)
 |[.tup a]=>aa (.tup a)
 |_=>ae
noncomputable def Fg:List D->Option D
 |[.lst a]=>aa (.lst a)
 |[.tup a]=>aa (.lst a)
 |_=>ae
noncomputable def insI(a:Int):List Int->List Int
 |[]=>[a]
 |b::l=>if a<=b then a::b::l else b::insI a l
def sortI:List Int->List Int
 |[]=>[]
 |a::l=>insI a (sortI l)
def k8:List D->Option D
 |[.lst a]=>(intsOf a).bind λns=>if ns.length<64 then aa (.lst ((sortI ns).map D.int)) else ae
 |_=>ae
def JL:List D->Option D
 |[.lst a]=>(intsOf a).map λns=>.int ns.sum
 |_=>ae
def tS:List D->Option (List Bool)
 |[]=>aa []
 |d::ds=>(lF d).bind λb=>(tS ds).map (b :: ·)
def allM:List D->Option D
 |[.lst a]=>(tS a).map λbs=>.bl (bs.all id)
 |_=>ae
noncomputable def tyM:D->String
 |.non => "NoneType"
 |.bl _ => "bool"
 |.int _ => "int"
 |.str _ => "str"
 |.tup _ => "tuple"
 |.lst _ => "list"
 |.j6 _ => "list"
 |.kZ _ _ => "dict"
 |.c8 _ _ _ => "dict"
 |.exc _ _ => "NoneType"
 |.rws _ => "NoneType"
def JM(T:String)(d:D):Bool:=tyM d == T||(T == "int"&&tyM d == "bool")
noncomputable def JN:D->Bool
 |.exc _ _=>ag
 |.c8 _ _ _=>ag
 |.rws _=>ag
 |_=>af
def kE(T:String)(a:EF):EF:=λρ=>(a ρ).bind λd=>if JN d=af then aa (.bl (JM T d)) else ae
def bD(lo:Int)(n:Nat):List Int:=(bz n).map λk:Nat=>lo+(k:Int)
def Td(hi:Int)(n:Nat):List Int:=(bz n).map λk:Nat=>hi-(k:Int)
noncomputable def JO(t:AF):EF:=λρ=>(t ρ).bind λds=>match ds with
 |[.int j]=>if j.natAbs<=16777216 then aa (.lst ((bD 0 j.toNat).map D.int)) else ae
 |_=>ae
noncomputable def DJ:List D->Option D
 |[.int i]=>aa (.int i)
 |[.bl b]=>aa (.int (if b=af then 1 else 0))
 |_=>ae
noncomputable def x8:List D->Option D
 |[.int i,.int j]=>aa (.int (if j>i then j else i))
 |_=>ae
noncomputable def repLM:D->D->Option D
 |.lst a,.int n=>if a.length*n.toNat<=nU/\n.natAbs<9223372036854775808 then aa (.lst (bu n.toNat a).flatten) else ae
 |_,_=>ae
noncomputable def PN:D->D->Option D
 |.lst a,.lst b=>if a.length+b.length<=nU then aa (.lst (a++b)) else ae
 |_,_=>ae
noncomputable def GB:D->Option (List D)
 |.lst ds=>aa ds
 |.tup ds=>aa ds
 |_=>ae
def cB(f:EF):AF:=λρ=>(f ρ).bind GB
noncomputable def JP:List D->Option (List D)
 |[.int j]=>if j.natAbs<4611686018427387904 then aa ((bD 0 j.toNat).map D.int) else ae
 |[.int i,.int j]=>if i.natAbs<4611686018427387904/\j.natAbs<4611686018427387904 then aa ((bD i (j-i).toNat).map D.int) else ae
 |[.int i,.int j,.int k]=>if k=-1/\i.natAbs<1000000/\j.natAbs<1000000 then aa ((Td i (i-j).toNat).map D.int) else ae
 |_=>ae
def bX(t:AF):AF:=λρ=>(t ρ).bind JP
noncomputable def M4:List D->Option (List D)
 |[.lst ds]=>aa (ds.zipIdx.map λp=>.tup [.int (p.2:Int),p.1])
 |[.tup ds]=>aa (ds.zipIdx.map λp=>.tup [.int (p.2:Int),p.1])
 |_=>ae
def nW(t:AF):AF:=λρ=>(t ρ).bind M4
def Tc:List D->Option (List D)
 |[a,b]=>(GB a).bind λxs=>(GB b).map λys=>(xs.zip ys).map λp=>.tup [p.1,p.2]
 |_=>ae
def ye(t:AF):AF:=λρ=>(t ρ).bind Tc
noncomputable def yd:List D->Option (List D)
 |[.lst ds]=>aa ds.reverse
 |[.tup ds]=>aa ds.reverse
 |_=>ae
def yc(t:AF):AF:=λρ=>(t ρ).bind yd
abbrev GEF:=D->dW->Option dW
def g1(i:Nat):GEF:=λd ρ=>aa (ρ.set i (aa d))
noncomputable def BJ:D->Option (D×D)
 |.tup [x,y]=>aa (x,y)
 |_=>ae
def g2(i j:Nat):GEF:=λd ρ=>(BJ d).map λp=>(ρ.set i (aa p.1)).set j (aa p.2)
def dO:TF:=λ_=>aa af
def benv(nl:Nat)(fr:List Nat)(ρ:dW):dW:=bu nl ae++fr.map λj=>(ρ[j]?).join
noncomputable def kF(g:GEF)(t:TF)(e:EF)(ρ:dW):List D->Option (List D)
 |[]=>aa []
 |d::ds=>(g d ρ).bind λρ1=>(t ρ1).bind λb=>if b=af then(e ρ1).bind λy=>(kF g t e ρ ds).map (y :: ·) else kF g t e ρ ds
def cJ(nl:Nat)(fr:List Nat)(it:AF)(g:GEF)(t:TF)(e:EF):EF:=λρ=>(it ρ).bind λds=>if ds.length<=nU then(kF g t e (benv nl fr ρ) ds).map D.lst else ae
abbrev OF:=dW->Option (Option Int)
def ll:OF:=λ_=>aa ae
noncomputable def asInt:D->Option Int
 |.int i=>aa i
 |_=>ae
def oE(f:EF):OF:=λρ=>(f ρ).bind λd=>(asInt d).map aa
noncomputable def PQ(n d:Nat):Option Int->Nat
 |none=>d
 |some i=>if i<0 then(i+n).toNat else min i.toNat n
def GC(xs:List D)(lo hi:Option Int):List D:=(xs.drop (PQ xs.length 0 lo)).take (PQ xs.length xs.length hi-PQ xs.length 0 lo)
def slM(d:D)(lo hi:Option Int):Option D:=match d with
 |.lst ds=>aa (.lst (GC ds lo hi))
 |.tup ds=>aa (.tup (GC ds lo hi))
 |_=>ae
def ZE(f:EF)(lo hi:OF):EF:=λρ=>(f ρ).bind λd=>(lo ρ).bind λl=>(hi ρ).bind λh=>slM d l h
def BK(f:EF):XF:=λρ=>(f (bR ρ)).bind λd=>if d.A2=af then aa (ρ,d) else ae
def bF(f:EF):XF:=λρ=>(f (jL ρ)).bind λd=>aa (ρ,d)
noncomputable def pU:Option Sv->Option (List D)
 |some (.ow (.lst ds))=>aa ds
 |_=>ae
def vZ(i:Nat)(m:List D->D->Option (List D×D))(x:XF):XF:=λρ=>(pU ρ[i]?).bind λ_=>(x ρ).bind λp=>(pU p.1[i]?).bind λds=>(m ds p.2).map λq=>(p.1.set i (.ow (.lst q.1)),q.2)
def nX:List D->D->Option (List D×D):=λds d=>if ds.length<nU then aa (ds++[d],.non) else ae
noncomputable def ZF:List D->D->Option (List D×D)
 |ds,.int k=>if k.natAbs<9223372036854775808 then(M1 ds.length k).bind λj=>(ds[j]?).map λd=>(ds.eraseIdx j,d) else ae
 |_,_=>ae
noncomputable def PU:List D->D->Option (List D×D)
 |ds,.lst es=>if ds.length+es.length<=nU then aa (ds++es,.non) else ae
 |_,_=>ae
def d7:SF:=λρ=>.nx ρ
noncomputable def aM(f g:SF):SF:=λρ=>match f ρ with
 |.nx ρ'=>g ρ'
 |o=>o
def bL(f:EF):SF:=λρ=>match f (bR ρ) with
 |some d=>.rt d
 |none=>.no
def iO(t:TF)(a b:SF):SF:=λρ=>match t (bR ρ) with
 |some af=>a ρ
 |some ag=>b ρ
 |none=>.no
def bG(i:Nat)(f:EF):SF:=λρ=>match f (jL ρ) with
 |some d=>.nx (ρ.set i (.ro d))
 |none=>.no
noncomputable def vH(i:Nat)(x:XF):SF:=λρ=>match x ρ with
 |some p=>.nx (p.1.set i (.ro p.2))
 |none=>.no
def lQ(i:Nat)(f:EF):SF:=λρ=>match f (jL ρ) with
 |some d=>.nx (ρ.set i (.ow d))
 |none=>.no
def qC:D->Bool
 |.lst ds=>rH ds
 |_=>ag
def TQ(i:Nat)(f:EF):SF:=λρ=>match f (bR ρ) with
 |some d=>if qC d=af then .nx (ρ.set i (.ow d)) else .no
 |none=>.no
def nK(i:Nat)(f:EF):SF:=λρ=>match f (bR ρ) with
 |some d=>if qC d=af then .nx (ρ.set i (.ro d)) else .no
 |none=>.no
def GD(i:Nat):SF:=λρ=>.nx (ρ.set i (.ow (.kZ [] [])))
noncomputable def sX(x:XF):SF:=λρ=>match x ρ with
 |some p=>.nx p.1
 |none=>.no
def qD(i:Nat)(x:XF)(k:EF):SF:=λρ=>match ((x ρ).bind λp=>(pU p.1[i]?).bind λds=>(k (bR p.1)).bind λkd=>(asInt kd).bind λkk=>(M1 ds.length kk).map λj=>p.1.set i (.ow (.lst (ds.set j p.2)))) with
 |some ρ'=>.nx ρ'
 |none=>.no
noncomputable def x9:Option Sv->Option (List (Sum Int aj)×List D)
 |some (.ow (.kZ ks ds))=>aa (ks,ds)
 |_=>ae
def M5(i:Nat)(x:XF)(k:EF):SF:=λρ=>match ((x ρ).bind λp=>(x9 p.1[i]?).bind λkd=>(k (bR p.1)).bind λkv=>(x5 kv).bind λkk =>
  if(k7 kd.1 kd.2 kk).isNone=af/\kd.2.length<nU then aa (p.1.set i (.ow (.kZ (kd.1++[kk]) (kd.2++[p.2])))) else ae) with
 |some ρ'=>.nx ρ'
 |none=>.no
abbrev GSF:=D->bU->Option bU
def qE(i:Nat):GSF:=λd ρ=>aa (ρ.set i (.ro d))
def JQ(i j:Nat):GSF:=λd ρ=>(BJ d).map λp=>(ρ.set i (.ro p.1)).set j (.ro p.2)
noncomputable def gA(g:GSF)(b:SF):List D->bU->Out
 |[],ρ=>.nx ρ
 |d::ds,ρ=>match g d ρ with
  |none=>.no
  |some ρ1=>match b ρ1 with
   |.nx ρ2=>gA g b ds ρ2
   |o=>o
def fQ(it:AF)(g:GSF)(b:SF):SF:=λρ=>match it (jL ρ) with
 |some ds=>gA g b ds ρ
 |none=>.no
def fJ(t:TF)(b:SF):Nat->bU->Out
 |0,_=>.no
 |n+1,ρ=>match t (bR ρ) with
  |none=>.no
  |some ag=>.nx ρ
  |some af=>match b ρ with
   |.nx ρ'=>fJ t b n ρ'
   |o=>o
def TR:Nat:=1000000
def TU(n:Nat)(t:TF)(b:SF):SF:=fJ t b n
def c9(n:Nat)(ds:List D):bU:=ds.map Sv.ro++bu (n-ds.length) Sv.no
noncomputable def bZ(n np:Nat)(b:SF):jM:=λds=>if ds.length=np then(match b (c9 n ds) with
 |.rt d=>.ok d
 |.nx _=>.ok .non
 |.ex c=>.ex c
 |.no=>.no) else .no
noncomputable def dC:List Int->List Int->Bool
 |[],[]=>ag
 |[],_::_=>af
 |_::_,[]=>ag
 |a::as,b::bs=>if a=b then dC as bs else Zv (a<b)
def PV(t:Q0e):List (List Int)->List (List Int)
 |[]=>[t]
 |u::us=>if dC u t=af then u::PV t us else t::u::us
def kG:List (List Int)->List (List Int)
 |[]=>[]
 |t::ts=>PV t (kG ts)
def rK(t:Q0e):D:=.tup (t.map D.int)
def TV:D->Option (List Int)
 |.tup ds=>intsOf ds
 |_=>ae
def kH:List D->Option (List (List Int))
 |[]=>aa []
 |d::ds=>(TV d).bind λt=>(kH ds).map (t :: ·)
def mG:List D->Option D
 |[.lst a]=>(kH a).bind λts=>if ts.length<64/\ts.all (λt=>!t.isEmpty)=af then aa (.lst ((kG ts).map rK)) else ae
 |_=>ae
theorem M6:∀a:Q0e,dC a a=ag
 |[]=>rfl
 |a::as=>by simp[dC,M6 as]
theorem DK:∀a b:Q0e,dC a b=af->dC b a=ag
 |[],[],h=>by cases h
 |[],_::_,_=>rfl
 |_::_,[],h=>by cases h
 |a::as,b::bs,h=>by
  unfold dC at h ⊢;by_cases e:a=b
  .rw [Z_ e] at h;rw[Z_ e.symm];show DK as bs h
  .rw [Zz e] at h;rw[Zz (d_ e)];simp at h ⊢;lia
theorem DL:∀a b c:Q0e,dC b a=ag->dC c b=ag->dC c a=ag
 |[],[],c,h1,h2=>h2
 |[],b::bs,[],h1,h2=>rfl
 |[],b::bs,c::cs,h1,h2=>rfl
 |a::as,[],c,h1,h2=>by cases h1
 |a::as,b::bs,[],h1,h2=>by cases h2
 |a::as,b::bs,c::cs,h1,h2=>by
  unfold dC at h1 h2 ⊢;by_cases e1:b=a
  .subst e1;rw[Z_ rfl] at h1;by_cases e2:c=b
   .subst e2;rw[Z_ rfl] at h2 ⊢;show DL as bs cs h1 h2
   .rw [Zz e2] at h2 ⊢;show h2
  .rw [Zz e1] at h1;by_cases e2:c=b
   .subst e2;rw[Zz e1];show h1
   .rw [Zz e2] at h2;simp at h1 h2;rw[Zz ∅];simp;lia
theorem DM:∀a b:Q0e,dC a b=ag->dC b a=ag->a=b
 |[],[],_,_=>rfl
 |[],_::_,h1,_=>by cases h1
 |_::_,[],_,h2=>by cases h2
 |a::as,b::bs,h1,h2=>by
  unfold dC at h1 h2;by_cases e:a=b
  .subst e;rw[Z_ rfl] at h1 h2;rw[DM as bs h1 h2]
  .rw [Zz e] at h1;rw[Zz (d_ e)] at h2;simp at h1 h2;lia
theorem tT(t:Q0e):∀l,(PV t l).Perm (t::l)
 |[]=>.refl _
 |u::us=>by
  unfold PV;by_cases h:dC u t=af
  .rw [Z_ h];show((tT t us).cons u).trans (.swap t u us)
  .rw [Zz h]
theorem eQ:∀l,(kG l).Perm l
 |[]=>.refl _
 |t::ts=>(tT t _).trans ((eQ ts).cons t)
def ZG(l:Q0a):Prop:=l.Pairwise λa b=>dC b a=ag
theorem M7(t:Q0e):∀l,ZG l->ZG (PV t l)
 |[],_=>List.pairwise_singleton _ _
 |u::us,h=>by
  have⟨h1,h2⟩:=ft.mp h;unfold PV;by_cases e:dC u t=af
  .rw [Z_ e];show ft.mpr ⟨λx hx=>?_,M7 t us h2⟩;rcases bh.mp ((tT t us).mem_iff.mp hx) with rfl|hx
   .exact DK _ _ e
   .exact h1 x hx
  .rw [Zz e];have e:dC u t=ag:=by simpa using e
   show ft.mpr ⟨λx hx=>?_,h⟩;rcases(bh.mp hx:x=u\/x∈us) with rfl|hx
   .exact e
   .exact DL t u x e (h1 x hx)
theorem lR:∀l,ZG (kG l)
 |[]=>.nil
 |t::ts=>M7 t _ (lR ts)
theorem rL:∀{l m:Q0a},l.Perm m->ZG l->ZG m->l=m
 |[],m,p,_,_=>by rw[List.nil_perm.mp p]
 |a::l,[],p,_,_=>by have:=p.length_eq;simp at this
 |a::l,b::m,p,h1,h2=>by
  obtain⟨a1,a2⟩:=ft.mp h1;obtain⟨b1,b2⟩:=ft.mp h2;have e:a=b:=by
   have ha:=bh.mp (p.mem_iff.mp b_);have hb:=bh.mp (p.mem_iff.mpr b_);rcases ha with h|h
   .exact h
   .rcases hb with h' | h'
    .exact h'.symm
    .exact DM _ _ (b1 a h) (a1 b h')
  subst e;rw[rL p.cons_inv a2 b2]
noncomputable def Ta(ρ:bU)(i:Nat):bU:=match ρ[i]? with
 |some (.ow d)=>ρ.set i (.ro d)
 |_=>ρ
def yb(i:Nat)(f:SF):SF:=λρ=>f (Ta ρ i)
abbrev RF:=dW->Option aj
noncomputable def ya:M D->Option aj
 |.ex c=>aa c
 |_=>ae
def vJ(R:jM)(t:AF):RF:=λρ=>(t ρ).bind λds=>ya (R ds)
def tU(r:RF)(f:SF):SF:=λρ=>match r (bR ρ) with
 |some c=>.ex c
 |none=>f ρ
def mH(t:AF)(c:aj):SF:=λρ=>match t (bR ρ) with
 |some ds=>if ds.length<=10 then .ex c else .no
 |none=>.no
noncomputable def gQ(c:aj)(e:Nat)(b:Bool)(i:Nat):EF:=λρ=>match aB i ρ with
 |some (.exc c' a)=>if c'=c/\a=e then aa (.bl b) else ae
 |_=>ae
theorem M8(h:gQ c e b i ρ=aa d):aB i ρ=aa (.exc c e)/\d=.bl b:=by
 unfold gQ at h;split at h
 .rename_i c' a q;by_cases z:c'=c/\a=e
  .rw [Z_ z] at h;cases h;rw[q,z.1,z.2];show⟨rfl,rfl⟩
  .rw [Zz z] at h;cases h
 .cases h
def TY(f:EF)(r:RF):RF:=λρ=>(f ρ).bind λ_=>r ρ
noncomputable def splitM:D->D->Option D
 |.str x,.str y=>if x.length+2<=nU/\(y.length == 0)=ag then aa (.lst ((pj x y).map D.str)) else ae
 |_,_=>ae
noncomputable def PX(x:XF)(g:GSF):SF:=λρ=>match (x ρ).bind λp=>g p.2 p.1 with
 |some ρ'=>.nx ρ'
 |none=>.no
noncomputable def jW:List Int->Int
 |[]=>0
 |a::l=>l.foldl (λm b=>if m<b then b else m) a
def GF:List D->Option D
 |[.tup ds]=>(intsOf ds).bind λns=>if ns=[] then ae else aa (.int (jW ns))
 |_=>ae
noncomputable def JR(f:SF):SF:=λρ=>match f ρ with
 |.ex _=>.no
 |o=>o
def kJ:List D->Option D
 |[.tup ds]=>(intsOf ds).bind λns=>if ns.length<64 then aa (.lst ((sortI ns).map D.int)) else ae
 |_=>ae
abbrev k6:Nat->ax->Prop:=λ_ _=>True
def adr(q:Nat->ax->Prop):Nat->ax->Prop:=λa _=>∃o,q a o
abbrev JS:=Sum Int aj
abbrev PN1:=List (Sum JS (List JS))
abbrev BL:=Sum JS PN1
def BM:List D->Option (List JS)
 |[]=>aa []
 |d::ds=>(x5 d).bind λk=>(BM ds).map (k :: ·)
def TZ:D->Option (Sum JS (List JS))
 |.tup ds=>(BM ds).map .inr
 |d=>(x5 d).map .inl
def yA:List D->Option PN1
 |[]=>aa []
 |d::ds=>(TZ d).bind λk=>(yA ds).map (k :: ·)
def tW:D->Option BL
 |.tup ds=>(yA ds).map .inr
 |d=>(x5 d).map .inl
def bK(ks:List BL)(ds:List D)(k:BL):Option D:=((ks.zip ds).find? λp=>Zv (p.1=k)).map (·.2)
def kindB(ks:List BL)(k:BL):Bool:=ks.all λq=>q.isLeft == k.isLeft
def De:D->D->Option D
 |.c8 _ ks ds,d=>(tW d).bind λk=>if kindB ks k=af then bK ks ds k else ae
 |_,_=>ae
def PY(neg:Bool):D->D->Option D
 |d,.c8 _ ks ds=>(tW d).bind λk=>if kindB ks k=af then aa (.bl (if neg then !(bK ks ds k).isSome else(bK ks ds k).isSome)) else ae
 |_,_=>ae
def fX(ks:List BL)(ds:List D)(k:BL)(v:D):List BL×List D :=
 if ks.any (λq=>Zv (q=k))=af then(ks,(ks.zip ds).map λp=>if p.1=k then v else p.2) else(ks++[k],ds++[v])
noncomputable def PZ:Option Sv->Option ((Nat->ax->Prop)×List BL×List D)
 |some (.ow (.c8 q ks ds))=>aa (q,ks,ds)
 |_=>ae
def Ff(i:Nat):SF:=λρ=>.nx (ρ.set i (.ow (.c8 k6 [] [])))
def BN(i:Nat)(x:XF)(k:EF):SF:=λρ=>match ((x ρ).bind λp=>(PZ p.1[i]?).bind λkd=>(k (bR p.1)).bind λkv=>(tW kv).bind λkk =>
  if kindB kd.2.1 kk=af/\kd.2.2.length<nU then aa (p.1.set i (.ow (.c8 (adr kd.1) (fX kd.2.1 kd.2.2 kk p.2).1 (fX kd.2.1 kd.2.2 kk p.2).2))) else ae) with
 |some ρ'=>.nx ρ'
 |none=>.no
noncomputable def Fe:List D->Option (List D)
 |[.lst xs,.lst ys]=>aa ((xs.zip ys).map λp=>.tup [p.1,p.2])
 |_=>ae
def T4(t:AF):AF:=λρ=>(t ρ).bind Fe
abbrev KD:=List BL×List D
abbrev FnM:=List D->KD->M (D×KD)
def startM(n:Nat)(ds:List D)(q:Nat->ax->Prop)(kd:KD):bU:=ds.map Sv.ro++Sv.ow (.c8 q kd.1 kd.2)::bu (n-(ds.length+1)) Sv.no
def ZH(j:Nat)(k:EF)(q:Nat->ax->Prop):bU->Option (D×KD):=λρ=>(PZ ρ[j]?).bind λkd=>(k (jL ρ)).bind λkv=>(tW kv).bind λkk=>@ite _ (kindB kd.2.1 kk=af /\∀a o,kd.1 a o ->∃o2,q a o2) (Iw _) ((bK kd.2.1 kd.2.2 kk).map λd=>(d,kd.2)) ae
def yB(n np:Nat)(b:SF)(k:EF)(q:Nat->ax->Prop)(ds:List D)(kd:KD):Option (D×KD):=if ds.length+1=np then(match b (startM n ds q kd) with
 |.nx ρ=>ZH (np-1) k q ρ
 |_=>ae) else ae
def runM(n np:Nat)(b:SF)(k:EF):FnM:=λds kd=>@dite _ (∃r,∀q,yB n np b k q ds kd=aa r) (Iw _) (λh=>.ok h.choose) λ_=>.no
def M9(h:runM n np b k ds kd=.ok r)(q:Nat->ax->Prop):yB n np b k q ds kd=aa r:=by
 unfold runM at h;split at h
 .rename_i hx;cases h;show hx.choose_spec q
 .cases h
theorem ZI(h:∀q,yB n np b k q ds kd=aa r):runM n np b k ds kd=.ok r:=by have hx:∃r,∀q,yB n np b k q ds kd=aa r:=⟨r,h⟩;unfold runM;rw[dif_pos hx];have e:=hx.choose_spec k6;rw[h k6] at e;rw[cj e]
def stepM(R:FnM)(t:AF)(j:Nat)(ρ:bU):Option ((Nat->ax->Prop)×D×KD):=(t (jL ρ)).bind λds=>(PZ ρ[j]?).bind λkd=>match R ds kd.2 with
 |.ok r=>aa (kd.1,r)
 |_=>ae
def tX(i:Nat)(R:FnM)(t:AF)(j:Nat):SF:=λρ=>match stepM R t j ρ with
 |some r=>.nx ((ρ.set j (.ow (.c8 (adr r.1) r.2.2.1 r.2.2.2))).set i (.ro r.2.1))
 |none=>.no
def ZJ(R:FnM)(t:AF)(j:Nat):SF:=λρ=>match stepM R t j ρ with
 |some r=>.nx (ρ.set j (.ow (.c8 (adr r.1) r.2.2.1 r.2.2.2)))
 |none=>.no
def BO:List D->Option D
 |[.lst ds]=>(intsOf ds).bind λns=>if ns=[] then ae else aa (.int (jW ns))
 |_=>ae
noncomputable def yC(fb:SF)(fh:aj->Option bU)(fr:SF):SF:=λρ=>match fb ρ with
 |.ex c=>(match fh c with
  |some ρ1=>(match fr ρ1 with
   |.rt d=>.rt d
   |_=>.no)
  |none=>.no)
 |.nx ρ'=>fr ρ'
 |.rt d=>.rt d
 |.no=>.no
def wV:D->D->Option D
 |.lst ds,.bl af=>(vG ds).map λbs=>.int ((bs.filter id).length:Nat)
 |_,_=>ae
def wW:D->D->Option D
 |.lst ds,.bl af=>(vG ds).bind λbs=>(bs.findIdx? id).map λi:Nat=>.int (i:Int)
 |_,_=>ae
noncomputable def nY(key:EF)(ρ:dW):List D->Option (List D)
 |[]=>aa []
 |d::ds=>(key (ρ.set 0 (aa d))).bind λk=>(nY key ρ ds).map (k :: ·)
def mI(ts:Q0a):List Int:=(kG ts).map λt=>((ts.idxOf t:Nat):Int)
def DN(ks:List D):Option D:=(kH ks).bind λts=>if ts.length<64/\ts.all (λt=>!t.isEmpty)=af/\ts.Nodup then aa (.lst ((mI ts).map D.int)) else ae
def DO(fr:List Nat)(a:EF)(key:EF):EF:=λρ=>(a ρ).bind λd=>(asInt d).bind λj=>if 0<=j/\j<64 then(nY key (benv 1 fr ρ) ((bD 0 j.toNat).map D.int)).bind DN else ae
theorem BP:∀{ds ks:List D},nY key ρ ds=aa ks->ks.length=ds.length
 |[],ks,h=>by cases h;rfl
 |d::ds,ks,h=>by
  unfold nY at h
  cases e:key (ρ.set 0 (aa d)) with
  |none=>rw[e] at h;cases h
  |some k =>
   rw[e] at h
   cases e2:nY key ρ ds with
   |none=>rw[e2] at h;cases h
   |some r =>
    rw[e2] at h;cases h;rw[cx,cx,BP e2]
theorem BQ:∀{ds ks:List D} {i:Nat} {d:D},nY key ρ ds=aa ks->ds[i]?=aa d ->∃k,ks[i]?=aa k/\key (ρ.set 0 (aa d))=aa k
 |[],ks,i,d,h,hd=>by cases hd
 |d0::ds,ks,i,d,h,hd=>by
  unfold nY at h
  cases e:key (ρ.set 0 (aa d0)) with
  |none=>rw[e] at h;cases h
  |some k =>
   rw[e] at h
   cases e2:nY key ρ ds with
   |none=>rw[e2] at h;cases h
   |some r =>
    rw[e2] at h;cases h
    cases i with
    |zero=>cases hd;show⟨k,rfl,e⟩
    |succ i =>
     obtain⟨k',h1,h2⟩:=BQ (i:=i) (d:=d) e2 (by rw[la] at hd;show hd);show⟨k',by rw[<- h1];show la,h2⟩
noncomputable def NA:List D->Option (List D)
 |[.tup xs,.tup ys]=>aa ((xs.zip ys).map λp=>.tup [p.1,p.2])
 |_=>ae
def NB(t:AF):AF:=λρ=>(t ρ).bind NA
def GG(a b c d:Q0e):Bool:=if a=c then dC b d else dC a c
def JT:D->D->Option D
 |.tup [.lst a,.lst b],.tup [.lst c,.lst d]=>(intsOf a).bind λx=>(intsOf b).bind λy=>(intsOf c).bind λz=>(intsOf d).map λu=>.bl (GG x y z u)
 |_,_=>ae
end L4
namespace Ord
structure Rows (rows:Q0a):Prop where
 up:∀(b:Nat) (r:Q0e),rows[b]?=aa r->r.Pairwise (·<·)
 rng:∀(b:Nat) (r:Q0e),rows[b]?=aa r ->∀a∈r,0<=a/\a<(rows.length:Int)
 tr:∀(b a:Nat) (r v:Q0e),rows[b]?=aa r->(a:Int)∈r->rows[a]?=aa v ->∀c∈v,c∈r
 ZK:∀(b:Nat) (r:Q0e),rows[b]?=aa r->(b:Int)∉r
theorem yD{α:Type}:∀(l:List α) (j:Nat) (x:α),l[j]?=aa x->(x::l.eraseIdx j).Perm l
 |[],j,x,h=>by simp at h
 |a::l,0,x,h=>by simp at h;subst h;simp
 |a::l,j+1,x,h=>by have ih:=yD l j x (by simpa using h);rw[List.eraseIdx_cons_succ];show(a3D a x _).trans (ih.cons a)
def DP{l:Q0e}(p:Int->Bool)(h:l.Nodup):(l.filter p).Nodup:=vv p h
def Under(Ξ:Q0e)(us:Q0a)(t:Nat)(u:Q0e):Prop :=
 u.Nodup /\∀a∈u,∃(s:Nat) (v:Q0e),s<t/\Ξ[s]?=aa a/\us[s]?=aa v /\∀c∈v,c∈u
def Good(Ξ:Q0e)(us:Q0a):Prop:=∀(t:Nat) (u:Q0e),us[t]?=aa u->Under Ξ us t u
def Under.mono(h:Under Ξ us t u)(ht:t<=t'):Under Ξ us t' u :=
 ⟨h.1,λa ha=>by obtain⟨s,v,h1,h2,h3,h4⟩:=h.2 a ha;show⟨s,v,by lia,h2,h3,h4⟩⟩
def yE{Ξ:Q0e}(h:Ξ.Nodup){i j:Nat}{a:Int}(hi:Ξ[i]?=aa a)(hj:Ξ[j]?=aa a):i=j:=by obtain⟨h1,e1⟩:=cb.mp hi;obtain⟨h2,e2⟩:=cb.mp hj;show(a2a h).mp (e1.trans e2.symm)
theorem Under.step{Ξ:Q0e}{us:Q0a}{i:Nat}{u v:Q0e}{x:Int}(hw:Ξ.Nodup)(g:Good Ξ us)(h:Under Ξ us i u)(hx:Ξ[i]?=aa x)(hv:us[i]?=aa v):
  Under Ξ us (i+1) (u++(v++[x]).filter λa=>!u.contains a):=by
 have gv:=g i v hv;have mem:∀c,c∈v++[x]->c∈u++(v++[x]).filter λa=>!u.contains a:=λc hc=>by
  by_cases hu:c∈u
  .exact gj _ hu
  .exact gq _ (ji.mpr ⟨hc,by simpa using hu⟩)
 have nv:(v++[x]).Nodup:=by show rm.mpr ⟨gv.1,by simp,λa ha b hb e=>?_⟩;have hb:=cc.mp hb;subst hb;subst e;obtain⟨s,_,h1,h2,_⟩:=gv.2 a ha;have:=yE hw h2 hx;lia
 show⟨rm.mpr ⟨h.1,DP _ nv,λa ha b hb e=>?_⟩,λa ha=>?_⟩
 .subst e;have:=(ji.mp hb).2;simp at this;show this ha
 .rcases gm.mp ha with h1|h1
  .obtain ⟨s,z,a1,a2,a3,a4⟩:=h.2 a h1;show⟨s,z,by lia,a2,a3,λc hc=>gj _ (a4 c hc)⟩
  .rcases gm.mp (ji.mp h1).1 with h2|h2
   .obtain ⟨s,z,a1,a2,a3,a4⟩:=gv.2 a h2;show⟨s,z,by lia,a2,a3,λc hc=>mem c (gj _ (a4 c hc))⟩
   .have e:=cc.mp h2;subst e;show⟨i,v,by lia,hx,hv,λc hc=>mem c (gj _ hc)⟩
def Good.snoc(g:Good Ξ us)(h:Under Ξ us us.length u):Good Ξ (us++[u]):=λt z e=>by
 have old:∀{s:Nat} {v:Q0e},us[s]?=aa v->(us++[u])[s]?=aa v:=λ{s v} e=>by rw[jz (cb.mp e).1];show e
 have up:∀{t:Nat} {z:Q0e},Under Ξ us t z->Under Ξ (us++[u]) t z:=λ{t z} q=>⟨q.1,λa ha=>by obtain⟨s,v,a1,a2,a3,a4⟩:=q.2 a ha;show⟨s,v,a1,a2,old a3,a4⟩⟩;by_cases ht:t<us.length
 .rw [jz ht] at e;show up (g t z e)
 .have et:t=us.length:=by have:=(cb.mp e).1;simp at this;lia
  subst et;rw[jy (bg _),Hq] at e;have e:u=z:=by simpa using e
  subst e;show up h
theorem Good.rows{Ξ:Q0e}{us rows:Q0a}{n:Nat}(g:Good Ξ us)(hu:us.length=n)(hw:Ξ.Perm ((bz n).map λk:Nat=>(k:Int)))(hr:rows.length=n)
  (h:∀(b t:Nat) (r u:Q0e),rows[b]?=aa r->Ξ[t]?=aa (b:Int)->us[t]?=aa u->r.Perm u/\r.Pairwise (· <= ·)):Rows rows:=by
 have nd:Ξ.Nodup:=hw.nodup_iff.mpr (by
  show si _ (λa b hab=>?_) a13;intro e;show hab ∅)
 have find:∀(b:Nat),b<n ->∃t u,Ξ[t]?=aa (b:Int)/\us[t]?=aa u:=λb hb=>by
  have hm:(b:Int)∈Ξ:=hw.mem_iff.mpr (fw.mpr ⟨b,lz.mpr hb,rfl⟩);obtain⟨t,ht⟩:=Ae.mp hm;have hl:Ξ.length=n:=by rw[hw.length_eq,a_,nu]
  have:=(cb.mp ht).1;show⟨t,us[t]'∅,ht,bw ∅⟩
 have row:∀(b:Nat) (r:Q0e),rows[b]?=aa r ->∃t u,Ξ[t]?=aa (b:Int)/\us[t]?=aa u/\r.Perm u/\r.Pairwise (· <= ·):=λb r e=>by have hb:=(cb.mp e).1;obtain⟨t,u,h1,h2⟩:=find b ∅;show⟨t,u,h1,h2,h b t r u e h1 h2⟩
 show⟨λb r e=>?_,λb r e a ha=>?_,λb a r v e ha ev c hc=>?_,λb r e hb=>?_⟩
 .obtain ⟨t,u,h1,h2,h3,h4⟩:=row b r e;have n1:r.Nodup:=h3.nodup_iff.mpr (g t u h2).1;show(List.pairwise_and_iff.mpr ⟨h4,n1⟩).imp λq=>by have:=q.1;have:=q.2;lia
 .obtain ⟨t,u,h1,h2,h3,h4⟩:=row b r e;obtain⟨s,z,_,a2,_⟩:=(g t u h2).2 a (h3.mem_iff.mp ha);have hm:=hw.mem_iff.mp (l_ a2);obtain⟨k,hk,rfl⟩:=fw.mp hm;have:=lz.mp hk;lia
 .obtain ⟨t,u,h1,h2,h3,h4⟩:=row b r e;obtain⟨t2,u2,k1,k2,k3,k4⟩:=row a v ev;obtain⟨s,z,_,a2,a3,a4⟩:=(g t u h2).2 _ (h3.mem_iff.mp ha);have es:=yE nd a2 k1;subst es;rw[k2] at a3;cases a3;show h3.mem_iff.mpr (a4 c (k3.mem_iff.mp hc))
 .obtain ⟨t,u,h1,h2,h3,h4⟩:=row b r e;obtain⟨s,z,a1,a2,_⟩:=(g t u h2).2 _ (h3.mem_iff.mp hb);have:=yE nd a2 h1;lia
noncomputable def tri:Nat->Nat
 |0=>0
 |j+1=>tri j+j
theorem T5(h:i<=j):tri i<=tri j:=by
 induction h with
 |refl=>show bg _
 |step _ ih=>show gx ih (jn _ _)
def aCt(hj:j<n)(hi:i<j):tri j+i<tri n:=by have:=T5 (show j+1<=n by lia);show tri j+i<tri n;have e:tri (j+1)=tri j+j:=rfl;lia
theorem eR:∀(l m:Q0e),l.Nodup->(∀a∈l,a∈m)->l.length<=m.length
 |[],m,_,_=>jm _
 |a::l,m,h,hs=>by
  obtain⟨h1,h2⟩:=kr.mp h;have ha:=hs a b_;have ih:=eR l (m.erase a) h2 λb hb=>by have:b≠a:=λe=>h1 (e▸hb);show(List.mem_erase_of_ne this).mpr (hs b (fj _ hb))
  rw[List.length_erase_of_mem ha] at ih;have:0<m.length:=a18 ha;rw[cx];lia
end Ord
namespace LL
open L3 L4
def gC:jM:=bZ 2 2
  (aM (iO (tV (aE rG (cZ b9 (aA (aB 0) aF)) (eC (.int 0))))
   (bL (eC (.int 0)))
   d7)
  (bL (aE dQ (aB 0) (aE iU (aB 1) (cZ b9 (aA (aB 0) aF))))))
def fV:jM:=bZ 5 3
  (aM (bG 3 (aE iU (aE mulM (aE cD (aE cD (aE cD (aB 0) (aE mulM (aE mulM (eC (.int 11)) (aB 1)) (aB 1))) (aE mulM (eC (.int 17)) (aB 1))) (aB 2)) (eC (.int 48271))) (eC (.int 2147483647))))
  (aM (bG 4 (aE iU (aE cD (aE cD (aE mulM (aB 3) (aE cD (aE pR (aB 3) (eC (.int 4096))) (eC (.int 5)))) (aE mulM (eC (.int 29)) (aB 1))) (aB 2)) (eC (.int 2147483629))))
  (bL (aE iU (aE mulM (aB 4) (eC (.int 39373))) (eC (.int 1000000007))))))
def eZ:jM:=bZ 6 3
  (aM (lQ 3 (iV aF))
  (aM (bG 4 (eC (.int 0)))
  (aM (iO (tV (aE geM (aB 0) (aE F9 (eC (.int 10)) (eC (.int 18)))))
   (bG 4 (aB 0))
   d7)
  (aM (fQ (bX (aA (aB 1) aF)) (qE 5)
   (iO (tV (aE pS (aB 4) (eC (.int 0))))
    (aM (sX (vZ 3 nX (bF (aE iU (aB 4) (eC (.int 64))))))
    (bG 4 (aE pR (aB 4) (eC (.int 64)))))
    (sX (vZ 3 nX (bF (aL LL.fV (aA (aB 0) (aA (aB 5) (aA (aB 2) aF)))))))))
  (bL (aB 3))))))
def e8:Nat->jM
 |0=>λ_=>.no
 |n+1=>bZ 2 2
  (aM (iO (tV (kE "tuple" (aB 1)))
   (aM (iO (wU (lO (tV (kE "tuple" (aB 0)))) (tV (aE Y8 (cZ b9 (aA (aB 0) aF)) (cZ b9 (aA (aB 1) aF)))))
    (bL (eC (.bl ag)))
    d7)
   (bL (cZ allM (aA (cJ 1 [0,1] (bX (aA (cZ b9 (aA (aB 1) aF)) aF)) (g1 0) dO (aL (e8 n) (aA (aE dQ (aB 1) (aB 0)) (aA (aE dQ (aB 2) (aB 0)) aF)))) aF))))
   d7)
  (aM (iO (tV (aE ZD (aB 1) (eC .non)))
   (bL (aE ZD (aB 0) (eC .non)))
   d7)
  (aM (iO (tV (kE "bool" (aB 1)))
   (bL (lP (kE "bool" (aB 0)) (aE rG (aB 0) (aB 1))))
   d7)
  (aM (iO (tV (kE "int" (aB 1)))
   (bL (lP (kE "int" (aB 0)) (lP (DH (kE "bool" (aB 0))) (aE rG (aB 0) (aB 1)))))
   d7)
  (bL (lP (kE "str" (aB 0)) (aE rG (aB 0) (aB 1))))))))
def lT:jM:=bZ 11 3
  (aM (lQ 3 (JO (aA (aB 1) aF)))
  (aM (lQ 4 (iV aF))
  (aM (fQ (bX (aA (aB 1) aF)) (qE 5)
   (sX (vZ 4 nX (vZ 3 ZF (BK (aE iU (aE dQ (aB 0) (aB 5)) (cZ b9 (aA (aB 3) aF))))))))
  (aM (GD 6)
  (aM (bG 7 (aB 1))
  (aM (fQ (bX (aA (aB 1) aF)) (qE 8)
   (aM (bG 9 (iV aF))
   (aM (fQ (bX (aA (aB 8) aF)) (qE 10)
    (aM (iO (tV (aE GA (aE iU (aE dQ (aB 0) (aB 7)) (eC (.int 4))) (aB 2)))
     (nK 9 (aE PN (aB 9) (cJ 1 [9] (cB (aE cD (aE x6 (aB 6) (aE dQ (aB 4) (aB 10))) (iV (aA (aE dQ (aB 4) (aB 10)) aF)))) (g1 0) (tV (aE (xX af) (aB 0) (aB 1))) (aB 0))))
     d7)
    (bG 7 (aE cD (aB 7) (eC (.int 1))))))
   (M5 6 (bF (aB 9)) (aE dQ (aB 4) (aB 8))))))
  (bL (cZ eX (aA (cJ 1 [6] (bX (aA (aB 1) aF)) (g1 0) dO (cZ eX (aA (cZ k8 (aA (aE x6 (aB 1) (aB 0)) aF)) aF))) aF)))))))))
def lU:jM:=bZ 7 4
  (aM (bG 4 (aL LL.eZ (aA (aL LL.gC (aA (aB 0) (aA (aB 1) aF))) (aA (eC (.int 4)) (aA (aB 3) aF)))))
  (aM (bG 5 (aE iU (aE dQ (aB 4) (eC (.int 0))) (aE cD (aB 2) (eC (.int 1)))))
  (aM (bG 6 (aL LL.eZ (aA (aL LL.gC (aA (aB 0) (aA (aE cD (aB 1) (eC (.int 1))) aF))) (aA (aE cD (aB 5) (aE pR (aE mulM (aB 5) (aE gP (aB 5) (eC (.int 1)))) (eC (.int 2)))) (aA (aE cD (aB 3) (eC (.int 10007))) aF)))))
  (bL (aL LL.lT (aA (aB 6) (aA (aB 5) (aA (aE dQ (iV (aA (eC (.int 1)) (aA (eC (.int 1)) (aA (eC (.int 2)) (aA (eC (.int 2)) (aA (eC (.int 3)) (aA (eC (.int 1)) (aA (eC (.int 0)) (aA (eC (.int 4)) aF))))))))) (aE iU (aE dQ (aB 4) (eC (.int 1))) (eC (.int 8)))) aF))))))))
def τ(xs:Q0e):D:=.tup (xs.map D.int)
def aG(xs:Q0e):D:=.lst (xs.map D.int)
def aS(rows:Q0a):D:=.tup (rows.map τ)
def rM:cD (.int i) (.int j)=aa (.int (i+j)):=rfl
def yF:gP (.int i) (.int j)=aa (.int (i-j)):=rfl
def d8(h:0<j):iU (.int i) (.int j)=aa (.int (i%j)):=by simp[iU,p6,h]
def kK(h:0<j)(h2:j<1073741824):pR (.int i) (.int j)=aa (.int (i/j)):=by simp[pR,p6,h,show j.natAbs<1073741824 by lia]
def rN:GA (.int i) (.int j)=aa (.bl (Zv (i<j))):=rfl
def wZ:DI (.int i) (.int j)=aa (.bl (Zv (i<=j))):=rfl
def jX:pS (.int i) (.int j)=aa (.bl (Zv (j<i))):=rfl
def rO:geM (.int i) (.int j)=aa (.bl (Zv (j<=i))):=rfl
def k9:rG (.int i) (.int j)=aa (.bl (Zv (i=j))):=rfl
def w4:Y8 (.int i) (.int j)=aa (.bl (!Zv (i=j))):=rfl
def tY:rG (.bl i) (.bl j)=aa (.bl (Zv (i=j))):=rfl
def pE:rG (.str i) (.str j)=aa (.bl (Zv (i=j))):=rfl
def DQ:ZD d .non=aa (.bl (xW d)):=rfl
def rP:dQ (.lst a) (.int i)=xZ a i:=rfl
def w8:dQ (.tup a) (.int i)=xZ a i:=rfl
def DR:dQ (.j6 a) (.int i)=(xZ a i).map D.int:=rfl
def rQ:b9 [.lst a]=aa (.int a.length):=rfl
def kL:b9 [.tup a]=aa (.int a.length):=rfl
def yG:b9 [.j6 a]=aa (.int a.length):=rfl
def mJ:eX [.lst a]=aa (.tup a):=rfl
def qF:eX [.tup a]=aa (.tup a):=rfl
def tZ:Fg [.lst a]=aa (.lst a):=rfl
def t6:Fg [.tup a]=aa (.lst a):=rfl
def t7:GB (.lst a)=aa a:=rfl
def t8:GB (.tup a)=aa a:=rfl
def pF:lF (.bl b)=aa b:=rfl
def qG:lF (.lst b)=aa (!b.isEmpty):=rfl
def mK:lF (.tup b)=aa (!b.isEmpty):=rfl
def yH:nV (.bl b)=aa b:=rfl
def w9(h:ds.length<16777216):nX ds d=aa (ds++[d],.non):=Z_ h
def ZL(h:ds.length+es.length<=16777216):PU ds (.lst es)=aa (ds++es,.non):=Z_ h
def t9:M4 [.tup ds]=aa (ds.zipIdx.map λp=>.tup [.int (p.2:Int),p.1]):=rfl
def uA:M4 [.lst ds]=aa (ds.zipIdx.map λp=>.tup [.int (p.2:Int),p.1]):=rfl
def yI:yd [.tup ds]=aa ds.reverse:=rfl
def yJ:yd [.lst ds]=aa ds.reverse:=rfl
def ZM(h:t ρ=aa ds)(hl:ds.length<=16777216):iP t ρ=aa (.tup ds):=by unfold iP;rw[h];show Z_ hl
def eT(hl:ds.length=np)(h:b (c9 n ds)=.rt d):bZ n np b ds=.ok d:=by unfold bZ;rw[Z_ hl,h]
def bT(ρ':bU)(h1:f ρ=.nx ρ')(h2:g ρ'=o):aM f g ρ=o:=by unfold aM;rw[h1];show h2
def yK(h1:f ρ=.rt d):aM f g ρ=.rt d:=by unfold aM;rw[h1]
def dY(h:f (bR ρ)=aa d):bL f ρ=.rt d:=by unfold bL;rw[h]
def dZ(d:D)(h:f (jL ρ)=aa d)(hr:ρ.set i (.ro d)=ρ'):bG i f ρ=.nx ρ':=by unfold bG;rw[h,<- hr]
def wB(h:t (bR ρ)=aa af)(h2:a ρ=o):iO t a b ρ=o:=by unfold iO;rw[h];show h2
def mL(h:t (bR ρ)=aa ag)(h2:b ρ=o):iO t a b ρ=o:=by unfold iO;rw[h];show h2
def DS(ds:List D)(h:it (jL ρ)=aa ds)(h2:gA g b ds ρ=o):fQ it g b ρ=o:=by unfold fQ;rw[h];show h2
def fY(ds:List D)(h:it ρ=aa ds)(hl:ds.length<=16777216)(h2:kF g t e (benv nl fr ρ) ds=aa ys):cJ nl fr it g t e ρ=aa (.lst ys):=by unfold cJ;rw[h];show(if ds.length<=nU then _ else _)=_;rw[Z_ (show ds.length<=nU from hl),h2];rfl
def GH(h:a.length+b.length<=16777216):cD (.lst a) (.lst b)=aa (.lst (a++b)):=Z_ h
def GI(h:a.length+b.length<=16777216):cD (.tup a) (.tup b)=aa (.tup (a++b)):=Z_ h
def T6(h:a.length+b.length<=16777216):PN (.lst a) (.lst b)=aa (.lst (a++b)):=Z_ h
def uB(h:i.natAbs<18446744073709551616):mulM (.int i) (.int j)=aa (.int (i*j)):=by simp[mulM,p6,xV,h]
def DT(h:j.natAbs<18446744073709551616):mulM (.int i) (.int j)=aa (.int (i*j)):=by simp[mulM,p6,xV,h]
def yL(h:j.natAbs<4611686018427387904):JP [.int j]=aa ((bD 0 j.toNat).map D.int):=Z_ h
def rR{n:Nat}(h:n<4611686018427387904):JP [.int (n:Int)]=aa ((bD 0 n).map D.int):=by rw[yL ∅];rfl
theorem b7:∀ns:Q0e,intsOf (ns.map D.int)=aa ns
 |[]=>rfl
 |n::ns=>by simp[intsOf,b7 ns]
def pG{neg:Bool}{i:Int}{ns:Q0e}:xX neg (.int i) (.tup (ns.map D.int))=aa (.bl (if neg then !ns.contains i else ns.contains i)):=by simp[xX,b7]
def rS{neg:Bool}{i:Int}{ns:Q0e}:xX neg (.int i) (.lst (ns.map D.int))=aa (.bl (if neg then !ns.contains i else ns.contains i)):=by simp[xX,b7]
def sorted_ints(h:ns.length<64):k8 [.lst (ns.map D.int)]=aa (.lst ((sortI ns).map D.int)):=by simp[k8,b7,h]
def sum_ints{ns:Q0e}:JL [.lst (ns.map D.int)]=aa (.int ns.sum):=by simp[JL,b7]
theorem BR:∀bs:List Bool,tS (bs.map D.bl)=aa bs
 |[]=>rfl
 |b::bs=>by simp[tS,lF,BR bs]
def mM{bs:List Bool}:allM [.lst (bs.map D.bl)]=aa (.bl (bs.all id)):=by simp[allM,BR]
def yM{n:Nat}{i:Int}(h0:0<=i)(h1:i<n):M1 n i=aa i.toNat:=by unfold M1;rw[Z_ h0,Z_ h1]
def ZN(h:k<n):M1 n (k:Int)=aa k:=by rw[yM ∅ ∅];rfl
def ZO{α:Type}{xs:List α}{k:Nat}(h:k<xs.length):xZ xs (k:Int)=xs[k]?:=by unfold xZ;rw[ZN h];rfl
def DU{α:Type}{xs:List α}{i:Int}(h0:0<=i)(h1:i<xs.length):∃x∈xs,xZ xs i=aa x/\xs[i.toNat]?=aa x:=by
 have hl:i.toNat<xs.length:=by lia
 show⟨xs[i.toNat],k_ hl,?_,by simp[hl]⟩;unfold xZ;rw[yM h0 h1];simp[hl]
theorem xA{α β:Type}(f:α->β)(xs:List α)(i:Int):xZ (xs.map f) i=(xZ xs i).map f:=by
 unfold xZ;rw[a_]
 cases M1 xs.length i with
 |none=>rfl
 |some j=>simp
def rT{α:Type}{xs:List α}{k:Nat}{x:α}(h:xs[k]?=aa x):xZ xs (k:Int)=aa x:=by rw[ZO (cb.mp h).1,h]
def aO(lo:Int)(n:Nat):(bD lo n).length=n:=by simp[bD]
def kM(h:i<n):(bD lo n)[i]?=aa (lo+(i:Int)):=by simp[bD,h]
def BS(lo:Int)(n:Nat):bD lo (n+1)=bD lo n++[lo+(n:Int)]:=by simp[bD,a12]
def aT:x∈bD lo n↔lo<=x/\x<lo+n:=by
 unfold bD;rw[fw];simp only[lz]
 constructor
 .rintro ⟨k,hk,rfl⟩;lia
 .rintro ⟨h1,h2⟩;show⟨(x-lo).toNat,by lia,by lia⟩
theorem GJ(P:Nat->bU->Prop)(ds:List D)(h0:P 0 ρ)(step:∀(i:Nat) (d:D) (ρ:bU),ds[i]?=aa d->P i ρ ->∃ρ1 ρ2,g d ρ=aa ρ1/\b ρ1=.nx ρ2/\P (i+1) ρ2):
  ∃ρ',gA g b ds ρ=.nx ρ'/\P ds.length ρ':=by
 suffices H:∀(l:List D) (k:Nat) (ρ:bU),ds.drop k=l->k<=ds.length->P k ρ ->∃ρ',gA g b l ρ=.nx ρ'/\P ds.length ρ' from H ds 0 ρ (by simp) (jm _) h0
 intro l
 induction l with
 |nil =>
  intro k ρ hl hk hp;have:ds.length<=k:=by simpa using hl
  show⟨ρ,rfl,by rwa [show ds.length=k by lia]⟩
 |cons d l ih =>
  intro k ρ hl hk hp;have hk':k<ds.length:=by apply mi;intro h;rw[a2g ∅] at hl;cases hl
  have hd:ds[k]?=aa d:=by have:=congrArg (λx=>x[0]?) hl;simpa using this
  obtain⟨ρ1,ρ2,e1,e2,p2⟩:=step k d ρ hd hp;have hl2:ds.drop (k+1)=l:=by rw[r_ hk'] at hl;show(Al hl).2
  obtain⟨ρ',e3,p3⟩:=ih (k+1) ρ2 hl2 hk' p2;show⟨ρ',by simp only[gA,e1,e2,e3],p3⟩
theorem T7(P:Nat->bU->Prop)(lo:Int)(n:Nat)(h0:P 0 ρ)(step:∀(i:Nat) (ρ:bU),i<n->P i ρ ->∃ρ1 ρ2,g (.int (lo+(i:Int))) ρ=aa ρ1/\b ρ1=.nx ρ2/\P (i+1) ρ2):
  ∃ρ',gA g b ((bD lo n).map D.int) ρ=.nx ρ'/\P n ρ':=by
 have:=GJ (g:=g) (b:=b) P ((bD lo n).map D.int) h0 λi d ρ hd hp=>by
  have hi:i<n:=by have:=(cb.mp hd).1;simpa[aO] using this
  rw[cf,kM hi] at hd;cases hd;show step i ρ hi hp
 simpa[aO] using this
theorem BU{α:Type}(mk:α->D)(f:α->D)(l:List α)(h:∀a∈l,(g (mk a) ρ).bind e=aa (f a)):kF g dO e ρ (l.map mk)=aa (l.map f):=by
 induction l with
 |nil=>rfl
 |cons a l ih =>
  have h1:=h a (by simp);have h2:=ih λx hx=>h x (by simp[hx])
  cases hg:g (mk a) ρ with
  |none=>rw[hg] at h1;cases h1
  |some ρ1 =>
   rw[hg] at h1;have h1':e ρ1=aa (f a):=h1;simp only[bj,kF,hg,c_,dO,if_true,h1',h2,ng]
def dP{α:Type}(mk:α->D)(f:α->D)(l:List α)(h:∀a∈l,∃ρ1,g (mk a) ρ=aa ρ1/\e ρ1=aa (f a)):kF g dO e ρ (l.map mk)=aa (l.map f) :=
 BU mk f l λa ha=>by obtain⟨ρ1,h1,h2⟩:=h a ha;rw[h1];show h2
theorem fI{α:Type}(mk:α->D)(p:α->Bool)(f:α->D)(l:List α)(h:∀a∈l,∃ρ1,g (mk a) ρ=aa ρ1/\t ρ1=aa (p a)/\(p a=af->e ρ1=aa (f a))):
  kF g t e ρ (l.map mk)=aa ((l.filter p).map f):=by
 induction l with
 |nil=>rfl
 |cons a l ih =>
  obtain⟨ρ1,h1,h2,h3⟩:=h a (by simp);have ih:=ih λx hx=>h x (by simp[hx])
  cases hp:p a with
  |false=>simp[kF,h1,h2,hp,ih]
  |true=>simp[kF,h1,h2,hp,h3 hp,ih]
theorem T8{α β:Type}(mk:α->D)(out:β->D)(R:α->β->Prop)(l:List α)(h:∀a∈l,∃ρ1 b,g (mk a) ρ=aa ρ1/\e ρ1=aa (out b)/\R a b):
  ∃bs:List β,bs.length=l.length/\(∀(i:Nat) (a:α) (b:β),l[i]?=aa a->bs[i]?=aa b->R a b)/\kF g dO e ρ (l.map mk)=aa (bs.map out):=by
 induction l with
 |nil=>show⟨[],rfl,λi a b h=>by simp at h,rfl⟩
 |cons a l ih =>
  obtain⟨ρ1,b,h1,h2,h3⟩:=h a (by simp);obtain⟨bs,hl,hr,hc⟩:=ih λx hx=>h x (by simp[hx]);show⟨b::bs,by simp[hl],λi x y hx hy=>?_,by simp[kF,h1,h2,hc,dO]⟩
  cases i with
  |zero=>simp at hx hy;subst hx hy;show h3
  |succ i=>show hr i x y (by simpa using hx) (by simpa using hy)
def Rt(o:Out)(Q:D->Prop):Prop:=∃d,o=.rt d/\Q d
def Nx(o:Out)(Q:bU->Prop):Prop:=∃ρ,o=.nx ρ/\Q ρ
def kN(M:bU->Prop)(h1:Nx (f ρ) M)(h2:∀ρ',M ρ'->Rt (g ρ') Q):Rt (aM f g ρ) Q:=by obtain⟨ρ',e,m⟩:=h1;unfold aM;rw[e];show h2 ρ' m
def T9(M:bU->Prop)(h1:Nx (f ρ) M)(h2:∀ρ',M ρ'->Nx (g ρ') Q):Nx (aM f g ρ) Q:=by obtain⟨ρ',e,m⟩:=h1;unfold aM;rw[e];show h2 ρ' m
def aZ(ρ':bU)(h1:f ρ=.nx ρ')(h2:Rt (g ρ') Q):Rt (aM f g ρ) Q:=by unfold aM;rw[h1];show h2
def mO(ρ':bU)(h1:f ρ=.nx ρ')(h2:Nx (g ρ') Q):Nx (aM f g ρ) Q:=by unfold aM;rw[h1];show h2
def xB(h1:Rt (f ρ) Q):Rt (aM f g ρ) Q:=by obtain⟨d,e,m⟩:=h1;unfold aM;rw[e];show⟨d,rfl,m⟩
def Yv(c:Bool)(h:t (bR ρ)=aa c)(h1:c=af->Nx (a ρ) Q)(h2:c=ag->Nx (b ρ) Q):Nx (iO t a b ρ) Q:=by unfold iO;rw[h];cases c;show h2 rfl;show h1 rfl
def kO(d:D)(h:f (bR ρ)=aa d)(q:Q d):Rt (bL f ρ) Q:=⟨d,dY h,q⟩
def DW(d:D)(h:f (jL ρ)=aa d)(q:Q (ρ.set i (.ro d))):Nx (bG i f ρ) Q:=⟨_,dZ d h rfl,q⟩
def aCu(q:Q ρ):Nx (d7 ρ) Q:=⟨ρ,rfl,q⟩
theorem uC(ds:List D)(P:Nat->bU->Prop)(h:it (jL ρ)=aa ds)(h0:P 0 ρ)(step:∀(i:Nat) (d:D) (ρ:bU),ds[i]?=aa d->P i ρ ->∃ρ1,g d ρ=aa ρ1/\Nx (b ρ1) (P (i+1)))
  (fin:∀ρ',P ds.length ρ'->Q ρ'):Nx (fQ it g b ρ) Q:=by
 obtain⟨ρ',e,p⟩:=GJ (g:=g) (b:=b) P ds h0 λi d ρ hd hp=>by obtain⟨ρ1,e1,ρ2,e2,p2⟩:=step i d ρ hd hp;show⟨ρ1,ρ2,e1,e2,p2⟩
 show⟨ρ',DS ds h e,fin ρ' p⟩
theorem nZ{t:AF}{g:GSF}{b:SF}{ρ:bU}{Q:bU->Prop}(n:Nat)(P:Nat->bU->Prop)(h:t (jL ρ)=aa [.int (n:Int)])(hn:n<4611686018427387904)(h0:P 0 ρ)(step:∀(i:Nat) (ρ:bU),i<n->P i ρ ->∃ρ1,g (.int (i:Int)) ρ=aa ρ1/\Nx (b ρ1) (P (i+1)))
  (fin:∀ρ',P n ρ'->Q ρ'):Nx (fQ (bX t) g b ρ) Q:=by
 show uC ((bD 0 n).map D.int) P (by unfold bX;rw[h,c_,rR hn]) h0 (λi d ρ hd hp=>?_) (λρ' p=>fin ρ' (by simpa[aO] using p));have hi:i<n:=by have:=(cb.mp hd).1;simpa[aO] using this
 rw[cf,kM hi] at hd;have hd:D.int (0+(i:Int))=d:=by simpa using hd
 subst hd;obtain⟨ρ1,e,q⟩:=step i ρ hi hp;show⟨ρ1,by rw[j_];show e,q⟩
def mP(hl:ds.length=np)(h:Rt (b (c9 n ds)) Q):∃d,bZ n np b ds=.ok d/\Q d:=by obtain⟨d,e,q⟩:=h;show⟨d,eT hl e,q⟩
theorem BV:∀(l:Q0e) (j:Nat),(l.map D.int).eraseIdx j=(l.eraseIdx j).map D.int
 |[],j=>by simp
 |a::l,0=>by simp
 |a::l,j+1=>by simp[BV l j]
def aU(ha:a ρ=aa x)(hb:b ρ=aa y)(h:g x y=z):aE g a b ρ=z:=by unfold aE;rw[ha,hb];show h
def cN(ha:a ρ=aa x)(h:g [x]=z):cZ g (aA a aF) ρ=z:=by unfold cZ aA aF;rw[ha];show h
def Dc(ha:a ρ=aa x)(hb:b ρ=aa y)(h:g [x,y]=z):cZ g (aA a (aA b aF)) ρ=z:=by unfold cZ aA aF;rw[ha,hb];show h
def e9(ha:a ρ=aa x)(h:f [x]=.ok d):aL f (aA a aF) ρ=aa d:=by unfold aL aA aF;rw[ha];show rJ (f [x])=_;rw[h];rfl
def cP(ha:a ρ=aa x)(hb:b ρ=aa y)(h:f [x,y]=.ok d):aL f (aA a (aA b aF)) ρ=aa d:=by unfold aL aA aF;rw[ha,hb];show rJ (f [x,y])=_;rw[h];rfl
def dA(ha:a ρ=aa x)(hb:b ρ=aa y)(hc:c ρ=aa z)(h:f [x,y,z]=.ok d):aL f (aA a (aA b (aA c aF))) ρ=aa d:=by unfold aL aA aF;rw[ha,hb,hc];show rJ (f [x,y,z])=_;rw[h];rfl
def aCv(ha:a ρ=aa x)(hb:b ρ=aa y)(hc:c ρ=aa z)(he:e ρ=aa w)(h:f [x,y,z,w]=.ok d):aL f (aA a (aA b (aA c (aA e aF)))) ρ=aa d:=by unfold aL aA aF;rw[ha,hb,hc,he];show rJ (f [x,y,z,w])=_;rw[h];rfl
def args1(ha:a ρ=aa x):aA a aF ρ=aa [x]:=by unfold aA aF;rw[ha];rfl
def args2(ha:a ρ=aa x)(hb:b ρ=aa y):aA a (aA b aF) ρ=aa [x,y]:=by unfold aA aF;rw[ha,hb];rfl
def GK{a:EF}{ρ:dW}{n:Nat}(ha:a ρ=aa (.int (n:Int)))(hn:n<4611686018427387904):bX (aA a aF) ρ=aa ((bD 0 n).map D.int):=by unfold bX;rw[args1 ha,c_,rR hn]
def iQ(h:f ρ=aa d)(ht:lF d=aa b):tV f ρ=aa b:=by unfold tV;rw[h];show ht
def NC(h:t ρ=aa b)(hc:(!b)=c):lO t ρ=aa c:=by unfold lO;rw[h,<- hc];rfl
def Fd(h:t ρ=aa b)(h2:b=af->u ρ=aa c)(h3:b=ag->c=ag):pQ t u ρ=aa c:=by
 unfold pQ;rw[h];cases b
 .rw [h3 rfl];rfl
 .exact h2 rfl
def yN(h:t ρ=aa b)(h2:b=ag->u ρ=aa c)(h3:b=af->c=af):wU t u ρ=aa c:=by
 unfold wU;rw[h];cases b
 .exact h2 rfl
 .rw [h3 rfl];rfl
def ZP{l:Q0e}{i:Int}{y:Int}(h0:0<=i)(h1:i<l.length)(h2:l.length<=16777216)(hy:l[i.toNat]?=aa y):ZF (l.map D.int) (.int i)=aa ((l.eraseIdx i.toNat).map D.int,.int y):=by show(if i.natAbs<9223372036854775808 then _ else _)=_;rw[Z_ ∅,a_,yM h0 h1,c_,cf,hy,BV];rfl
def mQ{ws:Q0e}{j:Nat}{x:Int}(h:ws[j]?=aa x):xZ (ws.map D.int) (j:Int)=aa (.int x):=by rw[xA,rT h];rfl
def UA{α:Type}{l:List α}{i j:Nat}{x:α}(h:l[i]?=aa x)(hij:i<j):(l.take j)[i]?=aa x:=by rw[Aj hij];show h
theorem j8:∀ns:Q0e,rH (ns.map D.int)=af
 |[]=>rfl
 |n::ns=>by rw[bj,rH,j8 ns];rfl
def qH:k7 (q::ks) (d::ds) k=if q=k then aa d else k7 ks ds k:=by
 by_cases e:q=k
 .simp [k7,e]
 .simp [k7,e]
theorem uD:∀{Ξ:Q0e} {us:Q0a} {i:Nat} {x:Int} {v:Q0e},Ξ.Nodup->Ξ[i]?=aa x->us[i]?=aa v->k7 (Ξ.map cm) (us.map aG) (cm x)=aa (aG v)
 |[],us,i,x,v,_,h,_=>by simp at h
 |w::ws,[],i,x,v,_,_,h=>by simp at h
 |w::ws,u::us,0,x,v,_,h1,h2=>by simp at h1 h2;subst h1 h2;rw[bj,bj,qH,Z_ rfl]
 |w::ws,u::us,i+1,x,v,hn,h1,h2=>by
  obtain⟨n1,n2⟩:=kr.mp hn;have h1':ws[i]?=aa x:=by simpa using h1
  have ne:(cm w:Sum Int aj)≠cm x:=λe=>n1 (by cases e;show l_ h1');rw[bj,bj,qH,Zz ne];show uD n2 h1' (by simpa using h2)
theorem BW:∀{Ξ:Q0e} {us:Q0a} {x:Int},x∉Ξ->k7 (Ξ.map cm) (us.map aG) (cm x)=ae
 |[],us,x,_=>by simp[k7]
 |w::ws,[],x,_=>by simp[k7]
 |w::ws,u::us,x,h=>by have ne:(cm w:Sum Int aj)≠cm x:=λe=>h (by cases e;show b_);rw[bj,bj,qH,Zz ne];show BW λz=>h (fj _ z)
theorem insI_perm(a:Int):∀l:Q0e,(insI a l).Perm (a::l)
 |[]=>.refl _
 |b::l=>by
  unfold insI;split
  .exact .refl _
  .exact ((insI_perm a l).cons b).trans (.swap a b l)
theorem sortI_perm:∀l:Q0e,(sortI l).Perm l
 |[]=>.refl _
 |a::l=>(insI_perm a (sortI l)).trans ((sortI_perm l).cons a)
theorem vK(a:Int):∀l:Q0e,l.Pairwise (· <= ·)->(insI a l).Pairwise (· <= ·)
 |[],_=>by simp[insI]
 |b::l,h=>by
  unfold insI;split
  .rename_i hab;show ft.mpr ⟨λc hc=>?_,h⟩;rcases bh.mp hc with e|e
   .subst e;show hab
   .exact Iq hab ((ft.mp h).1 c e)
  .rename_i hab;show ft.mpr ⟨λc hc=>?_,vK a l (ft.mp h).2⟩;rcases bh.mp ((insI_perm a l).mem_iff.mp hc) with e|e
   .subst e;lia
   .exact (ft.mp h).1 c e
theorem iE:∀l:Q0e,(sortI l).Pairwise (· <= ·)
 |[]=>Im
 |a::l=>vK a _ (iE l)
theorem uE:∀{l m:Q0e},l.Perm m->l.Pairwise (· <= ·)->m.Pairwise (· <= ·)->l=m
 |[],m,p,_,_=>by rw[p.nil_eq]
 |a::l,[],p,_,_=>by have:=p.length_eq;simp at this
 |a::l,b::m,p,h1,h2=>by
  have e:a=b:=by
   have m1:=p.mem_iff.mp (b_ (a:=a) (l:=l));have m2:=p.mem_iff.mpr (b_ (a:=b) (l:=m));rcases bh.mp m1 with e|e
   .exact e
   .rcases bh.mp m2 with e2|e2
    .exact e2.symm
    .have:=(ft.mp h2).1 a e;have:=(ft.mp h1).1 b e2;lia
  subst e;rw[uE p.cons_inv (ft.mp h1).2 (ft.mp h2).2]
def UB(p:m.Perm l)(h:m.Pairwise (· <= ·)):sortI l=m:=uE ((sortI_perm l).trans p.symm) (iE l) h
local macro_rules | `(tactic| walk_at "ev") => `(tactic| simp only[c9,aM,iO,bL,bG,vH,lQ,TQ,nK,GD,sX,fQ,d7,aB,eC,aE,tV,lO,pQ,wU,lP,tw,DH,TN,PM,f7,aF,aA,cZ,aL,rJ,kE,cB,bX,nW,ye,yc,g1,g2,qE,JQ,BJ,dO,benv,ZE,ll,oE,asInt,bF,vZ,pU,bR,jL,Sv.all,Sv.rd,bj,ma,r9,la,Ia,zx,zy,c_,Hn,ng,Hm,Ab,Ac,Hs,cx,iq,a_,vt,ku,jh,Ad,Nat.reduceSub,Nat.reduceAdd,Nat.reduceEqDiff,pF,qG,mK,yH,ZC,rM,yF,rN,wZ,jX,rO,k9,w4,tY,pE,DQ,xW,rP,w8,DR,rQ,kL,yG,mJ,qF,tZ,t6,t7,t8,t9,uA,yI,yJ,if_true,if_false,ite_true,ite_false,reduceIte,decide_true,decide_false,decide_eq_true_eq,oo,Aq,Ar,pG,rS])
def xC(ns:Q0e)(k:Int):∃c,gC [.j6 ns,.int k]=.ok (.int c):=by
 unfold gC;by_cases h:(ns.length:Int)=0
 .exact ⟨0,eT rfl (yK (wB (by walk_at "ev";rw[Zx h]) rfl))⟩
 .obtain ⟨x,_,e,_⟩:=DU (xs:=ns) (i:=k%(ns.length:Int)) (lj _ ∅) (om _ ∅);show⟨x,eT rfl (bT _ (mL (by walk_at "ev";rw[Zy h]) rfl) (dY ?_))⟩
  walk_at "ev"
  rw[d8 ∅]
  walk_at "ev"
  rw[e];rfl
def UC(c k s:Int):Int:=(c+11*k*k+17*k+s)*48271%2147483647
def Di(c k s:Int):Int:=(UC c k s*(UC c k s/4096+5)+29*k+s)%2147483629
def GL(c k s:Int)(h0:0<=k)(h1:k<1000000):∃r,0<=r/\fV [.int c,.int k,.int s]=.ok (.int r):=by
 unfold fV;have ha:0<=UC c k s:=lj ((c+11*k*k+17*k+s)*48271) (b:=2147483647) (by decide);have hb:UC c k s<2147483647:=om ((c+11*k*k+17*k+s)*48271) (b:=2147483647) (by decide);show⟨Di c k s*39373%1000000007,lj _ (b:=1000000007) (by decide),eT rfl (bT _ (dZ (.int (UC c k s)) ?_ rfl) (bT _ (dZ (.int (Di c k s)) ?_ rfl) (dY ?_)))⟩
 .walk_at "ev"
  rw[uB (by decide)]
  walk_at "ev"
  rw[DT ∅,uB (i:=17) (by decide)]
  walk_at "ev"
  rw[DT (j:=48271) (by decide)]
  walk_at "ev"
  rw[d8 (by decide)];rfl
 .walk_at "ev"
  rw[kK (by decide) (by decide)]
  walk_at "ev"
  rw[uB ∅,uB (i:=29) (by decide)]
  walk_at "ev"
  rw[d8 (by decide)];rfl
 .walk_at "ev"
  rw[DT (j:=39373) (by decide)]
  walk_at "ev"
  rw[d8 (by decide)]
def BX(xs:Q0e)(x:Int):D.lst (xs.map D.int++[.int x])=aG (xs++[x]):=by simp[aG]
def rV(c many s:Int)(h0:0<=many)(h1:many<1000000):∃xs:Q0e,xs.length=many.toNat/\(∀x∈xs,0<=x)/\eZ [.int c,.int many,.int s]=.ok (aG xs):=by
 unfold eZ;have key:∀left:Int,∃ρ',gA (qE 5) (iO (tV (aE pS (aB 4) (eC (.int 0))))
    (aM (sX (vZ 3 nX (bF (aE iU (aB 4) (eC (.int 64))))))
    (bG 4 (aE pR (aB 4) (eC (.int 64)))))
    (sX (vZ 3 nX (bF (aL LL.fV (aA (aB 0) (aA (aB 5) (aA (aB 2) aF))))))))
    ((bD 0 many.toNat).map D.int) [Sv.ro (.int c),Sv.ro (.int many),Sv.ro (.int s),Sv.ow (.lst []),Sv.ro (.int left),Sv.no]=.nx ρ' /\
    ∃(xs:Q0e) (l:Int) (v:Sv),xs.length=many.toNat/\(∀x∈xs,0<=x)/\ρ'=[Sv.ro (.int c),Sv.ro (.int many),Sv.ro (.int s),Sv.ow (aG xs),Sv.ro (.int l),v]:=by
  intro left;show T7 (λi ρ'=>∃(xs:Q0e) (l:Int) (v:Sv),xs.length=i/\(∀x∈xs,0<=x)/\ρ'=[Sv.ro (.int c),Sv.ro (.int many),Sv.ro (.int s),Sv.ow (aG xs),Sv.ro (.int l),v]) 0 _ ⟨[],left,_,rfl,by simp,rfl⟩ ?_;rintro i _ hi ⟨xs,l,v,hx,hn,rfl⟩;have hlen:(xs.map D.int).length<16777216:=by rw[a_];lia
  by_cases hl:0<l
  .refine ⟨_,_,rfl,wB (by walk_at "ev";rw[Zx hl]) (bT [Sv.ro (.int c),Sv.ro (.int many),Sv.ro (.int s),Sv.ow (aG (xs++[l%64])),Sv.ro (.int l),Sv.ro (.int (0+(i:Int)))] ?_ (dZ (.int (l/64)) ?_ rfl)),xs++[l%64],l/64,_,by simp[hx],?_,rfl⟩
   .walk_at "ev"
    rw[d8 (by decide)]
    walk_at "ev"
    simp only[aG,pU]
    walk_at "ev"
    rw[w9 hlen]
    walk_at "ev"
    rw[BX];rfl
   .walk_at "ev"
    rw[kK (by decide) (by decide)]
   .intro x hx;rcases gm.mp hx with h|h
    .exact hn x h
    .rw [cc.mp h];show lj _ (by decide)
  .obtain ⟨r,hr,e⟩:=GL c (0+(i:Int)) s ∅ ∅;show⟨_,[Sv.ro (.int c),Sv.ro (.int many),Sv.ro (.int s),Sv.ow (aG (xs++[r])),Sv.ro (.int l),Sv.ro (.int (0+(i:Int)))],rfl,mL (by walk_at "ev";rw[Zy hl]) ?_,xs++[r],l,_,by simp[hx],?_,rfl⟩
   .walk_at "ev"
    rw[e];simp only[aG,pU]
    walk_at "ev"
    rw[w9 hlen]
    walk_at "ev"
    rw[BX];rfl
   .intro x hx;rcases gm.mp hx with h|h
    .exact hn x h
    .rw [cc.mp h];show hr
 have hp:F9 (.int 10) (.int 18)=aa (.int 1000000000000000000):=rfl;have fin:∀left:Int,(0=0) ->∃xs:Q0e,xs.length=many.toNat/\(∀x∈xs,0<=x)/\aM (fQ (bX (aA (aB 1) aF)) (qE 5) (iO (tV (aE pS (aB 4) (eC (.int 0))))
    (aM (sX (vZ 3 nX (bF (aE iU (aB 4) (eC (.int 64))))))
    (bG 4 (aE pR (aB 4) (eC (.int 64)))))
    (sX (vZ 3 nX (bF (aL LL.fV (aA (aB 0) (aA (aB 5) (aA (aB 2) aF))))))))) (bL (aB 3)) [Sv.ro (.int c),Sv.ro (.int many),Sv.ro (.int s),Sv.ow (.lst []),Sv.ro (.int left),Sv.no]=.rt (aG xs):=by
  intro left _;obtain⟨ρ',e,xs,l,v,h1',h2',rfl⟩:=key left;show⟨xs,h1',h2',bT _ (DS _ ?_ e) (dY rfl)⟩
  walk_at "ev"
  show yL ∅
 by_cases hc:1000000000000000000<=c
 .obtain ⟨xs,a,b,e⟩:=fin c rfl;show⟨xs,a,b,eT rfl (bT _ rfl (bT _ rfl (bT _ (wB ?_ rfl) e)))⟩
  walk_at "ev"
  rw[hp]
  walk_at "ev"
  rw[Zx hc]
 .obtain ⟨xs,a,b,e⟩:=fin 0 rfl;show⟨xs,a,b,eT rfl (bT _ rfl (bT _ rfl (bT _ (mL ?_ rfl) e)))⟩
  walk_at "ev"
  rw[hp]
  walk_at "ev"
  rw[Zy hc]
theorem UD(dr:Q0e)(n:Nat)(th:Int)(hn:n<=9)(hl:n+Ord.tri n<=dr.length):
  ∃d,lT [aG dr,.int n,.int th]=.ok d /\∃rows:Q0a,rows.length=n/\Ord.Rows rows/\d=aS rows:=by
 unfold lT;show mP rfl ?_;rw[show c9 11 [aG dr,.int n,.int th]=[Sv.ro (aG dr),Sv.ro (.int n),Sv.ro (.int th),Sv.no,Sv.no,Sv.no,Sv.no,Sv.no,Sv.no,Sv.no,Sv.no] from rfl];show aZ [Sv.ro (aG dr),Sv.ro (.int n),Sv.ro (.int th),Sv.ow (.lst ((bD 0 n).map D.int)),Sv.no,Sv.no,Sv.no,Sv.no,Sv.no,Sv.no,Sv.no] ?_ ?_
 .walk_at "ev"
  simp only[JO]
  walk_at "ev"
  rw[Z_ ∅];rfl
 show aZ [Sv.ro (aG dr),Sv.ro (.int n),Sv.ro (.int th),Sv.ow (.lst ((bD 0 n).map D.int)),Sv.ow (.lst []),Sv.no,Sv.no,Sv.no,Sv.no,Sv.no,Sv.no] rfl ?_;show kN (λρ=>∃(Ξ:Q0e) (kv v3:Sv),Ξ.Perm (bD 0 n)/\ρ=[Sv.ro (aG dr),Sv.ro (.int n),Sv.ro (.int th),v3,Sv.ow (aG Ξ),kv,Sv.no,Sv.no,Sv.no,Sv.no,Sv.no]) ?_ ?_
 .refine nZ n (λi ρ=>∃(Θ Ξ:Q0e) (kv:Sv),Ξ.length=i/\(Ξ++Θ).Perm (bD 0 n)/\ρ=[Sv.ro (aG dr),Sv.ro (.int n),Sv.ro (.int th),Sv.ow (aG Θ),Sv.ow (aG Ξ),kv,Sv.no,Sv.no,Sv.no,Sv.no,Sv.no])
   rfl ∅ ⟨bD 0 n,[],Sv.no,rfl,.refl _,rfl⟩ ?_ ?_
  .rintro i _ hi ⟨Θ,Ξ,kv,hw,hp,rfl⟩;have hlr:Ξ.length+Θ.length=n:=by have:=hp.length_eq;rw[di,aO] at this;show this
   obtain⟨x,hx⟩:∃x,dr[i]?=aa x:=⟨_,bw ∅⟩;have hr0:(0:Int)<Θ.length:=by lia
   have h0:=lj x (show(Θ.length:Int)≠0 by lia);have h1:=om x hr0;obtain⟨y,hy⟩:∃y,Θ[(x%(Θ.length:Int)).toNat]?=aa y:=⟨_,bw ∅⟩;show⟨_,rfl,[Sv.ro (aG dr),Sv.ro (.int n),Sv.ro (.int th),Sv.ow (aG (Θ.eraseIdx (x%(Θ.length:Int)).toNat)),Sv.ow (aG (Ξ++[y])),Sv.ro (.int i),Sv.no,Sv.no,Sv.no,Sv.no,Sv.no],?_,Θ.eraseIdx (x%(Θ.length:Int)).toNat,Ξ++[y],Sv.ro (.int i),by simp[hw],?_,rfl⟩
   .have e1:=ZP h0 h1 ∅ hy;simp only[aG]
    walk_at "ev"
    simp only[BK]
    walk_at "ev"
    rw[mQ hx]
    walk_at "ev"
    rw[d8 hr0]
    walk_at "ev"
    simp only[D.A2,ite_true,c_]
    walk_at "ev"
    rw[e1]
    walk_at "ev"
    rw[w9 (by rw[a_];lia)]
    walk_at "ev"
    rw[g_];rfl
   .rw [og];show((Ord.yD Θ _ y hy).append_left Ξ).trans hp
  .rintro _ ⟨Θ,Ξ,kv,hw,hp,rfl⟩;have hlr:Ξ.length+Θ.length=n:=by have:=hp.length_eq;rw[di,aO] at this;show this
   have e:Θ=[]:=vm.mp ∅;subst e;rw[ij] at hp;show⟨Ξ,kv,_,hp,rfl⟩
 rintro _ ⟨Ξ,kv,v3,hp,rfl⟩;have hpw:Ξ.Perm ((bz n).map λk:Nat=>(k:Int)):=by
  have e:bD 0 n=(bz n).map λk:Nat=>(k:Int):=f_ λk _=>by show 0+(k:Int)=k;lia
  rw[<- e];show hp
 have hlw:Ξ.length=n:=by rw[hpw.length_eq,a_,nu]
 have ndw:Ξ.Nodup:=hpw.nodup_iff.mpr (si _ (λa b hab e=>hab ∅) a13);have x_:∀{us:Q0a} (t:Nat) (u:Q0e),Ord.Under Ξ us t u->u.length<=n:=λ{us} t u h=>by rw[<- hlw];show Ord.eR u Ξ h.1 λa ha=>by obtain⟨s,_,_,h2,_⟩:=h.2 a ha;show l_ h2
 show aZ [Sv.ro (aG dr),Sv.ro (.int n),Sv.ro (.int th),v3,Sv.ow (aG Ξ),kv,Sv.ow (.kZ [] []),Sv.no,Sv.no,Sv.no,Sv.no] rfl ?_;show aZ [Sv.ro (aG dr),Sv.ro (.int n),Sv.ro (.int th),v3,Sv.ow (aG Ξ),kv,Sv.ow (.kZ [] []),Sv.ro (.int n),Sv.no,Sv.no,Sv.no] rfl ?_;show kN (λρ=>∃(us:Q0a) (v7 v8 v9 v10:Sv),us.length=n/\Ord.Good Ξ us/\ρ=[Sv.ro (aG dr),Sv.ro (.int n),Sv.ro (.int th),v3,Sv.ow (aG Ξ),kv,Sv.ow (.kZ (Ξ.map cm) (us.map aG)),v7,v8,v9,v10]) ?_ ?_
 .refine nZ n (λj ρ=>∃(us:Q0a) (v8 v9 v10:Sv),us.length=j/\Ord.Good Ξ us/\ρ=[Sv.ro (aG dr),Sv.ro (.int n),Sv.ro (.int th),v3,Sv.ow (aG Ξ),kv,Sv.ow (.kZ ((Ξ.take j).map cm) (us.map aG)),Sv.ro (.int ((n+Ord.tri j:Nat):Int)),v8,v9,v10])
   rfl ∅ ⟨[],Sv.no,Sv.no,Sv.no,rfl,(λt u e=>by simp at e),rfl⟩ ?_ ?_
  .rintro j _ hj ⟨us,v8,v9,v10,hul,hg,rfl⟩;show⟨_,rfl,?_⟩;show mO [Sv.ro (aG dr),Sv.ro (.int n),Sv.ro (.int th),v3,Sv.ow (aG Ξ),kv,Sv.ow (.kZ ((Ξ.take j).map cm) (us.map aG)),Sv.ro (.int ((n+Ord.tri j:Nat):Int)),Sv.ro (.int j),Sv.ro (.lst []),v10] rfl ?_;show T9 (λρ=>∃(u:Q0e) (v10:Sv),Ord.Under Ξ us j u/\ρ=[Sv.ro (aG dr),Sv.ro (.int n),Sv.ro (.int th),v3,Sv.ow (aG Ξ),kv,Sv.ow (.kZ ((Ξ.take j).map cm) (us.map aG)),Sv.ro (.int ((n+Ord.tri (j+1):Nat):Int)),Sv.ro (.int j),Sv.ro (aG u),v10]) ?_ ?_
   .refine nZ j (λi ρ=>∃(u:Q0e) (v10:Sv),Ord.Under Ξ us i u/\ρ=[Sv.ro (aG dr),Sv.ro (.int n),Sv.ro (.int th),v3,Sv.ow (aG Ξ),kv,Sv.ow (.kZ ((Ξ.take j).map cm) (us.map aG)),Sv.ro (.int ((n+Ord.tri j+i:Nat):Int)),Sv.ro (.int j),Sv.ro (aG u),v10])
     rfl ∅ ⟨[],_,⟨rj,λa ha=>(nomatch ha)⟩,rfl⟩ ?_ ?_
    .rintro i _ hi ⟨u,v10,hU,rfl⟩;have tl:=Ord.aCt hj hi;obtain⟨y,hy⟩:∃y,dr[n+Ord.tri j+i]?=aa y:=⟨_,bw ∅⟩;obtain⟨x,hx⟩:∃x,Ξ[i]?=aa x:=⟨_,bw ∅⟩;obtain⟨v,hv⟩:∃v,us[i]?=aa v:=⟨_,bw ∅⟩;have lv:=x_ _ _ (hg i v hv);have lu:=x_ _ _ hU;show⟨_,rfl,?_⟩;show T9 (λρ=>∃u':Q0e,Ord.Under Ξ us (i+1) u'/\ρ=[Sv.ro (aG dr),Sv.ro (.int n),Sv.ro (.int th),v3,Sv.ow (aG Ξ),kv,Sv.ow (.kZ ((Ξ.take j).map cm) (us.map aG)),Sv.ro (.int ((n+Ord.tri j+i:Nat):Int)),Sv.ro (.int j),Sv.ro (aG u'),Sv.ro (.int i)]) ?_ ?_
     .refine Yv (Zv (y%4<th)) ?_ (λ_=>?_) (λ_=>aCu ⟨u,hU.mono ∅,rfl⟩)
      .simp only[aG]
       walk_at "ev"
       rw[mQ hy]
       walk_at "ev"
       rw[d8 (by decide)]
       walk_at "ev"
      .refine ⟨_,?_,_,hU.step ndw hg hx hv,rfl⟩;have hf:=qb (λa=>!u.contains a) (v++[x]);have e1:kF (g1 0) (tV (aE (xX af) (aB 0) (aB 1))) (aB 0) [ae,aa (.lst (u.map D.int))] ((v++[x]).map D.int)=aa (((v++[x]).filter λa=>!u.contains a).map D.int) :=
        fI D.int _ D.int (v++[x]) λa _=>⟨_,rfl,by walk_at "ev",λ_=>rfl⟩
       have e2:aE cD (aE x6 (aB 6) (aE dQ (aB 4) (aB 10))) (iV (aA (aE dQ (aB 4) (aB 10)) aF)) [aa (aG dr),aa (.int n),aa (.int th),v3.all,aa (aG Ξ),kv.all,aa (.kZ ((Ξ.take j).map cm) (us.map aG)),aa (.int ((n+Ord.tri j+i:Nat):Int)),aa (.int j),aa (aG u),aa (.int i)]=aa (.lst ((v++[x]).map D.int)):=by
        simp only[aG]
        walk_at "ev"
        rw[mQ hx]
        walk_at "ev"
        simp only[x6,x5,c_];have:=uD (a3F (a1X j Ξ) ndw) (UA hx hi) hv;simp only[aG] at this;rw[this];simp only[iV]
        walk_at "ev"
        rw[mQ hx]
        walk_at "ev"
        rw[Z_ (by decide),c_,GH (by simp;lia)];simp
       have e3:cJ 1 [9] (cB (aE cD (aE x6 (aB 6) (aE dQ (aB 4) (aB 10))) (iV (aA (aE dQ (aB 4) (aB 10)) aF)))) (g1 0) (tV (aE (xX af) (aB 0) (aB 1))) (aB 0) [aa (aG dr),aa (.int n),aa (.int th),v3.all,aa (aG Ξ),kv.all,aa (.kZ ((Ξ.take j).map cm) (us.map aG)),aa (.int ((n+Ord.tri j+i:Nat):Int)),aa (.int j),aa (aG u),aa (.int i)]=aa (.lst (((v++[x]).filter λa=>!u.contains a).map D.int)) :=
        fY ((v++[x]).map D.int) (by unfold cB;rw[e2];rfl) (by simp;lia) e1
       unfold nK;have e4:aE PN (aB 9) (cJ 1 [9] (cB (aE cD (aE x6 (aB 6) (aE dQ (aB 4) (aB 10))) (iV (aA (aE dQ (aB 4) (aB 10)) aF)))) (g1 0) (tV (aE (xX af) (aB 0) (aB 1))) (aB 0)) [aa (aG dr),aa (.int n),aa (.int th),v3.all,aa (aG Ξ),kv.all,aa (.kZ ((Ξ.take j).map cm) (us.map aG)),aa (.int ((n+Ord.tri j+i:Nat):Int)),aa (.int j),aa (aG u),aa (.int i)]=aa (aG (u++(v++[x]).filter λa=>!u.contains a)):=by show aU (x:=aG u) rfl e3 ?_;show PN (.lst (u.map D.int)) _=_;rw[T6 (by simp only[a_,di,cx,iq] at hf ⊢;lia),<- g_];rfl
       rw[show bR _=[aa (aG dr),aa (.int n),aa (.int th),v3.all,aa (aG Ξ),kv.all,aa (.kZ ((Ξ.take j).map cm) (us.map aG)),aa (.int ((n+Ord.tri j+i:Nat):Int)),aa (.int j),aa (aG u),aa (.int i)] from rfl,e4];show(if qC (aG _)=af then _ else _)=_;rw[Z_ (show qC (aG _)=af from j8 _)];rfl
     rintro _ ⟨u',hU',rfl⟩;show⟨_,rfl,u',_,hU',rfl⟩
    .rintro _ ⟨u,v10,hU,rfl⟩;show⟨u,v10,hU,by rw[a1R];rfl⟩
   rintro _ ⟨u,v10,hU,rfl⟩;obtain⟨x,hx⟩:∃x,Ξ[j]?=aa x:=⟨_,bw ∅⟩;show⟨[Sv.ro (aG dr),Sv.ro (.int n),Sv.ro (.int th),v3,Sv.ow (aG Ξ),kv,Sv.ow (.kZ ((Ξ.take (j+1)).map cm) ((us++[u]).map aG)),Sv.ro (.int ((n+Ord.tri (j+1):Nat):Int)),Sv.ro (.int j),Sv.ro (aG u),v10],?_,us++[u],Sv.ro (.int j),Sv.ro (aG u),v10,by simp[hul],hg.snoc (by rw[hul];show hU),rfl⟩;have hno:k7 ((Ξ.take j).map cm) (us.map aG) (cm x)=ae:=BW λhm=>by
    obtain⟨t,ht⟩:=Ae.mp hm;have htl:t<j:=by have:=(cb.mp ht).1;rw[kz] at this;lia
    rw[Aj htl] at ht;have:=Ord.yE ndw ht hx;lia
   unfold M5
   walk_at "ev"
   simp only[x9,c_];have e5:dQ (aG Ξ) (.int (j:Int))=aa (.int x):=mQ hx;rw[e5];simp only[c_,x5,hno,Option.isNone_none,true_and];rw[Z_ (by rw[a_];show us.length<16777216;lia),List.take_succ,hx,g_,g_];rfl
  .rintro _ ⟨us,v8,v9,v10,hul,hg,rfl⟩;show⟨us,Sv.ro (.int ((n+Ord.tri n:Nat):Int)),v8,v9,v10,hul,hg,?_⟩;rw[rf ∅]
 rintro _ ⟨us,v7,v8,v9,v10,hul,hg,rfl⟩;have ec:∃rows:Q0a,rows.length=(bz n).length/\(∀(i:Nat) (b:Nat) (r:Q0e),(bz n)[i]?=aa b->rows[i]?=aa r ->∀(t:Nat) (u:Q0e),Ξ[t]?=aa (b:Int)->us[t]?=aa u->r.Perm u/\r.Pairwise (· <= ·)) /\
   kF (g1 0) dO (cZ eX (aA (cZ k8 (aA (aE x6 (aB 1) (aB 0)) aF)) aF)) [ae,aa (.kZ (Ξ.map cm) (us.map aG))] ((bz n).map λb:Nat=>D.int (b:Int))=aa (rows.map τ):=by
  show T8 (λb:Nat=>D.int (b:Int)) τ _ (bz n) λb hb=>?_;have hb2:=lz.mp hb;have hm:(b:Int)∈Ξ:=hpw.mem_iff.mpr (fw.mpr ⟨b,hb,rfl⟩);obtain⟨t,ht⟩:=Ae.mp hm;obtain⟨u,hu2⟩:∃u,us[t]?=aa u:=⟨_,bw (by have:=(cb.mp ht).1;lia)⟩;have lu:=x_ _ _ (hg t u hu2);show⟨_,sortI u,rfl,?_,λt' u' e1 e2=>?_⟩
  .walk_at "ev"
   simp only[x6,x5,c_];rw[uD ndw ht hu2];simp only[aG]
   walk_at "ev"
   rw[sorted_ints ∅];rfl
  .have e:=Ord.yE ndw e1 ht;subst e;rw[hu2] at e2;cases e2;show⟨sortI_perm u,iE u⟩
 obtain⟨rows,hr1,hr2,ec⟩:=ec;rw[nu] at hr1;show kO (aS rows) ?_ ⟨rows,hr1,hg.rows hul hpw hr1 λb t r u e1 e2 e3=>hr2 b b r (by rw[r6 (by have:=(cb.mp e1).1;lia)]) e1 t u e2 e3,rfl⟩;have e6:(bD 0 n).map D.int=(bz n).map λb:Nat=>D.int (b:Int):=by unfold bD;rw[de];show f_ λb _=>by show D.int (0+(b:Int))=_;rw[j_]
 have e7:=fY (nl:=1) (fr:=[6]) (it:=bX (aA (aB 1) aF)) (g:=g1 0) (t:=dO) (e:=cZ eX (aA (cZ k8 (aA (aE x6 (aB 1) (aB 0)) aF)) aF)) (ρ:=bR [Sv.ro (aG dr),Sv.ro (.int n),Sv.ro (.int th),v3,Sv.ow (aG Ξ),kv,Sv.ow (.kZ (Ξ.map cm) (us.map aG)),v7,v8,v9,v10]) ((bD 0 n).map D.int)
  (by walk_at "ev";show rR ∅) (by rw[a_,aO];lia) (by rw[e6];show ec)
 show cN e7 rfl
theorem ZQ(n:Nat):2*Ord.tri n+n=n*n:=by
 induction n with
 |zero=>rfl
 |succ n ih =>
  show 2*(Ord.tri n+n)+(n+1)=(n+1)*(n+1);have:(n+1)*(n+1)=n*n+2*n+1:=by rw[Nat.add_mul,Nat.mul_add];lia
  lia
theorem UE(ns:Q0e)(k m s:Int)(h0:0<=m)(h1:m<=9):
  ∃d,lU [.j6 ns,.int k,.int m,.int s]=.ok d /\∃rows:Q0a,(rows.length:Int)<=m/\Ord.Rows rows/\d=aS rows:=by
 unfold lU;show mP rfl ?_;obtain⟨c1,ec1⟩:=xC ns k;obtain⟨xs,hx,hxn,ex⟩:=rV c1 4 s (by decide) (by decide);obtain⟨c2,ec2⟩:=xC ns (k+1);obtain⟨a,b,r,rfl⟩:∃a b r,xs=a::b::r:=by
  match xs,hx with
  |a::b::r,_=>show⟨a,b,r,rfl⟩
 have hm0:=lj a (show m+1≠0 by lia);have hm1:=om a (show 0<m+1 by lia);obtain⟨n,hn⟩:∃n:Nat,a%(m+1)=(n:Int):=⟨(a%(m+1)).toNat,by lia⟩;have hn9:n<=9:=by lia
 have et:=ZQ n;have hq:(n:Int)*((n:Int)-1)/2=(Ord.tri n:Int):=by
  have:(n:Int)*((n:Int)-1)=2*(Ord.tri n:Int):=by
   have e2:((n*n:Nat):Int)=(n:Int)*n:=by simp
   rw[Int.mul_sub,a2s];lia
  rw[this,Int.mul_ediv_cancel_left _ (by decide)]
 have aOW:Ord.tri n<=36:=Ord.T5 hn9;obtain⟨ys,hy,hyn,ey⟩:=rV c2 ((n:Int)+Ord.tri n) (s+10007) ∅ ∅;show aZ _ (dZ (aG (a::b::r)) (dA (cP rfl rfl ec1) rfl rfl ex) rfl) ?_;show aZ _ (dZ (.int n) ?_ rfl) ?_
 .simp only[aG]
  walk_at "ev"
  rw[show xZ (D.int a::D.int b::r.map D.int) 0=aa (D.int a) from rT (k:=0) rfl]
  walk_at "ev"
  rw[d8 ∅,hn]
 show aZ _ (dZ (aG ys) (dA (cP rfl rfl ec2) ?_ rfl ey) rfl) ?_
 .walk_at "ev"
  rw[uB ∅]
  walk_at "ev"
  rw[kK (by decide) (by decide),hq]
  walk_at "ev"
 have hb0:=lj b (show(8:Int)≠0 by decide);have hb1:=om b (show(0:Int)<8 by decide);have hth:∃th:Int,aE dQ (iV (aA (eC (.int 1)) (aA (eC (.int 1)) (aA (eC (.int 2)) (aA (eC (.int 2)) (aA (eC (.int 3)) (aA (eC (.int 1)) (aA (eC (.int 0)) (aA (eC (.int 4)) aF))))))))) (aE iU (aE dQ (aB 4) (eC (.int 1))) (eC (.int 8))) [aa (.j6 ns),aa (.int k),aa (.int m),aa (.int s),aa (aG (a::b::r)),aa (.int n),aa (aG ys)]=aa (.int th):=by
  obtain⟨x,hx,e,_⟩:=DU (xs:=[(1:Int),1,2,2,3,1,0,4]) (i:=b%8) hb0 hb1;show⟨x,aU (x:=.lst ([(1:Int),1,2,2,3,1,0,4].map D.int)) rfl (y:=.int (b%8)) ?_ ?_⟩
  .refine aU (x:=.int b) (y:=.int 8) ?_ rfl (d8 (by decide));simp only[aG]
   walk_at "ev"
   show rT (k:=1) rfl
  .rw [rP,xA,e];rfl
 obtain⟨th,eth⟩:=hth;obtain⟨d,ed,rows,hr1,hr2,rfl⟩:=UD ys n th hn9 ∅;show kO (aS rows) (dA rfl rfl eth ed) ⟨rows,by lia,hr2,rfl⟩
noncomputable def JU:Nat->D->Prop
 |0,_=>False
 |n+1,.tup ds=>ds.length<=1000000 /\∀d∈ds,JU n d
 |_+1,.int _=>True
 |_+1,.bl _=>True
 |_+1,.non=>True
 |_+1,.str _=>True
 |_+1,_=>False
def isi(h:f ρ=aa d)(hn:JN d=af:=by rfl):kE T f ρ=aa (.bl (JM T d)):=by unfold kE;rw[h];show Z_ hn
theorem same_refl:∀(n:Nat) (d:D),JU n d->e8 n [d,d]=.ok (.bl af)
 |0,_,h=>h.elim
 |n+1,.tup ds,h=>by
  have hl:=h.1;unfold e8;show eT rfl (yK (wB (by unfold tV;rw[isi rfl];rfl) (bT _ (mL ?_ rfl) (dY ?_))))
  .simp only[c9,aM,iO,bL,bG,vH,lQ,TQ,nK,GD,sX,fQ,d7,aB,eC,aE,tV,lO,pQ,wU,lP,tw,DH,TN,PM,f7,aF,aA,cZ,aL,rJ,kE,cB,bX,nW,ye,yc,g1,g2,qE,JQ,BJ,dO,benv,ZE,ll,oE,asInt,bF,vZ,pU,bR,jL,Sv.all,Sv.rd,bj,ma,r9,la,Ia,zx,zy,c_,Hn,ng,Hm,Ab,Ac,Hs,cx,iq,a_,vt,ku,jh,Ad,Nat.reduceSub,Nat.reduceAdd,Nat.reduceEqDiff,pF,qG,mK,yH,ZC,rM,yF,rN,wZ,jX,rO,k9,w4,tY,pE,DQ,xW,rP,w8,DR,rQ,kL,yG,mJ,qF,tZ,t6,t7,t8,t9,uA,yI,yJ,if_true,if_false,ite_true,ite_false,reduceIte,decide_true,decide_false,decide_eq_true_eq,oo,Aq,Ar,pG,rS];simp[JM,tyM,c9,bR,kE,JN,aB,Sv.all,lF]
  .have e1:=fY (nl:=1) (fr:=[0,1]) (it:=bX (aA (cZ b9 (aA (aB 1) aF)) aF)) (g:=g1 0) (t:=dO) (e:=aL (e8 n) (aA (aE dQ (aB 1) (aB 0)) (aA (aE dQ (aB 2) (aB 0)) aF))) (ρ:=[aa (.tup ds),aa (.tup ds)]) ((bD 0 ds.length).map D.int) (ys:=(bD 0 ds.length).map λ_=>D.bl af)
    (by simp only[c9,aM,iO,bL,bG,vH,lQ,TQ,nK,GD,sX,fQ,d7,aB,eC,aE,tV,lO,pQ,wU,lP,tw,DH,TN,PM,f7,aF,aA,cZ,aL,rJ,kE,cB,bX,nW,ye,yc,g1,g2,qE,JQ,BJ,dO,benv,ZE,ll,oE,asInt,bF,vZ,pU,bR,jL,Sv.all,Sv.rd,bj,ma,r9,la,Ia,zx,zy,c_,Hn,ng,Hm,Ab,Ac,Hs,cx,iq,a_,vt,ku,jh,Ad,Nat.reduceSub,Nat.reduceAdd,Nat.reduceEqDiff,pF,qG,mK,yH,ZC,rM,yF,rN,wZ,jX,rO,k9,w4,tY,pE,DQ,xW,rP,w8,DR,rQ,kL,yG,mJ,qF,tZ,t6,t7,t8,t9,uA,yI,yJ,if_true,if_false,ite_true,ite_false,reduceIte,decide_true,decide_false,decide_eq_true_eq,oo,Aq,Ar,pG,rS];show rR ∅) (by rw[a_,aO];lia) (BU D.int (λ_=>D.bl af) (bD 0 ds.length) λk hk=>by have hk:=aT.mp hk;obtain⟨x,hx,e,_⟩:=DU (xs:=ds) (i:=k) ∅ ∅;show aL (e8 n) _ _=_;show cP (aU rfl rfl e) (aU rfl rfl e) (same_refl n x (h.2 x hx)))
   show cN e1 ?_;have:(bD 0 ds.length).map (λ_=>D.bl af)=((bD 0 ds.length).map λ_=>af).map D.bl:=by rw[de];rfl
   rw[this,mM];congr 2;simp
 |n+1,.int i,_=>by unfold e8;show eT rfl (bT _ (mL rfl rfl) (bT _ (mL rfl rfl) (bT _ (mL rfl rfl) (yK (wB rfl (dY ?_))))));show lP _ _ _=_;simp[lP,DH,kE,JN,aB,JM,tyM,nV,aE,k9,tY,pE,c9,bR,Sv.all]
 |n+1,.bl b,_=>by unfold e8;show eT rfl (bT _ (mL rfl rfl) (bT _ (mL rfl rfl) (yK (wB rfl (dY ?_)))));simp[lP,DH,kE,JN,aB,JM,tyM,nV,aE,k9,tY,pE,c9,bR,Sv.all]
 |n+1,.non,_=>by unfold e8;show eT rfl (bT _ (mL rfl rfl) (yK (wB rfl (dY rfl))))
 |n+1,.str x,_=>by unfold e8;show eT rfl (bT _ (mL rfl rfl) (bT _ (mL rfl rfl) (bT _ (mL rfl rfl) (bT _ (mL rfl rfl) (dY ?_)))));simp[lP,DH,kE,JN,aB,JM,tyM,nV,aE,k9,tY,pE,c9,bR,Sv.all]
 |n+1,.lst _,h=>h.elim
 |n+1,.j6 _,h=>h.elim
 |n+1,.kZ _ _,h=>h.elim
 |n+1,.c8 _ _ _,h=>h.elim
 |n+1,.exc _ _,h=>h.elim
 |n+1,.rws _,h=>h.elim
def JV(h:xs.length<=1000000):JU (n+2) (τ xs):=⟨by rw[a_];show h,λd hd=>by obtain⟨i,_,rfl⟩:=fw.mp hd;trivial⟩
theorem uF{α:Type}(P:bU->Prop)(mk:α->D)(ok:α->Bool):∀(l:List α) (ρ:bU),P ρ->(∀a∈l,∀ρ,P ρ ->∃ρ1,g (mk a) ρ=aa ρ1/\(ok a=af->Nx (b ρ1) P)/\(ok a=ag->b ρ1=.rt z)) ->
  (l.all ok=af->Nx (gA g b (l.map mk) ρ) P)/\(l.all ok=ag->gA g b (l.map mk) ρ=.rt z)
 |[],ρ,h,_=>⟨λ_=>⟨ρ,rfl,h⟩,λe=>by cases e⟩
 |a::l,ρ,h,step=>by
  obtain⟨ρ1,e1,h1,h2⟩:=step a (by simp) ρ h
  cases hd:ok a with
  |true =>
   obtain⟨ρ2,e2,p2⟩:=h1 hd;have ih:=uF P mk ok l ρ2 p2 λd' hd'=>step d' (by simp[hd']);simp only[bj,gA,e1,e2,oh,hd,vy];show ih
  |false =>
   have e2:=h2 hd;simp only[bj,gA,e1,e2,oh,hd,sr];show⟨λe=>(by cases e),λ_=>trivial⟩
def row(rows:Q0a)(b:Int):List Int:=(rows[b.toNat]?).getD []
def DX(h0:0<=i)(h1:i<rows.length):dQ (aS rows) (.int i)=aa (τ (row rows i)):=by
 have hl:i.toNat<rows.length:=by lia
 rw[show aS rows=.tup (rows.map τ) from rfl,w8,xA];unfold xZ row;rw[yM h0 h1];simp[hl]
def aCy:xX ag (.int i) (τ xs)=aa (.bl (xs.contains i)):=by unfold τ;rw[pG];rfl
def ZR:xX af (.int i) (τ xs)=aa (.bl (!xs.contains i)):=by unfold τ;rw[pG];rfl
def fZ:b9 [aS rows]=aa (.int rows.length):=by unfold aS;rw[kL,a_]
def dR:b9 [τ xs]=aa (.int xs.length):=by unfold τ;rw[kL,a_]
theorem zipIdx_map{α β:Type}(f:α->β)(l:List α)(m:Nat):(l.map f).zipIdx m=(l.zipIdx m).map λp=>(f p.1,p.2):=by
 induction l generalizing m with
 |nil=>rfl
 |cons a l ih=>simp[a1V,ih]
def pairD(p:Int×Int):D:=.tup [.int p.1,.int p.2]
end LL
namespace Ord
def rel(rows:Q0a)(a b:Nat):Bool:=(rows.getD b []).contains (a:Int)
def Rows.S_(h:Rows rows)(ha:a<rows.length):rel rows a a=ag:=by unfold rel;rw[j7,bw ha];have:=h.ZK a _ (bw ha);simpa using this
def Rows.tr'(h:Rows rows)(hb:b<rows.length)(hc:c<rows.length)(h1:rel rows a b=af)(h2:rel rows b c=af):rel rows a c=af:=by
 unfold rel at *;rw[j7,bw hb] at h1;rw[j7,bw hc] at h2 ⊢;have h1:(a:Int)∈rows[b]:=by simpa using h1
 have h2:(b:Int)∈rows[c]:=by simpa using h2
 have:=h.tr c b _ _ (bw hc) h2 (bw hb) _ h1;simpa using this
def ZS(h:x[b]?=aa r):rel x a b=af↔(a:Int)∈r:=by unfold rel;rw[j7,h];simp
def JW(lo:Int)(n:Nat):(L4.bD lo n).Pairwise (·<·):=si _ (λa b (h:a<b)=>by lia) Hu
def Rows.short(h:Rows x)(hr:r∈x):r.length<=x.length:=by
 obtain⟨b,hb⟩:=Ae.mp hr;have nd:r.Nodup:=(h.up b r hb).imp λq=>by lia
 have:=eR r (L4.bD 0 x.length) nd λa ha=>LL.aT.mpr (by have:=h.rng b r hb a ha;lia)
 rwa [LL.aO] at this
end Ord
namespace K45
open L3 L4 LL
def pr(p:Int×Int):List Int:=[p.1,p.2]
def gD(x:Q0a)(k:Nat):List (Int×Int):=(bD 0 k).flatMap λb=>(row x b).map λa=>(a,b)
def qI(x:Q0a)(k:Nat):gD x (k+1)=gD x k++(row x (k:Int)).map λa=>(a,(k:Int)):=by unfold gD;rw[BS,List.flatMap_append];simp
def n5{x:Q0a}{p:Int×Int}:p∈gD x x.length↔0<=p.2/\p.2<(x.length:Int)/\p.1∈row x p.2:=by
 unfold gD;rw[Hw]
 constructor
 .rintro ⟨b,hb,hp⟩;obtain⟨a,ha,rfl⟩:=fw.mp hp;have:=aT.mp hb;show⟨by lia,by lia,ha⟩
 .rintro ⟨h0,h1,h2⟩;show⟨p.2,aT.mpr ∅,fw.mpr ⟨p.1,h2,rfl⟩⟩
def mR{x:Q0a}{b:Int}(h0:0<=b)(h1:b<(x.length:Int)):x[b.toNat]?=aa (row x b):=by
 have:b.toNat<x.length:=by lia
 unfold row;rw[bw this];rfl
def GN{x:Q0a}{a b:Nat}(hb:b<x.length):(((a:Int),(b:Int))∈gD x x.length)↔Ord.rel x a b=af:=by
 rw[n5];have e:=mR (x:=x) (b:=(b:Int)) ∅ ∅;rw[jr] at e;rw[Ord.ZS e]
 constructor
 .rintro ⟨_,_,h⟩;show h
 .intro h;show⟨by show(0:Int)<=(b:Int);lia,by show(b:Int)<_;lia,h⟩
def JX{x:Q0a}(hx:Ord.Rows x):(gD x x.length).Nodup:=by
 unfold gD;rw[Io,List.pairwise_flatMap]
 constructor
 .intro b hb;have hb:=aT.mp hb;have nd:(row x b).Nodup:=(hx.up _ _ (mR ∅ ∅)).imp λq=>by lia
  show si _ (λa c h e=>h (congrArg Prod.fst e)) nd
 .refine (Ord.JW 0 x.length).imp λ{b c} h p hp q hq e=>?_;obtain⟨a,_,rfl⟩:=fw.mp hp;obtain⟨a2,_,rfl⟩:=fw.mp hq;have:=congrArg Prod.snd e;simp at this;lia
theorem GO(hx:Ord.Rows x)(hn:x.length<=9):∀k,k<=x.length->(gD x k).length<=k*8:=by
 intro k
 induction k with
 |zero=>intro _;simp[gD,bD]
 |succ k ih =>
  intro hk;rw[qI,di,a_];have h1:=ih ∅;have e:=mR (x:=x) (b:=(k:Int)) ∅ ∅;rw[jr] at e;have nd:(row x (k:Int)).Nodup:=(hx.up _ _ e).imp λq=>by lia
  have h2:((k:Int)::row x (k:Int)).length<=(bD 0 x.length).length:=Ord.eR _ _ (kr.mpr ⟨hx.ZK _ _ e,nd⟩) λa ha=>by
   rcases bh.1 ha with rfl|ha
   .exact aT.mpr ∅
   .have:=hx.rng _ _ e a ha;show aT.mpr ∅
  rw[aO,cx] at h2;lia
def un(t:Q0e):Int×Int:=(t.getD 0 0,t.getD 1 0)
def srt(l:List (Int×Int)):List (Int×Int):=(kG (l.map pr)).map un
def GP(l:List (Int×Int)):(srt l).Perm l:=by have:=(eQ (l.map pr)).map un;rw[de] at this;have e:(un∘pr)=id:=funext λp=>rfl;rw[e,Hy] at this;show this
def ZT(l:List (Int×Int)):(kG (l.map pr)).map rK=(srt l).map pairD:=by unfold srt;rw[de];show f_ λt ht=>?_;obtain⟨p,_,rfl⟩:=fw.mp ((eQ (l.map pr)).mem_iff.mp ht);rfl
theorem yO:∀l:List (Int×Int),kH (l.map pairD)=aa (l.map pr)
 |[]=>rfl
 |p::l=>by rw[bj,kH,yO l];rfl
def JY(h:l.length<64):mG [.lst (l.map pairD)]=aa (.lst ((srt l).map pairD)):=by unfold mG;simp only[yO,c_];rw[Z_ ⟨by simpa using h,gp.mpr λt ht=>by obtain⟨p,_,rfl⟩:=fw.mp ht;rfl⟩,ZT]
def code(p:Int×Int):Int:=if p.1<p.2 then p.1*9+p.2 else p.2*9+p.1
def codes:List Int:=(bD 0 9).flatMap λi=>(bD (i+1) (8-i).toNat).map λj=>i*9+j
def yP{x:Q0a}(hx:Ord.Rows x){a b:Int}(h1:(a,b)∈gD x x.length)(h2:(b,a)∈gD x x.length):False:=by obtain⟨b0,b1,h1'⟩:=n5.mp h1;obtain⟨a0,a1,h2'⟩:=n5.mp h2;simp only at b0 b1 a0 a1 h1' h2';obtain⟨m,rfl⟩:∃m:Nat,a=(m:Int):=⟨a.toNat,by lia⟩;obtain⟨k,rfl⟩:∃k:Nat,b=(k:Int):=⟨b.toNat,by lia⟩;have:=hx.tr' ∅ ∅ ((GN ∅).mp h1) ((GN ∅).mp h2);rw[hx.S_ ∅] at this;cases this
def rW{a b c d:Int}(hb:0<=b/\b<9)(hd:0<=d/\d<9)(e:a*9+b=c*9+d):a=c/\b=d:=by lia
def ZU{x:Q0a}(hx:Ord.Rows x)(hn:x.length<=9):(gD x x.length).length<=36:=by
 have rg:∀p∈gD x x.length,0<=p.1/\p.1<9/\0<=p.2/\p.2<9/\p.1≠p.2:=λp hp=>by obtain⟨h0,h1,h2⟩:=n5.mp hp;have e:=mR h0 h1;obtain⟨q1,q2⟩:=hx.rng _ _ e _ h2;show⟨q1,by lia,h0,by lia,λz=>?_⟩;obtain⟨a,b⟩:=p;simp only at z;subst z;show yP hx hp hp
 have nd:((gD x x.length).map code).Nodup:=by
  rw[Io,nq];show a2l (λ{p q} hp hq hpq e=>?_) (JX hx);have rp:=rg p hp;have rq:=rg q hq;obtain⟨a,b⟩:=p;obtain⟨c,d⟩:=q;simp only at rp rq;unfold code at e;simp only at e;by_cases h1:a<b<;>by_cases h2:c<d
  .rw [Z_ h1,Z_ h2] at e;obtain⟨rfl,rfl⟩:=rW ⟨rp.2.2.1,rp.2.2.2.1⟩ ⟨rq.2.2.1,rq.2.2.2.1⟩ e;show hpq rfl
  .rw [Z_ h1,Zz h2] at e;obtain⟨rfl,rfl⟩:=rW ⟨rp.2.2.1,rp.2.2.2.1⟩ ⟨rq.1,rq.2.1⟩ e;show yP hx hp hq
  .rw [Zz h1,Z_ h2] at e;obtain⟨rfl,rfl⟩:=rW ⟨rp.1,rp.2.1⟩ ⟨rq.2.2.1,rq.2.2.2.1⟩ e;show yP hx hp hq
  .rw [Zz h1,Zz h2] at e;obtain⟨rfl,rfl⟩:=rW ⟨rp.1,rp.2.1⟩ ⟨rq.1,rq.2.1⟩ e;show hpq rfl
 have:=Ord.eR _ codes nd λz hz=>by
  obtain⟨p,hp,rfl⟩:=fw.mp hz;have:=rg p hp;unfold code codes;by_cases h:p.1<p.2
  .rw [Z_ h,Hw];show⟨p.1,aT.mpr ∅,fw.mpr ⟨p.2,aT.mpr ∅,rfl⟩⟩
  .rw [Zz h,Hw];show⟨p.2,aT.mpr ∅,fw.mpr ⟨p.1,aT.mpr ∅,rfl⟩⟩
 rw[a_] at this;have e:codes.length=36:=by decide+kernel
 lia
def GQ{x:Q0a}(hx:Ord.Rows x)(hn:x.length<=9):(gD x x.length).length<64:=by have:=ZU hx hn;lia
end K45
namespace yQ
open L3 L4
def iW:jM:=bZ 4 1
  (aM (lQ 1 (iV aF))
  (aM (fQ (nW (aA (aB 0) aF)) (JQ 2 3)
   (sX (vZ 1 PU (bF (cJ 1 [2] (cB (aB 3)) (g1 0) dO (iP (aA (aB 0) (aA (aB 1) aF))))))))
  (bL (cZ eX (aA (cZ mG (aA (aB 1) aF)) aF)))))
open LL K45
def Jf(h:x ρ=aa (ρ',d)):sX x ρ=.nx ρ':=by unfold sX;rw[h]
theorem S0(h0:pU ρ[i]?=aa ds0)(hx:x ρ=aa (ρ1,d))(h1:pU ρ1[i]?=aa ds)(hm:m ds d=aa q):
  vZ i m x ρ=aa (ρ1.set i (.ow (.lst q.1)),q.2):=by
 unfold vZ;rw[h0,c_,hx,c_,h1,c_,hm];rfl
section
variable{x:Q0a}(hx:Ord.Rows x)
include hx
def yR(h0:0<=c)(h1:c<(x.length:Int))(h:a∈row x c):0<=a/\a<(x.length:Int):=hx.rng _ _ (mR h0 h1) a h
def Sz(h0:0<=c)(h1:c<(x.length:Int)):(row x c).Nodup:=(hx.up _ _ (mR h0 h1)).imp λq=>by lia
def Fc(h0:0<=c)(h1:c<(x.length:Int)):(row x c).length<=x.length:=by
 have:=Ord.eR (row x c) (bD 0 x.length) (Sz hx h0 h1) λa ha=>aT.mpr (by have:=yR hx h0 h1 ha;lia)
 rwa [aO] at this
end
def aCz(x:Q0a)(p:Int×Int):Bool:=!(row x p.2).any λc=>(row x c).contains p.1
structure Cl (x:Q0a) (P:List (Int×Int)) (b:Int) (u f:Q0e):Prop where
 nd:u.Nodup
 sub:∀a∈u,a∈row x b
 fr:∀a∈f,a=b\/a∈u
 cl:∀c,(c=b\/c∈u)->c∉f ->∀a,(a,c)∈P->a∈u
abbrev T(x:Q0a):List (Int×Int):=srt (gD x x.length)
def qJ(hx:Ord.Rows x)(hn:x.length<=9):iW [aS x]=.ok (.tup ((T x).map pairD)):=by
 have fu:=GQ hx hn;unfold iW;show eT rfl (bT [.ro (aS x),.ow (.lst []),.no,.no] rfl ?_);obtain⟨ρ',e,v2,v3,rfl⟩:Nx (fQ (nW (aA (aB 0) aF)) (JQ 2 3)
   (sX (vZ 1 PU (bF (cJ 1 [2] (cB (aB 3)) (g1 0) dO (iP (aA (aB 0) (aA (aB 1) aF))))))) [.ro (aS x),.ow (.lst []),.no,.no])
   (λρ=>∃v2 v3,ρ=[Sv.ro (aS x),Sv.ow (.lst ((gD x x.length).map pairD)),v2,v3]):=by
  show uC ((x.map τ).zipIdx.map λp=>.tup [.int (p.2:Int),p.1]) (λi ρ=>∃v2 v3,ρ=[Sv.ro (aS x),Sv.ow (.lst ((gD x i).map pairD)),v2,v3]) rfl ⟨_,_,rfl⟩ ?_ λρ h=>by simpa using h
  rintro i d _ hd ⟨v2,v3,rfl⟩;rw[cf,Ai,cf] at hd
  cases q:x[i]? with
  |none=>rw[q] at hd;cases hd
  |some r =>
   have hi:i<x.length:=(cb.mp q).1;rw[q] at hd;have hd:=cj hd;subst hd;have er:row x (i:Int)=r:=by unfold row;rw[jr,q];rfl
   have hl:=GO hx hn i ∅;have hl2:=GO hx hn (i+1) ∅;rw[qI,di,er] at hl2;show⟨[.ro (aS x),.ow (.lst ((gD x i).map pairD)),.ro (.int (i:Int)),.ro (τ r)],by show aa [_,_,_,_]=_;rw[kj],_,Jf (S0 (ρ1:=[.ro (aS x),.ow (.lst ((gD x i).map pairD)),.ro (.int (i:Int)),.ro (τ r)]) (ds0:=(gD x i).map pairD) (ds:=(gD x i).map pairD) (d:=.lst ((r.map λa=>(a,(i:Int))).map pairD)) rfl ?_ rfl (ZL (by simp at hl2 ⊢;lia))),.ro (.int (i:Int)),.ro (τ r),?_⟩
   .unfold bF;rw[fY (r.map D.int) rfl (by simp at hl2 ⊢;lia) (dP D.int (λa=>pairD (a,(i:Int))) r λa _=>⟨_,rfl,rfl⟩),de];rfl
   .rw [qI,g_,er];rfl
 show bT _ e (dY (cN (cN rfl (JY fu)) rfl))
def ND:p∈T x↔0<=p.2/\p.2<(x.length:Int)/\p.1∈row x p.2:=by rw[(GP _).mem_iff,n5]
def Zg(hx:Ord.Rows x)(hn:x.length<=9):(T x).length<64:=by rw[(GP _).length_eq];show GQ hx hn
abbrev B(x:Q0a):List (Int×Int):=(T x).filter (aCz x)
end yQ
namespace LL
open L3 L4
def lV:jM:=bZ 5 3
  (aM (iO (tV (aE geM (aB 0) (aE F9 (eC (.int 10)) (eC (.int 18)))))
   (bL (aE iU (aE pR (aB 0) (eC (.int 64))) (aB 1)))
   d7)
  (aM (bG 3 (eC (.int 0)))
  (aM (fQ (bX (aA (eC (.int 20)) aF)) (qE 4)
   (bG 3 (aE cD (aE mulM (aB 3) (eC (.int 1000000007))) (aL LL.fV (aA (aB 0) (aA (aB 4) (aA (aB 2) aF)))))))
  (bL (aE iU (aB 3) (aB 1))))))
def iW:jM:=bZ 4 1
  (aM (lQ 1 (iV aF))
  (aM (fQ (nW (aA (aB 0) aF)) (JQ 2 3)
   (sX (vZ 1 PU (bF (cJ 1 [2] (cB (aB 3)) (g1 0) dO (iP (aA (aB 0) (aA (aB 1) aF))))))))
  (bL (cZ eX (aA (cZ mG (aA (aB 1) aF)) aF)))))
def jD:jM:=bZ 3 3
  (aM (iO (tV (aE pS (aB 1) (aB 2)))
   (bL (aE GA (aE dQ (aB 0) (aB 1)) (aE dQ (aB 0) (aB 2))))
   d7)
  (bL (aE DI (aE dQ (aB 0) (aB 1)) (aE dQ (aB 0) (aB 2)))))
def rX:jM:=bZ 3 3
  (aM (iO (wU (tV (aE GA (aB 2) (eC (.int 0)))) (tV (aE Y8 (cZ b9 (aA (aB 1) aF)) (cZ b9 (aA (aB 0) aF)))))
   (bL (eC (.bl ag)))
   d7)
  (aM (iO (lO (tV (cZ allM (aA (cJ 1 [2] (cB (aB 1)) (g1 0) dO (f7 DI DI (eC (.int 1)) (aB 0) (aB 1))) aF))))
   (bL (eC (.bl ag)))
   d7)
  (bL (cZ allM (aA (cJ 2 [1] (cB (aL LL.iW (aA (aB 0) aF))) (g2 0 1) dO (aL LL.jD (aA (aB 2) (aA (aB 0) (aA (aB 1) aF))))) aF)))))
def j9:jM:=bZ 4 2
  (aM (fQ (bX (aA (cZ b9 (aA (aB 0) aF)) aF)) (qE 2)
   (fQ (cB (aE dQ (aB 0) (aB 2))) (qE 3)
    (iO (wU (tV (aE pS (aE dQ (aB 1) (aB 3)) (aE dQ (aB 1) (aB 2)))) (pQ (tV (aE pS (aB 3) (aB 2))) (tV (aE rG (aE dQ (aB 1) (aB 3)) (aE dQ (aB 1) (aB 2))))))
     (bL (eC (.bl ag)))
     d7)))
  (bL (eC (.bl af))))
def Sy(hl:ds.length=np)(h:b (c9 n ds)=.ex c):bZ n np b ds=.ex c:=by unfold bZ;rw[Z_ hl,h]
def Sx(h:f ρ=.ex c):aM f g ρ=.ex c:=by unfold aM;rw[h]
def Sw(h:r (bR ρ)=aa c):tU r f ρ=.ex c:=by unfold tU;rw[h]
def ZV(h:r (bR ρ)=ae)(h2:f ρ=o):tU r f ρ=o:=by unfold tU;rw[h];show h2
def rc1(ha:a ρ=aa x)(h:ya (R [x])=c):vJ R (aA a aF) ρ=c:=by unfold vJ;rw[args1 ha];show h
def ZW(ha:a ρ=aa x)(hb:b ρ=aa y):iP (aA a (aA b aF)) ρ=aa (.tup [x,y]):=ZM (args2 ha hb) (by simp)
def ZX(hp:p<=4000)(hq:q<=4000)(hi:i.natAbs<2^p)(hj:j.natAbs<2^q):mulM (.int i) (.int j)=aa (.int (i*j)):=by
 have lg:∀m r:Nat,m<2^r->m.log2<r+1:=by
  intro m r hm;by_cases z:m=0
  .rw [z];show Nat.succ_pos r
  .exact p0 ((Nat.log2_lt z).mpr hm)
 have a:=lg _ _ hi;have b:=lg _ _ hj;have e:xV i j=af:=by unfold xV;rw[Zx (show i.natAbs.log2+j.natAbs.log2<=134217700 by lia),Bool.or_true]
 unfold mulM p6;show Z_ e
def UG(ρ:dW)(h:(Zv ((0:Int)<=j)&&Zv (j.natAbs<=1000000)&&Zv (i.natAbs<18446744073709551616))=af):aE F9 (eC (.int i)) (eC (.int j)) ρ=aa (.int (i^j.toNat)) :=
 aU rfl rfl (Z_ h)
def UH(c s:Int)(hm:0<most):∃r,0<=r/\r<most/\lV [.int c,.int most,.int s]=.ok (.int r):=by
 have Bm:∀ρ,aE F9 (eC (.int 10)) (eC (.int 18)) ρ=aa (.int 1000000000000000000):=λρ=>by rw[UG ρ (by decide+kernel)];rfl
 unfold lV;by_cases h:(1000000000000000000:Int)<=c
 .refine ⟨c/64%most,lj _ ∅,om _ hm,eT rfl (yK (wB (iQ (aU (x:=.int c) (y:=.int 1000000000000000000) rfl (Bm _) rO) (by rw[Zx h];rfl)) (dY (aU (x:=.int (c/64)) (y:=.int most) (aU (x:=.int c) (y:=.int 64) rfl rfl (kK (by decide) (by decide))) rfl (d8 hm)))))⟩
 .obtain ⟨_,e,x,v4,rfl⟩:Nx (fQ (bX (aA (eC (.int 20)) aF)) (qE 4)
   (bG 3 (aE cD (aE mulM (aB 3) (eC (.int 1000000007))) (aL LL.fV (aA (aB 0) (aA (aB 4) (aA (aB 2) aF)))))) [.ro (.int c),.ro (.int most),.ro (.int s),.ro (.int 0),.no])
   (λρ=>∃x v4,ρ=[.ro (.int c),.ro (.int most),.ro (.int s),.ro (.int x),v4]):=by
   show nZ 20 (λi ρ=>∃x v4,ρ=[.ro (.int c),.ro (.int most),.ro (.int s),.ro (.int x),v4]) rfl (by decide) ⟨0,.no,rfl⟩ ?_ λρ h=>h;rintro i _ hi ⟨x,v4,rfl⟩;obtain⟨r,_,er⟩:=GL c (i:Int) s ∅ ∅;show⟨_,rfl,_,dZ (.int (x*1000000007+r)) (aU (x:=.int (x*1000000007)) (y:=.int r) (aU (x:=.int x) (y:=.int 1000000007) rfl rfl (DT (by decide))) (dA rfl rfl rfl er) rM) rfl,_,_,rfl⟩
  show⟨x%most,lj _ ∅,om _ hm,eT rfl (bT _ (mL (iQ (aU (x:=.int c) (y:=.int 1000000000000000000) rfl (Bm _) rO) (by rw[Zy h];rfl)) rfl) (bT _ (dZ (.int 0) rfl rfl) (bT _ e (dY (aU (x:=.int x) (y:=.int most) rfl rfl (d8 hm))))))⟩
def qJ(hx:Ord.Rows x)(hn:x.length<=9):LL.iW [aS x]=.ok (.tup ((yQ.T x).map pairD)):=yQ.qJ hx hn
def η(fl:Q0e)(a:Int):Int:=(fl[a.toNat]?).getD 0
def mS(h0:0<=a)(h1:a<(fl.length:Int)):dQ (τ fl) (.int a)=aa (.int (η fl a)):=by obtain⟨x,_,e,e2⟩:=DU h0 h1;show xZ (fl.map D.int) a=_;rw[xA,e];unfold η;rw[e2];rfl
def yS(h0:0<=a)(h1:a<(fl.length:Int)):dQ (aG fl) (.int a)=aa (.int (η fl a)):=mS h0 h1
def n6(fl:Q0e)(p:Int×Int):Bool:=if p.2<p.1 then Zv (η fl p.1<η fl p.2) else Zv (η fl p.1<=η fl p.2)
def rs(x:Q0a)(fl:Q0e):Bool:=(yQ.T x).all (n6 fl)
def DY(ha:0<=a/\a<(fl.length:Int))(hb:0<=b/\b<(fl.length:Int)):jD [τ fl,.int a,.int b]=.ok (.bl (n6 fl (a,b))):=by
 unfold jD n6;by_cases h:b<a
 .rw [Z_ h];show eT rfl (yK (wB (iQ (aU (x:=.int a) (y:=.int b) rfl rfl jX) (by rw[Zx h];rfl)) (dY (aU (aU (x:=τ fl) (y:=.int a) rfl rfl (mS ha.1 ha.2)) (aU (x:=τ fl) (y:=.int b) rfl rfl (mS hb.1 hb.2)) rN))))
 .rw [Zz h];show eT rfl (bT _ (mL (iQ (aU (x:=.int a) (y:=.int b) rfl rfl jX) (by rw[Zy h];rfl)) rfl) (dY (aU (aU (x:=τ fl) (y:=.int a) rfl rfl (mS ha.1 ha.2)) (aU (x:=τ fl) (y:=.int b) rfl rfl (mS hb.1 hb.2)) wZ)))
def Zf(hx:Ord.Rows x)(h:p∈yQ.T x):(0<=p.1/\p.1<(x.length:Int))/\0<=p.2/\p.2<(x.length:Int):=by obtain⟨h0,h1,h2⟩:=yQ.ND.mp h;show⟨yQ.yR hx h0 h1 h2,h0,h1⟩
def inK(k:Int)(fl:Q0e):Bool:=fl.all λv=>Zv (1<=v)&&Zv (v<=k)
theorem rY(hx:Ord.Rows x)(hn:x.length<=9)(hk:0<=k)(hl:fl.length=x.length):rX [aS x,τ fl,.int k]=.ok (.bl (inK k fl&&rs x fl)):=by
 unfold rX;have tl:=yQ.Zg hx hn;show eT rfl (bT [.ro (aS x),.ro (τ fl),.ro (.int k)] (mL (yN (b:=ag) (iQ (aU (x:=.int k) (y:=.int 0) rfl rfl rN) (by rw[Zy (show ¬ k<0 by lia)];rfl)) (λ_=>iQ (aU (cN rfl dR) (cN rfl fZ) w4) (by rw[hl];simp[lF])) (λz=>by cases z)) rfl) ?_);have e1:cZ allM (aA (cJ 1 [2] (cB (aB 1)) (g1 0) dO (f7 DI DI (eC (.int 1)) (aB 0) (aB 1))) aF) (bR [.ro (aS x),.ro (τ fl),.ro (.int k)])=aa (.bl (inK k fl)):=by
  show cN (fY (fl.map D.int) rfl (by rw[a_];lia) (dP D.int (λv=>D.bl (Zv (1<=v)&&Zv (v<=k))) fl λv _=>⟨_,rfl,?_⟩)) ?_
  .unfold f7;show(if Zv (1<=v)=af then aa (D.bl (Zv (v<=k))) else aa (.bl ag))=_;cases Zv (1<=v)<;>rfl
  .have:=mM (bs:=fl.map λv=>Zv (1<=v)&&Zv (v<=k));rw[de] at this;show Iu this ?_;rw[qf];rfl
 cases hb:inK k fl with
 |false=>show yK (wB (NC (iQ e1 (by rw[hb];rfl)) rfl) (dY rfl))
 |true =>
  show bT _ (mL (NC (iQ e1 (by rw[hb];rfl)) rfl) rfl) (dY ?_);show cN (fY ((yQ.T x).map pairD) ?_ (by rw[a_];lia) (dP pairD (λp=>D.bl (n6 fl p)) (yQ.T x) λp hp=>⟨_,rfl,?_⟩)) ?_
  .unfold cB;rw[e9 (x:=aS x) rfl (qJ hx hn)];rfl
  .obtain ⟨ra,rb⟩:=Zf hx hp;rw[<- hl] at ra rb;show dA (x:=τ fl) (y:=.int p.1) (z:=.int p.2) rfl rfl rfl (DY ra rb)
  .have:=mM (bs:=(yQ.T x).map (n6 fl));rw[de] at this;show Iu this ?_;rw[qf];rfl
theorem GR(hx:Ord.Rows x)(hn:x.length<=9)(hF:∀a:Int,0<=a->a<(fl.length:Int)->dQ F (.int a)=aa (.int (η fl a)))(hl:fl.length=x.length):j9 [aS x,F]=.ok (.bl (rs x fl)):=by
 unfold j9;have eq:rs x fl=(bD 0 x.length).all λb=>(row x b).all λa=>n6 fl (a,b):=by
  rw[mj];simp only[rs,gp,aT,Prod.forall,yQ.ND]
  constructor
  .intro h b hb a ha;show h a b ⟨by lia,by lia,ha⟩
  .intro h a b hb;show h b ∅ a hb.2.2
 have inner:∀b:Int,0<=b->b<(x.length:Int) ->∀v3:Sv,((row x b).all (λa=>n6 fl (a,b))=af->Nx (fQ (cB (aE dQ (aB 0) (aB 2))) (qE 3)
    (iO (wU (tV (aE pS (aE dQ (aB 1) (aB 3)) (aE dQ (aB 1) (aB 2)))) (pQ (tV (aE pS (aB 3) (aB 2))) (tV (aE rG (aE dQ (aB 1) (aB 3)) (aE dQ (aB 1) (aB 2))))))
     (bL (eC (.bl ag)))
     d7) [.ro (aS x),.ro F,.ro (.int b),v3]) λρ=>∃v3,ρ=[.ro (aS x),.ro F,.ro (.int b),v3]) /\
   ((row x b).all (λa=>n6 fl (a,b))=ag->(fQ (cB (aE dQ (aB 0) (aB 2))) (qE 3)
    (iO (wU (tV (aE pS (aE dQ (aB 1) (aB 3)) (aE dQ (aB 1) (aB 2)))) (pQ (tV (aE pS (aB 3) (aB 2))) (tV (aE rG (aE dQ (aB 1) (aB 3)) (aE dQ (aB 1) (aB 2))))))
     (bL (eC (.bl ag)))
     d7) [.ro (aS x),.ro F,.ro (.int b),v3])=.rt (.bl ag)):=by
  intro b b0 b1 v3;have it:∀v3:Sv,cB (aE dQ (aB 0) (aB 2)) (jL [.ro (aS x),.ro F,.ro (.int b),v3])=aa ((row x b).map D.int):=by intro v3;unfold cB;rw[aU (x:=aS x) (y:=.int b) rfl rfl (DX b0 b1)];rfl
  have L:=uF (g:=qE 3) (b:=iO (wU (tV (aE pS (aE dQ (aB 1) (aB 3)) (aE dQ (aB 1) (aB 2)))) (pQ (tV (aE pS (aB 3) (aB 2))) (tV (aE rG (aE dQ (aB 1) (aB 3)) (aE dQ (aB 1) (aB 2))))))
     (bL (eC (.bl ag)))
     d7) (z:=.bl ag) (λρ=>∃v3,ρ=[.ro (aS x),.ro F,.ro (.int b),v3]) D.int (λa=>n6 fl (a,b)) (row x b) [.ro (aS x),.ro F,.ro (.int b),v3] ⟨_,rfl⟩ (by
   rintro a ha _ ⟨w3,rfl⟩;have ra:=yQ.yR hx b0 b1 ha;rw[<- hl] at ra;have rb:b<(fl.length:Int):=by lia
   show⟨[.ro (aS x),.ro F,.ro (.int b),.ro (.int a)],rfl,?_⟩;have c:wU (tV (aE pS (aE dQ (aB 1) (aB 3)) (aE dQ (aB 1) (aB 2)))) (pQ (tV (aE pS (aB 3) (aB 2))) (tV (aE rG (aE dQ (aB 1) (aB 3)) (aE dQ (aB 1) (aB 2))))) (bR [.ro (aS x),.ro F,.ro (.int b),.ro (.int a)])=aa (!n6 fl (a,b)):=by
    have ea:∀v:dW,v=bR [.ro (aS x),.ro F,.ro (.int b),.ro (.int a)]->aE dQ (aB 1) (aB 3) v=aa (.int (η fl a)):=by rintro _ rfl;show aU (x:=F) (y:=.int a) rfl rfl (hF _ ra.1 ra.2)
    have eb:∀v:dW,v=bR [.ro (aS x),.ro F,.ro (.int b),.ro (.int a)]->aE dQ (aB 1) (aB 2) v=aa (.int (η fl b)):=by rintro _ rfl;show aU (x:=F) (y:=.int b) rfl rfl (hF _ b0 rb)
    show yN (b:=Zv (η fl b<η fl a)) (iQ (aU (ea _ rfl) (eb _ rfl) jX) rfl) (λh=>?_) (λh=>?_)
    .have h:¬ η fl b<η fl a:=by simpa using h
     show Fd (b:=Zv (b<a)) (iQ (aU (x:=.int a) (y:=.int b) rfl rfl jX) rfl) (λh2=>?_) (λh2=>?_)
     .have h2:b<a:=by simpa using h2
      show iQ (aU (ea _ rfl) (eb _ rfl) k9) ?_;show aa _=aa _;unfold n6;rw[Z_ h2];congr 1;rw[mj];simp;lia
     .have h2:¬ b<a:=by simpa using h2
      unfold n6;rw[Zz h2];simp;lia
    .have h:η fl b<η fl a:=by simpa using h
     unfold n6;split<;>simp<;>lia
   constructor
   .intro h;show⟨_,mL (by rw[c,h];rfl) rfl,_,rfl⟩
   .intro h;show wB (by rw[c,h];rfl) (dY rfl))
  show⟨λh=>?_,λh=>DS _ (it v3) (L.2 h)⟩;obtain⟨ρ',e,p⟩:=L.1 h;show⟨ρ',DS _ (it v3) e,p⟩
 have L:=uF (g:=qE 2) (b:=fQ (cB (aE dQ (aB 0) (aB 2))) (qE 3)
    (iO (wU (tV (aE pS (aE dQ (aB 1) (aB 3)) (aE dQ (aB 1) (aB 2)))) (pQ (tV (aE pS (aB 3) (aB 2))) (tV (aE rG (aE dQ (aB 1) (aB 3)) (aE dQ (aB 1) (aB 2))))))
     (bL (eC (.bl ag)))
     d7)) (z:=.bl ag) (λρ=>∃v2 v3,ρ=[.ro (aS x),.ro F,v2,v3]) D.int (λb=>(row x b).all λa=>n6 fl (a,b)) (bD 0 x.length) [.ro (aS x),.ro F,.no,.no] ⟨_,_,rfl⟩ (by
  rintro b hb _ ⟨w2,w3,rfl⟩;have hb:=aT.mp hb;have I:=inner b ∅ ∅ w3;show⟨[.ro (aS x),.ro F,.ro (.int b),w3],rfl,λh=>?_,I.2⟩;obtain⟨ρ',e,v3,rfl⟩:=I.1 h;show⟨_,e,_,_,rfl⟩)
 have it:bX (aA (cZ b9 (aA (aB 0) aF)) aF) (jL [.ro (aS x),.ro F,.no,.no])=aa ((bD 0 x.length).map D.int):=GK (cN rfl fZ) ∅;show eT rfl ?_;rw[eq]
 cases h:(bD 0 x.length).all λb=>(row x b).all λa=>n6 fl (a,b) with
 |true =>
  obtain⟨ρ',e,v2,v3,rfl⟩:=L.1 h;show bT _ (DS _ it e) (dY rfl)
 |false=>show yK (DS _ it (L.2 h))
def GS(hx:Ord.Rows x)(hn:x.length<=9)(hl:fl.length=x.length):j9 [aS x,τ fl]=.ok (.bl (rs x fl)):=GR hx hn (λ_ h0 h1=>mS h0 h1) hl
def gS:jM:=bZ 2 2
  (bL (cZ eX (aA (cZ kJ (aA (aE cD (aB 0) (iP (aA (aB 1) aF))) aF)) aF)))
def cK:jM:=bZ 3 2
  (aM (bG 2 (cJ 1 [1] (bX (aA (cZ b9 (aA (aB 0) aF)) aF)) (g1 0) (tV (aE (xX af) (aB 0) (aB 1))) (aB 0)))
  (bL (cJ 1 [1,0] (cB (aB 2)) (g1 0) (tV (cZ allM (aA (cJ 1 [1] (cB (aE dQ (aB 2) (aB 0))) (g1 0) dO (aE (xX ag) (aB 0) (aB 1))) aF))) (aB 0))))
def aI(x:Q0a)(a:Q0e):List Int:=((bD 0 x.length).filter λt=>!a.contains t).filter λt=>(row x t).all λl=>a.contains l
def bH(a:Q0e)(t:Int):List Int:=sortI (a++[t])
def rdI(x:Q0a)(a:Q0e):List (List Int):=(aI x a).map (bH a)
def ZY(x:Q0a)(a:Q0e):Prop:=a.Nodup /\∀t∈a,0<=t/\t<(x.length:Int)
def mT(h:ns.length<64):kJ [.tup (ns.map D.int)]=aa (.lst ((sortI ns).map D.int)):=by simp[kJ,b7,h]
def P0(h:a.length<=9):gS [τ a,.int t]=.ok (τ (bH a t)):=by
 unfold gS;show eT rfl (dY (cN (x:=aG (bH a t)) (cN (x:=τ (a++[t])) (aU (x:=τ a) (y:=τ [t]) rfl rfl ?_) ?_) rfl))
 .unfold τ;rw[GI (by simp;lia),g_]
 .have:=mT (ns:=a++[t]) (by simp;lia);show this
def rZ(hx:x.length<=9)(hr:∀r∈x,r.length<=9):cK [aS x,τ a]=.ok (aG (aI x a)):=by
 unfold cK aI;have e1:cJ 1 [1] (bX (aA (cZ b9 (aA (aB 0) aF)) aF)) (g1 0) (tV (aE (xX af) (aB 0) (aB 1))) (aB 0) (jL (c9 3 [aS x,τ a]))=aa (aG ((bD 0 x.length).filter λt=>!a.contains t)):=by show fY ((bD 0 x.length).map D.int) (GK (cN rfl fZ) ∅) (by rw[a_,aO];lia) ?_;show fI D.int _ D.int (bD 0 x.length) λt _=>⟨[aa (.int t),aa (τ a)],rfl,iQ (aU (x:=.int t) (y:=τ a) rfl rfl ZR) rfl,λ_=>rfl⟩
 generalize hL:((bD 0 x.length).filter λt=>!a.contains t)=L at e1;have Lr:∀t∈L,0<=t/\t<(x.length:Int):=λt ht=>by rw[<- hL] at ht;have:=aT.mp (ji.mp ht).1;lia
 have Ll:L.length<=9:=by rw[<- hL];have:=qb (λt=>!a.contains t) (bD 0 x.length);rw[aO] at this;lia
 show eT rfl (bT _ (dZ (aG L) e1 rfl) (dY ?_));show fY (L.map D.int) rfl (by rw[a_];lia) ?_;show fI D.int _ D.int L λt ht=>⟨[aa (.int t),aa (τ a),aa (aS x)],rfl,?_,λ_=>rfl⟩;obtain⟨t0,t1⟩:=Lr t ht;have rl:(row x t).length<=9:=by unfold row;rw[bw ∅];show hr _ (k_ _)
 show iQ (d:=.bl ((row x t).all λl=>a.contains l)) (cN (x:=.lst (((row x t).map λl=>a.contains l).map D.bl)) ?_ ?_) rfl
 .refine Iu (fY ((row x t).map D.int) ?_ (by rw[a_];lia) (dP D.int (λl=>.bl (a.contains l)) (row x t) λl _=>⟨[aa (.int l),aa (τ a)],rfl,aU (x:=.int l) (y:=τ a) rfl rfl aCy⟩)) (by rw[de];rfl);unfold cB;rw[aU (x:=aS x) (y:=.int t) (z:=aa (τ (row x t))) rfl rfl (DX t0 t1)];rfl
 .rw [mM,qf];rfl
def iX(h:t∈aI x a):(0<=t/\t<(x.length:Int))/\t∉a:=by unfold aI at h;have h1:=(ji.mp h).1;have h2:=ji.mp h1;have:=aT.mp h2.1;show⟨by lia,by simpa using h2.2⟩
def DZ(n:Nat):(bD 0 n).Nodup:=by show vj.mpr λi j hi hj hij=>?_;have e1:=kM (lo:=0) (n:=n) (i:=i) (by simpa[aO] using hi);have e2:=kM (lo:=0) (n:=n) (i:=j) (by simpa[aO] using hj);rw[bw hi] at e1;rw[bw hj] at e2;have e1:=cj e1;have e2:=cj e2;lia
def iY(h:ZY x a):(aI x a).length+a.length<=x.length:=by
 have nd:(aI x a++a).Nodup:=by show rm.mpr ⟨?_,h.1,λu hu v hv e=>(iX hu).2 (e▸hv)⟩;unfold aI;show vv _ (vv _ (DZ x.length))
 have:=Ord.eR _ (bD 0 x.length) nd λt ht=>aT.mpr (by
  rcases gm.1 ht with z|z
  .have:=(iX z).1;lia
  .have:=h.2 t z;lia)
 rwa [di,aO] at this
def Fb(h:ZY x a):(∀b∈rdI x a,ZY x b/\b.length=a.length+1)/\(rdI x a).length+a.length<=x.length:=by
 show⟨λb hb=>?_,by unfold rdI;rw[a_];show iY h⟩;unfold rdI at hb;obtain⟨t,ht,rfl⟩:=fw.mp hb;obtain⟨hr,hn⟩:=iX ht;have p:=sortI_perm (a++[t]);show⟨⟨?_,λu hu=>?_⟩,?_⟩
 .unfold bH;show p.nodup_iff.mpr (rm.mpr ⟨h.1,by simp,λu hu v hv e=>?_⟩);rw[cc] at hv;subst hv;subst e;show hn hu
 .unfold bH at hu;rcases gm.1 (p.mem_iff.mp hu) with z|z
  .exact h.2 u z
  .rw [cc] at z;subst z;show hr
 .unfold bH;rw[p.length_eq];simp
def sA(h:ZY x a):a.length<=x.length:=by have:=iY h;lia
def ZZ:ZY x []:=⟨rj,λt ht=>by cases ht⟩
end LL
namespace Z0
noncomputable def fact:Nat->Int
 |0=>1
 |k+1=>fact k*(k+1)
noncomputable def ff(x:Int):Nat->Int
 |0=>1
 |k+1=>ff x k*(x-k)
theorem sC:∀k,0<fact k
 |0=>by decide
 |k+1=>Int.mul_pos (sC k) ∅
theorem NF(x:Int):∀k,ff (x+1) (k+1)=(x+1)*ff x k
 |0=>by simp[ff]
 |k+1=>by rw[show ff (x+1) (k+1+1)=ff (x+1) (k+1)*(x+1-((k+1:Nat):Int)) from rfl,NF x k,show ff x (k+1)=ff x k*(x-k) from rfl,Ao];congr 2;lia
def D0(x:Int)(k:Nat):ff (x+1) (k+1)=ff x (k+1)+(k+1)*ff x k:=by rw[NF,show ff x (k+1)=ff x k*(x-k) from rfl,oi (ff x k),<- Ap];congr 1;lia
theorem NG:∀k,ff 0 (k+1)=0
 |0=>by simp[ff]
 |k+1=>by rw[show ff 0 (k+1+1)=ff 0 (k+1)*_ from rfl,NG k,qg]
theorem UI:∀(k:Nat) (x:Int),fact k ∣ ff x k
 |0,x=>by simp[fact,ff]
 |k+1,x=>by
  have st:∀y:Int,fact (k+1) ∣ (k+1)*ff y k:=λy=>by obtain⟨c,e⟩:=UI k y;show⟨c,by rw[e,show fact (k+1)=fact k*(k+1) from rfl,<- Ao,oi (k+1:Int)]⟩
  have up:∀y:Int,fact (k+1) ∣ ff y (k+1)->fact (k+1) ∣ ff (y+1) (k+1):=λy h=>by rw[D0];show Int.dvd_add h (st y)
  have dn:∀y:Int,fact (k+1) ∣ ff (y+1) (k+1)->fact (k+1) ∣ ff y (k+1):=λy h=>by rw[D0] at h;show(Int.dvd_add_left (st y)).mp h
  have h0:fact (k+1) ∣ ff 0 (k+1):=by rw[NG];show Int.dvd_zero _
  have ν:∀n:Nat,fact (k+1) ∣ ff (n:Int) (k+1):=λn=>by
   induction n with
   |zero=>show h0
   |succ n ih=>show up _ ih
  have neg:∀n:Nat,fact (k+1) ∣ ff (-(n:Int)) (k+1):=λn=>by
   induction n with
   |zero=>show h0
   |succ n ih=>show dn _ (by rw[show -((n+1:Nat):Int)+1=-(n:Int) by lia];show ih)
  rcases Int.le_total 0 x with hx|hx
  .have:=ν x.toNat;rwa [show((x.toNat:Nat):Int)=x by lia] at this
  .have:=neg (-x).toNat;rwa [show -(((-x).toNat:Nat):Int)=x by lia] at this
--CUT
def C(x:Int)(m:Nat):Int:=ff x m/fact m
def BY(x:Int)(m:Nat):C x m*fact m=ff x m:=Int.ediv_mul_cancel (UI m x)
def Dh(h:c*fact m=ff x m):c=C x m:=a2t (a2q (sC m)) (h.trans (BY x m).symm)
def qK(x:Int):C x 0=1:=rfl
def uG(x:Int)(m:Nat):C (x+1) (m+1)=C x (m+1)+C x m:=by show(Dh ?_).symm;rw[Ap,BY,show fact (m+1)=fact m*(m+1) from rfl,<- Ao,BY,D0,oi (ff x m)]
theorem NH:∀{m:Nat},x<m->ff (x:Int) m=0
 |m+1,h=>by
  show ff (x:Int) m*((x:Int)-(m:Int))=0;by_cases e:x=m
  .subst e;rw[Int.sub_self,Int.mul_zero]
  .rw [NH ∅,qg]
theorem JZ{x:Int}{m:Nat}(h0:0<=x)(h:x<m):C x m=0:=by show(Dh ?_).symm;obtain⟨n,rfl⟩:∃n:Nat,x=(n:Int):=⟨x.toNat,by lia⟩;rw[NH ∅,qg]
noncomputable def diffs:List Int->List Int
 |a::b::l=>(b-a)::diffs (b::l)
 |_=>[]
theorem sD:∀l:Q0e,(diffs l).length=l.length-1
 |[]=>rfl
 |[_]=>rfl
 |a::b::l=>by rw[diffs,cx,sD (b::l)];simp
def fd(l:Q0e):List Int:=match l with
 |[]=>[]
 |a::r=>a::fd (diffs (a::r))
termination_by l.length
decreasing_by rw[sD];simp
noncomputable def vals(f:Int->Int):Nat->Int->List Int
 |0,_=>[]
 |n+1,x=>f x::vals f n (x+1)
def DV(n:Nat)(d:Int):List Int->Int->Int
 |[],_=>0
 |w::l,k=>w*C (k+n-1-d) n+DV n (d+1) l k
def Bg(b:Nat)(x:Int):Prop:=x.natAbs<2^b
def Bg.mono(h:Bg a x)(hab:a<=b):Bg b x:=fz h (z_ ∅ hab)
def Bg.mul(h:Bg a x)(g:Bg b y):Bg (a+b) (x*y):=by unfold Bg at *;rw[Nat.pow_add,a2r];show Nat.mul_lt_mul_of_lt_of_lt h g
def Bg.sub(h:Bg a x)(g:Bg a y):Bg (a+1) (x-y):=by unfold Bg at *;rw[Nat.pow_succ];generalize 2^a=z at *;lia
end Z0
namespace LL
open L3 L4
def mU:jM:=bZ 2 2
  (bL (cJ 2 [] (T4 (aA (aB 0) (aA (aB 1) aF))) (g2 0 1) dO (aE cD (aB 0) (aB 1))))
def b8:jM:=bZ 1 1
  (bL (aE cD (iV (aA (eC (.int 0)) aF)) (ZE (aB 0) ll (oE (PM (eC (.int 1)))))))
def bM:Nat->FnM
 |0=>λ_ _=>.no
 |n+1=>runM 8 4
  ((aM (bG 4 (iP (aA (aB 1) (aA (aB 2) aF))))
  (iO (tV (aE (PY af) (aB 4) (aB 3)))
   (aM (lQ 5 (aE repLM (iV (aA (eC (.int 0)) aF)) (cZ x8 (aA (cZ b9 (aA (aB 0) aF)) (aA (eC (.int 1)) aF)))))
   (aM (iO (tV (aE rG (cZ b9 (aA (aB 1) aF)) (cZ b9 (aA (aB 0) aF))))
    (qD 5 (bF (eC (.int 1))) (eC (.int 0)))
    d7)
   (aM (yb 5 (fQ (cB (aL LL.cK (aA (aB 0) (aA (aB 1) aF)))) (qE 6)
    (aM (tX 7 (bM n) (aA (aB 0) (aA (aL LL.gS (aA (aB 1) (aA (aB 6) aF))) (aA (aB 6) aF))) 3)
    (bG 5 (aL LL.mU (aA (aB 5) (aA (TN (tV (aE pS (aB 2) (aB 6))) (aL LL.b8 (aA (aB 7) aF)) (aB 7)) aF)))))))
   (BN 3 (bF (aB 5)) (aB 4)))))
   d7)))
  (aB 4)
def gE:jM:=bZ 2 1
  (aM (Ff 1)
  (aM (ZJ (LL.bM 11) (aA (aB 0) (aA (iP aF) (aA (eC (.int 0)) aF))) 1)
  (bL (aB 1))))
def eJ:jM:=bZ 4 2
  (aM (bG 2 (eC (.int 1)))
  (aM (fQ (bX (aA (aB 1) aF)) (qE 3)
   (bG 2 (aE pR (aE mulM (aB 2) (aE gP (aB 0) (aB 3))) (aE cD (aB 3) (eC (.int 1))))))
  (bL (aB 2))))
def n8{ks:List BL}{k k':BL}{v:D}:∀{ks:List BL} {ds:List D},ks.length=ds.length->bK (fX ks ds k v).1 (fX ks ds k v).2 k'=if k'=k then aa v else bK ks ds k':=by
 intro ks ds hl;unfold fX;split
 .rename_i hc;have go:∀(ks:List BL) (ds:List D),ks.length=ds.length->bK ks ((ks.zip ds).map λp=>if p.1=k then v else p.2) k'=if k'=k then(bK ks ds k').map (λ_=>v) else bK ks ds k':=by
   intro ks
   induction ks with
   |nil=>intro ds _;simp[bK]
   |cons q ks ih =>
    intro ds hl
    cases ds with
    |nil=>simp at hl
    |cons d ds =>
     have:=ih ds (by simpa using hl);unfold bK at this ⊢;by_cases h1:q=k'
     .subst h1;by_cases h2:q=k
      .simp [h2]
      .simp [h2]
     .simpa [h1] using this
  have hin:k∈ks:=by rw[a2k] at hc;obtain⟨q,hq,e⟩:=hc;rw[<- of_decide_eq_true e];show hq
  have some_of:∀(ks:List BL) (ds:List D),ks.length=ds.length->k∈ks ->∃d,bK ks ds k=aa d:=by
   intro ks
   induction ks with
   |nil=>intro ds _ h;cases h
   |cons q ks ih =>
    intro ds hl h
    cases ds with
    |nil=>simp at hl
    |cons d ds =>
     by_cases h1:q=k
     .exact ⟨d,by simp[bK,h1]⟩
     .obtain ⟨d',e⟩:=ih ds (by simpa using hl) ((bh.1 h).resolve_left (d_ h1));show⟨d',by unfold bK at e ⊢;simpa[h1] using e⟩
  rw[go ks ds hl];by_cases h:k'=k
  .subst h;obtain⟨d,e⟩:=some_of ks ds hl hin;rw[e];simp
  .rw [Zz h,Zz h]
 .rename_i hc;have hn:k∉ks:=λh=>hc (a2k.2 ⟨k,h,by simp⟩);unfold bK;dsimp only;rw[a1U hl,List.find?_append];by_cases h:k'=k
  .subst h;have:((ks.zip ds).find? λp=>Zv (p.1=k'))=ae:=by rw[List.find?_eq_none];intro p hp;have:=rh hp;simp only[decide_eq_true_eq];show λe=>hn (e▸this.1)
   rw[this];simp
  .rw [Zz h];have:([k].zip [v]).find? (λp=>Zv (p.1=k'))=ae:=by simp[d_ h]
   rw[this,Option.or_none]
def NI{ks:List BL}{ds:List D}{k:BL}{v:D}(h:ks.length=ds.length):(fX ks ds k v).1.length=(fX ks ds k v).2.length/\(fX ks ds k v).1.length<=ks.length+1:=by
 unfold fX;split
 .simp [h]
 .simp [h]
def P4{ks:List BL}{ds:List D}{k:BL}{v:D}(h:∀q∈ks,q.isLeft=ag)(hk:k.isLeft=ag):∀q∈(fX ks ds k v).1,q.isLeft=ag:=by
 unfold fX;split
 .exact h
 .intro q hq;rcases gm.1 hq with z|z
  .exact h q z
  .rw [cc.1 z];show hk
def mV(h:∀q∈ks,q.isLeft=ag)(hk:k.isLeft=ag):kindB ks k=af:=by unfold kindB;rw[gp];intro q hq;rw[h q hq,hk];rfl
theorem BZ:∀a:Q0e,BM (a.map D.int)=aa (a.map cm)
 |[]=>rfl
 |x::a=>by rw[bj,BM,BZ a];rfl
def kS(a:Q0e)(l:Int):BL:=.inr [.inr (a.map cm),.inl (.inl l)]
def NJ(a:Q0e)(l:Int):tW (.tup [τ a,.int l])=aa (kS a l):=by
 have e:TZ (τ a)=aa (.inr (a.map cm)):=by show(BM (a.map D.int)).map jk=_;rw[BZ];rfl
 show(yA [τ a,.int l]).map jk=_;unfold yA;rw[e];rfl
theorem NK:∀{a b:Q0e},a.map (cm:Int->JS)=b.map cm->a=b
 |[],[],_=>rfl
 |[],_::_,h=>by simp at h
 |_::_,[],h=>by simp at h
 |x::a,y::b,h=>by simp only[bj,a2j,a0a] at h;rw[h.1,NK h.2]
theorem UJ{a b:Q0e}{l m:Int}(h:kS a l=kS b m):a=b/\l=m:=by unfold kS at h;simp only[Sum.inr.injEq,a2j,a0a,and_true] at h;show⟨NK h.1,h.2⟩
def sE(a b:Q0e):List Int:=(a.zip b).map λp=>p.1+p.2
def sF(l:Q0e):List Int:=0::l.dropLast
def EA(n:Nat):List Int:=1::bu (max n 1-1) 0
def J0(n:Nat):List Int:=bu (max n 1) 0
section
variable(x:Q0a)
def Sh:Nat->List Int->Int->List Int
 |0,_,_=>EA x.length
 |m+1,a,l=>(aI x a).foldl (λψ t=>sE ψ (if t<l then sF (Sh m (bH a t) t) else Sh m (bH a t) t)) (J0 x.length)
end
def UK(h:a.length<=1000):mU [aG a,aG b]=.ok (aG (sE a b)):=by
 unfold mU sE;show eT rfl (dY (fY ((a.zip b).map λp=>D.tup [.int p.1,.int p.2]) ?_ ?_ ?_))
 .unfold T4;rw[args2 (x:=aG a) (y:=aG b) rfl rfl];show aa (((a.map D.int).zip (b.map D.int)).map _)=_;rw[a1S,de];rfl
 .rw [a_,a17];lia
 .rw [dP (λp:Int×Int=>D.tup [.int p.1,.int p.2]) (λp=>.int (p.1+p.2)) (a.zip b) λp _=>⟨[aa (.int p.1),aa (.int p.2)],rfl,rfl⟩,de];rfl
def Z1(h0:1<=a.length)(h:a.length<=1000):b8 [aG a]=.ok (aG (sF a)):=by
 unfold b8;show eT rfl (dY (aU (x:=aG [0]) (y:=aG a.dropLast) rfl ?_ ?_))
 .show aa (D.lst (GC (a.map D.int) ae (aa (-1))))=_;unfold aG GC PQ;rw[a_];simp only[pz,nz];rw[Z_ (by decide),show((-1:Int)+(a.length:Int)).toNat=a.length-1 by lia,<- Hx,List.dropLast_eq_take]
 .show (if _ then _ else _)=_;rw[Z_ (by simp[nU];lia)];rfl
def lA(h:a.length=b.length):(sE a b).length=a.length:=by unfold sE;simp[h]
def n9(h:1<=a.length):(sF a).length=a.length:=by unfold sF;simp;lia
def qL(n:Nat):(J0 n).length=max n 1:=by simp[J0]
def GU(n:Nat):(EA n).length=max n 1:=by simp[EA];lia
theorem lW(x:Q0a):∀(m:Nat) (a:Q0e) (l:Int),(Sh x m a l).length=max x.length 1
 |0,a,l=>GU _
 |m+1,a,l=>by
  unfold Sh;have go:∀(ts:Q0e) (ψ:Q0e),ψ.length=max x.length 1->(ts.foldl (λψ t=>sE ψ (if t<l then sF (Sh x m (bH a t) t) else Sh x m (bH a t) t)) ψ).length=max x.length 1:=by
   intro ts
   induction ts with
   |nil=>intro ψ h;show h
   |cons t ts ih =>
    intro ψ h;rw[me];show ih _ ?_;rw[lA]
    .exact h
    .rw [h];have:=lW x m (bH a t) t;split
     .rw [n9 ∅];show this.symm
     .exact this.symm
  show go _ _ (qL _)
noncomputable def most:Nat->Nat
 |0=>1
 |m+1=>1+(m+1)*most m
def gU(x:Q0a)(kd:KD):Prop:=kd.1.length=kd.2.length/\(∀q∈kd.1,q.isLeft=ag)/\(∀a l d,bK kd.1 kd.2 (kS a l)=aa d->d=aG (Sh x (x.length-a.length) a l)) /\∀a l,(bK kd.1 kd.2 (kS a l)).isSome=af->a.length<x.length ->∀t∈aI x a,(bK kd.1 kd.2 (kS (bH a t) t)).isSome=af
def Z2(kd tQ:KD):Prop:=∀k,(bK kd.1 kd.2 k).isSome=af->(bK tQ.1 tQ.2 k).isSome=af
def gU.put{x:Q0a}{kd:KD}(h:gU x kd)(a:Q0e)(l:Int)(hs:a.length<x.length ->∀t∈aI x a,(bK kd.1 kd.2 (kS (bH a t) t)).isSome=af):gU x (fX kd.1 kd.2 (kS a l) (aG (Sh x (x.length-a.length) a l))):=by
 have up:∀k,(bK kd.1 kd.2 k).isSome=af->(bK (fX kd.1 kd.2 (kS a l) (aG (Sh x (x.length-a.length) a l))).1 (fX kd.1 kd.2 (kS a l) (aG (Sh x (x.length-a.length) a l))).2 k).isSome=af:=λk e=>by
  rw[n8 (ks:=[]) h.1];split
  .rfl
  .exact e
 show⟨(NI h.1).1,P4 h.2.1 rfl,λb m d e=>?_,λb m e hb t ht=>?_⟩
 .rw [n8 (ks:=[]) h.1] at e;split at e
  .rename_i hk;obtain⟨rfl,rfl⟩:=UJ hk;show(cj e).symm
  .exact h.2.2.1 b m d e
 .rw [n8 (ks:=[]) h.1] at e;split at e
  .rename_i hk;obtain⟨rfl,rfl⟩:=UJ hk;show up _ (hs hb t ht)
  .exact up _ (h.2.2.2 b m e hb t ht)
def p7(x:Q0a)(a:Q0e)(l:Int)(q:Nat->ax->Prop)(kd:KD)(s v6 v7:Sv):bU:=[.ro (aS x),.ro (τ a),.ro (.int l),.ow (.c8 q kd.1 kd.2),.ro (.tup [τ a,.int l]),s,v6,v7]
def xv(h:gU x kd):tV (aE (PY af) (aB 4) (aB 3)) (bR (p7 x a l q kd s v6 v7))=aa (!(bK kd.1 kd.2 (kS a l)).isSome):=by show iQ (d:=.bl (!(bK kd.1 kd.2 (kS a l)).isSome)) (aU (x:=.tup [τ a,.int l]) (y:=.c8 q kd.1 kd.2) rfl rfl ?_) rfl;show((tW (.tup [τ a,.int l])).bind _)=_;rw[NJ];show(if _ then _ else _)=_;rw[Z_ (mV h.2.1 rfl)];rfl
def E_(h:gU x kd)(hq:∀b o,q b o ->∃o2,q0 b o2)(hl:bK kd.1 kd.2 (kS a l)=aa d):ZH 3 (aB 4) q0 (p7 x a l q kd s v6 v7)=aa (d,kd):=by have e:ZH 3 (aB 4) q0 (p7 x a l q kd s v6 v7)=(tW (.tup [τ a,.int l])).bind λkk=>@ite _ (kindB kd.1 kk=af /\∀b o,q b o ->∃o2,q0 b o2) (Iw _) ((bK kd.1 kd.2 kk).map λd=>(d,kd)) ae:=rfl;rw[e,NJ];show(Z_ ⟨mV h.2.1 rfl,hq⟩).trans (by rw[hl];rfl)
theorem rep0(n:Nat)(h:n<=1000):repLM (.lst [.int 0]) (.int (n:Int))=aa (aG (bu n 0)):=by
 show(if _ then _ else _)=_;rw[Z_ ⟨by simp[nU];lia,by lia⟩];unfold aG;congr 2;simp only[jr]
 induction n with
 |zero=>rfl
 |succ n ih=>rw[jh,qe,ih ∅,jh];rfl
def J1(h:ZY x a)(hl:a.length=x.length):aI x a=[]:=by have:=iY h;show Ij ∅
def NL(hx:x.length<=9)(h:ρ[0]?=aa (aa (aS x))):aE repLM (iV (aA (eC (.int 0)) aF)) (cZ x8 (aA (cZ b9 (aA (aB 0) aF)) (aA (eC (.int 1)) aF))) ρ=aa (aG (J0 x.length)):=by
 have e0:aB 0 ρ=aa (aS x):=by unfold aB;rw[h];rfl
 show aU (x:=.lst [.int 0]) (y:=.int ((max x.length 1:Nat):Int)) rfl (Dc (x:=.int x.length) (y:=.int 1) (cN e0 fZ) rfl ?_) (rep0 _ ∅);show aa (D.int (if _ then _ else _))=_;split<;>congr 2<;>lia
def GV(h0:ρ[0]?=aa (aa (aS x)))(h1:ρ[1]?=aa (aa (τ a))):tV (aE rG (cZ b9 (aA (aB 1) aF)) (cZ b9 (aA (aB 0) aF))) ρ=aa (Zv (a.length=x.length)):=by
 have e0:aB 0 ρ=aa (aS x):=by unfold aB;rw[h0];rfl
 have e1:aB 1 ρ=aa (τ a):=by unfold aB;rw[h1];rfl
 show iQ (d:=.bl (Zv ((a.length:Int)=x.length))) (aU (cN e1 dR) (cN e0 fZ) k9) ?_;rw[pF];congr 1;show decide_eq_decide.2 ∅
def wD(x:Q0a)(kd:KD)(a:Q0e)(l:Int):KD:=fX kd.1 kd.2 (kS a l) (aG (Sh x (x.length-a.length) a l))
def NM{x:Q0a}{kd:KD}{a:Q0e}{l:Int}(h:gU x kd)(hs:a.length<x.length ->∀t∈aI x a,(bK kd.1 kd.2 (kS (bH a t) t)).isSome=af):gU x (wD x kd a l)/\(wD x kd a l).1.length<=kd.1.length+1/\bK (wD x kd a l).1 (wD x kd a l).2 (kS a l)=aa (aG (Sh x (x.length-a.length) a l))/\Z2 kd (wD x kd a l) :=
 ⟨h.put a l hs,(NI h.1).2,by unfold wD;rw[n8 (ks:=[]) h.1,Z_ rfl],λk e=>by
  unfold wD;rw[n8 (ks:=[]) h.1];split
  .rfl
  .exact e⟩
theorem Ez(h:gU x kd)(hc:kd.1.length<16000000):
  BN 3 (bF (aB 5)) (aB 4) (p7 x a l q kd (.ro (aG (Sh x (x.length-a.length) a l))) v6 v7)=.nx (p7 x a l (adr q) (wD x kd a l) (.ro (aG (Sh x (x.length-a.length) a l))) v6 v7):=by
 have e0:BN 3 (bF (aB 5)) (aB 4) (p7 x a l q kd (.ro (aG (Sh x (x.length-a.length) a l))) v6 v7)=(match ((tW (.tup [τ a,.int l])).bind λkk=>if kindB kd.1 kk=af/\kd.2.length<nU then aa ((p7 x a l q kd (.ro (aG (Sh x (x.length-a.length) a l))) v6 v7).set 3 (.ow (.c8 (adr q) (fX kd.1 kd.2 kk (aG (Sh x (x.length-a.length) a l))).1 (fX kd.1 kd.2 kk (aG (Sh x (x.length-a.length) a l))).2))) else ae) with
  |some ρ'=>.nx ρ'
  |none=>.no):=rfl
 rw[e0,NJ,c_,Z_ ⟨mV h.2.1 rfl,by rw[<- h.1];unfold nU;lia⟩];rfl
def Su(h:ρ[5]?=aa (.ow (aG (0::r)))):qD 5 (bF (eC (.int 1))) (eC (.int 0)) ρ=.nx (ρ.set 5 (.ow (aG (1::r)))):=by
 have e:qD 5 (bF (eC (.int 1))) (eC (.int 0)) ρ=(match ((pU ρ[5]?).bind λds=>(M1 ds.length 0).map λj=>ρ.set 5 (.ow (.lst (ds.set j (.int 1))))) with
  |some ρ'=>.nx ρ'
  |none=>.no):=rfl
 rw[e,h]
 show(match ((M1 ((0::r).map D.int).length 0).map λj=>ρ.set 5 (.ow (.lst (((0::r).map D.int).set j (.int 1))))) with
  |some ρ'=>Out.nx ρ'
  |none=>.no)=_
 rw[yM (by decide) (by simp)];rfl
abbrev bS(n:Nat):SF:=(aM (bG 4 (iP (aA (aB 1) (aA (aB 2) aF))))
  (iO (tV (aE (PY af) (aB 4) (aB 3)))
   (aM (lQ 5 (aE repLM (iV (aA (eC (.int 0)) aF)) (cZ x8 (aA (cZ b9 (aA (aB 0) aF)) (aA (eC (.int 1)) aF)))))
   (aM (iO (tV (aE rG (cZ b9 (aA (aB 1) aF)) (cZ b9 (aA (aB 0) aF))))
    (qD 5 (bF (eC (.int 1))) (eC (.int 0)))
    d7)
   (aM (yb 5 (fQ (cB (aL LL.cK (aA (aB 0) (aA (aB 1) aF)))) (qE 6)
    (aM (tX 7 (bM n) (aA (aB 0) (aA (aL LL.gS (aA (aB 1) (aA (aB 6) aF))) (aA (aB 6) aF))) 3)
    (bG 5 (aL mU (aA (aB 5) (aA (TN (tV (aE pS (aB 2) (aB 6))) (aL b8 (aA (aB 7) aF)) (aB 7)) aF)))))))
   (BN 3 (bF (aB 5)) (aB 4)))))
   d7))
theorem xD(h:gU x kd)
  (there:∀d',bK kd.1 kd.2 (kS a l)=aa d'->d'=d/\tQ=kd)
  (new:bK kd.1 kd.2 (kS a l)=ae ->∀q,∃q2 kd2 v5 v6 v7,(∀b o,q2 b o ->∃o2,q b o2)/\bS n (startM 8 [aS x,τ a,.int l] q kd)=.nx (p7 x a l q2 kd2 v5 v6 v7)/\gU x kd2/\bK kd2.1 kd2.2 (kS a l)=aa d/\kd2=tQ):
  bM (n+1) [aS x,τ a,.int l] kd=.ok (d,tQ):=by
 unfold bM;show ZI λq=>?_
 have e1:yB 8 4 (bS n) (aB 4) q [aS x,τ a,.int l] kd=(match bS n (startM 8 [aS x,τ a,.int l] q kd) with
  |.nx ρ=>ZH 3 (aB 4) q ρ
  |_=>ae):=rfl
 show e1.trans ?_
 cases hl:bK kd.1 kd.2 (kS a l) with
 |some d' =>
  obtain⟨rfl,rfl⟩:=there d' hl;have e2:bS n (startM 8 [aS x,τ a,.int l] q tQ)=.nx (p7 x a l q tQ .no .no .no):=by show bT (p7 x a l q tQ .no .no .no) (dZ (.tup [τ a,.int l]) rfl rfl) ?_;show mL ?_ rfl;rw[xv h,hl];rfl
  rw[e2];show E_ h (λb o ho=>⟨o,ho⟩) hl
 |none =>
  obtain⟨q2,kd2,v5,v6,v7,hq,eb,hM,hl2,rfl⟩:=new hl q;rw[eb];show E_ hM hq hl2
def Ey(ha:a ρ=aa x)(hb:b ρ=aa y)(hc:c ρ=aa z):aA a (aA b (aA c aF)) ρ=aa [x,y,z]:=by have:=args2 hb hc;unfold aA at this ⊢;rw[ha,this];rfl
abbrev lS(n:Nat):SF:=aM (tX 7 (bM n) (aA (aB 0) (aA (aL LL.gS (aA (aB 1) (aA (aB 6) aF))) (aA (aB 6) aF))) 3)
    (bG 5 (aL mU (aA (aB 5) (aA (TN (tV (aE pS (aB 2) (aB 6))) (aL b8 (aA (aB 7) aF)) (aB 7)) aF))))
def p8(x:Q0a)(m:Nat)(a:Q0e)(l:Int)(ψ:Q0e)(t:Int):List Int:=sE ψ (if t<l then sF (Sh x m (bH a t) t) else Sh x m (bH a t) t)
theorem aDB(ha:a.length<=9)(hx:x.length<=9)(hacc:ψ.length=max x.length 1)
  (hR:bM n [aS x,τ (bH a t),.int t] kd=.ok (aG (Sh x m (bH a t) t),tQ)):
  lS n (p7 x a l q kd (.ro (aG ψ)) (.ro (.int t)) v7)=.nx (p7 x a l (adr q) tQ (.ro (aG (p8 x m a l ψ t))) (.ro (.int t)) (.ro (aG (Sh x m (bH a t) t)))):=by
 have hS:=lW x m (bH a t) t;show bT (p7 x a l (adr q) tQ (.ro (aG ψ)) (.ro (.int t)) (.ro (aG (Sh x m (bH a t) t)))) ?_ ?_
 .have e:stepM (bM n) (aA (aB 0) (aA (aL LL.gS (aA (aB 1) (aA (aB 6) aF))) (aA (aB 6) aF))) 3 (p7 x a l q kd (.ro (aG ψ)) (.ro (.int t)) v7)=aa (q,aG (Sh x m (bH a t) t),tQ):=by
   unfold stepM;have e1:aA (aB 0) (aA (aL LL.gS (aA (aB 1) (aA (aB 6) aF))) (aA (aB 6) aF)) (jL (p7 x a l q kd (.ro (aG ψ)) (.ro (.int t)) v7))=aa [aS x,τ (bH a t),.int t]:=by have e2:aL LL.gS (aA (aB 1) (aA (aB 6) aF)) (jL (p7 x a l q kd (.ro (aG ψ)) (.ro (.int t)) v7))=aa (τ (bH a t)):=cP rfl rfl (P0 ha);show Ey rfl e2 rfl
   rw[e1,c_]
   show(match bM n [aS x,τ (bH a t),.int t] kd with
    |.ok r=>aa (q,r)
    |_=>ae)=_
   rw[hR]
  unfold tX;rw[e];rfl
 .refine dZ (aG (p8 x m a l ψ t)) ?_ rfl;have e3:TN (tV (aE pS (aB 2) (aB 6))) (aL b8 (aA (aB 7) aF)) (aB 7) (jL (p7 x a l (adr q) tQ (.ro (aG ψ)) (.ro (.int t)) (.ro (aG (Sh x m (bH a t) t)))))=aa (aG (if t<l then sF (Sh x m (bH a t) t) else Sh x m (bH a t) t)):=by
   have et:tV (aE pS (aB 2) (aB 6)) (jL (p7 x a l (adr q) tQ (.ro (aG ψ)) (.ro (.int t)) (.ro (aG (Sh x m (bH a t) t)))))=aa (Zv (t<l)):=rfl;unfold TN;rw[et,c_];by_cases h:t<l
   .rw [Zx h,Z_ rfl,Z_ h];show e9 rfl (Z1 ∅ ∅)
   .rw [Zy h,Zz (by decide),Zz h];rfl
  show cP rfl e3 (UK ∅)
theorem UL(ha:a.length<=9)(hx:x.length<=9):∀(ts:Q0e) (ψ:Q0e) (kd:KD),ψ.length=max x.length 1->gU x kd ->
  (∀t∈ts,∀kd,gU x kd->kd.1.length+most m<=10000000 ->∃tQ,bM n [aS x,τ (bH a t),.int t] kd=.ok (aG (Sh x m (bH a t) t),tQ)/\gU x tQ/\tQ.1.length<=kd.1.length+most m/\Z2 kd tQ/\(bK tQ.1 tQ.2 (kS (bH a t) t)).isSome=af) ->
  kd.1.length+ts.length*most m<=10000000 ->
  ∃kd2,gU x kd2/\kd2.1.length<=kd.1.length+ts.length*most m/\Z2 kd kd2/\(∀t∈ts,(bK kd2.1 kd2.2 (kS (bH a t) t)).isSome=af) /\∀(q0 q:Nat->ax->Prop) (v6 v7:Sv),(∀b o,q b o ->∃o2,q0 b o2) ->∃(q2:Nat->ax->Prop) (w6 w7:Sv),(∀b o,q2 b o ->∃o2,q0 b o2) /\
   gA (qE 6) (lS n) (ts.map D.int) (p7 x a l q kd (.ro (aG ψ)) v6 v7)=.nx (p7 x a l q2 kd2 (.ro (aG (ts.foldl (p8 x m a l) ψ))) w6 w7)
 |[],ψ,kd,hacc,hM,_,_=>⟨kd,hM,by simp,λ_ e=>e,λt ht=>(nomatch ht),λq0 q v6 v7 hq=>⟨q,v6,v7,hq,rfl⟩⟩
 |t::ts,ψ,kd,hacc,hM,hR,hc=>by
  rw[cx,Ho] at hc;obtain⟨kd1,e1,tq,hc1,sb1,in1⟩:=hR t b_ kd hM ∅;have hS:=lW x m (bH a t) t;have Ze:(p8 x m a l ψ t).length=max x.length 1:=by
   unfold p8;rw[lA]
   .exact hacc
   .rw [hacc];split
    .rw [n9 ∅];show hS.symm
    .exact hS.symm
  obtain⟨kd2,Kl,hc2,sb2,in2,go⟩:=UL ha hx ts (p8 x m a l ψ t) kd1 Ze tq (λu hu=>hR u (fj _ hu)) ∅;show⟨kd2,Kl,by rw[cx,Ho];lia,λk e=>sb2 k (sb1 k e),λu hu=>?_,λq0 q v6 v7 hq=>?_⟩
  .rcases bh.1 hu with e|hu
   .rw [e];show sb2 _ in1
   .exact in2 u hu
  obtain⟨q2,w6,w7,hq2,e2⟩:=go q0 (adr q) (.ro (.int t)) (.ro (aG (Sh x m (bH a t) t))) λb o ⟨o1,h1⟩=>hq b o1 h1;show⟨q2,w6,w7,hq2,?_⟩;rw[bj,me]
  have e3:gA (qE 6) (lS n) (D.int t::ts.map D.int) (p7 x a l q kd (.ro (aG ψ)) v6 v7)=(match lS n (p7 x a l q kd (.ro (aG ψ)) (.ro (.int t)) v7) with
   |.nx ρ2=>gA (qE 6) (lS n) (ts.map D.int) ρ2
   |o=>o):=rfl
  rw[e3,aDB ha hx hacc e1];show e2
theorem Z3(hx:x.length<=9)(hr:∀r∈x,r.length<=9):∀(m e:Nat) (a:Q0e) (l:Int) (kd:KD),ZY x a->a.length+m=x.length->gU x kd->kd.1.length+most m<=10000000 ->
  ∃tQ,bM (m+1+e) [aS x,τ a,.int l] kd=.ok (aG (Sh x m a l),tQ)/\gU x tQ/\tQ.1.length<=kd.1.length+most m/\bK tQ.1 tQ.2 (kS a l)=aa (aG (Sh x m a l))/\Z2 kd tQ:=by
 intro m
 induction m with
 |zero =>
  intro e a l kd ok hl hM hc;have hl:a.length=x.length:=hl;have m0:most 0=1:=rfl;have e0:x.length-a.length=0:=by lia
  rw[show 0+1+e=e+1 by lia]
  cases hk:bK kd.1 kd.2 (kS a l) with
  |some d =>
   have ed:=hM.2.2.1 a l d hk;rw[e0] at ed;subst ed;show⟨kd,xD hM (λd' h'=>by rw[hk] at h';show⟨(cj h').symm,rfl⟩) (λh'=>by rw[hk] at h';cases h'),hM,by lia,hk,λ_ e=>e⟩
  |none =>
   obtain⟨p1,p2,p3,p4⟩:=NM (a:=a) (l:=l) hM (λz=>by lia);rw[e0] at p3;show⟨wD x kd a l,xD hM (λd' h'=>by rw[hk] at h';cases h') λ_ q=>⟨adr q,wD x kd a l,.ro (aG (Sh x 0 a l)),.no,.no,λb o h=>h,?_,p1,p3,rfl⟩,p1,by lia,p3,p4⟩
   .refine bT (p7 x a l q kd .no .no .no) (dZ (.tup [τ a,.int l]) rfl rfl) (wB ?_ ?_)
    .rw [xv hM,hk];rfl
    .have ez:J0 x.length=0::bu (max x.length 1-1) 0:=by unfold J0;rw[<- jh];congr 1;lia
     show bT (p7 x a l q kd (.ow (aG (J0 x.length))) .no .no) (by unfold lQ;rw[NL hx rfl];rfl) ?_;show bT (p7 x a l q kd (.ow (aG (EA x.length))) .no .no) (wB ((GV rfl rfl).trans (by rw[Zx hl])) ?_) ?_
     .rw [ez];show Su rfl
     show bT (p7 x a l q kd (.ro (aG (EA x.length))) .no .no) ?_ ?_
     .show fQ _ _ _ (p7 x a l q kd (.ro (aG (EA x.length))) .no .no)=_;show DS [] ?_ rfl;unfold cB;rw[cP (x:=aS x) (y:=τ a) rfl rfl (rZ hx hr),J1 ok hl];rfl
     .have:=Ez (x:=x) (a:=a) (l:=l) (q:=q) (kd:=kd) (v6:=.no) (v7:=.no) hM ∅;rw[e0] at this;show this
 |succ m ih =>
  intro e a l kd ok hl hM hc;have mm:most (m+1)=1+(m+1)*most m:=rfl;have e0:x.length-a.length=m+1:=by lia
  have hfew:=iY ok;have ha:=sA ok;rw[show m+1+1+e=(m+1+e)+1 by lia]
  cases hk:bK kd.1 kd.2 (kS a l) with
  |some d =>
   have ed:=hM.2.2.1 a l d hk;rw[e0] at ed;subst ed;show⟨kd,xD hM (λd' h'=>by rw[hk] at h';show⟨(cj h').symm,rfl⟩) (λh'=>by rw[hk] at h';cases h'),hM,by lia,hk,λ_ e=>e⟩
  |none =>
   have hlen:(aI x a).length*most m<=(m+1)*most m:=Nat.mul_le_mul_right _ ∅;obtain⟨kd1,tq,hc1,sb,inn,go⟩:=UL (n:=m+1+e) (m:=m) (l:=l) (by lia:a.length<=9) hx (aI x a) (J0 x.length) kd (qL _) hM (λt ht kd hM' hc'=>(ih e (bH a t) t kd ((Fb ok).1 _ (Hv ht)).1 (by have:=((Fb ok).1 _ (Hv ht)).2;lia) hM' hc').imp λ_ h=>⟨h.1,h.2.1,h.2.2.1,h.2.2.2.2,by rw[h.2.2.2.1];rfl⟩) ∅;obtain⟨p1,p2,p3,p4⟩:=NM (a:=a) (l:=l) tq (λ_=>inn);rw[e0] at p3;show⟨wD x kd1 a l,xD hM (λd' h'=>by rw[hk] at h';cases h') λ_ q=>?_,p1,by lia,p3,λk e=>p4 k (sb k e)⟩;obtain⟨q2,w6,w7,hq2,el⟩:=go q q .no .no λb o h=>⟨o,h⟩;show⟨adr q2,wD x kd1 a l,.ro (aG (Sh x (m+1) a l)),w6,w7,λb o ⟨o1,h1⟩=>hq2 b o1 h1,?_,p1,p3,rfl⟩;show bT (p7 x a l q kd .no .no .no) (dZ (.tup [τ a,.int l]) rfl rfl) (wB ?_ ?_)
   .rw [xv hM,hk];rfl
   .refine bT (p7 x a l q kd (.ow (aG (J0 x.length))) .no .no) (by unfold lQ;rw[NL hx rfl];rfl) ?_;show bT (p7 x a l q kd (.ow (aG (J0 x.length))) .no .no) (mL ((GV rfl rfl).trans (by rw[Zy ∅])) rfl) ?_;show bT (p7 x a l q2 kd1 (.ro (aG (Sh x (m+1) a l))) w6 w7) ?_ ?_
    .show fQ _ _ _ (p7 x a l q kd (.ro (aG (J0 x.length))) .no .no)=_;show DS ((aI x a).map D.int) ?_ el;unfold cB;rw[cP (x:=aS x) (y:=τ a) rfl rfl (rZ hx hr)];rfl
    .have:=Ez (x:=x) (a:=a) (l:=l) (q:=q2) (kd:=kd1) (v6:=w6) (v7:=w7) tq ∅;rw[e0] at this;show this
def aDC:∀{n:Nat},n<=9->most n<=1000000:=by
 intro n h;have:∀n,n<=9->most n<=1000000:=by decide
 show this n h
def shares(x:Q0a):List Int:=Sh x x.length [] 0
def yT{x:Q0a}(hx:x.length<=9)(hr:∀r∈x,r.length<=9):∃kd,gE [aS x]=.ok (.c8 (adr k6) kd.1 kd.2)/\gU x kd/\bK kd.1 kd.2 (kS [] 0)=aa (aG (shares x)):=by
 obtain⟨kd,e,hM,hc,hl,_⟩:=Z3 hx hr x.length (10-x.length) [] 0 ([],[]) ZZ (by simp) ⟨rfl,λq hq=>(by cases hq),λa l d h=>(by simp[bK] at h),λa l h=>(by simp[bK] at h)⟩ (by have:=aDC hx;simp;lia);rw[show x.length+1+(10-x.length)=11 by lia] at e;show⟨kd,?_,hM,hl⟩
 .unfold gE;show eT rfl (bT [.ro (aS x),.ow (.c8 k6 [] [])] rfl (bT [.ro (aS x),.ow (.c8 (adr k6) kd.1 kd.2)] ?_ (dY rfl)));have e2:stepM (bM 11) (aA (aB 0) (aA (iP aF) (aA (eC (.int 0)) aF))) 1 [.ro (aS x),.ow (.c8 k6 [] [])]=aa (k6,aG (Sh x x.length [] 0),kd):=by
   unfold stepM;rw[Ey (x:=aS x) (y:=τ []) (z:=.int 0) rfl rfl rfl,c_]
   show(match bM 11 [aS x,τ [],.int 0] ([],[]) with
    |.ok r=>aa (k6,r)
    |_=>ae)=_
   rw[e]
  unfold ZJ;rw[e2];rfl
open Z0
theorem UM(hx:Bg 210 x):∀m:Nat,m<=1000->Bg (211*m+1) (ff x m)
 |0,_=>by unfold Bg ff;decide
 |m+1,h=>by
  have h1:=UM hx m ∅;have h2:Bg 211 (x-m):=by
   have:Bg 210 (m:Int):=by
    unfold Bg;have:(m:Int).natAbs<2^10:=by lia
    show fz this (z_ (by decide) (by decide))
   show hx.sub this
  show(h1.mul h2).mono ∅
def Zd(hx:Bg 210 x)(hm:m<=1000):Bg (211*m+1) (C x m):=by
 have h:=UM hx m hm;have e:=BY x m;unfold Bg at h ⊢;rw[<- e,a2r] at h;have:1<=(fact m).natAbs:=by have:=sC m;lia
 show Nat.lt_of_le_of_lt (Nat.le_mul_of_pos_right _ this) h
def aDD(x:Int)(i:Nat):C x i*(x-i)/((i:Int)+1)=C x (i+1):=by
 have h1:=BY x i;have h2:=BY x (i+1);have e:C x i*(x-i)=C x (i+1)*((i:Int)+1):=by
  show a2t (a2q (sC i)) ?_;rw[show fact (i+1)=fact i*(i+1) from rfl,show ff x (i+1)=ff x i*(x-i) from rfl,<- h1] at h2
  calc C x i*(x - ↑i)*fact i=C x i*fact i*(x - ↑i):=by rw[Int.mul_right_comm]
   _=C x (i+1)*(fact i*(↑i+1)):=h2.symm
   _=C x (i+1)*(↑i+1)*fact i:=by rw[oi (fact i),Ao]
 rw[e,Int.mul_ediv_cancel _ ∅]
def kA{x:Int}{m:Nat}(hx:Bg 210 x)(hm:m<=12):eJ [.int x,.int m]=.ok (.int (C x m)):=by
 unfold eJ;have h:Rt (aM (bG 2 (eC (.int 1))) (aM (fQ (bX (aA (aB 1) aF)) (qE 3) (bG 2 (aE pR (aE mulM (aB 2) (aE gP (aB 0) (aB 3))) (aE cD (aB 3) (eC (.int 1)))))) (bL (aB 2))) (c9 4 [.int x,.int m])) λd=>d=.int (C x m):=by
  show aZ [.ro (.int x),.ro (.int m),.ro (.int 1),.no] rfl ?_;show kN (λρ=>∃v,ρ=[.ro (.int x),.ro (.int m),.ro (.int (C x m)),v]) ?_ λρ ⟨v,e⟩=>by subst e;show kO _ rfl rfl
  show nZ m (λi ρ=>∃v,ρ=[.ro (.int x),.ro (.int m),.ro (.int (C x i)),v]) rfl ∅ ⟨_,rfl⟩ (λi ρ hi ⟨v,e⟩=>?_) λρ h=>h;subst e;show⟨_,rfl,DW (.int (C x (i+1))) (aU (x:=.int (C x i*(x-i))) (y:=.int ((i:Int)+1)) (aU (x:=.int (C x i)) (y:=.int (x-i)) rfl rfl (ZX (p:=211*i+1) (q:=211) ∅ ∅ (Zd hx ∅) ?_)) rfl ?_) ⟨_,rfl⟩⟩
  .have:Bg 210 (i:Int):=by
    unfold Bg;have:(i:Int).natAbs<2^10:=by lia
    show fz this (z_ (by decide) (by decide))
   show hx.sub this
  .rw [kK ∅ ∅,aDD]
 obtain⟨d,e,rfl⟩:=mP rfl h;show e
theorem Dg(h1:f (jL ρ)=aa d)(h2:ρ[i]?=aa (.ow (.lst ds)))(hl:ds.length<16777216):sX (vZ i nX (bF f)) ρ=.nx (ρ.set i (.ow (.lst (ds++[d])))):=by
 have e:vZ i nX (bF f) ρ=aa (ρ.set i (.ow (.lst (ds++[d]))),.non):=by unfold vZ bF;rw[h2,h1];show((pU ρ[i]?).bind λds=>(nX ds d).map _)=_;rw[h2];show((nX ds d).map _)=_;rw[w9 hl];rfl
 unfold sX;rw[e]
noncomputable def ev(k:Int):List Int->Int
 |[]=>0
 |a::l=>a+k*ev k l
def aDE(s:Int)(l:Q0e):List Int:=((l++[0]).zip (0::l)).map λp:Int×Int=>s*p.1+p.2
noncomputable def Ex(s t:Int):Nat->List Int
 |0=>[s]
 |n+1=>aDE (t-n) (Ex s t n)
def Ew(n:Nat):List Int->Nat->List Int->List Int
 |[],_,ψ=>ψ
 |s::w,d,ψ=>Ew n w (d+1) (sE ψ (Ex s ((n:Int)-1-d) n))
def UN(x:Q0a)(a:Q0e):(aI x a).length<=x.length:=by unfold aI;have h1:=qb (λt=>(row x t).all λl=>a.contains l) ((bD 0 x.length).filter λt=>!a.contains t);have h2:=qb (λt=>!a.contains t) (bD 0 x.length);rw[aO] at h2;lia
theorem UO(hx:x.length<=9):∀(m:Nat) (a:Q0e) (l:Int),∀y∈Sh x m a l,0<=y/\y<=9^m
 |0,a,l,y,hy=>by
  unfold Sh EA at hy;rcases bh.1 hy with e|e
  .subst e;decide
  .rw [a2f e];decide
 |m+1,a,l,y,hy=>by
  have ih:=UO hx m;have go:∀(ts:Q0e) (ψ:Q0e) (c:Int),0<=c->(∀y∈ψ,0<=y/\y<=c*9^m) ->∀y∈ts.foldl (λψ t=>sE ψ (if t<l then sF (Sh x m (bH a t) t) else Sh x m (bH a t) t)) ψ,0<=y/\y<=(c+ts.length)*9^m:=by
   intro ts
   induction ts with
   |nil=>intro ψ c hc h;simpa using h
   |cons t ts iht =>
    intro ψ c hc h;rw[me];have:=iht (sE ψ (if t<l then sF (Sh x m (bH a t) t) else Sh x m (bH a t) t)) (c+1) ∅ ?_
    .rw [cx];rw[show c+((ts.length+1:Nat):Int)=c+1+ts.length by lia];show this
    .intro y hy;unfold sE at hy;obtain⟨p,hp,rfl⟩:=fw.1 hy;obtain⟨m1,m2⟩:=rh hp;have g1:=h _ m1;have g2:0<=p.2/\p.2<=9^m:=by
      split at m2
      .unfold sF at m2;rcases bh.1 m2 with e|e
       .rw [e];show⟨by decide,Ir (a2o (by decide))⟩
       .exact ih _ _ _ (List.dropLast_subset _ e)
      .exact ih _ _ _ m2
     rw[Ap,a2p];lia
  unfold Sh at hy;have:=go (aI x a) (J0 x.length) 0 (by decide) (λy hy=>by rw[a2f hy];simp) y hy
  show⟨this.1,Iq this.2 ?_⟩;rw[j_,a2n,oi];have h1:=UN x a;show Int.mul_le_mul_of_nonneg_left ∅ (Ir (a2o (by decide)))
def aDF(x:Q0a):List Int:=fd (vals (DV x.length 0 (shares x)) (x.length+1) 0)
def UP{a b:Q0e}{j:Nat}{y z:Int}(h1:a[j]?=aa y)(h2:b[j]?=aa z):(sE a b)[j]?=aa (y+z):=by unfold sE;rw[cf,Ah (z:=(y,z)) |>.2 ⟨h1,h2⟩];rfl
theorem NN:∀(m i:Nat),0<=C (m:Int) i
 |0,0=>by decide
 |0,i+1=>by rw[JZ ∅ ∅];decide
 |m+1,0=>by rw[qK];decide
 |m+1,i+1=>by rw[show((m+1:Nat):Int)=(m:Int)+1 from rfl,uG];have:=NN m i;have:=NN m (i+1);lia
def Z4(x:Q0a)(m:Nat)(a:Q0e)(l:Int):Sh x (m+1) a l=(aI x a).foldl (p8 x m a l) (J0 x.length):=rfl
def yU:u∈bH a t↔u∈a\/u=t:=by unfold bH;rw[(sortI_perm (a++[t])).mem_iff];simp
section
variable{x:Q0a}
def vL(h:∀t,t∈a↔t∈b):aI x a=aI x b:=by
 have hc:∀t,a.contains t=b.contains t:=λt=>by rw[mj];simp[h t]
 unfold aI;simp only[hc]
def pH:t∈aI x a↔(0<=t/\t<(x.length:Int))/\t∉a /\∀l∈row x t,l∈a:=by
 unfold aI;rw[ji,ji,aT,gp];simp only[Iz,List.contains_eq_mem,decide_eq_false_iff_not,decide_eq_true_eq]
 constructor
 .rintro ⟨⟨h1,h2⟩,h3⟩;show⟨by lia,h2,h3⟩
 .rintro ⟨h1,h2,h3⟩;show⟨⟨by lia,h2⟩,h3⟩
end
end LL
namespace K25
open L3 L4 Z0 LL
section
variable{x:Q0a}
def Yu(x:Q0a):List Int:=Ew x.length (shares x) 0 (bu (x.length+1) 0)
end
abbrev st(ns:Q0e)(x:Q0a)(nr:Int)(v7 v8 v9:Sv):bU:=[.ro (.j6 ns),.ro (aS x),.ro (.int x.length),.ro (τ (shares x)),.ro (τ (aDF x)),.ro (τ (Yu x)),.ro (.int nr),v7,v8,v9]
end K25
namespace LL
open L3 L4 Z0
theorem sum_map_add{α:Type}(f g:α->Int):∀L:List α,(L.map λa=>f a+g a).sum=(L.map f).sum+(L.map g).sum
 |[]=>rfl
 |a::L=>by have ih:=sum_map_add f g L;simp only[bj,ia,ih];lia
theorem iF{α:Type}:∀L:List α,(L.map λ_=>(0:Int)).sum=0
 |[]=>rfl
 |a::L=>by rw[bj,ia,iF L];rfl
theorem B0{α β:Type}(f:α->β->Int)(M:List β):∀L:List α,(L.map λa=>(M.map λb=>f a b).sum).sum=(M.map λb=>(L.map λa=>f a b).sum).sum
 |[]=>by simp only[ma,List.sum_nil];rw[iF]
 |a::L=>by have ih:=B0 f M L;simp only[bj,ia,ih];rw[<- sum_map_add]
theorem B1{α:Type}(c:Int)(f:α->Int):∀L:List α,(L.map λa=>c*f a).sum=c*(L.map f).sum
 |[]=>by simp
 |a::L=>by have ih:=B1 c f L;simp only[bj,ia,ih,Int.mul_add]
section
variable(x:Q0a)
def SF:Nat->List Int->Int->Int->Int
 |0,_,_,j=>if j=0 then 1 else 0
 |m+1,a,l,j=>((aI x a).map λt=>SF m (bH a t) t (j-if t<l then 1 else 0)).sum
end
section
variable{x:Q0a}
theorem J3:∀(m:Nat) (a:Q0e) (l j:Int),j<0->SF x m a l j=0
 |0,a,l,j,h=>Zz ∅
 |m+1,a,l,j,h=>by have e:(λt=>SF x m (bH a t) t (j-if t<l then 1 else 0))=λ_=>0:=funext λt=>J3 m _ _ _ (by split<;>lia);show((aI x a).map _).sum=0;rw[e,iF]
theorem yV:∀(m:Nat) {a b:Q0e} (l j:Int),(∀t,t∈a↔t∈b)->SF x m a l j=SF x m b l j
 |0,a,b,l,j,_=>rfl
 |m+1,a,b,l,j,h=>by show((aI x a).map λt=>SF x m (bH a t) t (j-if t<l then 1 else 0)).sum=((aI x b).map λt=>SF x m (bH b t) t (j-if t<l then 1 else 0)).sum;rw[vL h];congr 1;show f_ λt _=>yV m _ _ λu=>?_;rw[yU,yU,h u]
def mW(l:Q0e)(j:Nat):η l (j:Int)=l[j]?.getD 0:=by unfold η;rw[jr]
def UQ(h:a.length=b.length):η (sE a b) j=η a j+η b j:=by
 unfold η;by_cases hj:j.toNat<a.length
 .rw [UP (bw hj) (bw ∅),bw hj,bw ∅];rfl
 .rw [jq (by rw[lA h];lia),jq ∅,jq ∅];rfl
def Z6(h0:0<=j)(hj:j<w.length):η (sF w) j=if j=0 then 0 else η w (j-1):=by
 unfold η sF;split
 .rename_i z;subst z;rfl
 .obtain ⟨k,hk⟩:∃k:Nat,j.toNat=k+1:=⟨j.toNat-1,by lia⟩;rw[hk,la,List.getElem?_dropLast,Z_ ∅,show(j-1).toNat=k by lia]
def Z7(n:Nat)(j:Int):η (J0 n) j=0:=by unfold η J0;rw[jj];split<;>rfl
theorem NO:∀(m:Nat) (a:Q0e) (l j:Int),0<=j->j<(max x.length 1:Nat)->η (Sh x m a l) j=SF x m a l j
 |0,a,l,j,h0,h1=>by
  show η (EA x.length) j=if j=0 then 1 else 0
  unfold η EA;split
  .rename_i z;subst z;rfl
  .obtain ⟨k,hk⟩:∃k:Nat,j.toNat=k+1:=⟨j.toNat-1,by lia⟩;rw[hk,la,jj];split<;>rfl
 |m+1,a,l,j,h0,h1=>by
  rw[Z4];have go:∀(ts ψ:Q0e),ψ.length=max x.length 1->η (ts.foldl (p8 x m a l) ψ) j=η ψ j+(ts.map λt=>SF x m (bH a t) t (j-if t<l then 1 else 0)).sum:=by
   intro ts
   induction ts with
   |nil=>intro ψ _;simp
   |cons t ts ih =>
    intro ψ h;have hS:=lW x m (bH a t) t;have hlen:ψ.length=(if t<l then sF (Sh x m (bH a t) t) else Sh x m (bH a t) t).length:=by
     rw[h];split
     .rw [n9 ∅];show hS.symm
     .exact hS.symm
    have ev:η (if t<l then sF (Sh x m (bH a t) t) else Sh x m (bH a t) t) j=SF x m (bH a t) t (j-if t<l then 1 else 0):=by
     split
     .rw [Z6 h0 (by rw[hS];show h1)];split
      .rename_i z;subst z;rw[J3 _ _ _ _ ∅]
      .exact NO m _ _ _ ∅ ∅
     .rw [a2m];show NO m _ _ _ h0 h1
    rw[me,ih _ (by unfold p8;rw[lA hlen,h]),bj,ia];unfold p8;rw[UQ hlen,ev];lia
  rw[go _ _ (qL _),Z7,j_];rfl
def JW(k:Nat):bD 0 (k+1)=0::(bD 0 k).map λd=>d+1:=by unfold bD;rw[show k+1=1+k by lia,List.range_add,g_,de,de];have e:a15 (λk:Nat=>(0:Int)+(k:Int)) (bz 1)=[0]:=rfl;rw[e,List.singleton_append];congr 1;show f_ λj7 _=>?_;simp only[a3H];lia
end
noncomputable def dl:Int->List Int->Int
 |_,[]=>0
 |l,t::w=>(if t<l then 1 else 0)+dl t w
def lB(w:Q0e):Int:=w.getLast?.getD (-1)
theorem NP:∀(l:Int) (w:Q0e) (t:Int),dl l (w++[t])=dl l w+if t<(w.getLast?.getD l) then 1 else 0
 |l,[],t=>by
  show(if t<l then 1 else 0)+0=0+if t<l then 1 else 0
  rw[vx,j_]
 |l,a::w,t=>by
  show(if a<l then 1 else 0)+dl a (w++[t])=(if a<l then 1 else 0)+dl a w+_;rw[NP a w t];have e:(a::w).getLast?.getD l=w.getLast?.getD a:=by
   cases w with
   |nil=>rfl
   |cons b w=>rw[List.getLast?_cons_cons];rw[List.getLast?_eq_getLast (List.cons_ne_nil b w)];rfl
  rw[e];lia
section
variable{x:Q0a}
theorem UR:∀(l:Int) (w:Q0e),0<=dl l w/\dl l w<=w.length
 |_,[]=>⟨oj 0,by simp[dl]⟩
 |l,t::w=>by have ih:=UR t w;show 0<=(if t<l then 1 else 0)+dl t w/\(if t<l then 1 else 0)+dl t w<=((t::w).length:Int);rw[cx];split<;>lia
end
section
variable{x y:Q0a}
def jE{w:Q0e}(h:∀u t v,w=u++t::v->t∈aI x u):w.Nodup /\∀t∈w,0<=t/\t<(x.length:Int):=by
 have key:∀(r u:Q0e),(∀p t v,u++r=p++t::v->t∈aI x p)->u.Nodup->(u++r).Nodup:=by
  intro r
  induction r with
  |nil=>intro u _ hu;rw[ij];show hu
  |cons t r ih =>
   intro u hp hu;have ht:=(iX (hp u t r rfl)).2;have e:u++t::r=(u++[t])++r:=by simp
   rw[e];show ih (u++[t]) (λp s v e2=>hp p s v (by rw[e,e2])) ?_;rw[rm];show⟨hu,by simp,λa ha b hb e=>ht (by rw[cc] at hb;rw[<- hb,<- e];show ha)⟩
 show⟨key w [] h rj,λt ht=>?_⟩;obtain⟨u,v,rfl⟩:=n_ ht;show(iX (h u t v rfl)).1
def iZ(hl:w.length=x.length)(h:∀u t v,w=u++t::v->t∈aI x u)(h0:0<=b)(h1:b<(x.length:Int)):b∈w:=by
 obtain⟨nd,hr⟩:=jE h;show mi λhb=>?_;have:=Ord.eR (b::w) (bD 0 x.length) (kr.2 ⟨hb,nd⟩) λt ht=>by
  rcases bh.1 ht with z|z
  .rw [z];show aT.2 ⟨h0,by lia⟩
  .have:=hr t z;show aT.2 ⟨this.1,by lia⟩
 rw[cx,aO] at this;lia
def US(ht:0<=t):dl (-1) (t::w)=dl t w:=by show(if t < -1 then 1 else 0)+dl t w=_;rw[Zz ∅,j_]
def Turned(x y:Q0a):Prop:=y.length=x.length /\∀a b:Int,0<=b->b<(x.length:Int)->(a∈row y ((x.length:Int)-1-b)↔(x.length:Int)-1-a∈row x b)
def Turned.symm(h:Turned x y):Turned y x:=by show⟨h.1.symm,λa b h0 h1=>?_⟩;rw[h.1] at h1 ⊢;have e:=h.2 ((x.length:Int)-1-a) ((x.length:Int)-1-b) ∅ ∅;rw[show(x.length:Int)-1-((x.length:Int)-1-b)=b by lia,show(x.length:Int)-1-((x.length:Int)-1-a)=a by lia] at e;show e.symm
def J4(x z:Q0a):Prop:=z.length=x.length /\∀a b:Int,0<=a->a<(x.length:Int)->0<=b->b<(x.length:Int)->(a∈row x b↔b∈row z a)
def J4.symm(h:J4 x y):J4 y x:=⟨h.1.symm,λa b h0 h1 h2 h3=>by rw[h.1] at h1 h3;show(h.2 b a h2 h3 h0 h1).symm⟩
end
section
variable{x:Q0a}
def Lx(fl:Q0e)(a b:Int):Prop:=η fl a<η fl b\/(η fl a=η fl b/\a<b)
def NQ(h:a≠b):n6 fl (a,b)=af↔Lx fl a b:=by
 unfold n6 Lx;dsimp only;split
 .rw [decide_eq_true_eq];lia
 .rw [decide_eq_true_eq];lia
def J6(hx:Ord.Rows x):rs x fl=af ↔ ∀b:Int,0<=b->b<(x.length:Int) ->∀a∈row x b,Lx fl a b:=by
 have ir:∀b:Int,0<=b->b<(x.length:Int)->b∉row x b:=λb h0 h1=>by have:=hx.ZK b.toNat (row x b) (K45.mR h0 h1);rw[show((b.toNat:Nat):Int)=b by lia] at this;show this
 unfold rs;rw[gp];show⟨λh b h0 h1 a ha=>(NQ (a:=a) (b:=b) λe=>ir b h0 h1 (by rw[e] at ha;show ha)).1 (h (a,b) (yQ.ND.2 ⟨h0,h1,ha⟩)),λh p hp=>?_⟩;obtain⟨h0,h1,h2⟩:=yQ.ND.1 hp;show(NQ (a:=p.1) (b:=p.2) λe=>ir p.2 h0 h1 (by rw[e] at h2;show h2)).2 (h p.2 h0 h1 p.1 h2)
end
section
variable{x y z:Q0a}
structure Sd (x y z:Q0a):Prop where
 len:z.length=x.length+y.length
 lo:∀t:Int,0<=t->t<(x.length:Int) ->∀a,a∈row z t↔a∈row x t
 hi:∀t:Int,0<=t->t<(y.length:Int) ->∀a,a∈row z (t+x.length)↔a-x.length∈row y t
 rx:∀t:Int,0<=t->t<(x.length:Int) ->∀a∈row x t,0<=a/\a<(x.length:Int)
 ry:∀t:Int,0<=t->t<(y.length:Int) ->∀a∈row y t,0<=a/\a<(y.length:Int)
structure Cb (x y:Q0a) (a b c:Q0e):Prop where
 lo:∀t:Int,0<=t->t<(x.length:Int)->(t∈c↔t∈a)
 hi:∀t:Int,0<=t->t<(y.length:Int)->(t+x.length∈c↔t∈b)
structure Av (x y z:Q0a) (s t:Int):Prop where
 len:z.length=x.length+y.length
 lo:∀a:Int,0<=a->a<(x.length:Int) ->∀b,b∈row z (a+s)↔b-s∈row x a
 hi:∀a:Int,0<=a->a<(y.length:Int) ->∀b,b∈row z (a+t)↔(s<=b/\b<s+x.length)\/b-t∈row y a
 rx:∀a:Int,0<=a->a<(x.length:Int) ->∀b∈row x a,0<=b/\b<(x.length:Int)
 ry:∀a:Int,0<=a->a<(y.length:Int) ->∀b∈row y a,0<=b/\b<(y.length:Int)
 st:(s=0/\t=x.length)\/(s=y.length/\t=0)
def B3:t∈aI x a↔0<=t/\t<(x.length:Int)/\t∉a /\∀l∈row x t,l∈a:=by
 unfold aI;rw[ji,ji,aT,gp]
 constructor
 .intro ⟨⟨⟨h0,h1⟩,h2⟩,h3⟩;show⟨h0,by lia,by simpa using h2,λl hl=>by simpa using h3 l hl⟩
 .intro ⟨h0,h1,h2,h3⟩;show⟨⟨⟨h0,by lia⟩,by simpa using h2⟩,λl hl=>by simpa using h3 l hl⟩
end
def C_(h:f (jL ρ)=aa d):lQ i f ρ=.nx (ρ.set i (.ow d)):=by unfold lQ;rw[h]
def NR(hj:j<l.length)(i:Nat):η (l.set j v) i=if i=j then v else η l i:=by
 unfold η;rw[jr,List.getElem?_set];by_cases h:j=i
 .rw [Z_ h,Z_ hj,Z_ h.symm];rfl
 .rw [Zz h,Zz (d_ h)]
def Z8(hl:a.length=b.length)(h:∀i:Nat,i<a.length->η a i=η b i):a=b:=by apply Ii hl;intro i h1 h2;have:=h i h1;unfold η at this;rw[jr,bw h1,bw h2] at this;show this
def Z9(h:i<n):η ((bD 0 n).map f) i=f i:=by unfold η;rw[jr,cf,kM h];show f (0+(i:Int))=f i;rw[j_]
def yW(h:x.length+y.length<=1000):cD (τ x) (τ y)=aa (τ (x++y)):=by unfold τ;rw[GI (by simp;lia),g_]
def uH(w:Q0e):List Int:=(bD 0 ((w.length:Int)-1).toNat).filter λk=>Zv (η w k>η w (k+1))
def aAA(w:Q0e):(uH w).length<=w.length:=by unfold uH;show gx (qb _ _) ?_;rw[aO];lia
def Ss(hd:d=τ w\/d=aG w)(hw:w.length<=1000)(h:aB i ρ=aa d)(hb:benv 1 [i] ρ=[ae,aa d]):cJ 1 [i] (bX (aA (aE gP (cZ b9 (aA (aB i) aF)) (eC (.int 1))) aF)) (g1 0) (tV (aE pS (aE dQ (aB 1) (aB 0)) (aE dQ (aB 1) (aE cD (aB 0) (eC (.int 1)))))) (aB 0) ρ=aa (aG (uH w)):=by
 have hat:∀{a:Int},0<=a->a<(w.length:Int)->dQ d (.int a)=aa (.int (η w a)):=λ{a} h0 h1=>by
  rcases hd with z|z
  .rw [z];show mS h0 h1
  .rw [z];show yS h0 h1
 have hlen:b9 [d]=aa (.int (w.length:Int)):=by
  rcases hd with z|z
  .rw [z];show dR
  .rw [z];show aa (D.int ((w.map D.int).length:Nat))=_;rw[a_]
 show fY ((bD 0 ((w.length:Int)-1).toNat).map D.int) ?_ (by rw[a_,aO];lia) ?_
 .unfold bX;rw[args1 (aU (g:=gP) (a:=cZ b9 (aA (aB i) aF)) (b:=eC (.int 1)) (x:=.int (w.length:Int)) (y:=.int 1) (cN h hlen) rfl rfl),c_,yL ∅]
 .rw [hb];show fI D.int (λk=>Zv (η w k>η w (k+1))) D.int _ λk hk=>?_;have hr:=aT.1 hk;show⟨[aa (.int k),aa d],rfl,iQ (aU (x:=.int (η w k)) (y:=.int (η w (k+1))) (aU (x:=d) (y:=.int k) rfl rfl (hat ∅ ∅)) (aU (x:=d) (y:=.int (k+1)) rfl rfl (hat ∅ ∅)) jX) rfl,λ_=>rfl⟩
def GW(a:Int)(w:Q0e)(h:0<=k):η (a::w) (k+1)=η w k:=by unfold η;rw[show(k+1).toNat=k.toNat+1 by lia,la]
theorem UT:∀(a:Int) (w:Q0e),((uH (a::w)).length:Int)=dl a w
 |a,[]=>rfl
 |a,b::w=>by
  have ih:=UT b w;have e:(uH (a::b::w)).length=(if b<a then 1 else 0)+(uH (b::w)).length:=by
   unfold uH;rw[show(((a::b::w).length:Int)-1).toNat=((((b::w).length:Int)-1).toNat)+1 by simp only[cx];lia,JW,vp,List.filter_map];have ef:(bD 0 ((((b::w).length:Int)-1).toNat)).filter ((λk=>Zv (η (a::b::w) k>η (a::b::w) (k+1)))∘λd=>d+1)=(bD 0 ((((b::w).length:Int)-1).toNat)).filter λk=>Zv (η (b::w) k>η (b::w) (k+1)):=Ie λk hk=>by have hr:=aT.1 hk;show Zv (η (a::b::w) (k+1)>η (a::b::w) (k+1+1))=_;rw[GW _ _ ∅,GW _ _ ∅]
   rw[ef];have h0:η (a::b::w) 0=a:=rfl;have h1:η (a::b::w) (0+1)=b:=rfl;rw[h0,h1];by_cases h:b<a
   .rw [Z_ (by simpa using h),Z_ h,cx,a_];lia
   .rw [Zz (by simpa using h),Zz h,a_];lia
  show _=(if b<a then 1 else 0)+dl b w;rw[e,<- ih];split<;>simp
theorem NS(h:∀a∈w,0<=a):((uH w).length:Int)=dl (-1) w:=by
 cases w with
 |nil=>rfl
 |cons a w=>rw[US (h a b_),UT]
section
variable{x:Q0a}
def oA(h0:0<=t)(h1:t<(x.length:Int)):x[t.toNat]?=aa (row x t):=by unfold row;rw[bw ∅];rfl
def GX(hx:Ord.Rows x)(h0:0<=t)(h1:t<(x.length:Int))(hl:l∈row x t):(0<=l/\l<(x.length:Int))/\(row x l).length<(row x t).length:=by
 have hr:=hx.rng _ _ (oA h0 h1) l hl;show⟨hr,?_⟩;have e:((l.toNat:Nat):Int)=l:=by lia
 have sub:∀c∈l::row x l,c∈row x t:=λc hc=>by
  rcases bh.1 hc with q|q
  .rw [q];show hl
  .exact hx.tr t.toNat l.toNat _ _ (oA h0 h1) (by rw[e];show hl) (oA hr.1 hr.2) c q
 have nd:(l::row x l).Nodup:=kr.2 ⟨by have:=hx.ZK l.toNat _ (oA hr.1 hr.2);rwa [e] at this,(hx.up _ _ (oA hr.1 hr.2)).imp λ{a b} (q:a<b)=>by lia⟩;have:=Ord.eR _ _ nd sub;rw[cx] at this;lia
def UU(hx:Ord.Rows x){a:Q0e}(ha:ZY x a)(hl:a.length<x.length):∃t,t∈aI x a:=by
 have go:∀(n:Nat) (t:Int),(row x t).length<=n->0<=t->t<(x.length:Int)->t∉a ->∃t,t∈aI x a:=by
  intro n
  induction n with
  |zero =>
   intro t hn h0 h1 ht;show⟨t,B3.2 ⟨h0,h1,ht,λl hm=>?_⟩⟩;have:=(GX hx h0 h1 hm).2;lia
  |succ n ih =>
   intro t hn h0 h1 ht;by_cases c:∃l∈row x t,l∉a
   .obtain ⟨l,hm,hla⟩:=c;have:=GX hx h0 h1 hm;show ih l ∅ this.1.1 this.1.2 hla
   .exact ⟨t,B3.2 ⟨h0,h1,ht,λl hm=>mi λq=>c ⟨l,hm,q⟩⟩⟩
 have:∃t∈bD 0 x.length,t∉a:=by show mi λq=>?_;have:=Ord.eR (bD 0 x.length) a (DZ _) λt ht=>mi λc=>q ⟨t,ht,c⟩;rw[aO] at this;lia
 obtain⟨t,ht,hta⟩:=this;have hr:=aT.1 ht;show go _ t (bg _) hr.1 ∅ hta
end
def J8(hx:Ord.Rows x)(hn:x.length<=9):∀r∈x,r.length<=9:=λr hr=>gx (Ord.Rows.short hx hr) hn
def Yt(d:D)(h:f (bR ρ)=aa d)(hi:d.A2=af)(hr:ρ.set i (.ro d)=ρ'):vH i (BK f) ρ=.nx ρ':=by unfold vH BK;rw[h,c_,Z_ hi];show Out.nx (ρ.set i (.ro d))=_;rw[hr]
def Ys(ds:List D)(h:f (bR ρ)=aa (.lst ds))(hi:rH ds=af)(hr:ρ.set i (.ro (.lst ds))=ρ'):nK i f ρ=.nx ρ':=by unfold nK;rw[h];show(if rH ds=af then _ else _)=_;rw[Z_ hi,hr]
theorem UW(h:ns≠[]):jW ns∈ns:=by
 cases ns with
 |nil=>show Zw rfl h
 |cons a l =>
  have go:∀(l:Q0e) (a:Int),l.foldl (λm b=>if m<b then b else m) a=a\/l.foldl (λm b=>if m<b then b else m) a∈l:=by
   intro l
   induction l with
   |nil=>intro a;show .inl rfl
   |cons b l ih =>
    intro a;rw[me];rcases ih (if a<b then b else a) with z|z
    .rw [z];split
     .exact .inr b_
     .exact .inl rfl
    .exact .inr (fj _ z)
  show l.foldl (λm b=>if m<b then b else m) a∈a::l;rcases go l a with z|z
  .rw [z];show b_
  .exact fj _ z
def Cz(h:0<=x)(i:Nat):0<=C x i:=by obtain⟨m,rfl⟩:∃m:Nat,x=(m:Int):=⟨x.toNat,by lia⟩;show NN m i
theorem Yr(h:0<=x)(i:Nat):C x i<=C (x+1) i:=by
 cases i with
 |zero=>rw[qK,qK];show oj _
 |succ i =>
  rw[uG];have:=Cz h i;lia
theorem UX(h:0<=x)(i:Nat):∀d:Nat,C x i<=C (x+d) i
 |0=>by rw[show x+((0:Nat):Int)=x by lia];show oj _
 |d+1=>by have h1:=UX h i d;have h2:=Yr (x:=x+d) ∅ i;rw[show x+((d+1:Nat):Int)=x+d+1 by lia];lia
theorem ug(h:0<=x)(hxy:x<=y)(i:Nat):C x i<=C y i:=by
 have:=UX h i (y-x).toNat
 rwa [show x+((y-x).toNat:Int)=y by lia] at this
def rk:List Int->Int
 |[]=>0
 |a::c=>C a (c.length+1)+rk c
noncomputable def Dec:Int->List Int->Prop
 |_,[]=>True
 |t,a::c=>a<t/\(c.length:Int)<=a/\Dec a c
theorem NT:∀{c:Q0e} {t:Int},Dec t c->0<=rk c
 |[],_,_=>oj _
 |a::c,t,⟨_,h1,h2⟩=>by have:=NT h2;have:=Cz (x:=a) ∅ (c.length+1);show 0<=C a (c.length+1)+rk c;lia
theorem NU:∀{c:Q0e} {t:Int},Dec t c->rk c<C t c.length
 |[],t,_=>by show(0:Int)<C t 0;rw[qK];decide
 |a::c,t,⟨h0,h1,h2⟩=>by
  have ih:=NU h2;have hs:C (a+1) (c.length+1)=C a (c.length+1)+C a c.length:=by have:=uG a c.length;lia
  have:=ug (x:=a+1) (y:=t) ∅ ∅ (c.length+1);show C a (c.length+1)+rk c<C t (c.length+1);lia
def Pick(m:Nat)(N x:Int):Prop:=(m:Int)<=x+1/\C x m<=N/\N<C (x+1) m
theorem UY(hm:1<=m)(h:Pick m N x)(g:Pick m N y):x=y:=by
 obtain⟨h1,h2,h3⟩:=h;obtain⟨g1,g2,g3⟩:=g;show mi λne=>?_;rcases(by lia:x<y\/y<x) with z|z
 .have:=ug (x:=x+1) (y:=y) ∅ ∅ m;lia
 .have:=ug (x:=y+1) (y:=x) ∅ ∅ m;lia
def Gd:List Int->Int->Prop
 |[],_=>True
 |a::c,N=>Pick (c.length+1) N a/\Gd c (N-C a (c.length+1))
theorem UZ:∀{c:Q0e} {t:Int},Dec t c->Gd c (rk c)
 |[],_,_=>trivial
 |a::c,t,⟨h0,h1,h2⟩=>by
  have hn:=NT h2;have hl:=NU h2;have hs:C (a+1) (c.length+1)=C a (c.length+1)+C a c.length:=by have:=uG a c.length;lia
  show⟨⟨by lia,?_,?_⟩,?_⟩
  .show C a (c.length+1)<=C a (c.length+1)+rk c;lia
  .show C a (c.length+1)+rk c<_;lia
  .rw [show rk (a::c)-C a (c.length+1)=rk c by show C a (c.length+1)+rk c-_=_;lia];show UZ h2
theorem Ej:∀{c:Q0e} {t N:Int},Gd c N->0<=t->0<=N->N<C t c.length->rk c=N/\Dec t c
 |[],t,N,_,_,h0,h1=>by rw[show([]:Q0e).length=0 from rfl,qK] at h1;show⟨by show(0:Int)=N;lia,trivial⟩
 |a::c,t,N,⟨⟨p1,p2,p3⟩,g⟩,ht,h0,h1=>by
  have hs:C (a+1) (c.length+1)=C a (c.length+1)+C a c.length:=by have:=uG a c.length;lia
  have ha:0<=a:=by lia
  have hat:a<t:=by show mi λq=>?_;have:=ug (x:=t) (y:=a) ht ∅ (c.length+1);have h1:N<C t (c.length+1):=h1;lia
  obtain⟨e,d⟩:=Ej (t:=a) g ha ∅ ∅;show⟨by show C a (c.length+1)+rk c=N;lia,hat,by lia,d⟩
theorem U0:∀{c d:Q0e} {N:Int},c.length=d.length->Gd c N->Gd d N->c=d
 |[],[],_,_,_,_=>rfl
 |a::c,b::d,N,hl,⟨p,g⟩,⟨q,h⟩=>by
  have hm:c.length=d.length:=by simpa using hl
  clear hl
  rw[<- hm] at q h;have e:=UY ∅ p q;subst e;rw[U0 hm g h]
noncomputable def Lw:List Int->List Int->Prop
 |a::c,b::d=>a<b\/a=b/\Lw c d
 |_,_=>False
theorem Ei:∀{c d:Q0e} {t u:Int},c.length=d.length->Dec t c->Dec u d->rk c<rk d->Lw c d
 |[],[],_,_,_,_,_,h=>Zw h (by show ¬ (0:Int)<0;decide)
 |a::c,b::d,t,u,hl,hc,hd,h=>by
  have hm:c.length=d.length:=by simpa using hl
  clear hl
  rcases(by lia:a<b\/a=b\/b<a) with z|z|z
  .exact .inl z
  .subst z;show .inr ⟨rfl,Ei hm hc.2.2 hd.2.2 ?_⟩;have h:C a (c.length+1)+rk c<C a (d.length+1)+rk d:=h;rw[hm] at h;lia
  .have h1:=NU (t:=a) (c:=b::d) ⟨z,hd.2.1,hd.2.2⟩;have h2:C a (c.length+1)<=rk (a::c):=by have:=NT hc.2.2;show _<=C a (c.length+1)+rk c;lia
   have h3:(b::d).length=c.length+1:=by simp[hm]
   rw[h3] at h1;lia
def kP:jM:=bZ 1 1
  (bL (cZ eX (aA (DO [0] (cZ b9 (aA (aB 0) aF)) (iP (aA (aE dQ (aB 1) (aB 0)) (aA (aB 0) aF)))) aF)))
def oB:jM:=bZ 1 1
  (bL (cZ eX (aA (cZ kJ (aA (aB 0) aF)) aF)))
def gJ:jM:=bZ 5 2
  (aM (lQ 2 (aE repLM (iV (aA (eC (.int 0)) aF)) (cZ b9 (aA (aB 0) aF))))
  (aM (fQ (NB (aA (aB 0) (aA (aB 1) aF))) (JQ 3 4)
   (qD 2 (bF (aB 4)) (aB 3)))
  (bL (cZ eX (aA (aB 2) aF)))))
def NV(hl:ds.length=np)(h:Rt (b (c9 n ds)) λe=>e=d):bZ n np b ds=.ok d:=by obtain⟨d',e,rfl⟩:=mP hl h;show e
def kts(fl:Q0e):List (List Int):=(bD 0 fl.length).map λi=>[η fl i,i]
def mX(fl:Q0e):List Int:=mI (kts fl)
def Lk(fl:Q0e)(a b:Int):Prop:=η fl a<η fl b\/(η fl a=η fl b/\a<b)
def xu:dC [p,a] [q,b]=(Zv (p<q)||(Zv (p=q)&&Zv (a<b))):=by
 unfold dC;by_cases h:p=q
 .subst h;rw[Z_ rfl];unfold dC;by_cases h2:a=b
  .subst h2;rw[Z_ rfl];simp[dC]
  .rw [Zz h2];simp
 .rw [Zz h];simp[h]
def aAC{fl:Q0e}{i:Nat}(h:i<fl.length):(kts fl)[i]?=aa [η fl i,(i:Int)]:=by unfold kts;rw[cf,kM h];simp
def EB(fl:Q0e):(kts fl).length=fl.length:=by unfold kts;rw[a_,aO]
def Yq(lo:Int)(n:Nat):(L4.bD lo n).Pairwise (·<·):=si _ (λa b (h:a<b)=>by lia) Hu
def J9(fl:Q0e):(kts fl).Nodup:=by
 unfold kts;rw[Io,nq];show An ?_ (Yq 0 fl.length);intro a b h e;have:a=b:=by have:=(Al (Al e).2).1;show this
 lia
def Eh{fl:Q0e}{a:Int}(h0:0<=a)(h1:a<fl.length):(((kts fl).idxOf [η fl a,a]:Nat):Int)=a:=by
 obtain⟨i,rfl⟩:∃i:Nat,a=i:=⟨a.toNat,by lia⟩;have hi:i<fl.length:=by lia
 have e:=aAC hi;have hl:i<(kts fl).length:=by rw[EB];show hi
 have e2:(kts fl)[i]=[η fl i,(i:Int)]:=by rw[bw hl] at e;show cj e
 rw[<- e2,vw (J9 fl) i hl]
def U1(hp:w.Perm (bD 0 fl.length))(hs:w.Pairwise (Lk fl)):mX fl=w:=by
 have hm:∀a∈w,0<=a/\a<fl.length:=λa ha=>by have:=aT.1 (hp.mem_iff.1 ha);lia
 have es:kG (kts fl)=w.map λi=>[η fl i,i]:=by
  show rL ((eQ _).trans ?_) (lR _) ?_
  .exact ((hp.map λi=>[η fl i,i]).symm)
  .rw [ZG,nq];show An ?_ hs;intro a b h;rw[xu];unfold Lk at h;simp only[Iy,I_,decide_eq_false_iff_not,decide_eq_true_eq];lia
 unfold mX mI;rw[es,de]
 conv=>rhs;rw[<- Hy w]
 show f_ λa ha=>?_;show Eh (hm a ha).1 (hm a ha).2
def yX(fl:Q0e):(mX fl).Perm (bD 0 fl.length)/\(mX fl).Pairwise (Lk fl):=by
 have h1:∀t∈kG (kts fl),t=[η fl (η t 1),η t 1]/\0<=η t 1/\η t 1<fl.length:=λt ht=>by
  have:=(eQ (kts fl)).mem_iff.1 ht;unfold kts at this;obtain⟨a,ha,rfl⟩:=fw.1 this;have:=aT.1 ha;show⟨rfl,?_,?_⟩
  .show 0<=a;lia
  .show a<_;lia
 have e:mX fl=(kG (kts fl)).map λt=>η t 1:=by unfold mX mI;show f_ λt ht=>?_;obtain⟨e,h0,h2⟩:=h1 t ht;have:=Eh h0 h2;rw[<- e] at this;show this
 have hp:(mX fl).Perm (bD 0 fl.length):=by
  rw[e];show((eQ (kts fl)).map _).trans ?_;unfold kts;rw[de];have:(bD 0 fl.length).map ((λt=>η t 1)∘λi=>[η fl i,i])=bD 0 fl.length:=by
   conv=>rhs;rw[<- Hy (bD 0 fl.length)]
   show f_ λa _=>rfl
  rw[this]
 show⟨hp,?_⟩;rw[e,nq];have nd:(kG (kts fl)).Nodup:=(eQ _).nodup_iff.2 (J9 fl);show a2l ?_ ((lR (kts fl)).and nd);intro t u ht hu ⟨h,hne⟩;obtain⟨et,t0,t1⟩:=h1 t ht;obtain⟨eu,u0,u1⟩:=h1 u hu;rw[et,eu,xu] at h;simp only[Iy,I_,decide_eq_false_iff_not,decide_eq_true_eq] at h;have hd:η t 1≠η u 1:=λz=>hne (by rw[et,eu,z]);unfold Lk;lia
theorem B4:∀{l:Q0e},(∀i∈l,key (ρ.set 0 (aa (.int i)))=aa (g i))->nY key ρ (l.map D.int)=aa (l.map g)
 |[],_=>rfl
 |i::l,h=>by rw[bj];unfold nY;rw[h i b_,B4 λj hj=>h j (fj _ hj)];rfl
theorem qM:∀ts:Q0a,kH (ts.map τ)=aa ts
 |[]=>rfl
 |t::ts=>by rw[bj];unfold kH;rw[show TV (τ t)=aa t by unfold τ;show b7 t,qM ts];rfl
def xE:b9 [τ l]=aa (.int l.length):=by unfold τ;rw[kL,a_]
def aAD:b9 [aG l]=aa (.int l.length):=by unfold aG;rw[rQ,a_]
def GY(h:fl.length<64):kP [τ fl]=.ok (τ (mX fl)):=by
 unfold kP;show eT rfl (dY (cN (x:=aG (mX fl)) ?_ rfl));unfold DO;rw[cN (x:=τ fl) (z:=aa (.int fl.length)) rfl xE];show(if 0<=(fl.length:Int)/\(fl.length:Int)<64 then(nY _ _ ((bD 0 (fl.length:Int).toNat).map D.int)).bind DN else ae)=_;rw[Z_ ∅,jr];have hk:=B4 (key:=iP (aA (aE dQ (aB 1) (aB 0)) (aA (aB 0) aF))) (ρ:=benv 1 [0] (bR (c9 1 [τ fl]))) (g:=λi=>τ [η fl i,i]) (l:=bD 0 fl.length) (λi hi=>by have:=aT.1 hi;show ZW (x:=.int (η fl i)) (y:=.int i) (aU (x:=τ fl) (y:=.int i) rfl rfl (mS ∅ ∅)) rfl)
 rw[hk];show DN ((bD 0 fl.length).map λi=>τ [η fl i,i])=_;have e:((bD 0 fl.length).map λi=>τ [η fl i,i])=(kts fl).map τ:=by unfold kts;rw[de];rfl
 rw[e];unfold DN;rw[qM];show(if(kts fl).length<64/\_/\_ then _ else ae)=_;have hall:(kts fl).all (λt=>!t.isEmpty)=af:=by rw[gp];intro t ht;unfold kts at ht;obtain⟨a,_,rfl⟩:=fw.1 ht;rfl
 rw[Z_ ⟨by rw[EB];show h,hall,J9 fl⟩];rfl
theorem P5(h:fl.length<64):oB [τ fl]=.ok (τ (sortI fl)):=by unfold oB;show eT rfl (dY (cN (x:=aG (sortI fl)) (cN (x:=τ fl) rfl (mT h)) rfl))
noncomputable def yY:List Int->List (Int×Int)->List Int
 |l,[]=>l
 |l,p::ps=>yY (l.set p.1.toNat p.2) ps
def aAE:NA [τ a,τ b]=aa ((a.zip b).map λp=>.tup [.int p.1,.int p.2]):=by unfold NA τ;show aa (((a.map D.int).zip (b.map D.int)).map λp=>D.tup [p.1,p.2])=_;rw[a1S,de];rfl
def U2(h1:x ρ=aa (ρ,.int v))(h2:ρ[i]?=aa (.ow (aG l)))(h3:k (bR ρ)=aa (.int kk))(h0:0<=kk)(hk:kk<(l.length:Int)):qD i x k ρ=.nx (ρ.set i (.ow (aG (l.set kk.toNat v)))):=by
 have hj:M1 l.length kk=aa kk.toNat:=by unfold M1;rw[Z_ h0,Z_ hk]
 unfold qD;rw[h1];simp only[c_];rw[h2,h3];simp only[aG,pU,c_,asInt,a_];rw[hj];simp only[ng,List.map_set]
def p9(hg:g.length<=1000)(hr:∀a∈g,0<=a/\a<g.length):gJ [τ g,τ r]=.ok (τ (yY (bu g.length 0) (g.zip r))):=by
 unfold gJ;show NV rfl ?_;show aZ [.ro (τ g),.ro (τ r),.ow (aG (bu g.length 0)),.no,.no] (C_ (d:=aG (bu g.length 0)) (aU (x:=.lst [.int 0]) (y:=.int (g.length:Int)) rfl (cN (x:=τ g) rfl xE) (rep0 g.length hg))) ?_;show kN (λρ=>∃v3 v4:Sv,ρ=[.ro (τ g),.ro (τ r),.ow (aG (yY (bu g.length 0) (g.zip r))),v3,v4]) ?_ ?_
 .have loop:∀(ps:List (Int×Int)) (l:Q0e) (v3 v4:Sv),l.length=g.length->(∀p∈ps,0<=p.1/\p.1<g.length) ->∃v3' v4',gA (JQ 3 4) (qD 2 (bF (aB 4)) (aB 3)) (ps.map λp=>.tup [.int p.1,.int p.2]) [.ro (τ g),.ro (τ r),.ow (aG l),v3,v4]=.nx [.ro (τ g),.ro (τ r),.ow (aG (yY l ps)),v3',v4']:=by
   intro ps
   induction ps with
   |nil=>intro l v3 v4 _ _;show⟨v3,v4,rfl⟩
   |cons p ps ih =>
    intro l v3 v4 hl hp;have h1:=hp p b_;obtain⟨v3',v4',e⟩:=ih (l.set p.1.toNat p.2) (.ro (.int p.1)) (.ro (.int p.2)) (by rw[gn];show hl) λq hq=>hp q (fj _ hq);show⟨v3',v4',?_⟩;have e1:qD 2 (bF (aB 4)) (aB 3) [.ro (τ g),.ro (τ r),.ow (aG l),.ro (.int p.1),.ro (.int p.2)]=.nx [.ro (τ g),.ro (τ r),.ow (aG (l.set p.1.toNat p.2)),.ro (.int p.1),.ro (.int p.2)]:=U2 rfl rfl rfl h1.1 (by rw[hl];show h1.2);rw[bj];unfold gA
    show(match qD 2 (bF (aB 4)) (aB 3) [.ro (τ g),.ro (τ r),.ow (aG l),.ro (.int p.1),.ro (.int p.2)] with
     |.nx ρ2=>gA (JQ 3 4) (qD 2 (bF (aB 4)) (aB 3)) (ps.map λp:Int×Int=>D.tup [.int p.1,.int p.2]) ρ2
     |o=>o)=_
    rw[e1];show e
  obtain⟨v3,v4,e⟩:=loop (g.zip r) (bu g.length 0) .no .no ie λp hp=>hr p.1 (rh hp).1;have it:NB (aA (aB 0) (aA (aB 1) aF)) (jL [.ro (τ g),.ro (τ r),.ow (aG (bu g.length 0)),.no,.no])=aa ((g.zip r).map λp=>.tup [.int p.1,.int p.2]):=by unfold NB;rw[args2 (x:=τ g) (y:=τ r) rfl rfl];show aAE
  show⟨_,DS _ it e,v3,v4,rfl⟩
 .rintro _ ⟨v3,v4,rfl⟩;show kO _ (cN (x:=aG (yY (bu g.length 0) (g.zip r))) rfl rfl) rfl
theorem uI:∀(w l:Q0e),l.length=fl.length->(∀a∈w,0<=a/\a<fl.length)->(∀j:Nat,j<fl.length->(j:Int)∉w->η l j=η fl j)->yY l (w.zip (w.map (η fl)))=fl
 |[],l,hl,_,h=>Z8 hl λj hj=>h j (by rw[<- hl];show hj) ib
 |a::w,l,hl,hw,h=>by
  have ha:=hw a b_;show yY (l.set a.toNat (η fl a)) (w.zip (w.map (η fl)))=fl;show uI w _ (by rw[gn];show hl) (λb hb=>hw b (fj _ hb)) λj hj hn=>?_;rw[NR ∅];by_cases e:j=a.toNat
  .rw [Z_ e,show(a:Int)=(j:Int) by lia]
  .rw [Zz e];show h j hj λz=>by
    rcases bh.1 z with z|z
    .exact e ∅
    .exact hn z
def yZ{fl w:Q0e}(hp:w.Perm (bD 0 fl.length))(hs:w.Pairwise (Lk fl)):sortI fl=w.map (η fl):=by
 show UB ?_ ?_
 .refine (hp.map (η fl)).trans ?_;have:(bD 0 fl.length).map (η fl)=fl:=by
   show Ak λi=>?_;rw[cf];by_cases hi:i<fl.length
   .rw [kM hi,bw hi];show aa ((fl[(0+(i:Int)).toNat]?).getD 0)=_;rw[show(0+(i:Int)).toNat=i by lia,bw hi];rfl
   .rw [jq (by rw[aO];lia),jq ∅];rfl
  rw[this]
 .rw [nq];show An ?_ hs;intro a b h;unfold Lk at h;lia
def jF:jM:=bZ 5 2
  (aM (lQ 2 (iV aF))
  (aM (fQ (bX (aA (cZ b9 (aA (aB 0) aF)) aF)) (qE 3)
   (aM (nK 4 (cJ 1 [2,0] (bX (aA (cZ b9 (aA (aB 0) aF)) aF)) (g1 0) (pQ (tV (aE (xX af) (aB 0) (aB 1))) (tV (cZ allM (aA (cJ 1 [1] (cB (aE dQ (aB 2) (aB 0))) (g1 0) dO (aE (xX ag) (aB 0) (aB 1))) aF)))) (aB 0)))
   (sX (vZ 2 nX (bF (aE dQ (aB 4) (aE iU (aE dQ (aB 1) (aB 3)) (cZ b9 (aA (aB 4) aF)))))))))
  (bL (cZ eX (aA (aB 2) aF)))))
def gK:jM:=bZ 5 3
  (aM (bG 3 (aL LL.gC (aA (aB 0) (aA (aB 1) aF))))
  (aM (bG 4 (aE dQ (aL LL.eZ (aA (aB 3) (aA (eC (.int 1)) (aA (aB 2) aF)))) (eC (.int 0))))
  (aM (iO (tV (aE GA (aE iU (aB 4) (eC (.int 4))) (eC (.int 2))))
   (bL (eC (.int 0)))
   d7)
  (aM (iO (tV (aE rG (aE iU (aB 4) (eC (.int 4))) (eC (.int 2))))
   (bL (aE cD (eC (.int 1)) (aE iU (aE pR (aB 4) (eC (.int 4))) (eC (.int 3)))))
   d7)
  (bL (aL LL.lV (aA (aB 3) (aA (aE F9 (eC (.int 10)) (eC (.int 58))) (aA (aB 2) aF)))))))))
def gZ:jM:=bZ 8 5
  (aM (lQ 5 (aE repLM (iV (aA (eC (.int 0)) aF)) (cZ b9 (aA (aB 2) aF))))
  (aM (fQ (cB (aB 3)) (qE 6)
   (aM (vH 7 (BK (cZ BO (aA (aE cD (iV (aA (eC (.int 1)) aF)) (cJ 1 [5,6] (cB (aE dQ (aB 2) (aB 6))) (g1 0) dO (aE cD (aE dQ (aB 1) (aB 0)) (cZ DJ (aA (aE pS (aB 0) (aB 2)) aF))))) aF))))
   (qD 5 (bF (aE cD (aB 7) (aL LL.gK (aA (aB 0) (aA (aE cD (aB 1) (aB 6)) (aA (aE cD (aB 4) (aE mulM (eC (.int 1009)) (aB 6))) aF)))))) (aB 6))))
  (bL (cZ eX (aA (aB 5) aF)))))
def Gg(x:Q0a)(w:Q0e):Prop:=w.length=x.length /\∀u t v,w=u++t::v->t∈aI x u
section
variable{x:Q0a}
def aAF(h:Gg x w):w.Perm (bD 0 x.length):=by
 have nd:=jE h.2;show(List.perm_ext_iff_of_nodup nd.1 (DZ _)).2 λa=>⟨λha=>?_,λha=>?_⟩
 .have:=nd.2 a ha;show aT.2 ∅
 .have:=aT.1 ha;show iZ h.1 h.2 ∅ ∅
theorem U3(hx:Ord.Rows x)(hn:x.length<=9)(h0:benv 1 [2,0] ρ=[ae,aa W,aa (aS x)])(hW:W=aG w)(he:aB 0 ρ=aa (aS x)):
  cJ 1 [2,0] (bX (aA (cZ b9 (aA (aB 0) aF)) aF)) (g1 0) (pQ (tV (aE (xX af) (aB 0) (aB 1))) (tV (cZ allM (aA (cJ 1 [1] (cB (aE dQ (aB 2) (aB 0))) (g1 0) dO (aE (xX ag) (aB 0) (aB 1))) aF)))) (aB 0) ρ=aa (aG (aI x w)):=by
 subst hW;show fY ((bD 0 x.length).map D.int) (GK (cN he fZ) ∅) (by rw[a_,aO];lia) ?_;rw[h0];have e:aI x w=(bD 0 x.length).filter λb=>!w.contains b&&(row x b).all λl=>w.contains l:=by unfold aI;rw[List.filter_filter];show Ie λa _=>Bool.and_comm _ _
 rw[e];show fI D.int (λb=>!w.contains b&&(row x b).all λl=>w.contains l) D.int _ λb hb=>⟨[aa (.int b),aa (aG w),aa (aS x)],rfl,?_,λ_=>rfl⟩;have hb:=aT.1 hb;have hr:=yQ.Fc hx (c:=b) ∅ ∅;show Fd (b:=!w.contains b) (iQ (aU rfl rfl rS) rfl) (λh=>?_) λh=>by rw[h];rfl
 rw[h,vy];show iQ (d:=.bl ((row x b).all λl=>w.contains l)) (cN (x:=.lst (((row x b).map λl=>w.contains l).map D.bl)) ?_ ?_) rfl
 .rw [de];show fY ((row x b).map D.int) ?_ (by rw[a_];lia) ?_
  .unfold cB;rw[aU (g:=dQ) (a:=aB 2) (b:=aB 0) (x:=aS x) (y:=.int b) rfl rfl (DX ∅ ∅)];rfl
  .exact dP D.int (λl=>.bl (w.contains l)) _ λl _=>⟨[aa (.int l),aa (aG w)],rfl,aU rfl rfl rS⟩
 .rw [mM];simp[qf,a3G]
def aAG(hx:Ord.Rows x)(hn:x.length<=9)(hd:x.length<=dr.length):∃w,Gg x w/\jF [aS x,aG dr]=.ok (τ w):=by
 have main:∃d,jF [aS x,aG dr]=.ok d /\∃w,Gg x w/\d=τ w:=by
  unfold jF;show mP rfl ?_;show aZ [.ro (aS x),.ro (aG dr),.ow (aG []),.no,.no] rfl ?_;show kN (λρ=>∃(w:Q0e) (v3 v4:Sv),Gg x w/\ρ=[.ro (aS x),.ro (aG dr),.ow (aG w),v3,v4]) ?_ ?_
  .refine nZ x.length (λi ρ=>∃(w:Q0e) (v3 v4:Sv),w.length=i/\(∀u t v,w=u++t::v->t∈aI x u)/\ρ=[.ro (aS x),.ro (aG dr),.ow (aG w),v3,v4]) (args1 (cN (x:=aS x) rfl fZ)) ∅ ⟨[],.no,.no,rfl,(λu t v e=>by cases u<;>cases e),rfl⟩ (λi ρ hi ⟨w,v3,v4,h1,h2,e⟩=>?_) λρ ⟨w,v3,v4,h1,h2,e⟩=>⟨w,v3,v4,⟨h1,h2⟩,e⟩;subst e;show⟨[.ro (aS x),.ro (aG dr),.ow (aG w),.ro (.int i),v4],rfl,?_⟩;have nd:=jE h2;obtain⟨t,ht⟩:=UU hx (a:=w) nd ∅;have hp:0<(aI x w).length:=a18 ht;show mO [.ro (aS x),.ro (aG dr),.ow (aG w),.ro (.int i),.ro (aG (aI x w))] (Ys ((aI x w).map D.int) (U3 hx hn (W:=aG w) rfl rfl rfl) (j8 _) rfl) ?_;have m0:=lj (η dr i) (show((aI x w).length:Int)≠0 by lia);have m1:=om (η dr i) (show(0:Int)<(aI x w).length by lia);have hs:η (aI x w) (η dr i%((aI x w).length:Int))∈aI x w:=by unfold η;rw[bw (by unfold η at m0 m1;lia)];show k_ _
   show⟨_,Dg (d:=.int (η (aI x w) (η dr i%((aI x w).length:Int)))) (ds:=w.map D.int) ?_ rfl (by rw[a_];lia),w++[η (aI x w) (η dr i%((aI x w).length:Int))],.ro (.int i),.ro (aG (aI x w)),by simp[h1],λu t v e=>?_,?_⟩
   .exact aU (x:=aG (aI x w)) (y:=.int (η dr i%((aI x w).length:Int))) rfl (aU (x:=.int (η dr i)) (y:=.int ((aI x w).length:Int)) (aU (x:=aG dr) (y:=.int i) rfl rfl (yS ∅ ∅)) (cN (x:=aG (aI x w)) rfl aAD) (d8 ∅)) (yS m0 m1)
   .rcases vq v with z|⟨v',q,z⟩
    .subst z;have:=Am e rfl;rw[<- this.1];have e2:η (aI x w) (η dr i%((aI x w).length:Int))=t:=(Al this.2).1;rw[<- e2];show hs
    .subst z;rw[Il] at e;have:=Am (e.trans (show u++t::(v'++[q])=(u++t::v')++[q] by simp)) rfl;show h2 u t v' this.1
   .unfold aG;rw[g_];rfl
  .rintro _ ⟨w,v3,v4,h,rfl⟩;show kO (τ w) (cN (x:=aG w) rfl rfl) ⟨w,h,rfl⟩
 obtain⟨d,e,w,h,rfl⟩:=main;show⟨w,h,e⟩
def NW(h:f ρ=.rt d):aM f g ρ=.rt d:=by unfold aM;rw[h]
def GZ(ns:Q0e)(a t:Int):∃v:Int,0<=v/\v<=10^58/\gK [.j6 ns,.int a,.int t]=.ok (.int v):=by
 obtain⟨c,ec⟩:=xC ns a;obtain⟨xs,hx,hxn,ex⟩:=rV c 1 t (by decide) (by decide);obtain⟨d,rfl⟩:∃d,xs=[d]:=by
  match xs,hx with
  |[d],_=>show⟨d,rfl⟩
 obtain⟨r,r0,r1,er⟩:=UH c t (most:=10^58) (by decide);unfold gK;have e4:∀{ρ:dW},ρ[4]?=aa (aa (.int d))->aE iU (aB 4) (eC (.int 4)) ρ=aa (.int (d%4)):=λ{ρ} h=>aU (x:=.int d) (y:=.int 4) (by unfold aB;rw[h];rfl) rfl (d8 (by decide));have Jj:∀ρ,aE F9 (eC (.int 10)) (eC (.int 58)) ρ=aa (.int (10^58)):=λρ=>by rw[UG ρ (by decide+kernel)];rfl
 have s3:bG 3 (aL LL.gC (aA (aB 0) (aA (aB 1) aF))) (c9 5 [.j6 ns,.int a,.int t])=.nx [.ro (.j6 ns),.ro (.int a),.ro (.int t),.ro (.int c),.no]:=dZ (.int c) (cP rfl rfl ec) rfl;have s4:bG 4 (aE dQ (aL LL.eZ (aA (aB 3) (aA (eC (.int 1)) (aA (aB 2) aF)))) (eC (.int 0))) [.ro (.j6 ns),.ro (.int a),.ro (.int t),.ro (.int c),.no]=.nx [.ro (.j6 ns),.ro (.int a),.ro (.int t),.ro (.int c),.ro (.int d)]:=dZ (.int d) (aU (x:=aG [d]) (y:=.int 0) (dA rfl rfl rfl ex) rfl (rT (k:=0) rfl)) rfl;by_cases h1:d%4<2
 .exact ⟨0,by lia,by decide,eT rfl (bT _ s3 (bT _ s4 (NW (wB (iQ (d:=.bl (Zv (d%4<2))) (aU (x:=.int (d%4)) (y:=.int 2) (e4 rfl) rfl rfl) (by rw[Zx h1];rfl)) (dY rfl)))))⟩
 .have s5:(iO (tV (aE GA (aE iU (aB 4) (eC (.int 4))) (eC (.int 2)))) (bL (eC (.int 0))) d7) [.ro (.j6 ns),.ro (.int a),.ro (.int t),.ro (.int c),.ro (.int d)]=.nx [.ro (.j6 ns),.ro (.int a),.ro (.int t),.ro (.int c),.ro (.int d)]:=mL (iQ (d:=.bl (Zv (d%4<2))) (aU (x:=.int (d%4)) (y:=.int 2) (e4 rfl) rfl rfl) (by rw[Zy h1];rfl)) rfl;by_cases h2:d%4=2
  .refine ⟨1+d/4%3,by lia,?_,eT rfl (bT _ s3 (bT _ s4 (bT _ s5 (NW (wB (iQ (d:=.bl (Zv (d%4=2))) (aU (x:=.int (d%4)) (y:=.int 2) (e4 rfl) rfl rfl) (by rw[Zx h2];rfl)) (dY (aU (x:=.int 1) (y:=.int (d/4%3)) rfl (aU (x:=.int (d/4)) (y:=.int 3) (aU (x:=.int d) (y:=.int 4) rfl rfl (kK (by decide) (by decide))) rfl (d8 (by decide))) rfl)))))))⟩;have:(3:Int)<=10^58:=by decide
   lia
  .have s6:(iO (tV (aE rG (aE iU (aB 4) (eC (.int 4))) (eC (.int 2)))) (bL (aE cD (eC (.int 1)) (aE iU (aE pR (aB 4) (eC (.int 4))) (eC (.int 3))))) d7) [.ro (.j6 ns),.ro (.int a),.ro (.int t),.ro (.int c),.ro (.int d)]=.nx [.ro (.j6 ns),.ro (.int a),.ro (.int t),.ro (.int c),.ro (.int d)]:=mL (iQ (d:=.bl (Zv (d%4=2))) (aU (x:=.int (d%4)) (y:=.int 2) (e4 rfl) rfl rfl) (by rw[Zy h2];rfl)) rfl;show⟨r,r0,Ir r1,eT rfl (bT _ s3 (bT _ s4 (bT _ s5 (bT _ s6 (dY (dA rfl (Jj _) rfl er))))))⟩
theorem EC:∀(l:Q0e) (a:Int),(a<=jW (a::l)) /\∀b∈l,b<=jW (a::l)
 |[],a=>⟨oj _,λb h=>(nomatch h)⟩
 |c::l,a=>by
  have ih:=EC l (if a<c then c else a);have e:jW (a::c::l)=jW ((if a<c then c else a)::l):=rfl;rw[e];show⟨?_,λb hb=>?_⟩
  .have:=ih.1;split at this<;>split<;>lia
  .rcases bh.1 hb with z|z
   .subst z;have:=ih.1;split at this<;>split<;>lia
   .exact ih.2 b z
def P6(hx:Ord.Rows x)(hn:x.length<=9)(hw:Gg x w)(ns:Q0e)(k s:Int):∃fl:Q0e,fl.length=x.length/\(∀v∈fl,1<=v/\v<=10^60)/\rs x fl=af/\gZ [.j6 ns,.int k,aS x,τ w,.int s]=.ok (τ fl):=by
 have nd:=jE hw.2;have main:∃d,gZ [.j6 ns,.int k,aS x,τ w,.int s]=.ok d /\∃fl:Q0e,fl.length=x.length/\(∀v∈fl,1<=v/\v<=10^60)/\rs x fl=af/\d=τ fl:=by
  unfold gZ;show mP rfl ?_;show aZ [.ro (.j6 ns),.ro (.int k),.ro (aS x),.ro (τ w),.ro (.int s),.ow (aG (bu x.length 0)),.no,.no] (C_ (d:=aG (bu x.length 0)) (aU (x:=.lst [.int 0]) (y:=.int (x.length:Int)) rfl (cN (x:=aS x) rfl fZ) (rep0 _ ∅))) ?_;show kN (λρ=>∃(fl:Q0e) (v6 v7:Sv),(fl.length=x.length/\(∀v∈fl,1<=v/\v<=10^60)/\rs x fl=af)/\ρ=[.ro (.j6 ns),.ro (.int k),.ro (aS x),.ro (τ w),.ro (.int s),.ow (aG fl),v6,v7]) ?_ ?_
  .refine uC (w.map D.int) (λi ρ=>∃(fl:Q0e) (v6 v7:Sv),(fl.length=x.length/\(∀t∈w.take i,(1<=η fl t/\η fl t<=i*(10^58+1)) /\∀a∈row x t,Lx fl a t))/\ρ=[.ro (.j6 ns),.ro (.int k),.ro (aS x),.ro (τ w),.ro (.int s),.ow (aG fl),v6,v7]) rfl ⟨_,_,_,⟨ie,λt h=>(nomatch h)⟩,rfl⟩ (λi d ρ hd ⟨l,v6,v7,⟨h1,h2⟩,e⟩=>?_) λρ ⟨fl,v6,v7,⟨h1,h2⟩,e⟩=>⟨fl,v6,v7,⟨h1,?_,?_⟩,e⟩
   .subst e;rw[cf] at hd;obtain⟨b,hb,rfl⟩:∃b,w[i]?=aa b/\D.int b=d:=by
     cases e:w[i]? with
     |none=>rw[e] at hd;cases hd
     |some y=>rw[e] at hd;show⟨y,rfl,cj hd⟩
    have hi:i<w.length:=(cb.mp hb).1;have hwi:i<9:=by rw[hw.1] at hi;lia
    have sp:w=w.take i++b::w.drop (i+1):=by have:=List.getElem_cons_drop (as:=w) (i:=i) hi;rw[(cb.mp hb).2] at this;rw[this,a1Z]
    have hr:=pH.1 (hw.2 _ b _ sp);show⟨[.ro (.j6 ns),.ro (.int k),.ro (aS x),.ro (τ w),.ro (.int s),.ow (aG l),.ro (.int b),v7],rfl,?_⟩
    let ups:=(row x b).map λa=>η l a+(if b<a then 1 else 0)
    have hrl:=yQ.Fc hx hr.1.1 hr.1.2;have em:cZ BO (aA (aE cD (iV (aA (eC (.int 1)) aF)) (cJ 1 [5,6] (cB (aE dQ (aB 2) (aB 6))) (g1 0) dO (aE cD (aE dQ (aB 1) (aB 0)) (cZ DJ (aA (aE pS (aB 0) (aB 2)) aF))))) aF) (bR [.ro (.j6 ns),.ro (.int k),.ro (aS x),.ro (τ w),.ro (.int s),.ow (aG l),.ro (.int b),v7])=aa (.int (jW (1::ups))):=by
     show cN (x:=aG (1::ups)) (aU (x:=aG [1]) (y:=aG ups) rfl (fY ((row x b).map D.int) ?_ (by rw[a_];lia) ?_) ?_) ?_
     .unfold cB;rw[aU (g:=dQ) (a:=aB 2) (b:=aB 6) (x:=aS x) (y:=.int b) rfl rfl (DX hr.1.1 hr.1.2)];rfl
     .rw [de];show dP D.int (D.int∘λa=>η l a+(if b<a then 1 else 0)) (row x b) λa ha=>⟨[aa (.int a),aa (aG l),aa (.int b)],rfl,?_⟩;have hra:=yQ.yR hx hr.1.1 hr.1.2 ha;show aU (x:=.int (η l a)) (y:=.int (if b<a then 1 else 0)) (aU (x:=aG l) (y:=.int a) rfl rfl (yS hra.1 ∅)) (cN (x:=.bl (Zv (b<a))) (aU (x:=.int a) (y:=.int b) rfl rfl rfl) ?_) rfl;show aa (D.int (if Zv (b<a)=af then 1 else 0))=_;simp
     .unfold aG;show(GH ?_).trans rfl;rw[a_,a_,a_];show 1+_<=_;lia
     .unfold aG;show((intsOf ((1::ups).map D.int)).bind λns=>if ns=[] then ae else aa (D.int (jW ns)))=_;rw[b7];rfl
    generalize hm:jW (1::ups)=m at em;have g:=EC ups 1;rw[hm] at g;have mm:m∈1::ups:=hm▸UW (ns:=1::ups) (by simp);have mle:m<=(i:Int)*(10^58+1)+1:=by
     have z:(0:Int)<=(i:Int)*(10^58+1):=Int.mul_nonneg ∅ (by decide);rcases bh.1 mm with q|q
     .omega
     .obtain ⟨a,ha,rfl⟩:=fw.1 q;have:=(h2 a (hr.2.2 a ha)).1;split<;>lia
    show mO [.ro (.j6 ns),.ro (.int k),.ro (aS x),.ro (τ w),.ro (.int s),.ow (aG l),.ro (.int b),.ro (.int m)] (Yt (.int m) em rfl rfl) ?_;obtain⟨v,v0,v1,ev⟩:=GZ ns (k+b) (s+1009*b);have e1:qD 5 (bF (aE cD (aB 7) (aL gK (aA (aB 0) (aA (aE cD (aB 1) (aB 6)) (aA (aE cD (aB 4) (aE mulM (eC (.int 1009)) (aB 6))) aF)))))) (aB 6) [.ro (.j6 ns),.ro (.int k),.ro (aS x),.ro (τ w),.ro (.int s),.ow (aG l),.ro (.int b),.ro (.int m)]=.nx [.ro (.j6 ns),.ro (.int k),.ro (aS x),.ro (τ w),.ro (.int s),.ow (aG (l.set b.toNat (m+v))),.ro (.int b),.ro (.int m)]:=by show U2 (v:=m+v) (kk:=b) ?_ rfl rfl hr.1.1 (by rw[h1];show hr.1.2);unfold bF;rw[aU (x:=.int m) (y:=.int v) (z:=aa (.int (m+v))) rfl (dA (x:=.j6 ns) (y:=.int (k+b)) (z:=.int (s+1009*b)) rfl (aU (x:=.int k) (y:=.int b) rfl rfl rfl) (aU (x:=.int s) (y:=.int (1009*b)) rfl (aU (x:=.int 1009) (y:=.int b) rfl rfl rfl) rfl) ev) rfl];rfl
    have hbl:b.toNat<l.length:=by lia
    have keep:∀t:Int,0<=t->η (l.set b.toNat (m+v)) t=if t=b then m+v else η l t:=λt ht=>by
     have:=NR (v:=m+v) hbl t.toNat;rw[show((t.toNat:Nat):Int)=t by lia] at this;rw[this];by_cases q:t=b
     .rw [Z_ ∅,Z_ q]
     .rw [Zz ∅,Zz q]
    show⟨_,e1,l.set b.toNat (m+v),.ro (.int b),.ro (.int m),⟨by rw[gn];show h1,λt ht=>?_⟩,rfl⟩;have hsum:((i+1:Nat):Int)*(10^58+1)=(i:Int)*(10^58+1)+(10^58+1):=by rw[Int.natCast_add,Ap];lia
    rw[Hr,hb] at ht;rcases gm.1 ht with q|q
    .have ht0:=nd.2 t (List.mem_of_mem_take q);have ne:t≠b:=λz=>hr.2.1 (by rw[<- z];show q);have o:=h2 t q;show⟨?_,λa ha=>?_⟩
     .rw [keep t ht0.1,Zz ne];lia
     .have hra:=yQ.yR hx ht0.1 ht0.2 ha;obtain⟨p1,p2,ep⟩:=n_ q;have haw:a∈w.take i:=by have:=(pH.1 (hw.2 p1 t (p2++b::w.drop (i+1)) (sp.trans (by rw[ep];simp)))).2.2 a ha;rw[ep];show gj _ this
      have ne2:a≠b:=λz=>hr.2.1 (by rw[<- z];show haw);have:=o.2 a ha;unfold Lx at this ⊢;rw[keep t ht0.1,Zz ne,keep a hra.1,Zz ne2];show this
    .have q:t=b:=by simpa using q
     subst q;show⟨?_,λa ha=>?_⟩
     .rw [keep t hr.1.1,Z_ rfl];lia
     .have hra:=yQ.yR hx hr.1.1 hr.1.2 ha;have ne2:a≠t:=λz=>hr.2.1 (by rw[<- z];show hr.2.2 a ha);have:=g.2 _ (fw.2 ⟨a,ha,rfl⟩);unfold Lx;rw[keep t hr.1.1,Z_ rfl,keep a hra.1,Zz ne2];split at this<;>lia
   .intro v hv;rw[a_,a1Y] at h2;obtain⟨j,hj,rfl⟩:=Ag hv;have:=(h2 (j:Int) (iZ hw.1 hw.2 ∅ ∅)).1;have e:η fl (j:Int)=fl[j]:=by unfold η;rw[jr,bw hj];rfl
    rw[e] at this;have z:(w.length:Int)*(10^58+1)<=9*(10^58+1):=Int.mul_le_mul_of_nonneg_right (by rw[hw.1];lia) (by decide);have y:(9:Int)*(10^58+1)<=10^60:=by decide
    lia
   .rw [a_,a1Y] at h2;show(J6 hx).2 λb b0 b1 a ha=>(h2 b (iZ hw.1 hw.2 b0 b1)).2 a ha
  .rintro _ ⟨fl,v6,v7,⟨h1,h2,h3⟩,rfl⟩;show kO (τ fl) (cN (x:=aG fl) rfl rfl) ⟨fl,h1,h2,h3,rfl⟩
 obtain⟨d,e,fl,h1,h2,h3,rfl⟩:=main;show⟨fl,h1,h2,h3,e⟩
def P7(hx:Ord.Rows x)(hl:fl.length=x.length)(h:rs x fl=af):Gg x (mX fl):=by
 obtain⟨hp,hs⟩:=yX fl;have rr:=(J6 hx).1 h;show⟨by rw[hp.length_eq,aO];show hl,λu t v e=>?_⟩;have nd:(mX fl).Nodup:=hp.nodup_iff.2 (DZ _);have ht:=aT.1 (hp.mem_iff.1 (show t∈mX fl by rw[e];simp));show pH.2 ⟨by lia,λq=>?_,λl hl2=>?_⟩
 .rw [e,rm] at nd;show nd.2.2 t q t b_ rfl
 .have hr:=yQ.yR hx (c:=t) ∅ ∅ hl2;have hm:l∈mX fl:=hp.mem_iff.2 (aT.2 ∅);have lt:=rr t ∅ ∅ l hl2;rw[e] at hm hs;rcases gm.1 hm with q|q
  .exact q
  .exfalso;rcases bh.1 q with z|z
   .subst z;unfold Lx at lt;lia
   .have:=(ft.1 (vk.1 hs).2.1).1 l z;unfold Lx at lt;unfold Lk at this;lia
end
theorem qN{g:Int->Int}(hg:∀t,0<=g t):∀L:Q0e,0<=(L.map g).sum
 |[]=>oj 0
 |a::L=>by have:=qN hg L;have:=hg a;rw[bj,ia];lia
theorem B5:∀(L:Q0e) (ψ Θ:Int),ψ<=Θ->Θ<ψ+(L.map g).sum ->∃u t v,L=u++t::v/\ψ+(u.map g).sum<=Θ/\Θ<ψ+(u.map g).sum+g t
 |[],ψ,Θ,h1,h2=>by simp at h2;lia
 |a::L,ψ,Θ,h1,h2=>by
  rw[bj,ia] at h2;by_cases h:Θ<ψ+g a
  .exact ⟨[],a,L,rfl,by simpa using h1,by simpa using h⟩
  .obtain ⟨u,t,v,e,q1,q2⟩:=B5 (g:=g) L (ψ+g a) Θ ∅ ∅;show⟨a::u,t,v,by rw[e];rfl,?_,?_⟩<;>rw[bj,ia]<;>lia
theorem filter_lt{u v:Q0e}{t:Int}(h:(u++t::v).Pairwise (·<·)):(u++t::v).filter (λs=>Zv (s<t))=u:=by
 obtain⟨_,h2,h3⟩:=vk.1 h;have hv:=(ft.1 h2).1;rw[Ig,vp,Zz (by simp)];have e1:u.filter (λs=>Zv (s<t))=u:=a2d.2 λa ha=>by simpa using h3 a ha t b_
 have e2:v.filter (λs=>Zv (s<t))=[]:=a2e.2 λa ha=>by have:=hv a ha;simp;lia
 rw[e1,e2,ij]
section
variable(x:Q0a)(R:List Int->Int)
def Gn:Nat->List Int->Int
 |0,b=>R b
 |m+1,b=>((aI x b).map λt=>Gn m (b++[t])).sum
def qA(m:Nat)(b:Q0e)(t:Int):Int:=(((aI x b).filter λs=>Zv (s<t)).map λs=>Gn x R m (b++[s])).sum
def f6(b:Q0e):List Int->Int
 |[]=>0
 |t::w=>qA x R w.length b t+f6 (b++[t]) w
def Way(b:Q0e):List Int->Prop
 |[]=>True
 |t::w=>t∈aI x b/\Way (b++[t]) w
end
section
variable{x:Q0a}{R:List Int->Int}
def aAH(n:Nat):(bD 0 n).Pairwise (·<·):=by unfold bD;show si _ (λa b h=>by lia) Hu
def pI(b:Q0e):(aI x b).Pairwise (·<·):=vv _ (vv _ (aAH x.length))
theorem NX(hR:∀w,0<=R w):∀(m:Nat) (b:Q0e),0<=Gn x R m b
 |0,b=>hR b
 |m+1,b=>qN (λt=>NX hR m (b++[t])) _
def aAI(hR:∀w,0<=R w){m:Nat}{b:Q0e}{Θ:Int}(h0:0<=Θ)(h1:Θ<Gn x R (m+1) b):∃t u v,aI x b=u++t::v/\qA x R m b t<=Θ/\Θ<qA x R m b t+Gn x R m (b++[t])/\(aI x b).filter (λs=>Zv (qA x R m b s<=Θ))=u++[t]:=by
 have hg:∀t,0<=Gn x R m (b++[t]):=λt=>NX hR m _;obtain⟨u,t,v,e,q1,q2⟩:=B5 (g:=λt=>Gn x R m (b++[t])) (aI x b) 0 Θ h0 (by rw[j_];show h1);have inc:=pI (x:=x) b;have ea:∀{u t v},aI x b=u++t::v->qA x R m b t=(u.map λs=>Gn x R m (b++[s])).sum:=λ{u t v} e=>by unfold qA;rw[e] at inc ⊢;rw[filter_lt inc]
 have et:=ea e;show⟨t,u,v,e,by lia,by lia,?_⟩;rw[e] at inc;have eu:u.filter (λs=>Zv (qA x R m b s<=Θ))=u:=a2d.2 λs hs=>by obtain⟨u1,u2,rfl⟩:=n_ hs;have:=ea (u:=u1) (t:=s) (v:=u2++t::v) (by rw[e];simp);have n2:=qN hg (s::u2);rw[g_,vi] at q1;simp only[decide_eq_true_eq];lia
 have ev:v.filter (λs=>Zv (qA x R m b s<=Θ))=[]:=a2e.2 λs hs=>by obtain⟨v1,v2,rfl⟩:=n_ hs;have:=ea (u:=u++t::v1) (t:=s) (v:=v2) (by rw[e];simp);have n2:=qN hg v1;rw[g_,vi,bj,ia] at this;simp only[decide_eq_true_eq];lia
 rw[e,Ig,vp,Z_ (by simp only[decide_eq_true_eq];lia),eu,ev]
theorem ED(hR:∀w,0<=R w):∀(w b:Q0e),Way x b w->0<=f6 x R b w/\f6 x R b w+R (b++w)<=Gn x R w.length b
 |[],b,_=>by rw[ij];show⟨oj 0,by show 0+R b<=R b;lia⟩
 |t::w,b,h=>by
  obtain⟨h0,h1⟩:=ED hR w (b++[t]) h.2;rw[og] at h1;have hg:∀t,0<=Gn x R w.length (b++[t]):=λt=>NX hR _ _;obtain⟨u,v,e⟩:=n_ h.1;have inc:=pI (x:=x) b;have ea:qA x R w.length b t=(u.map λs=>Gn x R w.length (b++[s])).sum:=by unfold qA;rw[e] at inc ⊢;rw[filter_lt inc]
  have n1:=qN hg u;have n2:=qN hg v;have eg:Gn x R (w.length+1) b=(u.map λs=>Gn x R w.length (b++[s])).sum+(Gn x R w.length (b++[t])+(v.map λs=>Gn x R w.length (b++[s])).sum):=by show((aI x b).map λt=>Gn x R w.length (b++[t])).sum=_;rw[e,g_,vi,bj,ia]
  show⟨?_,?_⟩
  .show 0<=qA x R w.length b t+f6 x R (b++[t]) w;lia
  .show qA x R w.length b t+f6 x R (b++[t]) w+R (b++t::w)<=Gn x R (w.length+1) b;rw[eg];have h1':f6 x R (b++[t]) w+R (b++t::w)<=Gn x R w.length (b++[t]):=h1;lia
theorem U4(hR:∀w,0<=R w):∀(w z b:Q0e),w.length=z.length->Way x b w->Way x b z->dC w z=af->f6 x R b w+R (b++w)<=f6 x R b z
 |[],[],_,_,_,_,h=>by cases h
 |s::w,t::z,b,hl,hw,hz,h=>by
  have hl2:w.length=z.length:=by simpa using hl
  by_cases e:s=t
  .subst e;have hx:dC w z=af:=by unfold dC at h;rwa [Z_ rfl] at h
   have:=U4 hR w z (b++[s]) hl2 hw.2 hz.2 hx;rw[og] at this;show qA x R w.length b s+f6 x R (b++[s]) w+R (b++s::w)<=qA x R z.length b s+f6 x R (b++[s]) z;rw[hl2];have aNP:f6 x R (b++[s]) w+R (b++s::w)<=f6 x R (b++[s]) z:=this;lia
  .have hst:s<t:=by unfold dC at h;rw[Zz e] at h;simpa using h
   obtain⟨_,h1⟩:=ED hR w (b++[s]) hw.2;obtain⟨h2,_⟩:=ED hR z (b++[t]) hz.2;rw[og] at h1;have hg:∀t,0<=Gn x R z.length (b++[t]):=λt=>NX hR _ _;have inc:=pI (x:=x) b;have key:qA x R z.length b s+Gn x R z.length (b++[s])<=qA x R z.length b t:=by
    obtain⟨u,v,e⟩:=n_ hz.1;have hs:s∈u:=by
     have hm:=hw.1;rw[e] at hm inc;obtain⟨_,i2,_⟩:=vk.1 inc;rcases gm.1 hm with q|q
     .exact q
     .rcases bh.1 q with q|q
      .omega
      .have:=(ft.1 i2).1 s q;lia
    obtain⟨u1,u2,e2⟩:=n_ hs;have a1:qA x R z.length b t=(u.map λs=>Gn x R z.length (b++[s])).sum:=by unfold qA;rw[e] at inc ⊢;rw[filter_lt inc]
    have a2:qA x R z.length b s=(u1.map λs=>Gn x R z.length (b++[s])).sum:=by
     have e3:aI x b=u1++s::(u2++t::v):=by rw[e,e2];simp
     unfold qA;rw[e3] at inc ⊢;rw[filter_lt inc]
    rw[a1,a2,e2,g_,vi,bj,ia];have:=qN hg u2;lia
   show qA x R w.length b s+f6 x R (b++[s]) w+R (b++s::w)<=qA x R z.length b t+f6 x R (b++[t]) z;rw[hl2] at h1 ⊢;have h1':f6 x R (b++[s]) w+R (b++s::w)<=Gn x R z.length (b++[s]):=h1;lia
theorem sG:∀(m:Nat) (a:Q0e) (l j:Int),(m:Int)<j->SF x m a l j=0
 |0,a,l,j,h=>Zz ∅
 |m+1,a,l,j,h=>by have e:(λt=>SF x m (bH a t) t (j-if t<l then 1 else 0))=λ_=>0:=funext λt=>sG m _ _ _ (by split<;>lia);show((aI x a).map _).sum=0;rw[e,iF]
def aDH(m:Nat)(a:Q0e)(hl:l<=0):SF x (m+1) a l ((m:Int)+1)=0:=by
 show((aI x a).map λt=>SF x m (bH a t) t ((m:Int)+1-if t<l then 1 else 0)).sum=0;have e:(aI x a).map (λt=>SF x m (bH a t) t ((m:Int)+1-if t<l then 1 else 0))=(aI x a).map λ_=>0:=f_ λt ht=>by have:=(iX ht).1.1;rw[Zz ∅];show sG m _ _ _ ∅
 rw[e,iF]
theorem oC(f:Nat->Int)(N:Nat):∀M:Nat,(∀d,N<=d->d<N+M->f d=0)->((bz (N+M)).map f).sum=((bz N).map f).sum
 |0,_=>rfl
 |M+1,h=>by rw[show N+(M+1)=(N+M)+1 by lia,a12,g_,vi,oC f N M λd h1 h2=>h d h1 ∅];show _+(f (N+M)+0)=_;rw[h (N+M) ∅ ∅];lia
theorem U5(W:Int->Int):∀(m:Nat) (b:Q0e) (N:Nat),m+1<=N->Gn x (λw=>W (dl (-1) w)) m b=((bz N).map λd:Nat=>SF x m b (lB b) (d:Int)*W (dl (-1) b+(d:Int))).sum
 |0,b,N,hN=>by obtain⟨M,rfl⟩:∃M,N=1+M:=⟨N-1,by lia⟩;rw[oC _ 1 M λd h1 _=>by show(if(d:Int)=0 then 1 else 0)*_=0;rw[Zz ∅,qg]];show W (dl (-1) b)=1*W (dl (-1) b+((0:Nat):Int))+0;rw[a2p,vx];congr 1;lia
 |m+1,b,N,hN=>by
  show((aI x b).map λt=>Gn x (λw=>W (dl (-1) w)) m (b++[t])).sum=_;have e:∀d:Nat,SF x (m+1) b (lB b) (d:Int)*W (dl (-1) b+(d:Int))=((aI x b).map λt=>SF x m (b++[t]) t ((d:Int)-if t<lB b then 1 else 0)*W (dl (-1) b+(d:Int))).sum:=λd=>by show((aI x b).map λt=>SF x m (bH b t) t ((d:Int)-if t<lB b then 1 else 0)).sum*_=_;rw[oi,<- B1];show congrArg nj (f_ λt _=>?_);rw[oi,yV m (a:=bH b t) (b:=b++[t]) t _ λu=>by rw[yU];simp]
  have e2:((bz N).map λd:Nat=>SF x (m+1) b (lB b) (d:Int)*W (dl (-1) b+(d:Int)))=(bz N).map λd:Nat=>((aI x b).map λt=>SF x m (b++[t]) t ((d:Int)-if t<lB b then 1 else 0)*W (dl (-1) b+(d:Int))).sum:=f_ λd _=>e d;rw[e2,B0];show congrArg nj (f_ λt _=>?_);have el:lB (b++[t])=t:=by unfold lB;simp
  have ed:dl (-1) (b++[t])=dl (-1) b+if t<lB b then 1 else 0:=NP (-1) b t
  by_cases h:t<lB b
  .rw [Z_ h] at ed;simp only[Z_ h];obtain⟨M,rfl⟩:∃M,N=M+1:=⟨N-1,by lia⟩;rw[U5 W m (b++[t]) M ∅,Ht,bj,ia,de,el,ed,J3 m _ _ _ ∅,qg,j_];show congrArg nj (f_ λd _=>?_);show _=SF x m (b++[t]) t (((d+1:Nat):Int)-1)*W (dl (-1) b+((d+1:Nat):Int));rw[show((d+1:Nat):Int)-1=(d:Int) by lia,show dl (-1) b+((d+1:Nat):Int)=dl (-1) b+1+(d:Int) by lia]
  .rw [Zz h] at ed;simp only[Zz h];rw[U5 W m (b++[t]) N ∅,el,ed];show congrArg nj (f_ λd _=>?_);rw[a2m,vx]
def iC(b:Q0e):Int:=b.getLast?.getD 0
def y6(x:Q0a)(b:Q0e):Prop:=∀u t v,b=u++t::v->t∈aI x u
def y6.snoc(h:y6 x b)(ht:t∈aI x b):y6 x (b++[t]):=by
 intro u s r e;rcases vq r with hr|⟨r',c,hr⟩
 .subst hr;obtain⟨e1,e2⟩:=Am e rfl;rw[<- e1];injection e2 with e2 _;rw[<- e2];show ht
 .subst hr;have e':b++[t]=(u++s::r')++[c]:=by rw[e];simp
  show h u s r' (Am e' rfl).1
def y6.front(h:y6 x (b++[t])):y6 x b/\t∈aI x b:=⟨λu s r e=>h u s (r++[t]) (by rw[e];simp),h b t [] rfl⟩
def y6.ok(h:y6 x b):ZY x b:=jE h
def P8(b:Q0e)(t:Int):bH (sortI b) t=sortI (b++[t]):=by unfold bH;show uE ((sortI_perm _).trans (((sortI_perm b).append_right [t]).trans (sortI_perm _).symm)) (iE _) (iE _)
theorem U6(hM:gU x kd)(h0:(bK kd.1 kd.2 (kS [] 0)).isSome=af):∀(n:Nat) (b:Q0e),b.length=n->y6 x b->(bK kd.1 kd.2 (kS (sortI b) (iC b))).isSome=af
 |0,b,hl,_=>by rw[Ij hl];show h0
 |n+1,b,hl,hb=>by
  rcases vq b with e|⟨u,t,e⟩
  .rw [e] at hl;cases hl
  .rw [Il] at e;subst e;obtain⟨hu,ht⟩:=hb.front;have hlu:u.length=n:=by rw[di] at hl;simpa using hl
   have ih:=U6 hM h0 n u hlu hu;have few:=sA hb.ok;rw[di] at few;have few:u.length+1<=x.length:=few;have hr:t∈aI x (sortI u):=by rw[vL λs=>(sortI_perm u).mem_iff];show ht
   have:=hM.2.2.2 (sortI u) (iC u) ih (by rw[(sortI_perm u).length_eq];lia) t hr;rw[P8] at this;have el:iC (u++[t])=t:=by unfold iC;simp
   rw[el];show this
theorem U7(hM:gU x kd)(h0:(bK kd.1 kd.2 (kS [] 0)).isSome=af)(hb:y6 x b):bK kd.1 kd.2 (kS (sortI b) (iC b))=aa (aG (Sh x (x.length-b.length) (sortI b) (iC b))):=by
 have h:=U6 hM h0 b.length b rfl hb
 cases e:bK kd.1 kd.2 (kS (sortI b) (iC b)) with
 |none=>rw[e] at h;cases h
 |some d =>
  have:=hM.2.2.1 _ _ d e;rw[(sortI_perm b).length_eq] at this;rw[this]
end
end LL
namespace qO
open L3 L4 Z0 LL
def jA{l:Q0e}{i:Nat}(h:i<l.length):η l i=l[i]:=by unfold η;rw[jr,bw h];rfl
def Rw(d N:Q0e)(i:Nat):Prop:=∀p q:Nat,p<q->q<i->η N p<η N q\/(η N p=η N q/\η d p<η d q)
def gF(d N:Q0e):List Int:=(bD 0 d.length).map λa=>η N (d.idxOf a)
def G0(d N:Q0e):(gF d N).length=d.length:=by unfold gF;rw[a_,aO]
def EE{d N:Q0e}(nd:d.Nodup)(hr:∀a∈d,0<=a/\a<(d.length:Int)){p:Nat}(hp:p<d.length):η (gF d N) (d[p])=η N p:=by have h:=hr d[p] (k_ hp);obtain⟨j,hj⟩:∃j:Nat,d[p]=(j:Int):=⟨d[p].toNat,by lia⟩;rw[hj];unfold gF;rw[Z9 ∅,<- hj,vw nd p hp]
def G2{d N:Q0e}(nd:d.Nodup)(hr:∀a∈d,0<=a/\a<(d.length:Int))(hN:N.length=d.length):d.map (η (gF d N))=N:=by show Ii (by rw[a_,hN]) λp h1 h2=>?_;rw[qd,EE nd hr ∅,jA h2]
def aAJ{d N:Q0e}(nd:d.Nodup)(hr:∀a∈d,0<=a/\a<(d.length:Int))(h:Rw d N d.length):d.Pairwise (Lk (gF d N)):=by rw[vj];intro p q hp hq hpq;have:=h p q hpq hq;unfold Lk;rw[EE nd hr hp,EE nd hr hq,<- jA hp,<- jA hq];show this
end qO
namespace bV
open L3 L4
def cL:jM:=bZ 1 1
  (bL (cZ eX (aA (cJ 1 [0] (bX (aA (aE gP (cZ b9 (aA (aB 0) aF)) (eC (.int 1))) aF)) (g1 0) (tV (aE pS (aE dQ (aB 1) (aB 0)) (aE dQ (aB 1) (aE cD (aB 0) (eC (.int 1)))))) (aB 0)) aF)))
def bW:jM:=bZ 1 1
  (iO (tV (aE GA (aB 0) (eC (.int 0))))
   (mH (aA (eC (.str "k is below 0")) aF) "NoNumber")
   d7)
def iG:jM:=bZ 2 2
  (bL (aE gP (aE gP (aE cD (aB 1) (cZ b9 (aA (aB 0) aF))) (eC (.int 1))) (cZ b9 (aA (aL cL (aA (aB 0) aF)) aF))))
def gG:jM:=bZ 2 2
  (aM (sX (bF (aL bW (aA (aB 1) aF))))
  (bL (aL LL.eJ (aA (aL iG (aA (aB 0) (aA (aB 1) aF))) (aA (cZ b9 (aA (aB 0) aF)) aF)))))
def eU:jM:=bZ 2 2
  (bL (aE gP (aB 1) (cZ b9 (aA (aL cL (aA (ZE (aB 0) ll (oE (aE cD (aB 1) (eC (.int 1))))) aF)) aF))))
def fA:jM:=bZ 6 3
  (aM (bG 3 (aE gP (aB 1) (eC (.int 1))))
  (aM (bG 4 (aB 0))
  (aM (TU TR (tV (aE pS (aE gP (aB 4) (aB 3)) (eC (.int 1))))
   (aM (bG 5 (aE pR (aE cD (aB 3) (aB 4)) (eC (.int 2))))
   (iO (tV (aE DI (aL LL.eJ (aA (aB 5) (aA (aB 1) aF))) (aB 2)))
    (bG 3 (aB 5))
    (bG 4 (aB 5)))))
  (bL (aB 3)))))
def jG:jM:=bZ 9 3
  (aM (bG 3 (aL gG (aA (aB 0) (aA (aB 1) aF))))
  (aM (iO (lO (tV (f7 DI GA (eC (.int 0)) (aB 2) (aB 3))))
   (mH (aA (eC (.str "no row has this number")) aF) "NoNumber")
   d7)
  (aM (bG 4 (aL iG (aA (aB 0) (aA (aB 1) aF))))
  (aM (bG 5 (aE gP (aE gP (aB 3) (eC (.int 1))) (aB 2)))
  (aM (bG 6 (aB 4))
  (aM (lQ 7 (iV aF))
  (aM (JR (fQ (bX (aA (cZ b9 (aA (aB 0) aF)) aF)) (qE 8)
   (aM (bG 6 (aL fA (aA (aB 6) (aA (aE gP (cZ b9 (aA (aB 0) aF)) (aB 8)) (aA (aB 5) aF)))))
   (aM (bG 5 (aE gP (aB 5) (aL LL.eJ (aA (aB 6) (aA (aE gP (cZ b9 (aA (aB 0) aF)) (aB 8)) aF)))))
   (sX (vZ 7 nX (bF (aE gP (aE gP (aB 4) (aB 6)) (aL eU (aA (aB 0) (aA (aB 8) aF)))))))))))
  (bL (cZ eX (aA (aB 7) aF))))))))))
def gL:jM:=bZ 3 3
  (aM (iO (tV (aB 2))
   (bL (aE GA (aE dQ (aB 0) (aB 1)) (aE dQ (aB 0) (aE cD (aB 1) (eC (.int 1))))))
   d7)
  (bL (aE DI (aE dQ (aB 0) (aB 1)) (aE dQ (aB 0) (aE cD (aB 1) (eC (.int 1)))))))
def g9:jM:=bZ 4 3
  (aM (iO (wU (tV (aE Y8 (cZ b9 (aA (aB 2) aF)) (cZ b9 (aA (aB 0) aF)))) (lO (tV (cZ allM (aA (cJ 1 [1] (cB (aB 2)) (g1 0) dO (f7 DI DI (eC (.int 1)) (aB 0) (aB 1))) aF)))))
   (bL (eC (.bl ag)))
   d7)
  (aM (bG 3 (aL cL (aA (aB 0) aF)))
  (bL (cZ allM (aA (cJ 1 [2,3] (bX (aA (aE gP (cZ b9 (aA (aB 2) aF)) (eC (.int 1))) aF)) (g1 0) dO (aL gL (aA (aB 1) (aA (aB 0) (aA (aE (xX ag) (aB 0) (aB 2)) aF))))) aF)))))
def gM:jM:=bZ 8 3
  (aM (bG 3 (aL gG (aA (aB 0) (aA (aB 1) aF))))
  (aM (iO (lO (tV (aL g9 (aA (aB 0) (aA (aB 1) (aA (aB 2) aF))))))
   (mH (aA (eC (.str "no row of the going")) aF) "NoRow")
   d7)
  (aM (bG 4 (aL iG (aA (aB 0) (aA (aB 1) aF))))
  (aM (bG 5 (eC (.int 0)))
  (aM (JR (fQ (nW (aA (aB 2) aF)) (JQ 6 7)
   (bG 5 (aE cD (aB 5) (aL LL.eJ (aA (aE gP (aE gP (aB 4) (aB 7)) (aL eU (aA (aB 0) (aA (aB 6) aF)))) (aA (aE gP (cZ b9 (aA (aB 2) aF)) (aB 6)) aF)))))))
  (bL (aE gP (aE gP (aB 3) (eC (.int 1))) (aB 5))))))))
def hJ:jM:=bZ 2 1
  (aM (bG 1 (eC (.str "NoThing Looped NoOrder NoNumber TooGreat NoGoing NoRow NoFilling NotLoose NotForest NoShape")))
  (aM (bG 1 (aE cD (aB 1) (eC (.str " NoName NoLine"))))
  (aM (iO (wU (tV (aE Y8 (aE wV (aB 0) (eC (.bl af))) (eC (.int 2)))) (lO (tV (aE dQ (aB 0) (eC (.int 13))))))
   (bL (eC (.str "other")))
   d7)
  (bL (aE dQ (aE splitM (aB 1) (eC (.str " "))) (aE wW (aB 0) (eC (.bl af))))))))
open Z0 LL
def run_eq(hl:ds.length=np)(h:Rt (b (c9 n ds)) λe=>e=d):bZ n np b ds=.ok d:=by obtain⟨d',e,rfl⟩:=mP hl h;show e
def jY(hw:w.length<=1000):cL [τ w]=.ok (τ (uH w)):=by unfold cL;show eT rfl (dY (cN (x:=aG (uH w)) (Ss (.inl rfl) hw rfl rfl) rfl))
def aQ(w:Q0e)(k:Int):Int:=k+w.length-1-(uH w).length
def fR(w:Q0e)(i:Nat):Int:=i-(uH (w.take (i+1))).length
def dR:b9 [τ l]=aa (.int l.length):=by unfold τ;rw[kL,a_]
def KA(hw:w.length<=1000):iG [τ w,.int k]=.ok (.int (aQ w k)):=by unfold iG;show eT rfl (dY ?_);show aU (x:=.int (k+w.length-1)) (y:=.int (uH w).length) (aU (x:=.int (k+w.length)) (y:=.int 1) (aU (x:=.int k) (y:=.int w.length) rfl (cN (x:=τ w) rfl dR) rfl) rfl rfl) (cN (x:=τ (uH w)) (e9 rfl (jY hw)) dR) rfl
def kB(h:0<=k):bW [.int k]=.ok .non:=by have e:(iO (tV (aE GA (aB 0) (eC (.int 0)))) (mH (aA (eC (.str "k is below 0")) aF) "NoNumber") d7) (c9 1 [D.int k])=.nx [.ro (.int k)]:=mL (iQ (d:=.bl (Zv (k<0))) (aU (x:=.int k) (y:=.int 0) rfl rfl rfl) (by rw[Zy ∅];rfl)) rfl;unfold bW bZ;rw[Z_ (show[D.int k].length=1 from rfl),e]
def NY(hw:w.length<=12)(h0:0<=k)(hb:Bg 210 (aQ w k)):gG [τ w,.int k]=.ok (.int (C (aQ w k) w.length)):=by unfold gG;show eT rfl (bT [.ro (τ w),.ro (.int k)] ?_ (dY (cP (x:=.int (aQ w k)) (y:=.int w.length) (cP rfl rfl (KA ∅)) (cN (x:=τ w) rfl dR) (kA hb hw))));unfold sX bF;rw[e9 (x:=.int k) (d:=.non) rfl (kB h0)];rfl
def G3{w:Q0e}{i:Nat}(h:i<w.length):(w.take (i+1)).length=i+1:=by rw[kz];lia
abbrev gT:TF:=tV (aE pS (aE gP (aB 4) (aB 3)) (eC (.int 1)))
abbrev gB:SF:=aM (bG 5 (aE pR (aE cD (aB 3) (aB 4)) (eC (.int 2))))
   (iO (tV (aE DI (aL LL.eJ (aA (aB 5) (aA (aB 1) aF))) (aB 2)))
    (bG 3 (aB 5))
    (bG 4 (aB 5)))
theorem aAK{m:Nat}(h1:1<=m)(hm:m<=12){bd most:Int}:∀(p N:Nat) (low high:Int) (v5:Sv),p<N->low<high->high-low<=2^p->(m:Int)<=low+1->C low m<=most->most<C high m->Bg 210 high ->
  ∃x h' v',fJ gT gB N [.ro (.int bd),.ro (.int m),.ro (.int most),.ro (.int low),.ro (.int high),v5]=.nx [.ro (.int bd),.ro (.int m),.ro (.int most),.ro (.int x),h',v']/\Pick m most x/\x<high:=by
 intro p
 induction p with
 |zero =>
  intro N low high v5 hN hl hd hm2 hc1 hc2 hb;obtain⟨N,rfl⟩:∃n,N=n+1:=⟨N-1,by lia⟩;have e:high=low+1:=by rw[show(2:Int)^0=1 from rfl] at hd;lia
  show⟨low,.ro (.int high),v5,?_,⟨hm2,hc1,by rw[<- e];show hc2⟩,hl⟩;have t:gT (bR [.ro (.int bd),.ro (.int m),.ro (.int most),.ro (.int low),.ro (.int high),v5])=aa ag:=iQ (d:=.bl (Zv (1<high-low))) (aU (x:=.int (high-low)) (y:=.int 1) rfl rfl rfl) (by rw[Zy ∅];rfl);unfold fJ;rw[t]
 |succ p ih =>
  intro N low high v5 hN hl hd hm2 hc1 hc2 hb;obtain⟨N,rfl⟩:∃n,N=n+1:=⟨N-1,by lia⟩;by_cases hs:1<high-low
  .have t:gT (bR [.ro (.int bd),.ro (.int m),.ro (.int most),.ro (.int low),.ro (.int high),v5])=aa af:=iQ (d:=.bl (Zv (1<high-low))) (aU (x:=.int (high-low)) (y:=.int 1) rfl rfl rfl) (by rw[Zx hs];rfl);have hp:(2:Int)^(p+1)=2*2^p:=by rw[a2n,oi]
   rw[hp] at hd;generalize (2:Int)^p=P at hd ih;have m1:low<(low+high)/2:=by lia
   have m2:(low+high)/2<high:=by lia
   have bm:Bg 210 ((low+high)/2):=by unfold Bg at hb ⊢;lia
   have s5:bG 5 (aE pR (aE cD (aB 3) (aB 4)) (eC (.int 2))) [.ro (.int bd),.ro (.int m),.ro (.int most),.ro (.int low),.ro (.int high),v5]=.nx [.ro (.int bd),.ro (.int m),.ro (.int most),.ro (.int low),.ro (.int high),.ro (.int ((low+high)/2))]:=dZ (.int ((low+high)/2)) (aU (x:=.int (low+high)) (y:=.int 2) rfl rfl (kK (by decide) (by decide))) rfl;by_cases hc:C ((low+high)/2) m<=most
   .obtain ⟨x,h',v',e,pk,hx⟩:=ih N ((low+high)/2) high (.ro (.int ((low+high)/2))) ∅ m2 ∅ ∅ hc hc2 hb;show⟨x,h',v',?_,pk,hx⟩;have b:gB [.ro (.int bd),.ro (.int m),.ro (.int most),.ro (.int low),.ro (.int high),v5]=.nx [.ro (.int bd),.ro (.int m),.ro (.int most),.ro (.int ((low+high)/2)),.ro (.int high),.ro (.int ((low+high)/2))]:=bT _ s5 (wB (iQ (d:=.bl (Zv (C ((low+high)/2) m<=most))) (aU (x:=.int (C ((low+high)/2) m)) (y:=.int most) (cP rfl rfl (kA bm hm)) rfl rfl) (by rw[Zx hc];rfl)) rfl);unfold fJ;rw[t];dsimp only;rw[b];show e
   .obtain ⟨x,h',v',e,pk,hx⟩:=ih N low ((low+high)/2) (.ro (.int ((low+high)/2))) ∅ m1 ∅ hm2 hc1 ∅ bm;show⟨x,h',v',?_,pk,by lia⟩;have b:gB [.ro (.int bd),.ro (.int m),.ro (.int most),.ro (.int low),.ro (.int high),v5]=.nx [.ro (.int bd),.ro (.int m),.ro (.int most),.ro (.int low),.ro (.int ((low+high)/2)),.ro (.int ((low+high)/2))]:=bT _ s5 (mL (iQ (d:=.bl (Zv (C ((low+high)/2) m<=most))) (aU (x:=.int (C ((low+high)/2) m)) (y:=.int most) (cP rfl rfl (kA bm hm)) rfl rfl) (by rw[Zy hc];rfl)) rfl);unfold fJ;rw[t];dsimp only;rw[b];show e
  .refine ⟨low,.ro (.int high),v5,?_,⟨hm2,hc1,by rw[show low+1=high by lia];show hc2⟩,hl⟩;have t:gT (bR [.ro (.int bd),.ro (.int m),.ro (.int most),.ro (.int low),.ro (.int high),v5])=aa ag:=iQ (d:=.bl (Zv (1<high-low))) (aU (x:=.int (high-low)) (y:=.int 1) rfl rfl rfl) (by rw[Zy hs];rfl);unfold fJ;rw[t]
def U8{m:Nat}(h1:1<=m)(hm:m<=12){bd most:Int}(hb:Bg 210 bd)(h0:0<=most)(hlt:most<C bd m)(hbd:(m:Int)<=bd):∃x,fA [.int bd,.int m,.int most]=.ok (.int x)/\Pick m most x/\x<bd:=by unfold fA;have hz:C ((m:Int)-1) m=0:=JZ ∅ ∅;obtain⟨x,h',v',e,pk,hx⟩:=aAK h1 hm (bd:=bd) (most:=most) 210 TR ((m:Int)-1) bd .no (by decide) ∅ (by unfold Bg at hb;lia) ∅ ∅ hlt hb;show⟨x,eT rfl (bT [.ro (.int bd),.ro (.int m),.ro (.int most),.ro (.int ((m:Int)-1)),.no,.no] rfl (bT [.ro (.int bd),.ro (.int m),.ro (.int most),.ro (.int ((m:Int)-1)),.ro (.int bd),.no] rfl (bT _ e (dY rfl)))),pk,hx⟩
def y7{w:Q0e}{i:Nat}(h:i<w.length):slM (τ w) ae (aa ((i:Int)+1))=aa (τ (w.take (i+1))):=by show aa (D.tup (GC (w.map D.int) ae (aa ((i:Int)+1))))=_;unfold GC PQ τ;dsimp only;rw[Zz ∅];rw[nz,a_,pz,show min ((i:Int)+1).toNat w.length=i+1 by lia,Hx]
theorem rY{w:Q0e}{i:Nat}(hw:w.length<=1000)(h:i<w.length):eU [τ w,.int i]=.ok (.int (fR w i)):=by unfold eU;show eT rfl (dY ?_);show aU (x:=.int i) (y:=.int (uH (w.take (i+1))).length) rfl (cN (x:=τ (uH (w.take (i+1)))) (e9 (x:=τ (w.take (i+1))) ?_ (jY (by rw[G3 h];lia))) dR) rfl;unfold ZE;show(slM (τ w) ae (aa ((i:Int)+1)))=_;show y7 h
noncomputable def dE(w:Q0e)(t:Int):Nat->List Int->List Int
 |_,[]=>[]
 |i,a::c=>(t-a-fR w i)::dE w t (i+1) c
theorem gH(w:Q0e)(t:Int):∀(i:Nat) (c:Q0e),(dE w t i c).length=c.length
 |_,[]=>rfl
 |i,a::c=>by show(dE w t (i+1) c).length+1=_;rw[gH w t (i+1) c];rfl
theorem G4(w:Q0e)(t a:Int):∀(i:Nat) (c:Q0e),dE w t i (c++[a])=dE w t i c++[t-a-fR w (i+c.length)]
 |i,[]=>rfl
 |i,b::c=>by show(t-b-fR w i)::dE w t (i+1) (c++[a])=_;rw[G4 w t a (i+1) c,show i+1+c.length=i+(b::c).length by simp only[cx];lia];rfl
def KC(h:Nx (f ρ) Q):Nx (JR f ρ) Q:=by obtain⟨ρ',e,q⟩:=h;show⟨ρ',by unfold JR;rw[e],q⟩
def EG(ha:a ρ=aa x)(hb:b ρ=aa y)(hc:c ρ=aa w)(h1:f x y=aa (.bl af))(h2:g y w=aa z):f7 f g a b c ρ=aa z:=by unfold f7;rw[ha,hb,hc];simp only[c_,h1,nV,if_true,h2]
def U9(ha:a ρ=aa x)(hb:b ρ=aa y)(h1:f x y=aa (.bl ag)):f7 f g a b c ρ=aa (.bl ag):=by unfold f7;rw[ha,hb];simp only[c_,h1,nV];rfl
def Sr(h0:0<=x)(h:0<C x m):(m:Int)<=x:=by show mi λq=>?_;rw[JZ h0 ∅] at h;lia
def VA(h0:0<=x)(h:x<=y)(hb:Bg 210 y):Bg 210 x:=by unfold Bg at hb ⊢;lia
theorem P9{w:Q0e}{k N:Int}(hw:w.length<=9)(h0:0<=k)(hb:Bg 210 (aQ w k))(ht:w.length=0\/0<=aQ w k)(hN:0<=N)(lp:N<C (aQ w k) w.length):
  ∃c:Q0e,c.length=w.length/\Gd c (C (aQ w k) w.length-1-N)/\jG [τ w,.int k,.int N]=.ok (τ (dE w (aQ w k) 0 c)):=by
 generalize hM:C (aQ w k) w.length=M at lp ⊢;have em:=NY ∅ h0 hb;rw[hM] at em;have main:∃d,jG [τ w,.int k,.int N]=.ok d /\∃c:Q0e,c.length=w.length/\Gd c (M-1-N)/\d=τ (dE w (aQ w k) 0 c):=by
  unfold jG;show mP rfl ?_;show aZ [.ro (τ w),.ro (.int k),.ro (.int N),.ro (.int M),.no,.no,.no,.no,.no] (dZ (.int M) (cP rfl rfl em) rfl) ?_;show aZ [.ro (τ w),.ro (.int k),.ro (.int N),.ro (.int M),.no,.no,.no,.no,.no] (mL (NC (b:=af) (iQ (d:=.bl af) ?_ rfl) rfl) rfl) ?_
  .exact EG (x:=.int 0) (y:=.int N) (w:=.int M) rfl rfl rfl (show aa (D.bl (Zv (0<=N)))=_ by rw[Zx hN]) (show aa (D.bl (Zv (N<M)))=_ by rw[Zx lp])
  show aZ [.ro (τ w),.ro (.int k),.ro (.int N),.ro (.int M),.ro (.int (aQ w k)),.no,.no,.no,.no] (dZ (.int (aQ w k)) (cP rfl rfl (KA ∅)) rfl) ?_;show aZ [.ro (τ w),.ro (.int k),.ro (.int N),.ro (.int M),.ro (.int (aQ w k)),.ro (.int (M-1-N)),.no,.no,.no] rfl ?_;show aZ [.ro (τ w),.ro (.int k),.ro (.int N),.ro (.int M),.ro (.int (aQ w k)),.ro (.int (M-1-N)),.ro (.int (aQ w k)),.no,.no] rfl ?_;show aZ [.ro (τ w),.ro (.int k),.ro (.int N),.ro (.int M),.ro (.int (aQ w k)),.ro (.int (M-1-N)),.ro (.int (aQ w k)),.ow (aG []),.no] rfl ?_;show kN (λρ=>∃(c:Q0e) (v5 v6 v8:Sv),c.length=w.length/\Gd c (M-1-N)/\ρ=[.ro (τ w),.ro (.int k),.ro (.int N),.ro (.int M),.ro (.int (aQ w k)),v5,v6,.ow (aG (dE w (aQ w k) 0 c)),v8]) (KC ?_) ?_
  .refine nZ w.length (λi ρ=>∃(c:Q0e) (L B:Int) (v8:Sv),c.length=i/\(w.length=0\/0<=L)/\L<=aQ w k/\0<=B/\B<C L (w.length-i)/\(∀r:Q0e,r.length=w.length-i->Gd r B->Gd (c++r) (M-1-N))/\ρ=[.ro (τ w),.ro (.int k),.ro (.int N),.ro (.int M),.ro (.int (aQ w k)),.ro (.int B),.ro (.int L),.ow (aG (dE w (aQ w k) 0 c)),v8]) (args1 (cN (x:=τ w) rfl dR)) ∅ ⟨[],aQ w k,M-1-N,.no,rfl,ht,oj _,by lia,by rw[pz,hM];lia,λr _ h=>h,rfl⟩ (λi ρ hi ⟨c,L,B,v8,hc,tu,Bh,Bl,Bk,hg,e⟩=>?_) λρ ⟨c,L,B,v8,hc,tu,Bh,Bl,Bk,hg,e⟩=>⟨c,_,_,v8,hc,by have:=hg [] (by simp) trivial;rwa [ij] at this,e⟩;subst e;have tu:0<=L:=by lia
   obtain⟨m,em⟩:∃m:Nat,w.length-i=m+1:=⟨w.length-i-1,by lia⟩;have Km:=Sr tu (show 0<C L (w.length-i) by lia);obtain⟨x,ex,pk,hx⟩:=U8 (m:=w.length-i) ∅ ∅ (VA tu Bh hb) Bl Bk Km;obtain⟨p1,p2,p3⟩:=id pk;have hx0:0<=x:=by lia
   have hsub:aE gP (cZ b9 (aA (aB 0) aF)) (aB 8) [aa (τ w),aa (.int k),aa (.int N),aa (.int M),aa (.int (aQ w k)),aa (.int B),aa (.int L),ae,aa (.int i)]=aa (.int ((w.length-i:Nat):Int)):=aU (x:=.int w.length) (y:=.int i) (cN (x:=τ w) rfl dR) rfl (by rw[Ip ∅];rfl);have hsub2:aE gP (cZ b9 (aA (aB 0) aF)) (aB 8) [aa (τ w),aa (.int k),aa (.int N),aa (.int M),aa (.int (aQ w k)),aa (.int B),aa (.int x),ae,aa (.int i)]=aa (.int ((w.length-i:Nat):Int)):=aU (x:=.int w.length) (y:=.int i) (cN (x:=τ w) rfl dR) rfl (by rw[Ip ∅];rfl);show⟨[.ro (τ w),.ro (.int k),.ro (.int N),.ro (.int M),.ro (.int (aQ w k)),.ro (.int B),.ro (.int L),.ow (aG (dE w (aQ w k) 0 c)),.ro (.int i)],rfl,?_⟩;show mO [.ro (τ w),.ro (.int k),.ro (.int N),.ro (.int M),.ro (.int (aQ w k)),.ro (.int B),.ro (.int x),.ow (aG (dE w (aQ w k) 0 c)),.ro (.int i)] (dZ (.int x) (dA (x:=.int L) (y:=.int ((w.length-i:Nat):Int)) (z:=.int B) rfl hsub rfl ex) rfl) ?_;show mO [.ro (τ w),.ro (.int k),.ro (.int N),.ro (.int M),.ro (.int (aQ w k)),.ro (.int (B-C x (w.length-i))),.ro (.int x),.ow (aG (dE w (aQ w k) 0 c)),.ro (.int i)] (dZ (.int (B-C x (w.length-i))) (aU (x:=.int B) (y:=.int (C x (w.length-i))) rfl (cP (x:=.int x) (y:=.int ((w.length-i:Nat):Int)) rfl hsub2 (kA (VA hx0 ∅ hb) ∅)) rfl) rfl) ?_;have hst:C (x+1) (w.length-i)=C x (w.length-i)+C x (w.length-(i+1)):=by rw[em,show w.length-(i+1)=m by lia];have:=uG x m;lia
   show⟨_,Dg (d:=.int (aQ w k-x-fR w i)) (ds:=(dE w (aQ w k) 0 c).map D.int) (aU (x:=.int (aQ w k-x)) (y:=.int (fR w i)) rfl (cP rfl rfl (rY ∅ hi)) rfl) rfl (by rw[a_,gH];lia),c++[x],x,B-C x (w.length-i),.ro (.int i),by simp[hc],.inr hx0,by lia,by lia,by lia,λr hr hgr=>?_,?_⟩
   .have:=hg (x::r) (by simp only[cx];lia) ⟨by rw[show r.length+1=w.length-i by lia];show pk,by rw[show r.length+1=w.length-i by lia];show hgr⟩
    rwa [og]
   .rw [G4,hc,kj];unfold aG;rw[g_];rfl
  .rintro _ ⟨c,v5,v6,v8,h1,h2,rfl⟩;show kO (τ (dE w (aQ w k) 0 c)) (cN (x:=aG (dE w (aQ w k) 0 c)) rfl mJ) ⟨c,h1,h2,rfl⟩
 obtain⟨d,e,c,h1,h2,rfl⟩:=main;show⟨c,h1,h2,e⟩
def G5{w:Q0e}{i:Nat}{k:Int}(h0:0<=k)(h:k<=i):η (w.take (i+1)) k=η w k:=by unfold η;rw[Aj ∅]
def y9(h:i<w.length):uH (w.take (i+1))=(bD 0 i).filter λk=>Zv (η w k>η w (k+1)):=by unfold uH;rw[G3 h,show(((i+1:Nat):Int)-1).toNat=i by lia];show Ie λk hk=>?_;have:=aT.1 hk;rw[G5 ∅ ∅,G5 ∅ ∅]
def fl(w:Q0e)(i:Nat):Int:=if η w i>η w ((i:Int)+1) then 1 else 0
def VB(h:0<w.length):fR w 0=0:=by unfold fR;rw[y9 h];rfl
def zA(h:i+1<w.length):fR w (i+1)=fR w i+1-fl w i:=by
 unfold fR fl;rw[y9 h,y9 ∅,BS,Ig,di,j_];by_cases c:η w i>η w ((i:Int)+1)
 .rw [Z_ c,List.filter_cons_of_pos (by simpa using c)];simp only[a2c,cx,iq];lia
 .rw [Zz c,List.filter_cons_of_neg (by simpa using c)];simp only[a2c,iq];lia
def G6(h:0<w.length):aQ w k-fR w (w.length-1)=k:=by unfold aQ fR;rw[show w.length-1+1=w.length by lia,rf (bg _)];lia
theorem Eg(w:Q0e)(i:Nat):0<=fl w i/\fl w i<=1:=by unfold fl;split<;>lia
noncomputable def QA(w:Q0e)(k:Int):Nat->Int->List Int->Prop
 |_,_,[]=>True
 |i,lo,e::r=>lo<=e/\e<=k/\QA w k (i+1) (e+fl w i) r
theorem NZ:∀(r:Q0e) (i:Nat) (lo:Int),i+r.length=w.length->QA w k i lo r->Dec (aQ w k-lo-fR w i+1) (dE w (aQ w k) i r)
 |[],_,_,_,_=>trivial
 |e::r,i,lo,hl,⟨h1,h2,h3⟩=>by
  have hl:i+(r.length+1)=w.length:=hl;have ih:=NZ r (i+1) (e+fl w i) ∅ h3;show⟨by lia,?_,?_⟩
  .rw [gH]
   cases r with
   |nil =>
    have:=G6 (w:=w) (k:=k) ∅;rw[show w.length-1=i by simp only[iq] at hl;lia] at this;simp only[iq];lia
   |cons f r =>
    obtain⟨g1,g2,_⟩:=ih;rw[gH] at g2;have:=zA (w:=w) (i:=i) (by simp only[cx] at hl;lia);simp only[cx];lia
  .cases r with
   |nil=>trivial
   |cons f r =>
    have:=zA (w:=w) (i:=i) (by simp only[cx] at hl;lia);rw[show aQ w k-e-fR w i=aQ w k-(e+fl w i)-fR w (i+1)+1 by lia];show ih
theorem N0:∀(c:Q0e) (i:Nat) (lo:Int),i+c.length=w.length->Dec (aQ w k-lo-fR w i+1) c->QA w k i lo (dE w (aQ w k) i c) /\∀a∈c.head?,aQ w k-a-fR w i<=k
 |[],_,_,_,_=>⟨trivial,λa h=>(nomatch h)⟩
 |a::c,i,lo,hl,⟨h1,h2,h3⟩=>by
  have hl:i+(c.length+1)=w.length:=hl
  cases c with
  |nil =>
   have:=G6 (w:=w) (k:=k) ∅;rw[show w.length-1=i by simp only[iq] at hl;lia] at this;simp only[iq] at h2;have hk:aQ w k-a-fR w i<=k:=by lia
   show⟨⟨by lia,hk,trivial⟩,λb hb=>by cases hb;show hk⟩
  |cons b c =>
   have hl2:i+1+(b::c).length=w.length:=by lia
   have hr:=zA (w:=w) (i:=i) (by simp only[cx] at hl2;lia);have ih:=N0 (k:=k) (b::c) (i+1) (aQ w k-a-fR w i+fl w i) hl2 (by
    rw[show aQ w k-(aQ w k-a-fR w i+fl w i)-fR w (i+1)+1=a by lia];show h3)
   have hb:=ih.2 b rfl;have hf:=Eg w i;have hab:b<a:=h3.1;have hk:aQ w k-a-fR w i<=k:=by lia
   show⟨⟨by lia,hk,ih.1⟩,λb hb=>by cases hb;show hk⟩
theorem i5(w:Q0e)(t:Int):∀(i:Nat) (c:Q0e),dE w t i (dE w t i c)=c
 |_,[]=>rfl
 |i,a::c=>by show(t-(t-a-fR w i)-fR w i)::dE w t (i+1) (dE w t (i+1) c)=_;rw[i5 w t (i+1) c,show t-(t-a-fR w i)-fR w i=a by lia]
theorem VC:∀(i:Nat) (c d:Q0e),Lw c d->dC (dE w t i d) (dE w t i c)=af
 |i,[],_,h=>by cases h
 |i,_::_,[],h=>by cases h
 |i,a::c,b::d,h=>by
  show(if t-b-fR w i=t-a-fR w i then dC (dE w t (i+1) d) (dE w t (i+1) c) else Zv (t-b-fR w i<t-a-fR w i))=af;rcases h with h|⟨h,g⟩
  .rw [Zz ∅];show Zx ∅
  .rw [Z_ ∅];show VC (i+1) c d g
theorem G7(w:Q0e)(t:Int):∀(r:Q0e) (i j:Nat) (e:Int),r[j]?=aa e->(dE w t i r)[j]?=aa (t-e-fR w (i+j))
 |[],_,_,_,h=>by cases h
 |a::r,i,0,e,h=>by cases h;rfl
 |a::r,i,j+1,e,h=>by have:=G7 w t r (i+1) j e h;rw[show i+1+j=i+(j+1) by lia] at this;show this
theorem N2:∀{c:Q0e} {t:Int} {j:Nat} {a:Int},Dec t c->c[j]?=aa a->0<=a/\a<t
 |[],_,_,_,_,h=>by cases h
 |b::c,t,0,a,⟨h1,h2,h3⟩,h=>by cases h;show⟨by lia,h1⟩
 |b::c,t,j+1,a,⟨h1,h2,h3⟩,h=>by have:=N2 h3 (show c[j]?=aa a from h);lia
def aAL{c:Q0e}{j:Nat}{a:Int}(h:c[j]?=aa a):rk (c.drop j)=C a (c.length-j)+rk (c.drop (j+1)):=by obtain⟨hj,e⟩:=cb.1 h;rw[r_ hj,e];show C a ((c.drop (j+1)).length+1)+_=_;rw[qc,show c.length-(j+1)+1=c.length-j by lia]
theorem A3{w r:Q0e}{k:Int}(hw:w.length<=9)(h0:0<=k)(hb:Bg 210 (aQ w k))(hr:g9 [τ w,.int k,τ r]=.ok (.bl af))(hl:r.length=w.length)(hd:Dec (aQ w k) (dE w (aQ w k) 0 r)):
  gM [τ w,.int k,τ r]=.ok (.int (C (aQ w k) w.length-1-rk (dE w (aQ w k) 0 r))):=by
 have em:=NY ∅ h0 hb;generalize hM:C (aQ w k) w.length=M at em ⊢;generalize hc:dE w (aQ w k) 0 r=c at hd ⊢;have hcl:c.length=w.length:=by rw[<- hc,gH,hl]
 unfold gM;show run_eq rfl ?_;show aZ [.ro (τ w),.ro (.int k),.ro (τ r),.ro (.int M),.no,.no,.no,.no] (dZ (.int M) (cP rfl rfl em) rfl) ?_;show aZ [.ro (τ w),.ro (.int k),.ro (τ r),.ro (.int M),.no,.no,.no,.no] (mL (NC (b:=af) (iQ (d:=.bl af) (dA rfl rfl rfl hr) rfl) rfl) rfl) ?_;show aZ [.ro (τ w),.ro (.int k),.ro (τ r),.ro (.int M),.ro (.int (aQ w k)),.no,.no,.no] (dZ (.int (aQ w k)) (cP rfl rfl (KA ∅)) rfl) ?_;show aZ [.ro (τ w),.ro (.int k),.ro (τ r),.ro (.int M),.ro (.int (aQ w k)),.ro (.int 0),.no,.no] rfl ?_;show kN (λρ=>∃v6 v7,ρ=[.ro (τ w),.ro (.int k),.ro (τ r),.ro (.int M),.ro (.int (aQ w k)),.ro (.int (rk c)),v6,v7]) (KC ?_) λρ ⟨v6,v7,e⟩=>by subst e;show kO _ rfl rfl
 show uC ((r.map D.int).zipIdx.map λp=>.tup [.int (p.2:Int),p.1]) (λj ρ=>∃(B:Int) (v6 v7:Sv),B+rk (c.drop j)=rk c/\ρ=[.ro (τ w),.ro (.int k),.ro (τ r),.ro (.int M),.ro (.int (aQ w k)),.ro (.int B),v6,v7]) rfl ⟨0,.no,.no,by rw[nz];lia,rfl⟩ (λj d ρ hd2 ⟨B,v6,v7,hB,e⟩=>?_) λρ ⟨B,v6,v7,hB,e⟩=>⟨v6,v7,by
  rw[a_,a16,a_,List.drop_of_length_le ∅] at hB;rw[e,<- hB];show _=[_,_,_,_,_,Sv.ro (.int (B+0)),_,_];rw[vx]⟩
 subst e;rw[cf,Ai,cf] at hd2;obtain⟨q,hq,rfl⟩:=ip.1 hd2;obtain⟨q2,hq2,rfl⟩:=ip.1 hq;obtain⟨a,ha,rfl⟩:=ip.1 hq2;have hj:j<r.length:=(cb.1 ha).1;have hca:c[j]?=aa (aQ w k-a-fR w j):=by
  have:=G7 w (aQ w k) r 0 j a ha
  rwa [hc,kj] at this
 have hrg:=N2 hd hca;show⟨[.ro (τ w),.ro (.int k),.ro (τ r),.ro (.int M),.ro (.int (aQ w k)),.ro (.int B),.ro (.int (j:Int)),.ro (.int a)],by rw[kj];rfl,?_⟩;show DW (.int (B+C (aQ w k-a-fR w j) (r.length-j))) (aU (x:=.int B) (y:=.int (C (aQ w k-a-fR w j) (r.length-j))) rfl (cP (x:=.int (aQ w k-a-fR w j)) (y:=.int ((r.length-j:Nat):Int)) (aU (x:=.int (aQ w k-a)) (y:=.int (fR w j)) rfl (cP rfl rfl (rY ∅ ∅)) rfl) (aU (x:=.int r.length) (y:=.int j) (cN (x:=τ r) rfl dR) rfl (by rw[Ip ∅];rfl)) (kA (VA hrg.1 ∅ hb) ∅)) rfl) ⟨_,_,_,?_,rfl⟩;have:=aAL hca;rw[hcl,<- hl] at this;lia
def TH(k e:Int):Bool:=Zv (1<=e)&&Zv (e<=k)
def G8(w r:Q0e)(p:Int):Bool:=Zv (η r p+(if η w p>η w (p+1) then 1 else 0)<=η r (p+1))
def VD(w:Q0e)(k:Int)(r:Q0e):Bool:=r.all (TH k)&&(bD 0 ((r.length:Int)-1).toNat).all (G8 w r)
def VE(h0:0<=p)(h:p<(r.length:Int)):dQ (τ r) (.int p)=aa (.int (η r p)):=by obtain⟨n,rfl⟩:∃n:Nat,p=(n:Int):=⟨p.toNat,by lia⟩;show mQ ?_;rw[mW,bw ∅];rfl
theorem aAM(h0:0<=p)(h:p+1<(r.length:Int)):gL [τ r,.int p,.bl b]=.ok (.bl (if b=af then Zv (η r p<η r (p+1)) else Zv (η r p<=η r (p+1)))):=by
 unfold gL;have e1:∀{v:Sv},aE dQ (aB 0) (aB 1) (bR [.ro (τ r),.ro (.int p),v])=aa (.int (η r p)):=λ{v}=>aU (x:=τ r) (y:=.int p) rfl rfl (VE h0 ∅);have e2:∀{v:Sv},aE dQ (aB 0) (aE cD (aB 1) (eC (.int 1))) (bR [.ro (τ r),.ro (.int p),v])=aa (.int (η r (p+1))):=λ{v}=>aU (x:=τ r) (y:=.int (p+1)) rfl rfl (VE ∅ h)
 cases b with
 |true =>
  show run_eq rfl (xB ?_);show⟨_,wB (iQ (d:=.bl af) rfl rfl) (dY (aU (x:=.int (η r p)) (y:=.int (η r (p+1))) e1 e2 rfl)),rfl⟩
 |false =>
  show eT rfl (bT [.ro (τ r),.ro (.int p),.ro (.bl ag)] (mL (iQ (d:=.bl ag) rfl rfl) rfl) (dY (aU (x:=.int (η r p)) (y:=.int (η r (p+1))) e1 e2 rfl)))
def aAN(h0:0<=p)(h:p+1<(w.length:Int)):(uH w).contains p=Zv (η w p>η w (p+1)):=by rw[mj,List.contains_iff_mem,decide_eq_true_eq];unfold uH;rw[ji,decide_eq_true_eq];show⟨λq=>q.2,λq=>⟨aT.2 ⟨h0,by lia⟩,q⟩⟩
def QB(hw:w.length<=9)(hl:r.length=w.length):g9 [τ w,.int k,τ r]=.ok (.bl (VD w k r)):=by
 unfold g9;have c1:∀{v:Sv},cZ allM (aA (cJ 1 [1] (cB (aB 2)) (g1 0) dO (f7 DI DI (eC (.int 1)) (aB 0) (aB 1))) aF) (bR [.ro (τ w),.ro (.int k),.ro (τ r),v])=aa (.bl (r.all (TH k))):=λ{v}=>by
  show cN (x:=.lst ((r.map (TH k)).map D.bl)) ?_ (by rw[mM,qf];rfl);rw[de];show fY (r.map D.int) rfl (by rw[a_];lia) (dP D.int (λe=>.bl (TH k e)) _ λe _=>⟨[aa (.int e),aa (.int k)],rfl,?_⟩);unfold TH;by_cases h:1<=e
  .exact EG (x:=.int 1) (y:=.int e) (w:=.int k) rfl rfl rfl (show aa (D.bl (Zv (1<=e)))=_ by rw[Zx h]) (show aa (D.bl (Zv (e<=k)))=_ by rw[Zx h,vy])
  .rw [Zy h,sr];show U9 (x:=.int 1) (y:=.int e) rfl rfl (show aa (D.bl (Zv (1<=e)))=_ by rw[Zy h])
 have ne:∀{v:Sv},tV (aE Y8 (cZ b9 (aA (aB 2) aF)) (cZ b9 (aA (aB 0) aF))) (bR [.ro (τ w),.ro (.int k),.ro (τ r),v])=aa ag:=λ{v}=>iQ (d:=.bl (!Zv ((r.length:Int)=w.length))) (aU (x:=.int r.length) (y:=.int w.length) (cN (x:=τ r) rfl dR) (cN (x:=τ w) rfl dR) rfl) (by rw[Zx ∅];rfl);unfold VD;by_cases hA:r.all (TH k)=af
 .rw [hA,vy];show eT rfl (bT [.ro (τ w),.ro (.int k),.ro (τ r),.no] (mL (yN (b:=ag) ne (λ_=>NC (b:=af) (iQ (d:=.bl af) ((c1 (v:=.no)).trans (by rw[hA])) rfl) rfl) λh=>by cases h) rfl) (bT [.ro (τ w),.ro (.int k),.ro (τ r),.ro (τ (uH w))] (dZ (τ (uH w)) (e9 rfl (jY ∅)) rfl) (dY ?_)));show cN (x:=.lst (((bD 0 ((r.length:Int)-1).toNat).map (G8 w r)).map D.bl)) ?_ (by rw[mM,qf];rfl);rw[de];show fY ((bD 0 ((r.length:Int)-1).toNat).map D.int) ?_ (by rw[a_,aO];lia) (dP D.int (λp=>.bl (G8 w r p)) _ λp hp=>⟨[aa (.int p),aa (τ r),aa (τ (uH w))],rfl,?_⟩)
  .unfold bX;rw[args1 (x:=.int ((r.length:Int)-1)) (aU (x:=.int r.length) (y:=.int 1) (cN (x:=τ r) rfl dR) rfl rfl)];show(if _ then _ else _)=_;rw[Z_ ∅]
  .have hq:=aT.1 hp;have e3:=dA (f:=gL) (a:=aB 1) (b:=aB 0) (c:=aE (xX ag) (aB 0) (aB 2)) (ρ:=[aa (.int p),aa (τ r),aa (τ (uH w))]) (x:=τ r) (y:=.int p) (z:=.bl ((uH w).contains p)) rfl rfl (aU rfl rfl pG) (aAM ∅ ∅);rw[e3,aAN ∅ ∅];unfold G8;by_cases c:η w p>η w (p+1)
   .rw [Zx c,Z_ rfl,Z_ c];congr 2
   .rw [Zy c,Zz (by decide),Zz c];congr 2;show decide_eq_decide.2 ∅
 .have hA:r.all (TH k)=ag:=by simpa using hA
  rw[hA,sr];show run_eq rfl (xB ⟨_,wB (yN (b:=ag) ne (λ_=>NC (b:=ag) (iQ (d:=.bl ag) ((c1 (v:=.no)).trans (by rw[hA])) rfl) rfl) λh=>by cases h) (dY rfl),rfl⟩)
theorem N3:∀(r:Q0e) (i:Nat) (lo:Int),(∀e∈r.head?,lo<=e)->(∀e∈r,e<=k)->(∀(j:Nat) (a b:Int),r[j]?=aa a->r[j+1]?=aa b->a+fl w (i+j)<=b)->QA w k i lo r
 |[],_,_,_,_,_=>trivial
 |e::r,i,lo,h1,h2,h3=>⟨h1 e rfl,h2 e b_,N3 r (i+1) (e+fl w i) (λf hf=>h3 0 e f rfl (by
   cases r with
   |nil=>cases hf
   |cons g r=>cases hf;rfl)) (λf hf=>h2 f (fj _ hf)) λj a b ha hb=>by
    have:=h3 (j+1) a b ha hb
    rwa [show i+(j+1)=i+1+j by lia] at this⟩
theorem EH:∀(r:Q0e) (i:Nat) (lo:Int),QA w k i lo r->(∀e∈r,lo<=e/\e<=k) /\∀(j:Nat) (a b:Int),r[j]?=aa a->r[j+1]?=aa b->a+fl w (i+j)<=b
 |[],_,_,_=>⟨λe h=>(nomatch h),λj a b h=>by cases h⟩
 |e::r,i,lo,⟨h1,h2,h3⟩=>by
  have ih:=EH r (i+1) (e+fl w i) h3;have hf:=Eg w i;show⟨λf hf2=>?_,λj a b ha hb=>?_⟩
  .rcases bh.1 hf2 with z|z
   .subst z;show⟨h1,h2⟩
   .have:=ih.1 f z;lia
  .cases j with
   |zero =>
    cases ha;have:=(ih.1 b (l_ hb)).1;show this
   |succ j =>
    have:=ih.2 j a b ha hb
    rwa [show i+1+j=i+(j+1) by lia] at this
def N4:VD w k r=af↔QA w k 0 1 r:=by
 unfold VD;rw[iu,gp,gp];show⟨λ⟨h1,h2⟩=>N3 r 0 1 (λe he=>?_) (λe he=>?_) λj a b ha hb=>?_,λh=>⟨λe he=>?_,λp hp=>?_⟩⟩
 .have:=h1 e (List.mem_of_mem_head? he);unfold TH at this;rw[iu,decide_eq_true_eq,decide_eq_true_eq] at this;show this.1
 .have:=h1 e he;unfold TH at this;rw[iu,decide_eq_true_eq,decide_eq_true_eq] at this;show this.2
 .have hj:j+1<r.length:=(cb.1 hb).1;have:=h2 (j:Int) (aT.2 ⟨by lia,by lia⟩);unfold G8 at this;rw[decide_eq_true_eq,mW,ha,show(j:Int)+1=((j+1:Nat):Int) from rfl,mW r,hb] at this;rw[kj];show this
 .have:=(EH r 0 1 h).1 e he;unfold TH;rw[iu,decide_eq_true_eq,decide_eq_true_eq];show this
 .have hq:=aT.1 hp;obtain⟨j,rfl⟩:∃j:Nat,p=(j:Int):=⟨p.toNat,by lia⟩;have:=(EH r 0 1 h).2 j (r[j]'∅) (r[j+1]'∅) (bw _) (bw _);unfold G8;rw[decide_eq_true_eq,mW r,bw ∅,show(j:Int)+1=((j+1:Nat):Int) from rfl,mW r,bw ∅];rw[kj] at this;show this
def aDI(w:Q0e)(h0:0<=k):w.length=0\/0<=aQ w k:=by
 by_cases h:w.length=0
 .exact .inl h
 .have:(uH w).length<=((w.length:Int)-1).toNat:=by unfold uH;show gx (qb _ _) ?_;rw[aO];show bg _
  show .inr ?_;unfold aQ;lia
theorem B6(hl:c.length=w.length):Dec (aQ w k-1-fR w 0+1) c↔Dec (aQ w k) c:=by
 cases c with
 |nil=>show⟨λ_=>trivial,λ_=>trivial⟩
 |cons a c =>
  rw[VB (by rw[<- hl];simp),show aQ w k-1-0+1=aQ w k by lia]
theorem VF{w:Q0e}{k N:Int}(hw:w.length<=9)(h0:0<=k)(hb:Bg 210 (aQ w k))(hN:0<=N)(lp:N<C (aQ w k) w.length):
  ∃c:Q0e,c.length=w.length/\Dec (aQ w k) c/\rk c=C (aQ w k) w.length-1-N/\jG [τ w,.int k,.int N]=.ok (τ (dE w (aQ w k) 0 c)):=by
 have ht:=aDI w h0;obtain⟨c,hl,hg,e⟩:=P9 hw h0 hb ht hN lp;rcases ht with z|z
 .have:c=[]:=vm.1 ∅;subst this;rw[z,qK] at lp ⊢;show⟨[],rfl,trivial,by show(0:Int)=_;lia,e⟩
 .obtain ⟨e1,d1⟩:=Ej hg z ∅ (by rw[hl];lia);show⟨c,hl,d1,e1,e⟩
def VG(hl:c.length=w.length)(hd:Dec (aQ w k) c):VD w k (dE w (aQ w k) 0 c)=af:=N4.2 (N0 c 0 1 ∅ ((B6 hl).2 hd)).1
def QC{w c:Q0e}{k:Int}(hw:w.length<=9)(h0:0<=k)(hb:Bg 210 (aQ w k))(hl:c.length=w.length)(hd:Dec (aQ w k) c):gM [τ w,.int k,τ (dE w (aQ w k) 0 c)]=.ok (.int (C (aQ w k) w.length-1-rk c)):=by
 have:=A3 (r:=dE w (aQ w k) 0 c) hw h0 hb (by rw[QB hw (by rw[gH,hl]),VG hl hd]) (by rw[gH,hl]) (by rw[i5];show hd)
 rwa [i5] at this
def aDJ(hl:r.length=w.length)(h:VD w k r=af):Dec (aQ w k) (dE w (aQ w k) 0 r):=(B6 (by rw[gH,hl])).1 (NZ r 0 1 ∅ (N4.1 h))
def VH(hc:c.length=w.length)(hd:d.length=w.length)(dc:Dec (aQ w k) c)(dd:Dec (aQ w k) d)(h:rk d<rk c):dC (dE w (aQ w k) 0 c) (dE w (aQ w k) 0 d)=af:=VC 0 d c (Ei ∅ dd dc h)
def nms:aj:=("NoThing Looped NoOrder NoNumber TooGreat NoGoing NoRow NoFilling NotLoose NotForest NoShape":aj)++(" NoName NoLine":aj)
def QD:pj nms (" ":aj)=[("NoThing":aj),"Looped","NoOrder","NoNumber","TooGreat","NoGoing","NoRow","NoFilling","NotLoose","NotForest","NoShape","NoName","NoLine"]:=by decide+kernel
def aAO:nms.length+2<=nU/\((" ":aj).length == 0)=ag:=by decide+kernel
def VI(h:a.length+b.length<=nU):cD (.str a) (.str b)=aa (.str (a++b)):=Z_ h
def KG(h:a.length+2<=nU/\(b.length == 0)=ag):splitM (.str a) (.str b)=aa (.lst ((pj a b).map D.str)):=Z_ h
def aAP:cD (.str ("NoThing Looped NoOrder NoNumber TooGreat NoGoing NoRow NoFilling NotLoose NotForest NoShape":aj)) (.str (" NoName NoLine":aj))=aa (.str nms):=VI (by decide+kernel)
theorem KH{ks:D}{i:Nat}{c:aj}(h1:wV ks (.bl af)=aa (.int 2))(h2:dQ ks (.int 13)=aa (.bl af))(h3:wW ks (.bl af)=aa (.int (i:Int)))
  (h4:[("NoThing":aj),"Looped","NoOrder","NoNumber","TooGreat","NoGoing","NoRow","NoFilling","NotLoose","NotForest","NoShape","NoName","NoLine"][i]?=aa c):hJ [ks]=.ok (.str c):=by
 unfold hJ;show eT rfl (bT _ (dZ _ rfl rfl) (bT [.ro ks,.ro (.str nms)] (dZ (.str nms) (aU rfl rfl aAP) rfl) (bT [.ro ks,.ro (.str nms)] (mL (yN (b:=ag) (iQ (d:=.bl ag) (aU (x:=.int 2) (y:=.int 2) (aU (x:=ks) (y:=.bl af) rfl rfl h1) rfl rfl) rfl) (λ_=>NC (b:=af) (iQ (d:=.bl af) (aU (x:=ks) (y:=.int 13) rfl rfl h2) rfl) rfl) λh=>by cases h) rfl) (dY ?_))));show aU (x:=.lst ((pj nms (" ":aj)).map D.str)) (y:=.int (i:Int)) (aU (x:=.str nms) (y:=.str (" ":aj)) rfl rfl (KG aAO)) (aU (x:=ks) (y:=.bl af) rfl rfl h3) ?_;rw[QD];show rT ?_;rw[cf,h4];rfl
abbrev Bf:D:=.lst [.bl ag,.bl ag,.bl ag,.bl af,.bl ag,.bl ag,.bl ag,.bl ag,.bl ag,.bl ag,.bl ag,.bl ag,.bl ag,.bl af]
def aDK:hJ [Bf]=.ok (.str "NoNumber"):=KH (i:=3) rfl rfl rfl rfl
def Yp(h:fb ρ=.nx ρ')(h2:fr ρ'=o):yC fb fh fr ρ=o:=by unfold yC;rw[h];show h2
def Yo(h:fb ρ=.ex c)(h1:fh c=aa ρ1)(h2:fr ρ1=.rt d):yC fb fh fr ρ=.rt d:=by unfold yC;rw[h];dsimp only;rw[h1];dsimp only;rw[h2]
def rcA(ha:t ρ=aa ds)(h:ya (R ds)=c):vJ R t ρ=c:=by unfold vJ;rw[ha];show h
def xrE(h:f (jL ρ)=aa d):bF f ρ=aa (ρ,d):=by unfold bF;rw[h];rfl
theorem EI:∀(l:Q0e) (a:Int),0<=a->a<=B->(∀e∈l,0<=e/\e<=B)->0<=l.foldl (λm b=>if m<b then b else m) a/\l.foldl (λm b=>if m<b then b else m) a<=B
 |[],a,h0,h1,_=>⟨h0,h1⟩
 |b::l,a,h0,h1,h=>by
  have hb:=h b b_;rw[me];by_cases c:a<b
  .rw [Z_ c];show EI l b hb.1 hb.2 λe he=>h e (fj b he)
  .rw [Zz c];show EI l a h0 h1 λe he=>h e (fj b he)
def VJ(hw:w.length<=9)(h0:0<=k)(h1:k<=10^61):Bg 210 (aQ w k):=by
 have h2:=aAA w;have h3:((10:Int)^61)+20<((2^210:Nat):Int):=by decide
 unfold Bg aQ;lia
def uf(h:f (jL ρ)=aa (.tup [p,q])):PX (bF f) (JQ i j) ρ=.nx ((ρ.set i (.ro p)).set j (.ro q)):=by unfold PX;rw[xrE h];rfl
def QE(h:r.length<=1000000):LL.e8 6 [.tup [.str "told",τ r],.tup [.str "told",τ r]]=.ok (.bl af):=same_refl 6 _ ⟨Nat.le_of_ble_eq_true rfl,λd hd=>by
 rcases bh.1 hd with z|hd
 .rw [z];trivial
 .rcases bh.1 hd with z|hd
  .rw [z];show JV h
  .cases hd⟩
def VL(ha:a ρ=aa (.bl af))(hb:b ρ=aa (.bl af)):lP a b ρ=aa (.bl af):=by unfold lP;rw[ha];show hb
theorem j8:∀l:Q0e,rH (l.map D.int)=af
 |[]=>rfl
 |_::l=>j8 l
def VM(r:Q0e):(D.tup [.str "told",τ r]).A2=af:=by show((D.str "told").A2&&(rH (r.map D.int)&&af))=af;rw[j8];rfl
end bV
namespace K16
open L3 L4
def cQ:jM:=bZ 2 2
  (bL (cJ 1 [0,1] (bX (aA (cZ x8 (aA (aB 0) (aA (eC (.int 1)) aF))) aF)) (g1 0) dO (aL LL.eJ (aA (aE gP (aE gP (aE cD (aB 2) (aB 1)) (eC (.int 1))) (aB 0)) (aA (aB 1) aF)))))
def fK:jM:=bZ 6 3
  (aM (bG 3 (TN (tV (aB 2)) (aE dQ (aB 2) (PM (eC (.int 1)))) (eC (.int 0))))
  (aM (bG 4 (aE De (aB 0) (iP (aA (cZ eX (aA (cZ kJ (aA (aB 2) aF)) aF)) (aA (aB 3) aF)))))
  (aM (bG 5 (cZ b9 (aA (aL bV.cL (aA (aB 2) aF)) aF)))
  (bL (cZ JL (aA (cJ 2 [1,5] (nW (aA (aB 4) aF)) (g2 0 1) (tV (aE pS (aB 1) (eC (.int 0)))) (aE mulM (aB 1) (aE dQ (aB 2) (aE cD (aB 3) (aB 0))))) aF))))))
def bQ:jM:=bZ 6 5
  (aM (bG 5 (cJ 1 [4] (cB (aL LL.cK (aA (aB 0) (aA (aB 3) aF)))) (g1 0) (tV (aE GA (aB 0) (aB 1))) (aB 0)))
  (bL (cZ JL (aA (cJ 1 [1,2,3] (cB (aB 5)) (g1 0) dO (aL fK (aA (aB 1) (aA (aB 2) (aA (aE cD (aB 3) (iP (aA (aB 0) aF))) aF))))) aF))))
def i6:jM:=bZ 6 5
  (aM (bG 5 (aL LL.cK (aA (aB 0) (aA (aB 3) aF))))
  (bL (cZ BO (aA (cJ 1 [4,0,1,2,3] (cB (aB 5)) (g1 0) (tV (aE DI (aL bQ (aA (aB 2) (aA (aB 3) (aA (aB 4) (aA (aB 5) (aA (aB 0) aF)))))) (aB 1))) (aB 0)) aF))))
def c6:jM:=bZ 9 3
  (aM (tU (vJ bV.bW (aA (aB 1) aF)) (sX (bF (aL bV.bW (aA (aB 1) aF)))))
  (aM (bG 3 (aL LL.gE (aA (aB 0) aF)))
  (aM (bG 4 (aL cQ (aA (cZ b9 (aA (aB 0) aF)) (aA (aB 1) aF))))
  (aM (iO (lO (tV (f7 DI GA (eC (.int 0)) (aB 2) (aL fK (aA (aB 3) (aA (aB 4) (aA (iP aF) aF)))))))
   (mH (aA (eC (.str "no filling has this number")) aF) "NoNumber")
   d7)
  (aM (bG 5 (iP aF))
  (aM (bG 6 (aB 2))
  (aM (JR (fQ (bX (aA (cZ b9 (aA (aB 0) aF)) aF)) (qE 7)
   (aM (bG 8 (aL i6 (aA (aB 0) (aA (aB 3) (aA (aB 4) (aA (aB 5) (aA (aB 6) aF)))))))
   (aM (bG 6 (aE gP (aB 6) (aL bQ (aA (aB 0) (aA (aB 3) (aA (aB 4) (aA (aB 5) (aA (aB 8) aF))))))))
   (bG 5 (aE cD (aB 5) (iP (aA (aB 8) aF))))))))
  (tU (TY (aB 5) (vJ bV.jG (aA (aB 5) (aA (aB 1) (aA (aB 6) aF))))) (bL (aL LL.gJ (aA (aB 5) (aA (aL bV.jG (aA (aB 5) (aA (aB 1) (aA (aB 6) aF)))) aF))))))))))))
def fB:jM:=bZ 9 3
  (aM (sX (bF (aL bV.bW (aA (aB 1) aF))))
  (aM (iO (lO (tV (aL LL.rX (aA (aB 0) (aA (aB 2) (aA (aB 1) aF))))))
   (λ_=>.no)
   d7)
  (aM (bG 3 (aL LL.gE (aA (aB 0) aF)))
  (aM (bG 4 (aL cQ (aA (cZ b9 (aA (aB 0) aF)) (aA (aB 1) aF))))
  (aM (bG 5 (aL LL.kP (aA (aB 2) aF)))
  (aM (bG 6 (aL bV.gM (aA (aB 5) (aA (aB 1) (aA (aL LL.oB (aA (aB 2) aF)) aF)))))
  (aM (fQ (nW (aA (aB 5) aF)) (JQ 7 8)
   (bG 6 (aE cD (aB 6) (aL bQ (aA (aB 0) (aA (aB 3) (aA (aB 4) (aA (ZE (aB 5) ll (oE (aB 7))) (aA (aB 8) aF)))))))))
  (bL (aB 6)))))))))
def jZ:jM:=bZ 2 1
  (aM (bG 1 (cZ mG (aA (cJ 1 [0] (bX (aA (cZ b9 (aA (aB 0) aF)) aF)) (g1 0) dO (iP (aA (aE dQ (aB 1) (aB 0)) (aA (aB 0) aF)))) aF)))
  (bL (iP (aA (cJ 2 [] (cB (aB 1)) (g2 0 1) dO (aB 1)) (aA (cJ 2 [] (cB (aB 1)) (g2 0 1) dO (aB 0)) aF)))))
def d9:jM:=bZ 4 3
  (aM (iO (wU (lO (tV (kE "tuple" (aB 2)))) (tV (aE Y8 (cZ b9 (aA (aB 2) aF)) (cZ b9 (aA (aB 0) aF)))))
   (bL (eC (.bl ag)))
   d7)
  (aM (fQ (cB (aB 2)) (qE 3)
   (iO (wU (lO (tV (kE "int" (aB 3)))) (wU (tV (kE "bool" (aB 3))) (wU (tV (aE GA (aB 3) (eC (.int 1)))) (tV (aE pS (aB 3) (aB 1))))))
    (bL (eC (.bl ag)))
    d7))
  (bL (lP (aE geM (aB 1) (eC (.int 0))) (aL LL.j9 (aA (aB 0) (aA (aB 2) aF)))))))
def kQ:jM:=bZ 6 3
  (aM (bG 3 (eC .non))
  (aM (bG 4 (iV aF))
  (yC (tU (vJ c6 (aA (aB 0) (aA (aB 1) (aA (aB 2) aF)))) (bG 3 (aL c6 (aA (aB 0) (aA (aB 1) (aA (aB 2) aF)))))) (λc=>if c="NoNumber" then aa [.no,.no,.no,.no,.ro (.lst [.bl ag,.bl ag,.bl ag,.bl af,.bl ag,.bl ag,.bl ag,.bl ag,.bl ag,.bl ag,.bl ag,.bl ag,.bl ag,.bl af]),.no] else ae)
  (aM (iO (tV (aE pS (cZ b9 (aA (aB 4) aF)) (eC (.int 0))))
   (bL (iP (aA (eC (.str "refused")) (aA (aL bV.hJ (aA (aB 4) aF)) aF))))
   d7)
  (bL (iP (aA (eC (.str "told")) (aA (aB 3) aF))))))))
def B7:jM:=bZ 9 1
  (aM (bG 1 (aL LL.lU (aA (aB 0) (aA (eC (.int 0)) (aA (eC (.int 9)) (aA (eC (.int 100003)) aF))))))
  (aM (bG 2 (cZ b9 (aA (aB 1) aF)))
  (aM (bG 3 (aL LL.eZ (aA (aL LL.gC (aA (aB 0) (aA (eC (.int 2)) aF))) (aA (aE cD (aB 2) (eC (.int 1))) (aA (eC (.int 200017)) aF)))))
  (aM (bG 4 (aL LL.gZ (aA (aB 0) (aA (eC (.int 4)) (aA (aB 1) (aA (aL LL.jF (aA (aB 1) (aA (aB 3) aF))) (aA (eC (.int 300007)) aF)))))))
  (aM (bG 5 (aE cD (cZ GF (aA (aE cD (iP (aA (eC (.int 0)) aF)) (aB 4)) aF)) (aL LL.gK (aA (aB 0) (aA (eC (.int 3)) (aA (eC (.int 400009)) aF))))))
  (aM (bG 6 (aL fB (aA (aB 1) (aA (aB 5) (aA (aB 4) aF)))))
  (aM (iO (wU (lO (tV (kE "int" (aB 6)))) (wU (tV (kE "bool" (aB 6))) (tV (aE GA (aB 6) (eC (.int 0))))))
   (bL (eC (.bl ag)))
   d7)
  (aM (iO (lO (tV (aL (LL.e8 6) (aA (aL kQ (aA (aB 1) (aA (aB 5) (aA (aB 6) aF)))) (aA (iP (aA (eC (.str "told")) (aA (aB 4) aF))) aF)))))
   (bL (eC (.bl ag)))
   d7)
  (aM (iO (tV (aE rG (aE iU (aE dQ (aB 3) (aB 2)) (eC (.int 2))) (eC (.int 0))))
   (aM (PX (bF (aL kQ (aA (aB 1) (aA (aB 5) (aA (aE cD (aB 6) (eC (.int 1))) aF))))) (JQ 7 8))
   (aM (iO (tV (aE rG (aB 7) (eC (.str "refused"))))
    (bL (aE rG (aB 8) (eC (.str "NoNumber"))))
    d7)
   (bL (lP (aL d9 (aA (aB 1) (aA (aB 5) (aA (aB 8) aF)))) (aE JT (aL jZ (aA (aB 4) aF)) (aL jZ (aA (aB 8) aF)))))))
   d7)
  (aM (PX (bF (aL kQ (aA (aB 1) (aA (aB 5) (aA (aE gP (aB 6) (eC (.int 1))) aF))))) (JQ 7 8))
  (aM (iO (tV (aE rG (aB 6) (eC (.int 0))))
   (bL (lP (aE rG (aB 7) (eC (.str "refused"))) (aE rG (aB 8) (eC (.str "NoNumber")))))
   d7)
  (bL (lP (aE rG (aB 7) (eC (.str "told"))) (lP (aL d9 (aA (aB 1) (aA (aB 5) (aA (aB 8) aF)))) (aE JT (aL jZ (aA (aB 8) aF)) (aL jZ (aA (aB 4) aF)))))))))))))))))
open Z0 LL
section
variable{x:Q0a}
abbrev Wt(n:Nat)(k:Int)(e:Int):Int:=max 0 (C (k+n-1-e) n)
abbrev Rw(n:Nat)(k:Int)(w:Q0e):Int:=Wt n k (dl (-1) w)
def zB(n:Nat)(k:Int):List Int:=(bz (max n 1)).map λd:Nat=>Wt n k (d:Int)
theorem aDL:∀(m:Nat) (a:Q0e) {l l':Int} (j:Int),l<=0->l'<=0->SF x m a l j=SF x m a l' j
 |0,_,_,_,_,_,_=>rfl
 |m+1,a,l,l',j,h,h'=>by show((aI x a).map λt=>SF x m (bH a t) t (j-if t<l then 1 else 0)).sum=((aI x a).map λt=>SF x m (bH a t) t (j-if t<l' then 1 else 0)).sum;show congrArg nj (f_ λt ht=>?_);have:=(iX ht).1.1;rw[Zz ∅,Zz ∅]
def aAR(m:Nat)(b:Q0e)(j:Int):SF x m (sortI b) (iC b) j=SF x m b (lB b) j:=by
 rw[yV m (b:=b) (iC b) j λs=>(sortI_perm b).mem_iff];rcases vq b with e|⟨u,t,e⟩
 .subst e;show aDL m [] j (by decide) (by decide)
 .subst e;simp[iC,lB]
theorem N5(f:Nat->Int):∀(S:Q0e) (i:Nat),((S.zipIdx i).map λp=>p.1*f p.2).sum=((bz S.length).map λd=>S.getD d 0*f (i+d)).sum
 |[],_=>rfl
 |s::S,i=>by rw[a1V,bj,ia,N5 f S (i+1),cx,Ht,bj,ia,de];congr 1;show congrArg nj (f_ λd _=>?_);show _=(s::S).getD (d+1) 0*f (i+(d+1));rw[show i+(d+1)=i+1+d by lia];rfl
theorem G9(f:Int×Nat->Int):∀L:List (Int×Nat),(∀p∈L,0<=p.1)->((L.filter λp=>Zv (0<p.1)).map λp=>p.1*f p).sum=(L.map λp=>p.1*f p).sum
 |[],_=>rfl
 |p::L,h=>by
  have ih:=G9 f L λq hq=>h q (fj _ hq);have h0:=h p b_;rw[vp];by_cases q:0<p.1
  .rw [Z_ (by simpa using q),bj,ia,bj,ia,ih]
  .rw [Zz (by simpa using q),bj,ia,ih,show p.1=0 by lia,qg,j_]
def Yn(hb:y6 x b):Gn x (Rw x.length k) (x.length-b.length) b=((bz (max x.length 1)).map λd:Nat=>(Sh x (x.length-b.length) (sortI b) (iC b)).getD d 0*Wt x.length k (dl (-1) b+(d:Int))).sum:=by
 have hl:=sA hb.ok;have e:∀d:Nat,d<max x.length 1->(Sh x (x.length-b.length) (sortI b) (iC b)).getD d 0=SF x (x.length-b.length) b (lB b) (d:Int):=λd hd=>by have:=NO (x:=x) (x.length-b.length) (sortI b) (iC b) (d:Int) ∅ ∅;rw[aAR,mW] at this;rw[<- this,j7]
 rw[U5 (Wt x.length k) (x.length-b.length) b (max x.length 1+1) ∅,oC _ (max x.length 1) 1 λd h1 h2=>?_]
 .exact congrArg nj (f_ λd hd=>by rw[e d (lz.1 hd)])
 .have z:SF x (x.length-b.length) b (lB b) (d:Int)=0:=by
   by_cases hb0:b=[]
   .subst hb0
    cases hn:x.length with
    |zero=>show sG _ _ _ _ (by simp[hn] at h1 ⊢;lia)
    |succ n =>
     have ed:(d:Int)=(n:Int)+1:=by rw[hn] at h1 h2;lia
     rw[ed];show aDH n [] (by decide)
   .have:=H_.2 hb0;show sG _ _ _ _ ∅
  rw[z,qg]
def Ym{n:Nat}{k:Int}{e:Int}(h0:0<=e)(h1:e<(max n 1:Nat)):dQ (aG (zB n k)) (.int e)=aa (.int (Wt n k e)):=by obtain⟨d,rfl⟩:∃d:Nat,e=(d:Int):=⟨e.toNat,by lia⟩;unfold aG;rw[rP];show mQ ?_;unfold zB;rw[cf,r6 ∅];rfl
theorem KI(hb:y6 x b)(h:b≠[]):0<=dl (-1) b/\dl (-1) b+1<=b.length:=by
 cases b with
 |nil=>show Zw rfl h
 |cons t w =>
  have:=(hb.ok.2 t b_).1;rw[US this];have:=UR t w;rw[cx];lia
def QF:dQ (.tup (ds++[d])) (.int (-1))=aa d:=by show xZ (ds++[d]) (-1)=_;unfold xZ M1;rw[Zz (by decide),Z_ (by rw[di];simp;lia),c_,di];show(ds++[d])[(-1+((ds.length+1:Nat):Int)).toNat]?=_;rw[show(-1+((ds.length+1:Nat):Int)).toNat=ds.length by lia];simp
def zC(hx:x.length<=9){kd:KD}(hM:gU x kd)(h0:(bK kd.1 kd.2 (kS [] 0)).isSome=af){q:Nat->ax->Prop}{k:Int}{b:Q0e}(hb:y6 x b):fK [.c8 q kd.1 kd.2,aG (zB x.length k),τ b]=.ok (.int (Gn x (Rw x.length k) (x.length-b.length) b)):=by
 have hl:=sA hb.ok;unfold fK
 let S:=Sh x (x.length-b.length) (sortI b) (iC b)
 let st:Sv->Sv->Sv->bU:=λa c d=>[.ro (.c8 q kd.1 kd.2),.ro (aG (zB x.length k)),.ro (τ b),a,c,d]
 have eS:S.length=max x.length 1:=lW x _ _ _;show eT rfl (bT (st (.ro (.int (iC b))) .no .no) (dZ (.int (iC b)) ?_ rfl) (bT (st (.ro (.int (iC b))) (.ro (aG S)) .no) (dZ (aG S) ?_ rfl) (bT (st (.ro (.int (iC b))) (.ro (aG S)) (.ro (.int (dl (-1) b)))) (dZ (.int (dl (-1) b)) ?_ rfl) (dY ?_))))
 .rcases vq b with e|⟨u,t,e⟩
  .subst e;rfl
  .rw [Il] at e;subst e;unfold TN;rw[iQ (b:=af) (d:=τ (u++[t])) rfl ?_]
   .rw [c_,Z_ rfl];show aU (x:=τ (u++[t])) (y:=.int (-1)) rfl rfl ?_;unfold τ iC;rw[g_];simp only[List.getLast?_append,List.getLast?_singleton];show QF
   .unfold τ;rw[mK];simp
 .refine aU (x:=.c8 q kd.1 kd.2) (y:=.tup [τ (sortI b),.int (iC b)]) rfl (ZW (cN (x:=aG (sortI b)) (cN rfl (mT ∅)) rfl) rfl) ?_;show((tW (.tup [τ (sortI b),.int (iC b)])).bind λk=>if kindB kd.1 k=af then bK kd.1 kd.2 k else ae)=_;rw[NJ,c_,Z_ (mV hM.2.1 rfl),U7 hM h0 hb]
 .refine cN (e9 rfl (bV.jY ∅)) ?_;rw[bV.dR,NS λa ha=>(hb.ok.2 a ha).1]
 .have rng:=UO hx (x.length-b.length) (sortI b) (iC b);have val:Gn x (Rw x.length k) (x.length-b.length) b=((S.zipIdx.filter λp=>Zv (0<p.1)).map λp:Int×Nat=>p.1*Wt x.length k (dl (-1) b+(p.2:Int))).sum:=by rw[G9 (λp=>Wt x.length k (dl (-1) b+(p.2:Int))) _ λp hp=>(rng p.1 (a2b hp)).1,N5 (λd=>Wt x.length k (dl (-1) b+(d:Int))),Yn hb,eS];show congrArg nj (f_ λd _=>?_);rw[kj]
  rw[val];show cN (x:=aG ((S.zipIdx.filter λp=>Zv (0<p.1)).map λp:Int×Nat=>p.1*Wt x.length k (dl (-1) b+(p.2:Int)))) ?_ sum_ints;have e2:aG ((S.zipIdx.filter λp=>Zv (0<p.1)).map λp:Int×Nat=>p.1*Wt x.length k (dl (-1) b+(p.2:Int)))=.lst ((S.zipIdx.filter λp=>Zv (0<p.1)).map λp:Int×Nat=>D.int (p.1*Wt x.length k (dl (-1) b+(p.2:Int)))):=by unfold aG;rw[de];rfl
  rw[e2];show fY (S.zipIdx.map λp:Int×Nat=>D.tup [.int (p.2:Int),.int p.1]) ?_ (by simp;lia) (fI (λp:Int×Nat=>D.tup [.int (p.2:Int),.int p.1]) (λp=>Zv (0<p.1)) (λp=>D.int (p.1*Wt x.length k (dl (-1) b+(p.2:Int)))) S.zipIdx λp hp=>⟨[aa (.int (p.2:Int)),aa (.int p.1),aa (aG (zB x.length k)),aa (.int (dl (-1) b))],rfl,iQ (aU (x:=.int p.1) (y:=.int 0) rfl rfl jX) rfl,λhp0=>?_⟩)
  .unfold nW;rw[args1 (show aB 4 _=aa (aG S) from rfl),c_];show aa (((S.map D.int).zipIdx).map _)=_;rw[zipIdx_map,de];rfl
  .have hp0:0<p.1:=by simpa using hp0
   have hm:=List.mem_zipIdx hp;have y:=rng p.1 (a2b hp);have pm:(9:Int)^(x.length-b.length)<=9^9:=by
    have:=z_ (n:=9) (by decide) (show x.length-b.length<=9 by lia)
    exact_mod_cast this
   have h9:(9:Int)^9<18446744073709551616:=by decide
   show aU (x:=.int p.1) (y:=.int (Wt x.length k (dl (-1) b+(p.2:Int)))) rfl (aU (x:=aG (zB x.length k)) (y:=.int (dl (-1) b+(p.2:Int))) rfl rfl (Ym ?_ ?_)) (uB ∅)
   .by_cases hb0:b=[]
    .subst hb0;show 0<=0+(p.2:Int);lia
    .have:=KI hb hb0;lia
   .by_cases hb0:b=[]
    .subst hb0;show 0+(p.2:Int)<_;have:=hm.2.1;lia
    .have:=KI hb hb0;have pd:(p.2:Int)<=(x.length-b.length:Nat):=by
      by_cases z:(p.2:Int)<=(x.length-b.length:Nat)
      .exact z
      .exfalso;have hd:p.2<max x.length 1:=by have:=hm.2.1;lia
       have e:=NO (x:=x) (x.length-b.length) (sortI b) (iC b) (p.2:Int) ∅ ∅;rw[sG _ _ _ _ ∅,mW] at e;have e3:S[p.2]?=aa p.1:=by have:=hm.2.2;rw[bw ∅,this];simp
       have e:(S[p.2]?).getD 0=0:=e;rw[e3] at e;have e:p.1=0:=e;lia
     lia
def Yl{n:Nat}{k e:Int}(h0:0<=k)(h1:e<(max n 1:Nat)):0<=C (k+n-1-e) n:=by
 by_cases hn:n=0
 .subst hn;rw[qK];lia
 .have:=NN (k+n-1-e).toNat n
  rwa [Int.toNat_of_nonneg ∅] at this
def Cy{n:Nat}{k e:Int}(h0:0<=k)(h1:e<(max n 1:Nat)):Wt n k e=C (k+n-1-e) n:=by have:=Yl h0 h1;unfold Wt;lia
def Sq{a:Int}(h0:-1<=a)(h1:a<=10^61+9):Bg 210 a:=by
 have h3:((10:Int)^61)+20<((2^210:Nat):Int):=by decide
 unfold Bg;lia
def kR{n:Nat}{k:Int}(hn:n<=9)(h0:0<=k)(h1:k<=10^61):cQ [.int n,.int k]=.ok (aG (zB n k)):=by
 unfold cQ;show eT rfl (dY (show _=aa (aG (zB n k)) from ?_));unfold aG zB;rw[de];have e:(bD 0 (max n 1)).map D.int=(bz (max n 1)).map λd:Nat=>D.int (d:Int):=by unfold bD;rw[de];show f_ λd _=>by show D.int (0+(d:Int))=_;rw[j_]
 show fY ((bD 0 (max n 1)).map D.int) (GK (n:=max n 1) ?_ ∅) (by rw[a_,aO];lia) ?_
 .refine Dc (x:=.int n) (y:=.int 1) rfl rfl ?_;show aa (D.int _)=aa (D.int _);congr 2;split<;>lia
 .rw [e];show dP (λd:Nat=>D.int (d:Int)) _ (bz (max n 1)) λd hd=>⟨[aa (.int d),aa (.int n),aa (.int k)],rfl,?_⟩;have hd:=lz.1 hd;have hc:=Cy (n:=n) (e:=(d:Int)) h0 ∅;show _=aa (D.int (Wt n k d));rw[hc];show cP (x:=.int (k+n-1-d)) (y:=.int n) rfl rfl (kA (Sq ∅ ∅) ∅)
structure Tb (x:Q0a) (kd:KD):Prop where
 m:gU x kd
 o:(bK kd.1 kd.2 (kS [] 0)).isSome=af
def zD(hn:x.length<=9)(hr:∀r∈x,r.length<=9)(T:Tb x kd)(hb:y6 x b)(t:Int):bQ [aS x,.c8 q kd.1 kd.2,aG (zB x.length k),τ b,.int t]=.ok (.int (qA x (Rw x.length k) (x.length-(b.length+1)) b t)):=by
 unfold bQ
 let L:=(aI x b).filter λs=>Zv (s<t)
 show eT rfl (bT [.ro (aS x),.ro (.c8 q kd.1 kd.2),.ro (aG (zB x.length k)),.ro (τ b),.ro (.int t),.ro (aG L)] (dZ (aG L) ?_ rfl) (dY (cN (x:=aG (L.map λs=>Gn x (Rw x.length k) (x.length-(b.length+1)) (b++[s]))) ?_ sum_ints)))
 .have hf:=iY hb.ok;show fY ((aI x b).map D.int) ?_ (by rw[a_];lia) ?_
  .unfold cB;rw[cP rfl rfl (rZ hn hr)];rfl
  .exact fI D.int (λs=>Zv (s<t)) D.int (aI x b) λs hs=>⟨[aa (.int s),aa (.int t)],rfl,iQ (aU (x:=.int s) (y:=.int t) rfl rfl rfl) rfl,λ_=>rfl⟩
 .have hf:=iY hb.ok;have hL:L.length<=(aI x b).length:=qb _ _;unfold aG;rw[de];show fY (L.map D.int) rfl (by rw[a_];lia) (dP D.int (D.int∘λs=>Gn x (Rw x.length k) (x.length-(b.length+1)) (b++[s])) L λs hs=>⟨[aa (.int s),aa (.c8 q kd.1 kd.2),aa (aG (zB x.length k)),aa (τ b)],rfl,?_⟩);have hs:=(ji.1 hs).1;have hb2:=hb.snoc hs;have e:=zC (q:=q) (k:=k) hn T.m T.o hb2;rw[di,Af] at e;have hl:=sA hb.ok;show dA (x:=.c8 q kd.1 kd.2) (y:=aG (zB x.length k)) (z:=τ (b++[s])) rfl rfl (aU (x:=τ b) (y:=τ [s]) rfl rfl (yW (by simp;lia))) e
theorem fold_lt:∀(l:Q0e) (a:Int),a<t->(∀b∈l,b<t)->l.foldl (λm b=>if m<b then b else m) a<t
 |[],a,h,_=>h
 |b::l,a,h,hl=>by rw[me];have hb:=hl b b_;show fold_lt l _ (by split<;>assumption) λc hc=>hl c (fj _ hc)
theorem VN(h:∀a∈u,a<t):jW (u++[t])=t:=by
 cases u with
 |nil=>rfl
 |cons a u =>
  show(u++[t]).foldl _ a=t;rw[List.foldl_append];show Z_ (fold_lt u a (h a b_) λb hb=>h b (fj _ hb))
def VO(w:Q0e):0<=Rw n k w:=by show 0<=max 0 _;lia
theorem VP(hn:x.length<=9)(hr:∀r∈x,r.length<=9)(T:Tb x kd)(hb:y6 x b)(hl:b.length<x.length)(h0:0<=Θ)(h1:Θ<Gn x (Rw x.length k) (x.length-b.length) b):
  ∃t,t∈aI x b/\qA x (Rw x.length k) (x.length-(b.length+1)) b t<=Θ/\Θ<qA x (Rw x.length k) (x.length-(b.length+1)) b t+Gn x (Rw x.length k) (x.length-(b.length+1)) (b++[t])/\i6 [aS x,.c8 q kd.1 kd.2,aG (zB x.length k),τ b,.int Θ]=.ok (.int t):=by
 rw[show x.length-b.length=x.length-(b.length+1)+1 by lia] at h1;obtain⟨t,u,v,e,p1,p2,p3⟩:=aAI VO h0 h1;have inc:=pI (x:=x) b;show⟨t,by rw[e];simp,p1,p2,?_⟩;have hf:=iY hb.ok;unfold i6;show eT rfl (bT [.ro (aS x),.ro (.c8 q kd.1 kd.2),.ro (aG (zB x.length k)),.ro (τ b),.ro (.int Θ),.ro (aG (aI x b))] (dZ _ (cP rfl rfl (rZ hn hr)) rfl) (dY (cN (x:=aG (u++[t])) ?_ ?_)))
 .rw [<- p3];show fY ((aI x b).map D.int) rfl (by rw[a_];lia) (fI D.int (λs=>Zv (qA x (Rw x.length k) (x.length-(b.length+1)) b s<=Θ)) D.int (aI x b) λs hs=>⟨[aa (.int s),aa (.int Θ),aa (aS x),aa (.c8 q kd.1 kd.2),aa (aG (zB x.length k)),aa (τ b)],rfl,iQ (aU (x:=.int (qA x (Rw x.length k) (x.length-(b.length+1)) b s)) (y:=.int Θ) ?_ rfl rfl) rfl,λ_=>rfl⟩);have ea:=zD (q:=q) (k:=k) hn hr T hb s;unfold aL aA aF;show rJ (bQ [aS x,.c8 q kd.1 kd.2,aG (zB x.length k),τ b,.int s])=_;rw[ea];rfl
 .show ((intsOf ((u++[t]).map D.int)).bind λns=>if ns=[] then ae else aa (D.int (jW ns)))=_;rw[b7,c_,Zz (by simp),VN λa ha=>?_];rw[e] at inc;show(vk.1 inc).2.2 a ha t b_
def KJ(hw:Gg x w)(h0:0<=k):Rw x.length k w=C (bV.aQ w k) w.length:=by
 have hb:y6 x w:=hw.2;have hd:=NS λa ha=>(hb.ok.2 a ha).1;show Wt x.length k (dl (-1) w)=_;rw[Cy h0,bV.aQ,hd,hw.1];rw[<- hw.1];by_cases e:w=[]
 .subst e;show(0:Int)<_;simp
 .have:=KI hb e;lia
def of_ok(hn:x.length<=9)(hw:Gg x w)(hr:r.length=w.length):gJ [τ w,τ r]=.ok (τ (qO.gF w r)):=by
 have dn:=jE hw.2;have hdr:∀a∈w,0<=a/\a<(w.length:Int):=λa ha=>by have:=dn.2 a ha;rw[hw.1];show this
 have dl:=hw.1;have ml:=qO.G0 w r;have mm:=qO.G2 dn.1 hdr hr;have fo:=p9 (g:=w) (r:=r) ∅ hdr
 rwa [<- mm,uI (fl:=qO.gF w r) w (bu w.length 0) (by rw[ie,ml]) (λa ha=>by rw[ml];show hdr a ha) (λj hj hnm=>Zw (iZ hw.1 hw.2 (b:=(j:Int)) ∅ ∅) hnm),mm] at fo
abbrev Tot(x:Q0a)(k:Int):Int:=Gn x (Rw x.length k) x.length []
abbrev Num(x:Q0a)(k:Int)(w c:Q0e):Int:=f6 x (Rw x.length k) [] w+(C (bV.aQ w k) w.length-1-rk c)
abbrev S9(x:Q0a)(k N:Int)(v3 v4 v5 v6 v7 v8:Sv):bU:=[.ro (aS x),.ro (.int k),.ro (.int N),v3,v4,v5,v6,v7,v8]
def EJ:y6 x []:=λu t v e=>by cases u<;>cases e
theorem VF(hx:Ord.Rows x)(hn:x.length<=9)(h0:0<=k)(h1:k<=10^61)(hN:0<=N)(lp:N<Tot x k):
  ∃w c:Q0e,Gg x w/\c.length=w.length/\Dec (bV.aQ w k) c/\N=Num x k w c/\c6 [aS x,.int k,.int N]=.ok (τ (qO.gF w (bV.dE w (bV.aQ w k) 0 c))):=by
 have hr:=J8 hx hn;obtain⟨kd,et,hM,hl⟩:=yT hn hr;have T:Tb x kd:=⟨hM,by rw[hl];rfl⟩;have eb:=zC (q:=adr k6) (k:=k) hn hM T.o (EJ (x:=x));rw[iq,pz] at eb
 let tb:Sv:=.ro (.c8 (adr k6) kd.1 kd.2)
 let mr:Sv:=.ro (aG (zB x.length k))
 have main:∃d,c6 [aS x,.int k,.int N]=.ok d /\∃w c:Q0e,Gg x w/\c.length=w.length/\Dec (bV.aQ w k) c/\N=Num x k w c/\d=τ (qO.gF w (bV.dE w (bV.aQ w k) 0 c)):=by
  unfold c6;show mP rfl ?_;show aZ (S9 x k N .no .no .no .no .no .no) (ZV (rc1 (x:=.int k) rfl (by rw[bV.kB h0];rfl)) (by
   unfold sX;rw[bV.xrE (e9 (x:=.int k) rfl (bV.kB h0))];rfl)) ?_
  show aZ (S9 x k N tb .no .no .no .no .no) (dZ _ (e9 rfl et) rfl) ?_;show aZ (S9 x k N tb mr .no .no .no .no) (dZ _ (cP (x:=.int x.length) (y:=.int k) (cN (x:=aS x) rfl fZ) rfl (kR hn h0 h1)) rfl) ?_;show aZ (S9 x k N tb mr .no .no .no .no) (mL (NC (b:=af) (iQ (d:=.bl af) ?_ rfl) rfl) rfl) ?_
  .exact bV.EG (x:=.int 0) (y:=.int N) (w:=.int (Tot x k)) rfl rfl (dA rfl rfl rfl eb) (show aa (D.bl (Zv (0<=N)))=_ by rw[Zx hN]) (show aa (D.bl (Zv (N<Tot x k)))=_ by rw[Zx lp])
  show aZ (S9 x k N tb mr (.ro (τ [])) .no .no .no) rfl ?_;show aZ (S9 x k N tb mr (.ro (τ [])) (.ro (.int N)) .no .no) rfl ?_;show kN (λρ=>∃(w:Q0e) (Θ:Int) (v7 v8:Sv),Gg x w/\0<=Θ/\Θ<Rw x.length k w/\N=f6 x (Rw x.length k) [] w+Θ/\ρ=S9 x k N tb mr (.ro (τ w)) (.ro (.int Θ)) v7 v8) (bV.KC ?_) ?_
  .refine nZ x.length (λi ρ=>∃(b:Q0e) (Θ:Int) (v7 v8:Sv),b.length=i/\y6 x b/\0<=Θ/\Θ<Gn x (Rw x.length k) (x.length-i) b/\(∀z:Q0e,z.length+i=x.length->f6 x (Rw x.length k) [] (b++z)=N-Θ+f6 x (Rw x.length k) b z)/\ρ=S9 x k N tb mr (.ro (τ b)) (.ro (.int Θ)) v7 v8) (args1 (cN (x:=aS x) rfl fZ)) ∅ ⟨[],N,.no,.no,rfl,EJ,hN,lp,λz _=>by rw[ku];lia,rfl⟩ (λi ρ hi ⟨b,Θ,v7,v8,hbl,hb,r0,r1,hz,e⟩=>?_) λρ ⟨b,Θ,v7,v8,hbl,hb,r0,r1,hz,e⟩=>⟨b,Θ,v7,v8,⟨hbl,hb⟩,r0,by rw[Hq] at r1;show r1,by
    have:=hz [] (by simp);rw[ij] at this;rw[this];show N=N-Θ+0+Θ;lia,e⟩
   subst e;subst hbl;obtain⟨t,ht,p1,p2,e1⟩:=VP (q:=adr k6) hn hr T hb hi r0 r1;have e2:=zD (q:=adr k6) (k:=k) hn hr T hb t;generalize hA:qA x (Rw x.length k) (x.length-(b.length+1)) b t=A at p1 p2 e2;show⟨S9 x k N tb mr (.ro (τ b)) (.ro (.int Θ)) (.ro (.int b.length)) v8,rfl,?_⟩;show mO (S9 x k N tb mr (.ro (τ b)) (.ro (.int Θ)) (.ro (.int b.length)) (.ro (.int t))) (dZ (.int t) ?_ rfl) ?_
   .unfold aL aA aF;show rJ (i6 [aS x,.c8 (adr k6) kd.1 kd.2,aG (zB x.length k),τ b,.int Θ])=_;rw[e1];rfl
   show mO (S9 x k N tb mr (.ro (τ b)) (.ro (.int (Θ-A))) (.ro (.int b.length)) (.ro (.int t))) (dZ (.int (Θ-A)) (aU (x:=.int Θ) (y:=.int A) rfl ?_ rfl) rfl) ?_
   .unfold aL aA aF;show rJ (bQ [aS x,.c8 (adr k6) kd.1 kd.2,aG (zB x.length k),τ b,.int t])=_;rw[e2];rfl
   show DW (τ (b++[t])) (aU (x:=τ b) (y:=τ [t]) rfl rfl (yW (by simp;lia))) ⟨b++[t],Θ-A,.ro (.int b.length),.ro (.int t),by simp,hb.snoc ht,by lia,by lia,λz hz2=>?_,rfl⟩;have:=hz (t::z) (by simp;lia);rw[og];show f6 x (Rw x.length k) [] (b++t::z)=_;rw[this];show N-Θ+(qA x (Rw x.length k) z.length b t+f6 x (Rw x.length k) (b++[t]) z)=_;rw[show z.length=x.length-(b.length+1) by lia,hA];lia
  .rintro _ ⟨w,Θ,v7,v8,hw,r0,r1,eN,rfl⟩;rw[KJ hw h0] at r1;have wl:=hw.1;obtain⟨c,cl,cd,cr,ce⟩:=bV.VF (w:=w) ∅ h0 (bV.VJ ∅ h0 h1) r0 r1;show⟨_,ZV ?_ (dY (cP (x:=τ w) (y:=τ (bV.dE w (bV.aQ w k) 0 c)) rfl (dA rfl rfl rfl ce) (of_ok hn hw (by rw[bV.gH,cl])))),w,c,hw,cl,cd,?_,rfl⟩
   .unfold TY;show(aa (τ w)).bind _=ae;rw[c_];show bV.rcA (ds:=[τ w,.int k,.int Θ]) rfl (by rw[ce];rfl)
   .show N=_+(_-1-rk c);lia
 obtain⟨d,e,w,c,a1,a2,a3,a4,rfl⟩:=main;show⟨w,c,a1,a2,a3,a4,e⟩
def Ef(hx:Ord.Rows x)(hn:x.length<=9)(h0:0<=k)(h1:k<=10^61)(hN:¬ (0<=N/\N<Tot x k)):c6 [aS x,.int k,.int N]=.ex "NoNumber":=by
 have hr:=J8 hx hn;obtain⟨kd,et,hM,hl⟩:=yT hn hr;have T:Tb x kd:=⟨hM,by rw[hl];rfl⟩;have eb:=zC (q:=adr k6) (k:=k) hn hM T.o (EJ (x:=x));rw[iq,pz] at eb
 let tb:Sv:=.ro (.c8 (adr k6) kd.1 kd.2)
 let mr:Sv:=.ro (aG (zB x.length k))
 unfold c6;show Sy rfl (bT (S9 x k N .no .no .no .no .no .no) (ZV (rc1 (x:=.int k) rfl (by rw[bV.kB h0];rfl)) (by
   unfold sX;rw[bV.xrE (e9 (x:=.int k) rfl (bV.kB h0))];rfl)) (bT (S9 x k N tb .no .no .no .no .no) (dZ _ (e9 rfl et) rfl) (bT (S9 x k N tb mr .no .no .no .no) (dZ _ (cP (x:=.int x.length) (y:=.int k) (cN (x:=aS x) rfl fZ) rfl (kR hn h0 h1)) rfl) (Sx (wB (NC (b:=ag) (iQ (d:=.bl ag) ?_ rfl) rfl) rfl)))))
 by_cases h:0<=N
 .exact bV.EG (x:=.int 0) (y:=.int N) (w:=.int (Tot x k)) rfl rfl (dA rfl rfl rfl eb) (show aa (D.bl (Zv (0<=N)))=_ by rw[Zx h]) (show aa (D.bl (Zv (N<Tot x k)))=_ by rw[Zy λq=>hN ⟨h,q⟩])
 .exact bV.U9 (x:=.int 0) (y:=.int N) rfl rfl (show aa (D.bl (Zv (0<=N)))=_ by rw[Zy h])
def y6.take(h:y6 x w)(j:Nat):y6 x (w.take j):=λu t v e=>h u t (v++w.drop j) (by
 conv=>lhs;rw[<- a1Z j w,e]
 simp)
def y7{w:Q0e}{i:Nat}(h:i<=w.length):slM (τ w) ae (aa (i:Int))=aa (τ (w.take i)):=by show aa (D.tup (GC (w.map D.int) ae (aa (i:Int))))=_;unfold GC PQ τ;dsimp only;rw[Zz ∅];rw[nz,a_,pz,show min ((i:Int)).toNat w.length=i by lia,Hx]
def aAT(hk:∀v∈fl,1<=v/\v<=k)(hp:w.Perm (bD 0 fl.length))(hs:w.Pairwise (Lk fl)):bV.VD w k (w.map (η fl))=af:=by
 have hm:∀a∈w,0<=a/\a<fl.length:=λa ha=>by have:=aT.1 (hp.mem_iff.1 ha);lia
 unfold bV.VD;rw[iu];show⟨gp.2 λe he=>?_,gp.2 λp hp2=>?_⟩
 .obtain ⟨a,ha,rfl⟩:=fw.1 he;obtain⟨a0,a1⟩:=hm a ha;have:η fl a∈fl:=by unfold η;rw[bw ∅];show k_ _
  have:=hk _ this;unfold bV.TH;rw[Zx this.1,Zx this.2];rfl
 .have hp2:=aT.1 hp2;rw[a_] at hp2;obtain⟨i,rfl⟩:∃i:Nat,p=(i:Int):=⟨p.toNat,by lia⟩;have hi:i+1<w.length:=by lia
  have l:=vj.1 hs i (i+1) ∅ hi ∅;have e1:η (w.map (η fl)) i=η fl w[i]:=by rw[qO.jA (by rw[a_];lia),qd]
  have e2:η (w.map (η fl)) ((i:Int)+1)=η fl w[i+1]:=by rw[show(i:Int)+1=((i+1:Nat):Int) by lia,qO.jA (by rw[a_];lia),qd]
  have e3:η w i=w[i]:=qO.jA ∅;have e4:η w ((i:Int)+1)=w[i+1]:=by rw[show(i:Int)+1=((i+1:Nat):Int) by lia,qO.jA hi]
  unfold bV.G8;rw[e1,e2,e3,e4];unfold Lk at l;show Zx (by split<;>lia)
theorem QG(hx:Ord.Rows x)(hn:x.length<=9){k:Int}(h0:0<=k)(h1:k<=10^61){fl:Q0e}(hl:fl.length=x.length)(hk:∀v∈fl,1<=v/\v<=k)(hrs:rs x fl=af):
  ∃w c:Q0e,Gg x w/\c.length=w.length/\Dec (bV.aQ w k) c/\mX fl=w/\sortI fl=bV.dE w (bV.aQ w k) 0 c/\fl=qO.gF w (bV.dE w (bV.aQ w k) 0 c)/\fB [aS x,.int k,τ fl]=.ok (.int (Num x k w c)):=by
 have hr:=J8 hx hn;have hg:=P7 hx hl hrs;obtain⟨hp,hs⟩:=yX fl;have eg:=GY (fl:=fl) ∅;have er:=P5 (fl:=fl) ∅;have esr:=yZ hp hs;have hR:=aAT hk hp hs;generalize hw:mX fl=w at *;rw[<- esr] at hR;have wl:=hg.1;have rl:(sortI fl).length=w.length:=by rw[esr,a_]
 have hd:=bV.aDJ rl hR;have cl:(bV.dE w (bV.aQ w k) 0 (sortI fl)).length=w.length:=by rw[bV.gH,rl]
 have en:=bV.QC ∅ h0 (bV.VJ (w:=w) ∅ h0 h1) cl hd;rw[bV.i5] at en;have wn:=jE hg.2;have fo:=of_ok hn hg rl;have fo2:=p9 (g:=w) (r:=sortI fl) ∅ (λa ha=>by have:=wn.2 a ha;lia);rw[esr,uI (fl:=fl) w (bu w.length 0) (by rw[ie,wl,hl]) (λa ha=>by have:=wn.2 a ha;lia) (λj hj hnm=>Zw (iZ hg.1 hg.2 (b:=(j:Int)) ∅ ∅) hnm),<- esr,fo] at fo2;have efl:fl=qO.gF w (sortI fl):=by
  have e:τ (qO.gF w (sortI fl))=τ fl:=by injection fo2
  unfold τ at e;injection e with e;show(a14 (f:=D.int) (λa b h=>by injection h)).1 e.symm
 show⟨w,bV.dE w (bV.aQ w k) 0 (sortI fl),hg,cl,hd,rfl,(bV.i5 ..).symm,by rw[bV.i5];show efl,?_⟩;generalize bV.dE w (bV.aQ w k) 0 (sortI fl)=c at *;obtain⟨kd,et,hM,hl2⟩:=yT hn hr;have T:Tb x kd:=⟨hM,by rw[hl2];rfl⟩
 let tb:Sv:=.ro (.c8 (adr k6) kd.1 kd.2)
 let mr:Sv:=.ro (aG (zB x.length k))
 let S:Sv->Sv->Sv->Sv->Sv->Sv->bU:=λa b c d e f=>[.ro (aS x),.ro (.int k),.ro (τ fl),a,b,c,d,e,f]
 have hk2:inK k fl=af:=gp.2 λv hv=>by have:=hk v hv;rw[Zx this.1,Zx this.2];rfl
 have eri:=LL.rY hx hn (fl:=fl) h0 hl;rw[hk2,hrs] at eri;generalize hQ:C (bV.aQ w k) w.length-1-rk c=Q at en;have eN:Num x k w c=f6 x (Rw x.length k) [] w+Q:=by rw[<- hQ]
 rw[eN];unfold fB;show NV rfl ?_;show aZ (S .no .no .no .no .no .no) (by
   unfold sX;rw[bV.xrE (e9 (x:=.int k) rfl (bV.kB h0))];rfl) ?_
 show aZ (S .no .no .no .no .no .no) (mL (NC (b:=af) (iQ (d:=.bl af) (dA rfl rfl rfl eri) rfl) rfl) rfl) ?_;show aZ (S tb .no .no .no .no .no) (dZ _ (e9 rfl et) rfl) ?_;show aZ (S tb mr .no .no .no .no) (dZ _ (cP (x:=.int x.length) (y:=.int k) (cN (x:=aS x) rfl fZ) rfl (kR hn h0 h1)) rfl) ?_;show aZ (S tb mr (.ro (τ w)) .no .no .no) (dZ _ (e9 rfl eg) rfl) ?_;show aZ (S tb mr (.ro (τ w)) (.ro (.int Q)) .no .no) (dZ _ (dA (x:=τ w) (y:=.int k) (z:=τ (sortI fl)) rfl rfl (e9 rfl er) en) rfl) ?_;show kN (λρ=>∃v7 v8,ρ=S tb mr (.ro (τ w)) (.ro (.int (f6 x (Rw x.length k) [] w+Q))) v7 v8) ?_ λρ ⟨v7,v8,e⟩=>by subst e;show kO _ rfl rfl
 show uC ((w.map D.int).zipIdx.map λp=>.tup [.int (p.2:Int),p.1]) (λj ρ=>∃(B:Int) (v7 v8:Sv),B+f6 x (Rw x.length k) (w.take j) (w.drop j)=f6 x (Rw x.length k) [] w+Q/\ρ=S tb mr (.ro (τ w)) (.ro (.int B)) v7 v8) rfl ⟨Q,.no,.no,by rw[a1W,nz];lia,rfl⟩ (λj d ρ hd2 ⟨B,v7,v8,hB,e⟩=>?_) λρ ⟨B,v7,v8,hB,e⟩=>⟨v7,v8,by
  rw[a_,a16,a_,Ik] at hB;rw[e,<- hB];show _=S _ _ _ (Sv.ro (.int (B+0))) _ _;rw[vx]⟩
 subst e;rw[cf,Ai,cf] at hd2;obtain⟨q,hq,rfl⟩:=ip.1 hd2;obtain⟨q2,hq2,rfl⟩:=ip.1 hq;obtain⟨t,ha,rfl⟩:=ip.1 hq2;obtain⟨hj,ht⟩:=cb.1 ha;have hb:=y6.take (x:=x) hg.2 j;have tl:(w.take j).length=j:=by rw[kz];lia
 have ea:=zD (q:=adr k6) (k:=k) hn hr T hb t;rw[tl] at ea;rw[r_ hj,ht] at hB;have hB:B+(qA x (Rw x.length k) (w.drop (j+1)).length (w.take j) t+f6 x (Rw x.length k) (w.take j++[t]) (w.drop (j+1)))=f6 x (Rw x.length k) [] w+Q:=hB;rw[qc,wl] at hB;show⟨S tb mr (.ro (τ w)) (.ro (.int B)) (.ro (.int (j:Int))) (.ro (.int t)),by rw[kj];rfl,?_⟩;show DW (.int (B+qA x (Rw x.length k) (x.length-(j+1)) (w.take j) t)) (aU (x:=.int B) (y:=.int (qA x (Rw x.length k) (x.length-(j+1)) (w.take j) t)) rfl ?_ rfl) ⟨_,_,_,?_,rfl⟩
 .have es:ZE (aB 5) ll (oE (aB 7)) (jL (S tb mr (.ro (τ w)) (.ro (.int B)) (.ro (.int (j:Int))) (.ro (.int t))))=aa (τ (w.take j)):=y7 ∅;unfold aL aA aF;rw[es];show rJ (bQ [aS x,.c8 (adr k6) kd.1 kd.2,aG (zB x.length k),τ (w.take j),.int t])=_;rw[ea];rfl
 .have:w.take (j+1)=w.take j++[t]:=by rw[List.take_succ_eq_append_getElem hj,ht]
  rw[this];lia
theorem Yk(nd:w.Nodup)(hl:r.length=w.length)(h:bV.VD w k r=af):qO.Rw w r w.length:=by
 unfold bV.VD at h;have h2:=gp.1 (a2z.1 h).2;have step:∀i:Nat,i+1<w.length->η r i<η r ((i:Int)+1)\/(η r i=η r ((i:Int)+1)/\η w i<η w ((i:Int)+1)):=λi hi=>by
  have a:=h2 (i:Int) (aT.2 ∅);unfold bV.G8 at a;have a:=of_decide_eq_true a;have ne:η w i≠η w ((i:Int)+1):=λz=>by rw[show(i:Int)+1=((i+1:Nat):Int) by lia,qO.jA ∅,qO.jA ∅] at z;have z1:=vw nd i ∅;have z2:=vw nd (i+1) ∅;rw[z] at z1;lia
  split at a<;>lia
 intro p q hpq hq;obtain⟨d,rfl⟩:∃d,q=p+1+d:=⟨q-(p+1),by lia⟩
 clear hpq
 induction d with
 |zero =>
  have:=step p ∅
  rwa [show((p+1+0:Nat):Int)=(p:Int)+1 by lia]
 |succ d ih =>
  have a:=ih ∅;have b:=step (p+1+d) ∅;rw[show((p+1+(d+1):Nat):Int)=((p+1+d:Nat):Int)+1 by lia];lia
theorem aAU(hx:Ord.Rows x)(hn:x.length<=9)(hw:Gg x w)(hl:r.length=w.length)(h:bV.VD w k r=af):
  (qO.gF w r).length=x.length/\(∀v∈qO.gF w r,1<=v/\v<=k)/\rs x (qO.gF w r)=af/\mX (qO.gF w r)=w/\sortI (qO.gF w r)=r:=by
 have dn:=jE hw.2;have dl:=hw.1;have hdr:∀a∈w,0<=a/\a<(w.length:Int):=λa ha=>by have:=dn.2 a ha;lia
 have mm:=qO.G2 dn.1 hdr hl;have mu:=qO.aAJ dn.1 hdr (Yk dn.1 hl h);have ml:=qO.G0 w r;have pm:w.Perm (bD 0 (qO.gF w r).length):=by rw[ml,dl];show aAF hw
 show⟨by lia,λv hv=>?_,?_,U1 pm mu,by rw[yZ pm mu,mm]⟩
 .unfold qO.gF at hv;obtain⟨a,ha,rfl⟩:=fw.1 hv;have ha:=aT.1 ha;have had:=iZ hw.1 hw.2 (b:=a) ∅ ∅;have hix:w.idxOf a<r.length:=by rw[hl];show List.idxOf_lt_length_iff.2 had
  have hm:η r (w.idxOf a:Nat)∈r:=by rw[qO.jA hix];show k_ _
  have:=gp.1 (a2z.1 h).1 _ hm;unfold bV.TH at this;rw[iu,decide_eq_true_eq,decide_eq_true_eq] at this;show this
 .exact (J6 hx).2 λb b0 b1 a ha=>by obtain⟨u,v,e⟩:=n_ (iZ hw.1 hw.2 b0 b1);have hu:=(pH.1 (hw.2 u b v e)).2.2 a ha;have mu2:(u++b::v).Pairwise (Lk (qO.gF w r)):=e▸mu;show(vk.1 mu2).2.2 a hu b b_
def VQ{fl w:Q0e}(hp:w.Perm (bD 0 fl.length))(hs:w.Pairwise (Lk fl)):kG (kts fl)=w.map λi=>[η fl i,i]:=by show rL ((eQ _).trans ((hp.map λi=>[η fl i,i]).symm)) (lR _) ?_;rw[ZG,nq];show An ?_ hs;intro a b h;rw[xu];unfold Lk at h;simp only[Iy,I_,decide_eq_false_iff_not,decide_eq_true_eq];lia
def VR{fl:Q0e}(hl:fl.length<=9):jZ [τ fl]=.ok (.tup [aG (mX fl),aG (sortI fl)]):=by
 obtain⟨hp,hs⟩:=yX fl;have es:=VQ hp hs;have esr:=yZ hp hs;have wl:(mX fl).length=fl.length:=by have:=hp.length_eq;rwa [aO] at this
 generalize mX fl=w at *
 let pr:Int->D:=λi=>.tup [.int (η fl i),.int i]
 unfold jZ;show eT rfl (bT [.ro (τ fl),.ro (.lst (w.map pr))] (dZ (.lst (w.map pr)) ?_ rfl) (dY (ZW (x:=aG w) (y:=aG (sortI fl)) ?_ ?_)))
 .refine cN (x:=.lst ((bD 0 fl.length).map pr)) (fY ((bD 0 fl.length).map D.int) (GK (cN (x:=τ fl) rfl xE) ∅) (by rw[a_,aO];lia) (dP D.int pr (bD 0 fl.length) λi hi=>⟨[aa (.int i),aa (τ fl)],rfl,?_⟩)) ?_
  .have:=aT.1 hi;show ZW (x:=.int (η fl i)) (y:=.int i) (aU (x:=τ fl) (y:=.int i) rfl rfl (mS ∅ ∅)) rfl
  .have e:(bD 0 fl.length).map pr=(kts fl).map τ:=by unfold kts;rw[de];rfl
   have hall:(kts fl).all (λt=>!t.isEmpty)=af:=by rw[gp];intro t ht;unfold kts at ht;obtain⟨a,_,rfl⟩:=fw.1 ht;rfl
   unfold mG;rw[e];show((kH ((kts fl).map τ)).bind _)=_;rw[qM];show(if(kts fl).length<64/\_ then _ else ae)=_;rw[Z_ ⟨by rw[EB];lia,hall⟩,es,de];rfl
 .exact fY (w.map pr) rfl (by rw[a_];lia) (dP pr D.int w λi hi=>⟨[aa (.int (η fl i)),aa (.int i)],rfl,rfl⟩)
 .rw [esr];unfold aG;rw[de];show fY (w.map pr) rfl (by rw[a_];lia) (dP pr _ w λi hi=>⟨[aa (.int (η fl i)),aa (.int i)],rfl,rfl⟩)
theorem EK:∀(w b:Q0e),y6 x (b++w)->Way x b w
 |[],_,_=>trivial
 |t::w,b,h=>⟨h b t w rfl,EK w (b++[t]) (by rw[og];show h)⟩
def VS(hl:c.length=w.length)(hd:Dec (bV.aQ w k) c):0<=rk c/\rk c<C (bV.aQ w k) w.length:=by have:=NU hd;rw[hl] at this;show⟨NT hd,this⟩
def EL(h0:0<=k)(hw:Gg x w)(hz:Gg x z)(hc:c.length=w.length)(hd:d.length=z.length)(dc:Dec (bV.aQ w k) c)(dd:Dec (bV.aQ z k) d)(h:dC w z=af):Num x k w c<Num x k z d:=by have e:=U4 (R:=Rw x.length k) VO w z [] (by rw[hw.1,hz.1]) (EK w [] hw.2) (EK z [] hz.2) h;rw[ku,KJ hw h0] at e;have:=VS hc dc;have:=VS hd dd;show f6 x (Rw x.length k) [] w+(_-1-rk c)<f6 x (Rw x.length k) [] z+(_-1-rk d);lia
def N6(h0:0<=k)(hw:Gg x w)(hz:Gg x z)(hc:c.length=w.length)(hd:d.length=z.length)(dc:Dec (bV.aQ w k) c)(dd:Dec (bV.aQ z k) d)(h:Num x k w c<Num x k z d):GG w (bV.dE w (bV.aQ w k) 0 c) z (bV.dE z (bV.aQ z k) 0 d)=af:=by
 unfold GG;by_cases e:w=z
 .subst e;rw[Z_ rfl];show bV.VH hc hd dc dd ?_;have h:f6 x (Rw x.length k) [] w+(C (bV.aQ w k) w.length-1-rk c)<f6 x (Rw x.length k) [] w+(C (bV.aQ w k) w.length-1-rk d):=h;lia
 .rw [Zz e]
  cases q:dC w z with
  |true=>rfl
  |false =>
   cases q2:dC z w with
   |true=>have:=EL h0 hz hw hd hc dd dc q2;lia
   |false=>show Zw (DM _ _ q q2) e
theorem aAV(h0:0<=k)(hw:Gg x w)(hz:Gg x z)(hc:c.length=w.length)(hd:d.length=z.length)(dc:Dec (bV.aQ w k) c)(dd:Dec (bV.aQ z k) d)(h:Num x k w c=Num x k z d):w=z/\c=d:=by
 cases q:dC w z with
 |true=>have:=EL h0 hw hz hc hd dc dd q;lia
 |false =>
  cases q2:dC z w with
  |true=>have:=EL h0 hz hw hd hc dd dc q2;lia
  |false =>
   have e:=DM _ _ q q2;subst e;have h:f6 x (Rw x.length k) [] w+(C (bV.aQ w k) w.length-1-rk c)=f6 x (Rw x.length k) [] w+(C (bV.aQ w k) w.length-1-rk d):=h;have e:rk c=rk d:=by lia
   show⟨rfl,U0 (N:=rk c) ∅ (UZ dc) (by rw[e];show UZ dd)⟩
def aDM(h0:0<=k)(hw:Gg x w)(hc:c.length=w.length)(dc:Dec (bV.aQ w k) c):0<=Num x k w c/\Num x k w c<Tot x k:=by obtain⟨a,b⟩:=ED (R:=Rw x.length k) VO w [] (EK w [] hw.2);rw[ku,KJ hw h0] at b;have:=VS hc dc;have b:f6 x (Rw x.length k) [] w+C (bV.aQ w k) w.length<=Gn x (Rw x.length k) w.length []:=b;rw[hw.1] at b;show 0<=f6 x (Rw x.length k) [] w+(_-1-rk c)/\f6 x (Rw x.length k) [] w+(_-1-rk c)<Gn x (Rw x.length k) x.length [];rw[hw.1] at *;lia
def aAW(h:c6 [w,k,n]=.ok d):kQ [w,k,n]=.ok (.tup [.str "told",d]):=by unfold kQ;show eT rfl (bT _ rfl (bT _ rfl (bV.Yp (ρ':=[.ro w,.ro k,.ro n,.ro d,.ro (.lst []),.no]) (ZV (bV.rcA (ds:=[w,k,n]) rfl (by rw[h];rfl)) (dZ _ (dA rfl rfl rfl h) rfl)) ?_)));show bT _ rfl (dY rfl)
def N7(h:c6 [w,k,n]=.ex "NoNumber"):kQ [w,k,n]=.ok (.tup [.str "refused",.str "NoNumber"]):=by unfold kQ;show eT rfl (bT _ rfl (bT _ rfl (bV.Yo (Sw (bV.rcA (ds:=[w,k,n]) rfl (by rw[h];rfl))) (Z_ rfl) ?_)));show NW (wB rfl (dY ?_));unfold iP;rw[args2 (x:=.str "refused") (y:=.str "NoNumber") rfl (e9 (x:=bV.Bf) rfl bV.aDK)];rfl
def A4(hx:Ord.Rows x)(hn:x.length<=9)(h0:0<=k)(hl:fl.length=x.length)(hk:∀v∈fl,1<=v/\v<=k)(hrs:rs x fl=af):d9 [aS x,.int k,τ fl]=.ok (.bl af):=by
 have ris:=GS hx hn hl;rw[hrs] at ris;unfold d9;show NV rfl ?_;show aZ [.ro (aS x),.ro (.int k),.ro (τ fl),.no] (mL (yN (b:=ag) (NC (b:=af) (iQ (d:=.bl af) (isi (d:=τ fl) rfl) rfl) rfl) (λ_=>iQ (d:=.bl (!Zv ((fl.length:Int)=x.length))) (aU (x:=.int fl.length) (y:=.int x.length) (cN (x:=τ fl) rfl xE) (cN (x:=aS x) rfl fZ) rfl) (by rw[hl];simp[lF])) λh=>by cases h) rfl) ?_;show kN (λρ=>∃v,ρ=[.ro (aS x),.ro (.int k),.ro (τ fl),v]) ?_ λρ hq0=>by obtain⟨v,e⟩:=hq0;subst e;show kO (.bl af) (bV.VL ?_ (cP rfl rfl ris)) rfl;show aa (D.bl (Zv (k >= 0)))=_;rw[Zx ∅]
 show uC (fl.map D.int) (λ_ ρ=>∃v,ρ=[.ro (aS x),.ro (.int k),.ro (τ fl),v]) rfl ⟨.no,rfl⟩ (λj d ρ hd ⟨v,e⟩=>?_) λρ h=>h;subst e;rw[cf] at hd;obtain⟨a,ha,rfl⟩:=ip.1 hd;have hka:=hk a (l_ ha);show⟨[.ro (aS x),.ro (.int k),.ro (τ fl),.ro (.int a)],rfl,_,mL (yN (b:=ag) (NC (b:=af) (iQ (d:=.bl af) (isi (d:=.int a) rfl) rfl) rfl) (λ_=>yN (b:=ag) (iQ (d:=.bl ag) (isi (d:=.int a) rfl) rfl) (λ_=>yN (b:=ag) (iQ (d:=.bl (Zv (a<1))) (aU (x:=.int a) (y:=.int 1) rfl rfl rfl) (by rw[Zy ∅];rfl)) (λ_=>iQ (d:=.bl (Zv (a>k))) (aU (x:=.int a) (y:=.int k) rfl rfl rfl) (by rw[Zy ∅];rfl)) λh=>by cases h) λh=>by cases h) λh=>by cases h) rfl,_,rfl⟩
def VT:JT (.tup [aG a,aG b]) (.tup [aG c,aG d])=aa (.bl (GG a b c d)):=by show((intsOf (a.map D.int)).bind λx=>(intsOf (b.map D.int)).bind λy=>(intsOf (c.map D.int)).bind λz=>(intsOf (d.map D.int)).map λu=>D.bl (GG x y z u))=_;rw[b7,b7,b7,b7];rfl
theorem EM(hx:Ord.Rows x)(hn:x.length<=9)(h0:0<=k)(h1:k<=10^61)(hN:0<=N/\N<Tot x k):
  ∃w c:Q0e,Gg x w/\c.length=w.length/\Dec (bV.aQ w k) c/\N=Num x k w c /\∃fl:Q0e,fl=qO.gF w (bV.dE w (bV.aQ w k) 0 c)/\kQ [aS x,.int k,.int N]=.ok (.tup [.str "told",τ fl])/\d9 [aS x,.int k,τ fl]=.ok (.bl af)/\jZ [τ fl]=.ok (.tup [aG w,aG (bV.dE w (bV.aQ w k) 0 c)]):=by
 obtain⟨w,c,hw,hc,dc,eN,e⟩:=VF hx hn h0 h1 hN.1 hN.2;obtain⟨m1,m2,m3,m4,m5⟩:=aAU hx hn hw (by rw[bV.gH,hc]) (bV.VG hc dc);have ek:=VR (fl:=qO.gF w (bV.dE w (bV.aQ w k) 0 c)) ∅;rw[m4,m5] at ek;show⟨w,c,hw,hc,dc,eN,_,rfl,aAW e,A4 hx hn h0 m1 m2 m3,ek⟩
abbrev SL(ns:Q0e)(x:Q0a)(v3 v4 v5 v6 v7 v8:Sv):bU:=[.ro (.j6 ns),.ro (aS x),.ro (.int x.length),v3,v4,v5,v6,v7,v8]
def VU(ns:Q0e)(hns:ns.length<=63):B7 [.j6 ns]=.ok (.bl af):=by
 obtain⟨_,ed,x,hxl,hx,rfl⟩:=UE ns 0 9 100003 (by decide) (by decide);have hn:x.length<=9:=by lia
 obtain⟨c2,ec2⟩:=xC ns 2;obtain⟨hd,hdl,_,ehd⟩:=rV c2 (x.length+1) 200017 ∅ ∅;have hdl:hd.length=x.length+1:=by lia
 obtain⟨w0,hw0,ew0⟩:=aAG hx hn (dr:=hd) ∅;obtain⟨fl,hfl,hfr,hrs,efl⟩:=P6 hx hn hw0 ns 4 300007;obtain⟨v,v0,v1,ev⟩:=LL.GZ ns 3 400009;obtain⟨m0,m1⟩:=bV.EI fl 0 ∅ (show(0:Int)<=10^60 by decide) λe he=>by have:=hfr e he;lia
 have mg:=(EC fl 0).2;have m0:0<=jW (0::fl):=m0;have m1:jW (0::fl)<=10^60:=m1;generalize hm:jW (0::fl)=m at m0 m1 mg;have k1:m+v<=10^61:=by
  have:(10:Int)^60+10^58<=10^61:=by decide
  lia
 have k0:0<=m+v:=by lia
 have ek:aE cD (cZ GF (aA (aE cD (iP (aA (eC (.int 0)) aF)) (aB 4)) aF)) (aL LL.gK (aA (aB 0) (aA (eC (.int 3)) (aA (eC (.int 400009)) aF)))) (jL (SL ns x (.ro (aG hd)) (.ro (τ fl)) .no .no .no .no))=aa (.int (m+v)):=by show aU (x:=.int m) (y:=.int v) (cN (x:=τ (0::fl)) (aU (x:=τ [0]) (y:=τ fl) rfl rfl (yW (by simp;lia))) ?_) (dA rfl rfl rfl ev) rfl;show((intsOf ((0::fl).map D.int)).bind λns=>if ns=[] then ae else aa (D.int (jW ns)))=_;rw[b7,c_,Zz (by simp),hm]
 have hk:∀e∈fl,1<=e/\e<=m+v:=λe he=>by have:=hfr e he;have:=mg e he;lia
 generalize m+v=k at *;obtain⟨w,c,hw,hc,dc,ew,er,em,eN⟩:=QG hx hn k0 k1 hfl hk hrs;have eky:=VR (fl:=fl) ∅;rw[ew,er] at eky;obtain⟨nn0,nn1⟩:=aDM k0 hw hc dc;have back:kQ [aS x,.int k,.int (Num x k w c)]=.ok (.tup [.str "told",τ fl]):=by obtain⟨z,d,hz,hdl,dd,e,f2,ef,e2,_⟩:=EM hx hn k0 k1 ⟨nn0,nn1⟩;obtain⟨rfl,rfl⟩:=aAV k0 hw hz hc hdl dc dd e;rw[e2,ef,<- em]
 generalize hN:Num x k w c=N at *;have aOd:(D.tup [.str "told",τ fl]).A2=af:=bV.VM fl;unfold B7;show NV rfl ?_;show aZ [.ro (.j6 ns),.ro (aS x),.no,.no,.no,.no,.no,.no,.no] (dZ (aS x) (aCv rfl rfl rfl rfl ed) rfl) ?_;show aZ (SL ns x .no .no .no .no .no .no) (dZ (.int x.length) (cN (x:=aS x) rfl fZ) rfl) ?_;show aZ (SL ns x (.ro (aG hd)) .no .no .no .no .no) (dZ (aG hd) (dA (x:=.int c2) (y:=.int (x.length+1)) (z:=.int 200017) (cP rfl rfl ec2) rfl rfl ehd) rfl) ?_;show aZ (SL ns x (.ro (aG hd)) (.ro (τ fl)) .no .no .no .no) (dZ (τ fl) ?_ rfl) ?_
 .have e:aL LL.jF (aA (aB 1) (aA (aB 3) aF)) (jL (SL ns x (.ro (aG hd)) .no .no .no .no .no))=aa (τ w0):=cP rfl rfl ew0;generalize aL LL.jF (aA (aB 1) (aA (aB 3) aF))=g at e ⊢;unfold aL aA aF;rw[e];show rJ (gZ [.j6 ns,.int 4,aS x,τ w0,.int 300007])=_;rw[efl];rfl
 show aZ (SL ns x (.ro (aG hd)) (.ro (τ fl)) (.ro (.int k)) .no .no .no) (dZ (.int k) ek rfl) ?_;show aZ (SL ns x (.ro (aG hd)) (.ro (τ fl)) (.ro (.int k)) (.ro (.int N)) .no .no) (dZ (.int N) (dA rfl rfl rfl eN) rfl) ?_;show aZ _ (mL (yN (b:=ag) (NC (b:=af) (iQ (d:=.bl af) (isi (d:=.int N) rfl) rfl) rfl) (λ_=>yN (b:=ag) (iQ (d:=.bl ag) (isi (d:=.int N) rfl) rfl) (λ_=>iQ (d:=.bl (Zv (N<0))) (aU (x:=.int N) (y:=.int 0) rfl rfl rfl) (by rw[Zy ∅];rfl)) λh=>by cases h) λh=>by cases h) rfl) ?_;show aZ _ (mL (NC (b:=af) (iQ (d:=.bl af) (cP (x:=.tup [.str "told",τ fl]) (y:=.tup [.str "told",τ fl]) (dA rfl rfl rfl back) rfl (bV.QE ∅)) rfl) rfl) rfl) ?_;have hh:aE iU (aE dQ (aB 3) (aB 2)) (eC (.int 2)) (bR (SL ns x (.ro (aG hd)) (.ro (τ fl)) (.ro (.int k)) (.ro (.int N)) .no .no))=aa (.int (η hd x.length%2)):=aU (x:=.int (η hd x.length)) (y:=.int 2) (aU (x:=aG hd) (y:=.int x.length) rfl rfl (yS ∅ ∅)) rfl (d8 (by decide));have cond:=iQ (d:=.bl (Zv (η hd x.length%2=0))) (b:=Zv (η hd x.length%2=0)) (aU (g:=rG) (x:=.int (η hd x.length%2)) (y:=.int 0) hh (show eC (.int 0) _=_ from rfl) rfl) rfl;by_cases par:η hd x.length%2=0
 .rw [Zx par] at cond;show xB ?_;by_cases last:N+1<Tot x k
  .obtain ⟨z,d,hz,hdl,dd,e,f2,ef,e2,e3,e4⟩:=EM hx hn k0 k1 (N:=N+1) ⟨by lia,last⟩;have lx:=N6 k0 hw hz hc hdl dc dd ∅;show⟨_,wB cond (bT (SL ns x (.ro (aG hd)) (.ro (τ fl)) (.ro (.int k)) (.ro (.int N)) (.ro (.str "told")) (.ro (τ f2))) (bV.uf (dA (x:=aS x) (y:=.int k) (z:=.int (N+1)) rfl rfl rfl e2)) (bT _ (mL rfl rfl) (dY (bV.VL (dA rfl rfl rfl e3) (aU (x:=.tup [aG w,aG (bV.dE w (bV.aQ w k) 0 c)]) (y:=.tup [aG z,aG (bV.dE z (bV.aQ z k) 0 d)]) (e9 rfl eky) (e9 rfl e4) (by rw[VT,lx])))))),rfl⟩
  .have e2:=N7 (Ef hx hn k0 k1 (N:=N+1) λq=>last q.2);show⟨_,wB cond (bT (SL ns x (.ro (aG hd)) (.ro (τ fl)) (.ro (.int k)) (.ro (.int N)) (.ro (.str "refused")) (.ro (.str "NoNumber"))) (bV.uf (dA (x:=aS x) (y:=.int k) (z:=.int (N+1)) rfl rfl rfl e2)) (NW (wB rfl (dY rfl)))),rfl⟩
 .rw [Zy par] at cond;show aZ _ (mL cond rfl) ?_;by_cases z0:N=0
  .have e2:=N7 (Ef hx hn k0 k1 (N:=N-1) λq=>by lia);show aZ (SL ns x (.ro (aG hd)) (.ro (τ fl)) (.ro (.int k)) (.ro (.int N)) (.ro (.str "refused")) (.ro (.str "NoNumber"))) (bV.uf (dA (x:=aS x) (y:=.int k) (z:=.int (N-1)) rfl rfl rfl e2)) ?_;show xB ⟨_,wB (iQ (d:=.bl (Zv (N=0))) (aU (x:=.int N) (y:=.int 0) rfl rfl rfl) (by rw[Zx z0];rfl)) (dY (bV.VL rfl rfl)),rfl⟩
  .obtain ⟨z,d,hz,hdl,dd,e,f2,ef,e2,e3,e4⟩:=EM hx hn k0 k1 (N:=N-1) ⟨by lia,by lia⟩;have lx:=N6 k0 hz hw hdl hc dd dc ∅;show aZ (SL ns x (.ro (aG hd)) (.ro (τ fl)) (.ro (.int k)) (.ro (.int N)) (.ro (.str "told")) (.ro (τ f2))) (bV.uf (dA (x:=aS x) (y:=.int k) (z:=.int (N-1)) rfl rfl rfl e2)) ?_;show aZ _ (mL (iQ (d:=.bl (Zv (N=0))) (aU (x:=.int N) (y:=.int 0) rfl rfl rfl) (by rw[Zy z0];rfl)) rfl) ?_;show kO (.bl af) (bV.VL rfl (bV.VL (dA rfl rfl rfl e3) (aU (x:=.tup [aG z,aG (bV.dE z (bV.aQ z k) 0 d)]) (y:=.tup [aG w,aG (bV.dE w (bV.aQ w k) 0 c)]) (e9 rfl e4) (e9 rfl eky) (by rw[VT,lx])))) rfl
end
end K16
section
-- CHANGE: your row's module here,as the last of these rows
namespace L2
open PySem.Spec PyProof.Rows
abbrev Key:=Sum Int aj
noncomputable def B8:Key->ai->Bool
 |.inl k,v=>a0X k v
 |.inr x,v=>a0W x v
noncomputable def To(w:ba):Key->Int
 |.inl k=>hashInt k
 |.inr x=>hashStr w x
theorem dF:∀{k:Key} {v:ai},B8 k v=af->(∃i t,k=cm i/\v=jv i t)\/(∃x t,k=jk x/\v=yw x t)
 |.inl i,v,h=>by obtain⟨t,e⟩:=Value.isInt_shape (k:=i) (v:=v) h;show .inl ⟨i,t,rfl,e⟩
 |.inr x,v,h=>by obtain⟨t,e⟩:=Value.isStrOf_shape (x:=x) (v:=v) h;show .inr ⟨x,t,rfl,e⟩
def QH(i:Int)(t:gk):B8 (.inl i) (.int i t)=af:=by simp[B8,a0X]
def QI(x:aj)(t:gk):B8 (.inr x) (.str x t)=af:=by simp[B8,a0W]
def aDN(a b:Int):Zv ((cm a:Key)=cm b)=(a == b):=by
 by_cases e:a=b
 .subst e;simp
 .have h:¬ (cm a:Key)=cm b:=λq=>e (yf q);rw[Zy h];show(beq_eq_false_iff_ne.mpr e).symm
def aDO(a b:aj):Zv ((jk a:Key)=jk b)=Zv (a=b):=by
 by_cases e:a=b
 .subst e;simp
 .have h:¬ (jk a:Key)=jk b:=λq=>e (Fi q);rw[Zy h,Zy e]
def aDP(a:Int)(b:aj):Zv ((cm a:Key)=jk b)=ag:=Zy (λq=>nomatch q)
def aDQ(a:aj)(b:Int):Zv ((jk a:Key)=cm b)=ag:=Zy (λq=>nomatch q)
def bI(Ω:bc)(w:ba):PySem.KeyKind Ω w Key where
 is:=B8
 hash:=To w
 inj:=λv a b ha hb=>by
  rcases dF ha with⟨i,t,rfl,rfl⟩|⟨x,t,rfl,rfl⟩
  .rcases dF hb with⟨j,u,rfl,e⟩|⟨y,u,rfl,e⟩
   .injection e with e1 _;rw[e1]
   .exact nomatch e
  .rcases dF hb with⟨j,u,rfl,e⟩|⟨y,u,rfl,e⟩
   .exact nomatch e
   .injection e with e1 _;rw[e1]
 byValue:=λk v h=>by rcases dF h with⟨i,t,rfl,rfl⟩|⟨x,t,rfl,rfl⟩<;>rfl
 pyHash:=λhv h=>by
  rcases dF hv with⟨i,t,rfl,rfl⟩|⟨x,t,rfl,rfl⟩
  .exact wpAny_pyHash_int h
  .exact wpAny_pyHash_str h
 eqBool:=λhu hv h=>by
  rcases dF hu with⟨i,t,rfl,rfl⟩|⟨x,t,rfl,rfl⟩
  .rcases dF hv with⟨j,u,rfl,rfl⟩|⟨y,u,rfl,rfl⟩
   .rw [aDN] at h;show a0n h
   .rw [aDP] at h;show a01 i t y u _ _ _ _ h
  .rcases dF hv with⟨j,u,rfl,rfl⟩|⟨y,u,rfl,rfl⟩
   .rw [aDQ] at h;show a00 x t j u _ _ _ _ h
   .rw [aDO] at h;show wpAny_eqBool_str h
 «strs»:=λk x t v h=>by
  rcases dF h with⟨i,u,rfl,e⟩|⟨y,u,rfl,e⟩
  .exact nomatch e
  .injection e with e1 _;subst e1;cases v<;>rfl
def HA(Ω:bc)(w:ba)(i:Int)(t:gk):(bI Ω w).is (.inl i) (.int i t)=af:=QH i t
def HB(Ω:bc)(w:ba)(x:aj)(t:gk):(bI Ω w).is (.inr x) (.str x t)=af:=QI x t
abbrev N1:=List (Sum Key (List Key))
abbrev KX:=Sum Key N1
section
variable{Ω:bc}{w:ba}{K:Type}[dK:DecidableEq K](knd:KeyKind Ω w K)
noncomputable def qP(h:ay):Sum K (List K)->ai->Prop
 |.inl k,v=>knd.is k v=af
 |.inr ks,v=>∃b,v=.ref b/\IsTupleKey knd h ks b
inductive iH (h:ay):List (Sum K (List K))->List ai->Prop
 |nil:iH h [] []
 |cons {k:Sum K (List K)} {v:ai} {ks:List (Sum K (List K))} {vs:Q0f}:qP knd h k v->iH h ks vs->iH h (k::ks) (v::vs)
def i7(h:ay)(ks:List (Sum K (List K)))(a:ah):Prop:=∃o items n,h.get? a=aa o/\o.cls=.type "tuple" /\o.data=.seq items n/\iH knd h ks items.toList
variable{knd}
theorem qP.inj{h:ay}{v:ai}:∀{x y:Sum K (List K)},qP knd h x v->qP knd h y v->x=y
 |.inl a,.inl b,hx,hy=>by rw[knd.inj _ _ _ hx hy]
 |.inl a,.inr b,hx,⟨q,e,_⟩=>by subst e;show Zw (knd.byValue _ _ hx) (by simp[carriedByValue])
 |.inr a,.inl b,⟨q,e,_⟩,hy=>by subst e;show Zw (knd.byValue _ _ hy) (by simp[carriedByValue])
 |.inr a,.inr b,⟨q,e,hx⟩,⟨r,f,hy⟩=>by subst e;injection f with f;subst f;rw[hx.inj hy]
theorem iH.inj{h:ay}{x:List (Sum K (List K))}{vs:Q0f}(hx:iH knd h x vs):∀{y},iH knd h y vs->x=y:=by
 induction hx with
 |nil=>intro y hy;cases hy;rfl
 |cons h1 _ ih =>
  intro y hy
  cases hy with
  |cons h2 t2=>rw[h1.inj h2,ih t2]
def i7.typeIs{s:ak}{ks:List (Sum K (List K))}{a:ah}(x:i7 knd s.heap ks a):s.TypeIs (.ref a) "tuple":=let ⟨o,_,_,ho,hc,_⟩:=x;⟨o,ho,hc⟩
def i7.inj{h:ay}{a:ah}{x y:List (Sum K (List K))}(hx:i7 knd h x a)(hy:i7 knd h y a):x=y:=by obtain⟨o,ι,n,ho,_,hd,hi⟩:=hx;obtain⟨o',its',n',ho',_,hd',hi'⟩:=hy;rw[ho] at ho';cases ho';rw[hd] at hd';cases hd';show hi.inj hi'
theorem i7.keeps{es ep}(x:i7 knd h ks a)(ho:h.get? d=aa o)(hd:o.data=.dict es ep)(hs:m_ d h h'):i7 knd h' ks a:=by
 obtain⟨q,items,n,hq,hc,hi,his⟩:=x;have ne:a≠d:=λz=>by subst z;rw[hq] at ho;cases ho;rw[hi] at hd;cases hd
 show⟨q,items,n,(hs.2 a ne).trans hq,hc,hi,?_⟩;have go:∀{ks:List (Sum K (List K))} {vs:Q0f},iH knd h ks vs->iH knd h' ks vs:=by
  intro ks vs t
  induction t with
  |nil=>show .nil
  | @cons k v ks vs h1 _ ih =>
   show .cons ?_ ih
   cases k with
   |inl k=>show h1
   |inr k=>obtain⟨b,e,hb⟩:=h1;show⟨b,e,hb.keeps ho hd hs⟩
 show go his
noncomputable def sH(knd:KeyKind Ω w K):Sum K (List K)->Int
 |.inl k=>knd.hash k
 |.inr ks=>tupleKeyHash knd ks
noncomputable def lX:Sum K (List K)->Nat
 |.inl _=>1
 |.inr ks=>ks.length+1
def zE(knd:KeyKind Ω w K)(ks:List (Sum K (List K))):Int:=reduceHash (a1t (ks.map (sH knd)))
def pJ(ks:List (Sum K (List K))):Nat:=(ks.map lX).sum+1
variable{s:ak}{A:bq}{E:Q0c}
theorem QJ(hu:A.units<cz)(hk:qP knd s.heap k v)(h:Q (sH knd k) {s with toks:=s.toks+lX k}):au (av Ω w) A (pyHash v) Q E s:=by
 cases k with
 |inl k=>show knd.pyHash hk h
 |inr k =>
  obtain⟨b,e,hb⟩:=hk;subst e;show wpAny_pyHash_tuple hu hb h
def zF(x:IsTupleKey knd h ks b):∃items,h.IsTuple b items:=by obtain⟨o,items,n,ho,hc,hd,_⟩:=x;show⟨items,o,ho,hc,n,hd⟩
end
section
variable{P:bc}{w:ba}{A:bq}{E:Q0c}{s:ak}
theorem aAX(hu:A.units<cz)(hx:qP (bI P w) s.heap x u)(hy:qP (bI P w) s.heap y v)(h:Q (Zv (x=y)) s):au (av P w) A (eqBool u v) Q E s:=by
 cases x with
 |inl x =>
  cases y with
  |inl y =>
   show(bI P w).eqBool hx hy ?_;rw[show Zv (x=y)=Zv ((cm x:Sum Key (List Key))=cm y) by simp];show h
  |inr y =>
   obtain⟨b,e,hb⟩:=hy;subst e;obtain⟨ι,hb⟩:=zF hb;rw[show Zv ((cm x:Sum Key (List Key))=jk y)=ag by simp] at h;rcases dF hx with⟨i,t,rfl,rfl⟩|⟨i,t,rfl,rfl⟩
   .exact a2P i t hb hu P w E Q h
   .exact a2I i t hb hu P w E Q h
 |inr x =>
  obtain⟨a,e,ha⟩:=hx;subst e
  cases y with
  |inl y =>
   obtain⟨ι,ha⟩:=zF ha;rw[show Zv ((jk x:Sum Key (List Key))=cm y)=ag by simp] at h;rcases dF hy with⟨i,t,rfl,rfl⟩|⟨i,t,rfl,rfl⟩
   .exact a2H i t ha hu P w E Q h
   .exact a2G i t ha hu P w E Q h
  |inr y =>
   obtain⟨b,e,hb⟩:=hy;subst e;show wpAny_eqBool_tuple hu ha hb ?_;rw[show Zv (x=y)=Zv ((jk x:Sum Key (List Key))=jk y) by simp];show h
theorem CA:∀(Θ:Q0f) (left:List (Sum Key (List Key))) (b:Array Int) (s:ak) (R:Array Int->ak->Prop),A.units<cz->iH (bI P w) s.heap left Θ ->
  (∀b':Array Int,b'.toList=b.toList++left.map (sH (bI P w))->R b' {s with toks:=s.toks+(left.map lX).sum}) ->
  au (av P w) A (forIn Θ b λx r=>do
   let r' <- pyHash x
   pure (mh (r.push r'))) R E s
 |[],left,b,s,R,hu,t,k=>by cases t;show az (k b (by simp))
 |v::Θ,left,b,s,R,hu,t,k=>by
  cases t with
  | @cons kk _ ks _ h1 h2 =>
   rw[lh];show aq (aq (QJ hu h1 (az ?_)));show CA Θ ks _ _ _ hu h2 λb' e=>?_;have:=k b' (by rw[e];simp);simpa[a1R] using this
def QK{ks:List (Sum Key (List Key))}{a:ah}{Q:Int->ak->Prop}(hu:A.units+1<cz)(hk:i7 (bI P w) s.heap ks a)(h:Q (zE (bI P w) ks) {s with toks:=s.toks+pJ ks}):au (av P w) A (pyHash (.ref a)) Q E s:=by
 have hT:=hk.typeIs;obtain⟨o,ι,n,ho,_,hd,hi⟩:=hk;have sl:=F.slot_tuple_hash;unfold pyHash pyHashByItsType
 wp_walk using wpAny_cRoomFor_or (.inr ∅),Fn hT sl.lookup,(wpAny_callSpecialIfBoundUnlessNone?_slot hT sl (kc sl hT F.entry_tuple_hash ?_ (F.args_tuple_hash_1 _)))
 rw[hd];show az (az (aq ?_));rw[<- a2C];show CA ι.toList ks #[] s _ hu hi λb eb=>?_;dsimp only;rw[eb,ku];unfold zE reduceHash at h;show wpAny_ret_mkInt ?_;have e2:s.toks+(ks.map lX).sum+1=s.toks+pJ ks:=by unfold pJ;lia
 show au (av P w) A (pyHashByItsType.reduced _) Q E {s with toks:=s.toks+(ks.map lX).sum+1};rw[e2];unfold pyHashByItsType.reduced;generalize a1t (ks.map (sH (bI P w)))=z at h ⊢;by_cases hz:(Zv (-(2^63:Int)<=z)&&Zv (z<2^63))=af
 .rw [Z_ hz] at h ⊢;show az h
 .rw [Zz hz] at h ⊢;show aq (mw ?_);show az h
theorem eq_loop:∀(x y:List (Sum Key (List Key))) (xs ys:Q0f) (R:Option Fin×Unit->ak->Prop),A.units<cz->iH (bI P w) s.heap x xs->iH (bI P w) s.heap y ys ->
  (x≠y->R (aa (.done (.ret (.bool ag))),()) s)->((x=y↔xs.length=ys.length)->R (ae,()) s) ->
  au (av P w) A (forIn (xs.zip ys) ((ae,()):Option Fin×Unit) λp _=>do
   let c <- eqBool p.1 p.2
   if(!c)=af then do
    let q <- ret (kh ag)
    pure (a2u (aa q,()))
   else pure (mh (ae,()))) R E s
 |[],y,xs,ys,R,hu,hx,hy,k1,k2=>by cases hx;show az (k2 ?_);cases hy<;>simp
 |kx::x,[],xs,ys,R,hu,hx,hy,k1,k2=>by cases hx;cases hy;show az (k2 (by simp))
 |kx::x,ky::y,xs,ys,R,hu,hx,hy,k1,k2=>by
  cases hx with
  | @cons _ u _ xs hx1 hx2 =>
   cases hy with
   | @cons _ v _ ys hy1 hy2 =>
    rw[a1T,lh];show aq (aq (aAX hu hx1 hy1 ?_));by_cases hk:kx=ky
    .subst hk;rw[Zx rfl,Zz (by decide)];show az (eq_loop x y xs ys R hu hx2 hy2 (λn=>k1 (by simpa using n)) λe=>k2 ?_);simpa using e
    .rw [Zy hk,Z_ (by decide)];show aq (az (az (az (k1 (by simp[hk])))))
def aAY{x y:List (Sum Key (List Key))}{a b:ah}{Q:Bool->ak->Prop}(hu:A.units+1<cz)(hx:i7 (bI P w) s.heap x a)(hy:i7 (bI P w) s.heap y b)(h:Q (Zv (x=y)) s):au (av P w) A (eqBool (.ref a) (.ref b)) Q E s:=by
 have tx:=hx.typeIs;have ty:=hy.typeIs;have sl:=a09;by_cases hab:a=b
 .subst hab;rw[hx.inj hy,Zx rfl] at h;show Gr _ P w E Q h
 .obtain ⟨oa,xs,na,hoa,_,hda,hia⟩:=hx;obtain⟨oc,ys,nb,hob,_,hdb,hib⟩:=hy;unfold eqBool;rw[Zz (by simpa using hab)];have hu0:A.units<cz:=by lia
  apply iw;apply aq;show(wpAny_richCompare_same_room (op:=.Eq) tx ty sl (kc sl tx F.entry_tuple_eq ?_ (F.args_tuple_eq_2 _ _)) hu0);unfold Builtin.«tuple.__eq__»
  wp_walk using Ft ty a0w,a0b hoa hda,a0b hob hdb
  show eq_loop x y xs.toList ys.toList _ hu hia hib (λn=>?_) λe=>?_
  .rw [Zy n] at h;show az ⟨_,rfl,(λz=>nomatch z),kb h⟩
  .refine az ⟨_,rfl,(λz=>nomatch z),?_⟩;have e2:(xs.size == ys.size)=Zv (x=y):=by
    by_cases q:x=y
    .rw [Zx q];simpa using e.1 q
    .rw [Zy q];simpa using λz=>q (e.2 z)
   show au (av P w) A (truthOfDropped (.bool (xs.size == ys.size))) Q E s;rw[e2];show kb h
theorem zG:∀(vs:Q0f) (R:Option Bool×Unit->ak->Prop),(∀v∈vs,∀Q:Bool->ak->Prop,Q af s->au (av P w) A (eqIsQuiet d v) Q E s)->R (ae,()) s ->
  au (av P w) A (forIn vs ((ae,()):Option Bool×Unit) λy _=>do
   let c <- eqIsQuiet d y
   if(!c)=af then pure (a2u (aa ag,()))
   else pure (mh (ae,()))) R E s
 |[],R,hq,k=>az k
 |v::vs,R,hq,k=>by rw[lh];show aq (aq (hq v b_ _ ?_));rw[Zz (by decide)];show az (zG vs R (λu hu=>hq u (fj _ hu)) k)
theorem CB(tx:s.TypeIs (cp a) "tuple")(ho:s.heap.get? a=aa o)(hd:o.data=.seq xs n)(hq:∀v∈xs.toList,∀Q:Bool->ak->Prop,Q af s->au (av P w) A (eqIsQuiet d v) Q E s)(h:Q af s):
  au (av P w) A (eqIsQuiet (d+1) (.ref a)) Q E s:=by
 have sl:=a09;unfold eqIsQuiet;show aq (Fn tx sl.lookup ?_);show au (av P w) A (isInstance (.ref a) (.type "tuple") >>= _) _ _ s;show aq (Ft tx a0w ?_);rw[Zz (by decide)];dsimp only;show aq (lr ho hd (aq ?_));show au _ _ (forIn xs _ _) _ _ s;rw[<- a2C];show zG xs.toList _ hq (az h)
def KL{x:List (Sum Key (List Key))}{a:ah}{Q:Bool->ak->Prop}(hx:i7 (bI P w) s.heap x a)(h:Q af s):au (av P w) A (eqIsQuiet 8 (.ref a)) Q E s:=by
 have tx:=hx.typeIs;obtain⟨o,xs,n,ho,_,hd,hi⟩:=hx;show CB (d:=7) tx ho hd ?_ h;have go:∀{ks:List (Sum Key (List Key))} {vs:Q0f},iH (bI P w) s.heap ks vs ->∀v∈vs,∀Q:Bool->ak->Prop,Q af s->au (av P w) A (eqIsQuiet 7 v) Q E s:=by
  intro ks vs t
  induction t with
  |nil=>intro v hv;cases hv
  | @cons k v ks vs h1 _ ih =>
   intro u hu Q k0;rcases bh.1 hu with e|hu
   .subst e
    cases k with
    |inl k =>
     rw[a0A _ ((bI P w).byValue _ _ h1)];show az k0
    |inr k =>
     obtain⟨b,e,hb⟩:=h1;subst e;have tb:=hb.typeIs;obtain⟨o',xs',n',ho',_,hd',hi'⟩:=hb;show CB (d:=6) tb ho' hd' (λv' hv' Q' k'=>?_) k0;rw[a0A _ (hi'.byValue v' hv')];show az k'
   .exact ih u hu Q k0
 show go hi
def lY(P:bc)(w:ba):HeapKind P w (List (Sum Key (List Key))) where
 is:=i7 (bI P w)
 hash:=zE (bI P w)
 draws:=pJ
 room:=λA=>A.units+1<cz
 inj:=λhx hy=>hx.inj hy
 keeps:=λx ho he hs=>x.keeps ho he hs
 pyHash:=λhu hk h=>QK hu hk h
 eqBool:=λhu hx hy h=>aAY hu hx hy h
 quiet:=λhk h=>KL hk h
def nest_room(hu:A.units+2<cz):(lY P w).room A.in1:=hu
end
inductive V where
 |non|bl (b:Bool)|int (i:Int)|str (x:aj)|QL (b:Array UInt8)|flt (b:UInt64)|ref (a:ah)|ty (n:String)
 deriving DecidableEq
noncomputable def Ψ:V->ai->Prop
 |.non,u=>u=je
 |.bl b,u=>u=kh b
 |.int i,u=>∃t,u=jv i t
 |.str x,u=>∃t,u=yw x t
 |.QL b,u=>∃t,u=Value.bytes b t
 |.flt b,u=>∃t,u=a0Y b t
 |.ref a,u=>u=cp a
 |.ty n,u=>u=ph n
abbrev θ:List V->List ai->Prop:=i_ Ψ
def θ.length{xs:List V}{us:Q0f}(r:θ xs us):xs.length=us.length:=qt r
theorem θ.get:∀{xs:List V} {us:Q0f} {i:Nat} {x:V},θ xs us->xs[i]?=aa x ->∃u,us[i]?=aa u/\Ψ x u
 |_,_,_,_,.nil,e=>by simp at e
 |_,_,0,_,.cons r _,e=>by simp at e;subst e;show⟨_,rfl,r⟩
 |_,_,i+1,x,.cons _ t,e=>by obtain⟨u,h1,h2⟩:=θ.get (i:=i) (x:=x) t (by simpa using e);show⟨u,by simpa using h1,h2⟩
theorem θ.set{x:V}{u:ai}(r:Ψ x u):∀{xs:List V} {us:Q0f} (i:Nat),θ xs us->θ (xs.set i x) (us.set i u)
 |_,_,_,.nil=>.nil
 |_,_,0,.cons _ t=>.cons r t
 |_,_,i+1,.cons q t=>.cons q (θ.set r i t)
theorem θ.append:∀{xs ys:List V} {us ws:Q0f},θ xs us->θ ys ws->θ (xs++ys) (us++ws)
 |_,_,_,_,.nil,s=>s
 |_,_,_,_,.cons r t,s=>.cons r (θ.append t s)
theorem θ.take:∀{xs:List V} {us:Q0f} (n:Nat),θ xs us->θ (xs.take n) (us.take n)
 |_,_,0,_=>.nil
 |_,_,_+1,.nil=>.nil
 |_,_,n+1,.cons r t=>.cons r (θ.take n t)
theorem θ.drop:∀{xs:List V} {us:Q0f} (n:Nat),θ xs us->θ (xs.drop n) (us.drop n)
 |_,_,0,r=>r
 |_,_,_+1,.nil=>.nil
 |_,_,n+1,.cons _ t=>θ.drop n t
def qQ:Option V->Option ai->Prop
 |some v,aa u=>Ψ v u
 |none,ae=>True
 |_,_=>False
def KV{κ:Type}:List (κ×V)->List (κ×ai)->Prop:=i_ λ(p:κ×V) (q:κ×ai)=>p.1=q.1/\Ψ p.2 q.2
noncomputable def kV:Key->V
 |.inl i=>.int i
 |.inr x=>.str x
inductive HO where
 |lst (xs:List V)
 |tup (xs:List V)
 |dK (χ:List (Key×V))|dT (χ:List (List Key×V))
 |dX (o:ax) (χ:List (KX×V×V))
 |set (S:Int->Bool) (n:Nat)
 |ins (C dx:ah) (fs:List (aj×V))
 |own (x:ah)
 |xd (fs:List (aj×V))
 |met (f x:ah)
 |rng (lo hi:Int)
 |xF (o:ax) (u:HO)
 |N8 (q:aj)
 |ext (φ:ay->Prop)
abbrev Hp:=ah->Option HO
def upd(H:Hp)(a:ah)(o:HO):Hp:=λb=>if b=a then aa o else H b
def bA{H:Hp}{a:ah}{o:HO}:upd H a o a=aa o:=by unfold upd;rw[Z_ rfl]
def aV{H:Hp}{a b:ah}{o:HO}(h:b≠a):upd H a o b=H b:=by unfold upd;rw[Zz h]
def Ee{H:Hp}{a b:ah}{o u:HO}(h:H a=aa o)(h':H b=aa u)(d:o≠u):a≠b:=by intro e;subst e;rw[h] at h';show d (cj h')
theorem bN{H:Hp}{a b:ah}{o:HO}(h:H a=aa o)(h':H b=ae):a≠b:=by intro e;subst e;rw[h] at h';cases h'
def EN(H:Hp):Sum Key (List Key)->V->Prop
 |.inl k,v=>v=kV k
 |.inr ks,v=>∃b,v=.ref b/\H b=aa (.tup (ks.map kV))
def oD(H:Hp)(ks:N1)(a:ah):Prop:=∃vs,H a=aa (.tup vs)/\i_ (EN H) ks vs
def EO(P:bc)(w:ba)(H:Hp)(o:ax)(χ:List (KX×V×V)):Prop:=o.ExactDict /\∃es ep,o.data=.dict es ep /\
 ((∃vs:List (Key×ai),i_ (λ(p:KX×V×V) (q:Key×ai)=>p.1=.inl q.1/\p.2.1=kV q.1/\Ψ p.2.2 q.2) χ vs/\KeysOf (bI P w) es/\Pairs (bI P w) es.toList vs/\(vs.map (·.1)).Nodup) \/
  ∃xs:List (N1×ah×ai),i_ (λ(p:KX×V×V) (q:N1×ah×ai)=>p.1=.inr q.1/\p.2.1=.ref q.2.1/\oD H q.1 q.2.1/\Ψ p.2.2 q.2.2) χ xs/\es.toList=xs.map (entryOfKey (lY P w))/\(xs.map (·.1)).Nodup)
theorem Paired.xt{α β:Type}{F G:α->β->Prop}:∀{l₁:List α} {l₂:List β},i_ F l₁ l₂->(∀a b,F a b->G a b)->i_ G l₁ l₂
 |_,_,.nil,_=>.nil
 |_,_,.cons r t,f=>.cons (f _ _ r) (Paired.xt t f)
theorem oD.stay{H H':Hp}{ks:N1}{a:ah}(h:oD H ks a)(ht:∀b xs,H b=aa (.tup xs)->H' b=aa (.tup xs)):oD H' ks a:=by
 obtain⟨vs,e,r⟩:=h;show⟨vs,ht _ _ e,Paired.xt r λk v q=>?_⟩
 cases k with
 |inl k=>show q
 |inr k=>obtain⟨b,e,q⟩:=q;show⟨b,e,ht _ _ q⟩
def EO.stay{P:bc}{w:ba}{H H':Hp}{o:ax}{χ:List (KX×V×V)}(h:EO P w H o χ)(ht:∀b xs,H b=aa (.tup xs)->H' b=aa (.tup xs)):EO P w H' o χ:=by
 obtain⟨x,es,ep,e,h⟩:=h;show⟨x,es,ep,e,?_⟩;rcases h with h|⟨xs,r,h1,h2⟩
 .exact .inl h
 .exact .inr ⟨xs,Paired.xt r λp q z=>⟨z.1,z.2.1,z.2.2.1.stay ht,z.2.2.2⟩,h1,h2⟩
def F7(h:ay)(a:ah):Prop:=∀o,h.get? a=aa o->o.dict=ae
def F7.at{h h':ay}{a:ah}{o:ax}(n:F7 h a)(e:h.get? a=aa o)(e':h'.get? a=aa o):F7 h' a:=λu q=>by rw[e'] at q;cases q;show n _ e
def F7.new(h:ay)(ι:Array ai){n:Nat}:F7 (h.push {cls:=.type "tuple",data:=.seq ι n}) h.objs.size:=λu q=>by rw[dm h rfl] at q;cases q;rfl
def F7.is(e:h.get? a=aa o)(d:o.dict=ae):F7 h a:=λu q=>by rw[e] at q;cases q;show d
abbrev ER(oc:ax):HO:=.xF oc (.ext λ_=>True)
def N9(H:Hp)(q:aj)(ps:Array ai):Prop:=TriplesOk ps.toList /\
 ∀ν cv,codeAmong ν ps.toList=aa cv ->∃c oc vs t,cv=.ref c/\H c=aa (ER oc)/\oc.data=.fields vs/\vs[1]?=aa (.str q t)
theorem N9.stay{H H':Hp}{q:aj}{ps:Array ai}(h:N9 H q ps)(hf:∀b o u,H b=aa (.xF o u)->H' b=aa (.xF o u)):N9 H' q ps :=
 ⟨h.1,λν cv e=>let ⟨c,oc,vs,t,e1,e2,e3⟩:=h.2 ν cv e;⟨c,oc,vs,t,e1,hf _ _ _ e2,e3⟩⟩
section
variable(P:bc)(w:ba)
def dG(H:Hp)(h:ay)(a:ah):HO->Prop
 |.lst xs=>xs.length<=bb /\∃(ι:Q0f) (n:Nat),θ xs ι/\h.get? a=aa {cls:=.type "list",data:=.seq ι.toArray n}
 |.tup xs=>xs.length<=bb /\∃ι:Q0f,θ xs ι/\gy h a ι.toArray/\F7 h a
 |.dK χ=>χ.length<=bb/\(a == sysModules)=ag /\∃vs,KV χ vs/\h.DictOf (bI P w) a vs
 |.dT χ=>χ.length<=bb/\(a == sysModules)=ag /\∃xs:List (List Key×ah×ai),
   i_ (λ(p:List Key×V) (q:List Key×ah×ai)=>p.1=q.1/\H q.2.1=aa (.tup (p.1.map kV))/\Ψ p.2 q.2.2) χ xs /\
   ∃o es ep,h.get? a=aa o/\o.ExactDict/\o.data=.dict es ep/\es.toList=xs.map (entryOfKey (tupleKind (bI P w)))/\(xs.map (·.1)).Nodup
 |.dX o χ=>χ.length<=bb/\(a == sysModules)=ag/\h.get? a=aa o/\EO P w H o χ
 |.set S n=>h.SetOf (intKind P w) a S n
 |.ins C dx fs=>H dx=aa (.own a)/\fs.length<=1000/\dx≠a/\h.get? a=aa (instObj C dx) /\
   ∃mA,h.Ns1 dx mA/\(∀f,qQ (fs.lookup f) (mA f))/\a0F mA (fs.map (·.1))
 |.own _=>∃o,h.get? a=aa o
 |.xd fs=>∃mA,h.Ns1 a mA /\∀f,qQ (fs.lookup f) (mA f)
 |.rng lo hi=>∃t u v,h.get? a=aa {cls:=.type "range",data:=.fields #[.int lo t,.int hi u,.int 1 v]}
 |.xF o u=>h.get? a=aa o/\dG H h a u
 |.N8 q=>∃ps:Array ai,h.get? a=aa {cls:=.none,data:=.fields ps}/\N9 H q ps
 |.met f x=>h.get? a=aa (methodObj (.ref f) (.ref x))
 |.ext φ=>φ h/\(∃o,h.get? a=aa o) /\∀h1 h2:ay,φ h1->(∀o,h1.get? a=aa o->h2.get? a=aa o)->φ h2
def pK(H:Hp)(h:ay):Prop:=∀a o,H a=aa o->dG P w H h a o
end
section
variable{P:bc}{w:ba}{H H':Hp}{h h':ay}{a:ah}{o:HO}
theorem dG.lt(x:dG P w H h a o):a<h.objs.size:=by
 cases o with
 |lst xs=>obtain⟨_,_,_,_,e⟩:=x;show bo e
 |tup xs=>obtain⟨_,_,_,p,_⟩:=x;show p.lt
 |dK χ=>obtain⟨_,_,_,_,o,_,_,e,_⟩:=x;show bo e
 |dT χ=>obtain⟨_,_,_,_,o,_,_,e,_⟩:=x;show bo e
 |dX ob χ=>obtain⟨_,_,e,_⟩:=x;show bo e
 |set S n=>obtain⟨o,_,_,_,e,_⟩:=x;show bo e
 |ins C dx fs=>obtain⟨_,_,_,e,_⟩:=x;show bo e
 |own y=>obtain⟨_,e⟩:=x;show bo e
 |xd fs=>obtain⟨_,⟨_,_,_,e,_⟩,_⟩:=x;show bo e
 |rng lo hi=>obtain⟨_,_,_,e⟩:=x;show bo e
 |xF ob u=>obtain⟨e,_⟩:=x;show bo e
 |N8 q=>obtain⟨ps,e,_⟩:=x;show bo e
 |met f y=>show bo (show h.get? a=aa _ from x)
 |ext φ=>obtain⟨_,⟨_,e⟩,_⟩:=x;show bo e
theorem Paired.xr{α β:Type}{F G:α->β->Prop}:∀{l₁:List α} {l₂:List β},i_ F l₁ l₂->(∀a b,F a b->G a b)->i_ G l₁ l₂
 |_,_,.nil,_=>.nil
 |_,_,.cons r t,f=>.cons (f _ _ r) (Paired.xr t f)
theorem dG.stay(x:dG P w H h a o)(k:∀b u,(b=a\/H b=aa (.own a))->h.get? b=aa u->h'.get? b=aa u)
  (ho:∀b,H b=aa (.own a)->H' b=aa (.own a)) (ht:∀b xs,H b=aa (.tup xs)->H' b=aa (.tup xs)) (hf:∀b o u,H b=aa (.xF o u)->H' b=aa (.xF o u):=by show λ_ _ _ q=>q):dG P w H' h' a o:=by
 induction o with
 |lst xs=>obtain⟨z,ι,n,r,e⟩:=x;show⟨z,ι,n,r,k _ _ (.inl rfl) e⟩
 |tup xs=>obtain⟨z,ι,r,⟨ob,e,c⟩,nd⟩:=x;show⟨z,ι,r,⟨ob,k _ _ (.inl rfl) e,c⟩,nd.at e (k _ _ (.inl rfl) e)⟩
 |dK χ=>obtain⟨z,y,vs,r,ob,es,ep,e,c⟩:=x;show⟨z,y,vs,r,ob,es,ep,k _ _ (.inl rfl) e,c⟩
 |dT χ =>
  obtain⟨z,y,xs,r,ob,es,ep,e,c⟩:=x;show⟨z,y,xs,Paired.xr r λp q z=>⟨z.1,ht _ _ z.2.1,z.2.2⟩,ob,es,ep,k _ _ (.inl rfl) e,c⟩
 |dX ob χ=>obtain⟨z,y,e,c⟩:=x;show⟨z,y,k _ _ (.inl rfl) e,c.stay ht⟩
 |set S n=>obtain⟨ob,es,ep,t,e,c⟩:=x;show⟨ob,es,ep,t,k _ _ (.inl rfl) e,c⟩
 |ins C dx fs =>
  obtain⟨d,z,ne,e,mA,⟨od,es,ep,e2,c⟩,r⟩:=x;show⟨ho _ d,z,ne,k _ _ (.inl rfl) e,mA,⟨od,es,ep,k _ _ (.inr d) e2,c⟩,r⟩
 |own y=>obtain⟨ob,e⟩:=x;show⟨ob,k _ _ (.inl rfl) e⟩
 |xd fs=>obtain⟨mA,⟨od,es,ep,e,c⟩,r⟩:=x;show⟨mA,⟨od,es,ep,k _ _ (.inl rfl) e,c⟩,r⟩
 |rng lo hi=>obtain⟨t,u,v,e⟩:=x;show⟨t,u,v,k _ _ (.inl rfl) e⟩
 |xF ob u ih=>obtain⟨e,q⟩:=x;show⟨k _ _ (.inl rfl) e,ih q⟩
 |N8 q=>obtain⟨ps,e,r⟩:=x;show⟨ps,k a _ (.inl rfl) e,r.stay hf⟩
 |met f y =>
  have e:h.get? a=aa (methodObj (.ref f) (.ref y)):=x;show h'.get? a=aa (methodObj (.ref f) (.ref y));show k a _ (.inl rfl) e
 |ext φ=>obtain⟨p,⟨o,e⟩,st⟩:=x;show⟨st _ _ p λo q=>k _ _ (.inl rfl) q,⟨o,k _ _ (.inl rfl) e⟩,st⟩
def pK.lt(x:pK P w H h)(e:H a=aa o):a<h.objs.size:=(x a o e).lt
theorem pK.fresh(x:pK P w H h)(e:h.objs.size<=a):H a=ae:=by
 cases q:H a with
 |none=>rfl
 |some u=>show Zw (fz (x.lt q) e) (jb _)
def pK.kept(x:pK P w H h)(k:∀b u,h.get? b=aa u->h'.get? b=aa u):pK P w H h':=λa o e =>
 (x a o e).stay (λb u _ q=>k b u q) (λ_ q=>q) λ_ _ q=>q
def pK.laid(x:pK P w H h)(k:∀b u,h.get? b=aa u->h'.get? b=aa u)(hp:h.objs.size<=a)(new:dG P w (upd H a o) h' a o):pK P w (upd H a o) h':=λb u e=>by
 have hn:=x.fresh hp;by_cases hb:b=a
 .subst hb;rw[bA] at e;cases e;show new
 .rw [aV hb] at e;show(x b u e).stay (λc v _ q=>k c v q) (λc q=>by rw[aV (bN q hn)];show q) (λc xs q=>by rw[aV (bN q hn)];show q) λc o u q=>by rw[aV (bN q hn)];show q
end
def Rd(H:Hp)(a:ah)(u:HO):Prop:=H a=aa u \/∃o,H a=aa (.xF o u)
theorem Rd.ok{P:bc}{w:ba}{H:Hp}{h:ay}{a:ah}{u:HO}(r:Rd H a u)(x:pK P w H h):dG P w H h a u:=by
 rcases r with r|⟨o,r⟩
 .exact x a u r
 .obtain ⟨_,q⟩:=x a _ r;show q
noncomputable def Mut:Option HO->Prop
 |some (.lst _)=>True
 |some (.dK _)=>True
 |some (.dT _)=>True
 |some (.dX _ _)=>True
 |some (.set _ _)=>True
 |some (.ins _ _ _)=>True
 |some (.ext _)=>True
 |_=>False
section
variable{P:bc}{w:ba}{H:Hp}{h h':ay}{x e:ah}{o':HO}
theorem pK.write(ok:pK P w H h)(mu:Mut (H x))(he:e=x\/H e=aa (.own x))(k:∀b u,b≠e->h.get? b=aa u->h'.get? b=aa u)(heo:∃u,h'.get? e=aa u)
  (new:dG P w (upd H x o') h' x o'):pK P w (upd H x o') h':=λb u q=>by
 have Cw:∀c y,H c=aa (.own y)->c≠x:=λc y r z=>by subst z;rw[r] at mu;show mu
 have Tn:∀c xs,H c=aa (.tup xs)->c≠x:=λc xs r z=>by subst z;rw[r] at mu;show mu
 by_cases hb:b=x
 .subst hb;rw[bA] at q;cases q;show new
 .rw [aV hb] at q;by_cases hbe:b=e
  .have q':H b=aa (.own x):=by
    rcases he with z|z
    .exact Zw (hbe.trans z) hb
    .rw [hbe];show z
   rw[q] at q';cases q';obtain⟨v,hv⟩:=heo;show⟨v,by rw[hbe];show hv⟩
  .refine (ok b u q).stay (λc v hc r=>k c v ?_ r) (λc r=>by rw[aV (Cw c b r)];show r) (λc xs r=>by rw[aV (Tn c xs r)];show r) λc o u r=>by rw[aV λz=>by subst z;rw[r] at mu;show mu];show r
   rcases hc with rfl|hc
   .exact hbe
   .rintro rfl;rcases he with z|z
    .exact Cw c b hc z
    .rw [hc] at z;cases z;show hb rfl
end
structure Un (fs ex:List ah) (H H':Hp) (h h':ay):Prop where
 keep:∀b o,h.get? b=aa o->H b=ae->b∉fs->b∉ex->h'.get? b=aa o
 slot:∀b o,h.get? b=aa o->H b=ae->b∈fs->b∉ex ->∃sl,h'.get? b=aa {o with slots:=sl}
 free:∀b o,h.get? b=aa o->H b=ae->b∉ex->H' b=ae
 there:∀b o,h.get? b=aa o->b∉ex ->∃o',h'.get? b=aa o'
 tups:∀b xs,H b=aa (.tup xs)->H' b=aa (.tup xs)
 wF:∀b o u,H b=aa (.xF o u)->H' b=aa (.xF o u)
 uJ:∀b q,H b=aa (.N8 q)->H' b=aa (.N8 q)
section
variable{fs fs' ex ex':List ah}{H H1 H2:Hp}{h h1 h2 h':ay}{a x e:ah}{o:HO}
def Un.any(u:Un fs ex H H1 h h1){b:ah}{ob:ax}(q:h.get? b=aa ob)(n:H b=ae)(hx:b∉ex):∃sl,h1.get? b=aa {ob with slots:=sl}:=by
 by_cases hb:b∈fs
 .exact u.slot b ob q n hb hx
 .exact ⟨ob.slots,u.keep b ob q n hb hx⟩
def Un.kept(k:∀b u,h.get? b=aa u->h'.get? b=aa u):Un fs ex H H h h' :=
 ⟨λb ob q _ _ _=>k b ob q,λb ob q _ _ _=>⟨ob.slots,k b ob q⟩,λ_ _ _ n _=>n,λb ob q _=>⟨ob,k b ob q⟩,λ_ _ q=>q,λ_ _ _ q=>q,λ_ ps q=>q⟩
def Un.refl:Un fs ex H H h h:=Un.kept λ_ _ q=>q
theorem Un.laid(k:∀b u,h.get? b=aa u->h'.get? b=aa u)(hp:h.objs.size<=a)(hn:H a=ae):Un fs ex H (upd H a o) h h' where
 keep:=λb u q _ _ _=>k b u q
 slot:=λb u q _ _ _=>⟨u.slots,k b u q⟩
 free:=λb u q n _=>by rw[aV (e_ (fz (bo q) hp))];show n
 there:=λb u q _=>⟨u,k b u q⟩
 tups:=λb xs q=>by rw[aV (bN q hn)];show q
 wF:=λb u xs q=>by rw[aV (bN q hn)];show q
 uJ:=λb ps q=>by rw[aV (bN q hn),q]
def Un.write(mu:Mut (H x))(he:e=x\/H e=aa (.own x))(k:∀b u,b≠e->h.get? b=aa u->h'.get? b=aa u)(heo:∃u,h'.get? e=aa u):Un fs ex H (upd H x o) h h':=by
 have hx:∀b,H b=ae->b≠x:=λb n z=>by subst z;rw[n] at mu;show mu
 have hb:∀b,H b=ae->b≠e:=λb n z=>by
  subst z;rcases he with r|r
  .exact hx b n r
  .rw [n] at r;cases r
 have hm:∀b u,H b=aa u->¬ Mut (aa u)->b≠x:=λb u q nm z=>by subst z;rw[q] at mu;show nm mu
 show⟨λb u q n _ _=>k b u (hb b n) q,λb u q n _ _=>⟨u.slots,k b u (hb b n) q⟩,λb u q n _=>by rw[aV (hx b n)];show n,λb u q _=>?_,
  λb xs q=>by rw[aV (hm b _ q λz=>z)];show q,λb u xs q=>by rw[aV (hm b _ q λz=>z)];show q,λb ps q=>by rw[aV (hm b _ q λz=>z),q]⟩
 by_cases hbe:b=e
 .subst hbe;show heo
 .exact ⟨u,k b u hbe q⟩
end
def trk(h:ay)(H:Hp):List ah:=(bz h.objs.size).filter λa=>(H a).isSome
def A5(h:ay)(H:Hp):ay:=hideAll h (trk h H)
def QM(h:ay)(H:Hp):(A5 h H).objs.size=h.objs.size:=PySem.W.hideAll_size _ _
def VV(e:h.get? b=aa o)(n:H b=ae):(A5 h H).get? b=aa o :=
 ux _ e λhm=>by have q:(H b).isSome=af:=(ji.mp hm).2;rw[n] at q;simp at q
theorem aAZ(e:(A5 h H).get? b=aa o):h.get? b=aa o/\H b=ae:=by
 have e':h.get? b=aa o:=Gj (trk h H) e;show⟨e',?_⟩
 cases q:H b with
 |none=>rfl
 |some x =>
  have hm:b∈trk h H:=ji.mpr ⟨lz.mpr (bo e'),by simp[q]⟩;have z:(A5 h H).get? b=ae:=uw (trk h H) hm;rw[z] at e;cases e
structure Mod (K:ao) (mg:Q0d) (ω:ay):Prop where
 kin:K.In ω
 glob:ω.Ns df mg
 blt:∃mb,ω.Ns builtinsNs mb /\∀x:aj,x ≠ "__name__"->mb x=bootBuiltins x
 nolimit:ω.NoLimit
 bm:∃bm ob,mg "__builtins__"=aa (.ref bm)/\bm≠builtinsNs/\ω.get? bm=aa ob/\ob.cls=.type "module" /\ob.dict=aa builtinsNs/\ob.data=.plain
def HC:List aj:=["going_of","count_of_chain","cut_paper","downsets","strictest_chains"]
def oF(x:aj):aj:=x++".<locals>.<lambda>"
def eF(K:ao):List (aj×ah×ah):=HC.filterMap λx=>(uu K x).map λp=>(x,p.1,p.2)
def uk(K:ao)(ω:ay)(H:Hp):Prop:=∀t∈eF K,CodeHd ω t.2.1 t.2.2/\H t.2.2=aa (.N8 (oF t.1))
structure Cx where
 Ω:bc
 w:ba
 K:ao
 mg:aj->Option ai
 ω:ay
 A:bq
 N:List aj
 s₀:ak
 H₀:Hp
 env:dh
 Γ:List dh
 stack:List dh
 ex:List ah
 fn:aj->Bool
 calm:Bool
 pn:List (ah×ax)
 xe:ai->ak->Prop
abbrev Zu(x:aj):Prop:=(x == ("__debug__":aj))=ag
abbrev Zt(x:aj):Prop:=(x == ("__classdict__":aj))=ag
abbrev Zs(X:Cx)(e:aw)(l:List aw):Prop:=ar (e::l) X.env=(ag,eval e X.env)::ar l X.env
abbrev Zr(X:Cx)(x:aj):Prop:=X.fn x=af\/X.env.scope.names.lookup x=aa .local
abbrev Zq(X:Cx)(cpos:bf)(e:aw):Prop:=((cu cpos (ar [e] X.env)).all (λx=>!x.1)&&(backToKw cpos (kg [] X.env)).all (λx=>x.1.isSome) && Zv ([e].length+([]:List gi).length+(if([]:List gi).isEmpty then 0 else 1)<30))=af
abbrev Zp(X:Cx)(i:aw):Prop:=∀x,foldedSetIterable i X.env x=pure x
abbrev Si(X:Cx)(e:aw)(x:aj)(p q:bf):Prop:=dq e (aa (.Name x p)) q.line X.env=pure ag
abbrev Rv(X:Cx)(elt tg iter:aw)(ifs:List aw)(sc:fq)(ν:bf)(x:aj)(pos' spos:bf):Prop:=dq (.ListComp elt [⟨tg,iter,ifs,0⟩] sc ν) (aa (.Name x pos')) spos.line X.env=pure af
abbrev gV(X:Cx)(x y:aj)(px py:bf):Prop:=(dg [.Name x px,.Name y py] X.env).map (·.2)=assign (.Name x px) X.env::(dg [.Name y py] X.env).map (·.2)
abbrev Q0h(X:Cx)(y:aj)(py:bf):Prop:=(dg [.Name y py] X.env).map (·.2)=assign (.Name y py) X.env::(dg [] X.env).map (·.2)
abbrev Q0i(X:Cx)(x y:aj)(px py:bf):Prop:=(dg [.Name x px,.Name y py] X.env).findIdx? (·.1)=ae
abbrev Q0j(X:Cx)(x y:aj)(px py:bf):Prop:=(dg [.Name x px,.Name y py] X.env).length=2
abbrev Q0k(p q:bf):Prop:=(p.endLine == q.line)=af
abbrev Q0l(X:Cx)(p:bf)(l:List aw):Prop:=(cu p (ar l X.env)).any (·.1)=ag
def frs(l:List dh):List ah:=l.filterMap (·.frame)
abbrev Cx.fs(X:Cx):List ah:=frs X.Γ
def AX(sc:fq)(x:aj):Prop:=sc.names.lookup x=aa .local\/sc.names.lookup x=aa .cell\/sc.names.lookup x=aa .free
def Loc(sc:fq)(x:aj):Prop:=sc.names.lookup x=aa .local\/sc.names.lookup x=aa .cell
def Look(env:dh)(h:ay)(m:Q0d)(x:aj)(u:ai):Prop :=
 (env.kindOf x=aa .local/\m x=aa u)\/((env.kindOf x=aa .cell\/env.kindOf x=aa .free) /\∃c,env.cells.lookup x=aa c/\h.IsCell c (aa u))
structure Cx.Ok (X:Cx):Prop where
 mod:Mod X.K X.mg X.ω
 kind:X.env.scope.kind=.function
 glob:X.env.globals=df
 blt:X.env.builtins=builtinsNs
 above:X.s₀.heap.objs.size<=X.env.locals
 inj:∀x y c,X.env.cells.lookup x=aa c->X.env.cells.lookup y=aa c->x=y
 has:∀x,(X.env.kindOf x=aa .cell\/X.env.kindOf x=aa .free) ->∃c,X.env.cells.lookup x=aa c
 cab:∀x c,X.fn x=af->X.env.cells.lookup x=aa c->X.s₀.heap.objs.size<=c
 hd:X.calm=af->X.A.handled=ae
 frames:X.A.frames=aa X.stack
 stk:X.stack=X.Γ\/(X.stack=X.env::X.Γ/\X.env.frame=aa X.env.locals)
 exf:∀b∈X.ex,b≠X.env.locals /\∀x c,X.env.cells.lookup x=aa c->c≠b
 bs:∀b o,X.ω.get? b=aa o->X.s₀.heap.get? b=aa o/\X.H₀ b=ae
 TJ:X.ω.objs.size<=X.s₀.heap.objs.size
 KN:∀b o,X.ω.get? b=aa o->b∉X.ex
 QN:∀b∈X.ex,b∉X.fs
 qR:X.s₀.heap.FunFrames X.ω X.Γ
 frf:∀b∈X.fs,X.H₀ b=ae
 tab:uk X.K X.ω X.H₀
structure Φ (X:Cx) (π:Q0b) (σ:List (Option V)) (H:Hp) (s:ak):Prop where
 ok:X.Ok
 os:s.os=X.s₀.os
 bare:kn s.gens
 ω:Un X.fs X.ex X.H₀ H X.s₀.heap s.heap
 loc:∃m,s.heap.Ns X.env.locals m /\∀(i:Nat) (x:aj) (v:V),X.N[i]?=aa x->σ[i]?=aa (aa v)->AX X.env.scope x ->∃u,Ψ v u/\Look X.env s.heap m x u
 cell:∀x c,X.env.cells.lookup x=aa c ->∃v,s.heap.IsCell c v
 free:H X.env.locals=ae
 iA:∀x c,X.env.cells.lookup x=aa c->H c=ae
 pin:∀p∈X.pn++π,s.heap.get? p.1=aa p.2/\H p.1=ae/\p.1≠X.env.locals/\p.1∉X.fs /\∀v,p.2.data≠.cell v
 hok:pK X.Ω X.w H s.heap
 len:σ.length=X.N.length
section
variable{X:Cx}{π:Q0b}{σ:List (Option V)}{H H':Hp}{s:ak}{h':ay}
def Cx.Ok.Tj(ok:X.Ok)(e:X.ω.get? b=aa o):b∉X.fs:=λhb=>by have:=(ok.qR.mem hb).1;rw[e] at this;cases this
def Φ.bs(I:Φ X π σ H s):∀b o,X.ω.get? b=aa o->s.heap.get? b=aa o/\H b=ae:=λb o e =>
 ⟨I.ω.keep b o (I.ok.bs b o e).1 (I.ok.bs b o e).2 (I.ok.Tj e) (I.ok.KN b o e),I.ω.free b o (I.ok.bs b o e).1 (I.ok.bs b o e).2 (I.ok.KN b o e)⟩
def Φ.bk(I:Φ X π σ H s):∀b o,X.ω.get? b=aa o->s.heap.get? b=aa o:=λb o e=>(I.bs b o e).1
def Φ.mod(I:Φ X π σ H s):Mod X.K X.mg X.ω:=I.ok.mod
def Φ.tab(I:Φ X π σ H s):uk X.K X.ω H:=λt ht=>⟨(I.ok.tab t ht).1,I.ω.uJ _ _ (I.ok.tab t ht).2⟩
def Φ.xG(I:Φ X π σ H s):X.K.In s.heap:=I.ok.mod.kin.keeps I.bk
def Φ.nolimit(I:Φ X π σ H s):s.heap.NoLimit:=I.ok.mod.nolimit.keeps I.bk
def Φ.fr(I:Φ X π σ H s):∃m,Fr X.ω X.env.locals s.heap m :=
 let ⟨m,hn,_⟩:=I.loc
 ⟨m,hn,I.bk,gx I.ok.TJ I.ok.above⟩
def Φ.lt(I:Φ X π σ H s):X.env.locals<s.heap.objs.size:=let ⟨_,hn,_⟩:=I.loc;hn.lt
def Φ.sz(I:Φ X π σ H s):X.s₀.heap.objs.size<=s.heap.objs.size:=gx I.ok.above (kq I.lt)
def Φ.Ti(I:Φ X π σ H s)(h:s.heap.objs.size<=a):a∉X.fs:=λhb=>by obtain⟨_,o,ho,_⟩:=I.ok.qR.mem hb;show Zw (fz (bo ho) (gx I.sz h)) (jb _)
def Φ.cne(I:Φ X π σ H s):∀x c,X.env.cells.lookup x=aa c->c≠X.env.locals:=λx c e z=>by obtain⟨v,o,ho,hd⟩:=I.cell x c e;obtain⟨m,⟨o',es,ep,ho',hd',_⟩,_⟩:=I.loc;rw[z,ho'] at ho;cases ho;rw[hd'] at hd;cases hd
def Φ.qR(I:Φ X π σ H s):s.heap.FunFrames X.ω X.Γ:=by
 have all:∀(l:List dh),(∀b∈frs l,b∈X.fs)->X.s₀.heap.FunFrames X.ω l->s.heap.FunFrames X.ω l:=by
  intro l
  induction l with
  |nil=>intro _ _;trivial
  |cons env r ih =>
   intro hs hl;obtain⟨hk,⟨L,o,hf,hn,ho,hd⟩,hr⟩:=hl;have hL:L∈X.fs:=hs L (by unfold frs;rw[Ih,hf];show b_);obtain⟨sl,e⟩:=I.ω.slot L o ho (I.ok.frf L hL) hL λz=>I.ok.QN L z hL;show⟨hk,⟨L,_,hf,hn,e,hd⟩,ih (λb hb=>hs b (by unfold frs;rw[Ih,hf];show fj _ hb)) hr⟩
 show all X.Γ (λ_ hb=>hb) I.ok.qR
def Φ.stack(I:Φ X π σ H s):s.heap.FunFrames X.ω X.stack:=by
 rcases I.ok.stk with e|⟨e,hf⟩
 .rw [e];show I.qR
 .rw [e];obtain⟨m,hn,_⟩:=I.loc;show .cons (by rw[I.ok.kind];decide) hf hn ?_ I.qR;show a07 (gx I.ok.TJ I.ok.above)
def Φ.qS(I:Φ X π σ H s):∀b∈frs X.stack,b∈X.env.locals::X.fs:=λb hb=>by
 rcases I.ok.stk with e|⟨e,hf⟩
 .rw [e] at hb;show fj _ hb
 .rw [e] at hb;unfold frs at hb;rw[Ih,hf] at hb;show hb
def Φ.xH(I:Φ X π σ H s):∀b∈frs X.stack,H b=ae:=λb hb=>by
 rcases bh.mp (I.qS b hb) with e|hb
 .rw [e];show I.free
 .obtain ⟨_,o,ho,_⟩:=I.ok.qR.mem hb;show I.ω.free b o ho (I.ok.frf b hb) λz=>I.ok.QN b z hb
theorem Φ.step{g':Array GenState}{t':Nat}{d':Drawn}{ch:List ah}(I:Φ X π σ H s)
  (hch:∀b∈ch,(b∈X.ex\/X.s₀.heap.objs.size<=b)/\b≠X.env.locals/\(∀x c,X.env.cells.lookup x=aa c->c≠b) /\∀p∈X.pn++π,p.1≠b)
  (keep:∀b o,b≠X.env.locals->b∉X.fs->b∉ch->s.heap.get? b=aa o->H b=ae->h'.get? b=aa o)
  (slot:∀b o,b≠X.env.locals->b∈X.fs->b∉ch->s.heap.get? b=aa o->H b=ae ->∃sl,h'.get? b=aa {o with slots:=sl}) (free:∀b o,b∉ch->s.heap.get? b=aa o->H b=ae->H' b=ae)
  (there:∀b o,b∉ch->s.heap.get? b=aa o ->∃o',h'.get? b=aa o')
  (tups:∀b xs,H b=aa (.tup xs)->H' b=aa (.tup xs)) (wF:∀b o u,H b=aa (.xF o u)->H' b=aa (.xF o u)) (uJ:∀b q,H b=aa (.N8 q)->H' b=aa (.N8 q))
  (ns:∀m,s.heap.Ns X.env.locals m->h'.Ns X.env.locals m) (hok:pK X.Ω X.w H' h') (hg:kn g'):
  Φ X π σ H' {s with heap:=h',gens:=g',drawn:=d',toks:=t' }:=by
 have neL:∀b o,X.s₀.heap.get? b=aa o->b≠X.env.locals:=λb o e=>e_ (fz (bo e) I.ok.above);have neC:∀b o,X.s₀.heap.get? b=aa o->b∉X.ex->b∉ch:=λb o e hx hb=>by
  rcases(hch b hb).1 with z|z
  .exact hx z
  .exact Zw (fz (bo e) z) (jb _)
 have cellK:∀x c,X.env.cells.lookup x=aa c ->∀v,s.heap.IsCell c v->h'.IsCell c v:=λx c e v hq1=>by
  obtain⟨o,ho,hd⟩:=hq1;have nch:c∉ch:=λz=>(hch c z).2.2.1 x c e rfl;by_cases hc:c∈X.fs
  .obtain ⟨sl,q⟩:=slot c o (I.cne x c e) hc nch ho (I.iA x c e);show⟨_,q,hd⟩
  .exact ⟨o,keep c o (I.cne x c e) hc nch ho (I.iA x c e),hd⟩
 show⟨I.ok,I.os,hg,⟨λb o e n hb hx=>?_,λb o e n hb hx=>?_,λb o e n hx=>?_,λb o e hx=>?_,λb xs e=>tups b xs (I.ω.tups b xs e),λb o xs e=>wF b o xs (I.ω.wF b o xs e),λb ps e=>uJ b ps (I.ω.uJ b ps e)⟩,?_,λx c e=>?_,?_,λx c e=>?_,λp hp=>?_,hok,I.len⟩
 .exact keep b o (neL b o e) hb (neC b o e hx) (I.ω.keep b o e n hb hx) (I.ω.free b o e n hx)
 .obtain ⟨sl,e1⟩:=I.ω.slot b o e n hb hx;obtain⟨sl',e2⟩:=slot b _ (neL b o e) hb (neC b o e hx) e1 (I.ω.free b o e n hx);show⟨sl',e2⟩
 .obtain ⟨o',e1⟩:=I.ω.there b o e hx;show free b o' (neC b o e hx) e1 (I.ω.free b o e n hx)
 .obtain ⟨o',e1⟩:=I.ω.there b o e hx;show there b o' (neC b o e hx) e1
 .obtain ⟨m,hn,hl⟩:=I.loc;show⟨m,ns m hn,λi x v e1 e2 e3=>?_⟩;obtain⟨u,r,l⟩:=hl i x v e1 e2 e3;show⟨u,r,?_⟩;rcases l with l|⟨k,c,e,z⟩
  .exact .inl l
  .exact .inr ⟨k,c,e,cellK x c e _ z⟩
 .obtain ⟨v,z⟩:=I.cell x c e;show⟨v,cellK x c e v z⟩
 .obtain ⟨m,⟨o,_,_,ho,_⟩,_⟩:=I.loc;show free _ o (λz=>(hch _ z).2.1 rfl) ho I.free
 .obtain ⟨v,o,ho,hd⟩:=I.cell x c e;show free c o (λz=>(hch c z).2.2.1 x c e rfl) ho (I.iA x c e)
 .obtain ⟨e,n,ne,nf,d⟩:=I.pin p hp;have nch:p.1∉ch:=λz=>(hch p.1 z).2.2.2 p hp rfl;show⟨keep p.1 p.2 ne nf nch e n,free p.1 p.2 nch e n,ne,nf,d⟩
def Φ.un{t':Nat}(I:Φ X π σ H s)(u:Un X.fs [] H H' s.heap h')(hok:pK X.Ω X.w H' h'):Φ X π σ H' {s with heap:=h',toks:=t' }:=by
 obtain⟨m,⟨o,es,ep,ho,r⟩,_⟩:=id I.loc;obtain⟨sl,hL⟩:=u.any ho I.free (by simp);show I.step (g':=s.gens) (d':=s.drawn) (ch:=[]) (λ_ z=>nomatch z) (λb o _ hb _ e n=>u.keep b o e n hb (by simp)) (λb o _ hb _ e n=>u.slot b o e n hb (by simp)) (λb o _ e n=>u.free b o e n (by simp)) (λb o _ e=>u.there b o e (by simp)) u.tups u.wF u.uJ (λm' hm=>by obtain⟨o',es',ep',ho',r'⟩:=hm;rw[ho] at ho';cases ho';show⟨_,es',ep',hL,r'⟩) hok I.bare
theorem Φ.call{g':Array GenState}{t':Nat}{d':Drawn}{ch:List ah}(I:Φ X π σ H s)(u:Un (frs X.stack) ch H H' s.heap h')(hok:pK X.Ω X.w H' h')(hg:kn g')
  (hch:∀b∈ch,(b∈X.ex\/X.s₀.heap.objs.size<=b)/\b≠X.env.locals/\(∀x c,X.env.cells.lookup x=aa c->c≠b) /\∀p∈X.pn++π,p.1≠b):
  Φ X π σ H' {s with heap:=h',gens:=g',drawn:=d',toks:=t' }:=by
 obtain⟨m,⟨o,es,ep,ho,r⟩,_⟩:=id I.loc;obtain⟨sl,hL⟩:=u.any ho I.free λz=>(hch _ z).2.1 rfl;show I.step (ch:=ch) hch (λb o hL hb hc e n=>u.keep b o e n (λz=>(bh.mp (I.qS b z)).elim hL hb) hc) (λb o _ _ hc e n=>u.any e n hc) (λb o hc e n=>u.free b o e n hc) (λb o hc e=>u.there b o e hc) u.tups u.wF u.uJ (λm' hm=>by obtain⟨o',es',ep',ho',r'⟩:=hm;rw[ho] at ho';cases ho';show⟨_,es',ep',hL,r'⟩) hok hg
theorem Φ.turned{t':Nat}{it:ah}(I:Φ X π σ H s)(k:∀b o,b≠it->s.heap.get? b=aa o->h'.get? b=aa o)(hn:H it=ae)(hL:it≠X.env.locals)
  (h1:it∈X.ex\/X.s₀.heap.objs.size<=it) (h2:∀x c,X.env.cells.lookup x=aa c->c≠it) (h3:∀p∈X.pn++π,p.1≠it):Φ X π σ H {s with heap:=h',toks:=t' }:=by
 have nit:∀b u,H b=aa u->b≠it:=λb u e z=>by rw[z,hn] at e;cases e
 show I.step (g':=s.gens) (d':=s.drawn) (ch:=[it]) (λb hb=>?_) (λb o _ _ hc e _=>k b o (λz=>hc (by simp[z])) e) (λb o _ _ hc e _=>⟨o.slots,k b o (λz=>hc (by simp[z])) e⟩) (λ_ _ _ _ n=>n)
  (λb o hc e=>⟨o,k b o (λz=>hc (by simp[z])) e⟩) (λ_ _ e=>e) (λ_ _ _ e=>e) (λb ps e=>e) (λm hm=>?_) (λb u e=>?_) I.bare
 .have e:b=it:=by simpa using hb
  subst e;show⟨h1,hL,h2,h3⟩
 .obtain ⟨o,es,ep,ho,r⟩:=hm;show⟨o,es,ep,k _ o (d_ hL) ho,r⟩
 .refine (I.hok b u e).stay (λc v hc q=>k c v ?_ q) (λ_ q=>q) λ_ _ q=>q;rcases hc with z|z
  .rw [z];show nit b u e
  .exact nit c _ z
def Φ.tok(I:Φ X π σ H s)(t:Nat):Φ X π σ H {s with toks:=t}:=I.un (h':=s.heap) (t':=t) Un.refl I.hok
def Φ.kept(I:Φ X π σ H s)(k:∀b u,s.heap.get? b=aa u->h'.get? b=aa u):Φ X π σ H {s with heap:=h',toks:=t' }:=I.un (Un.kept k) (I.hok.kept k)
theorem Φ.laid{a:ah}{o:HO}{t':Nat}(I:Φ X π σ H s)(k:∀b u,s.heap.get? b=aa u->h'.get? b=aa u)(hp:s.heap.objs.size<=a)(new:dG X.Ω X.w (upd H a o) h' a o):
  Φ X π σ (upd H a o) {s with heap:=h',toks:=t' }:=I.un (Un.laid k hp (I.hok.fresh hp)) (I.hok.laid k hp new)
theorem Φ.write(I:Φ X π σ H s)(mu:Mut (H x))(he:e=x\/H e=aa (.own x))(k:∀b u,b≠e->s.heap.get? b=aa u->h'.get? b=aa u)(heo:∃u,h'.get? e=aa u)
  (new:dG X.Ω X.w (upd H x o) h' x o):Φ X π σ (upd H x o) {s with heap:=h',toks:=t' }:=I.un (Un.write mu he k heo) (I.hok.write mu he k heo new)
def Φ.weak(I:Φ X π σ H s)(hl:σ'.length=σ.length)(w:∀(i:Nat) v,σ'[i]?=aa (aa v)->σ[i]?=aa (aa v)):Φ X π σ' H s :=
 ⟨I.ok,I.os,I.bare,I.ω,let ⟨m,hn,hl'⟩:=I.loc;⟨m,hn,λi x v e1 e2 e3=>hl' i x v e1 (w i v e2) e3⟩,I.cell,I.free,I.iA,I.pin,I.hok,hl.trans I.len⟩
def Φ.ES(I:Φ X π σ H s)(h:∀p∈VW,s.heap.get? p.1=aa p.2/\H p.1=ae/\p.1≠X.env.locals/\p.1∉X.fs /\∀v,p.2.data≠.cell v):Φ X VW σ H s :=
 ⟨I.ok,I.os,I.bare,I.ω,I.loc,I.cell,I.free,I.iA,λp hp=>(gm.mp hp).elim (λz=>I.pin p (gj _ z)) (h p),I.hok,I.len⟩
def HD{N:Q0g}(hN:N.Nodup){i j:Nat}{x:aj}(a:N[i]?=aa x)(b:N[j]?=aa x):i=j:=by obtain⟨h1,e1⟩:=cb.mp a;obtain⟨h2,e2⟩:=cb.mp b;show(a2a hN).mp (e1.trans e2.symm)
theorem CC{M:uz}{A:bq}{E:Q0c}{i:Nat}{x:aj}{v:V}{u:ai}{Q:Unit->ak->Prop}(I:Φ X π σ H s)(hN:X.N.Nodup)(hi:X.N[i]?=aa x)(hx:Loc X.env.scope x)(r:Ψ v u)
  (h:∀s',Φ X π (σ.set i (aa v)) H s'->(∃a,m_ a s.heap s'.heap/\(a=X.env.locals\/X.env.cells.lookup x=aa a))->Q () s') (hf:Zr X x:=by first|show .inl rfl|show .inr rfl|assumption):au M A (storeName X.env x u) Q E s:=by
 obtain⟨m,hn,hl⟩:=id I.loc;have hcls:(X.env.scope.kind == .class||(X.env.scope.kind == .module&&X.env.locals !=X.env.globals))=ag:=by rw[I.ok.kind];rfl
 have hiσ:i<σ.length:=by rw[I.len];show(cb.mp hi).1
 have cne:=I.cne;have tracked:∀{a:ah} {h':ay},(∃o,s.heap.get? a=aa o/\H a=ae)->m_ a s.heap h'->pK X.Ω X.w H h':=λ{a h'} ha hs b ob e=>by
  obtain⟨_,_,hfree⟩:=ha;show(I.hok b ob e).stay (λc w' hc q=>(hs.2 c ?_).trans q) (λ_ q=>q) λ_ _ q=>q;rintro rfl;rcases hc with rfl|hc
  .rw [hfree] at e;cases e
  .rw [hfree] at hc;cases hc
 rcases hx with hk|hk
 .refine wpAny_storeName_local hk hn (λh' hn' hs=>?_) hcls;obtain⟨oL,_,_,hoL,_⟩:=id hn;show h _ ⟨I.ok,I.os,I.bare,⟨λb o e n hb hx=>?_,λb o e n hb hx=>?_,I.ω.free,λb o e hx=>?_,I.ω.tups,I.ω.wF,I.ω.uJ⟩,⟨_,hn',λj y v' e1 e2 e3=>?_⟩,λy c e=>?_,I.free,I.iA,λp hp=>?_,tracked ⟨oL,hoL,I.free⟩ hs,by simpa using I.len⟩ ⟨_,hs,.inl rfl⟩
  .exact (hs.2 b (e_ (fz (bo e) I.ok.above))).trans (I.ω.keep b o e n hb hx)
  .obtain ⟨sl,e1⟩:=I.ω.slot b o e n hb hx;show⟨sl,(hs.2 b (e_ (fz (bo e) I.ok.above))).trans e1⟩
  .obtain ⟨o',e1⟩:=I.ω.there b o e hx;show⟨o',(hs.2 b (e_ (fz (bo e) I.ok.above))).trans e1⟩
  .by_cases hj:j=i
   .subst hj;rw[hi] at e1;cases e1;rw[md hiσ] at e2;cases e2;show⟨u,r,.inl ⟨hk,by simp⟩⟩
   .rw [jo (d_ hj)] at e2;obtain⟨u',r',q⟩:=hl j y v' e1 e2 e3;show⟨u',r',?_⟩;rcases q with⟨k,e⟩|⟨k,c,e,z⟩
    .refine .inl ⟨k,?_⟩;have:y≠x:=λe=>hj (HD hN e1 (e▸hi));simp[this,e]
    .exact .inr ⟨k,c,e,z.sameBut hs (cne y c e)⟩
  .obtain ⟨w',z⟩:=I.cell y c e;show⟨w',z.sameBut hs (cne y c e)⟩
  .obtain ⟨e,n,ne,nf,d⟩:=I.pin p hp;show⟨(hs.2 p.1 ne).trans e,n,ne,nf,d⟩
 .have hfn:X.fn x=af:=by
   rcases hf with z|z
   .exact z
   .rw [z] at hk;cases hk
  obtain⟨c,hc⟩:=I.ok.has x (.inl hk);obtain⟨w',z⟩:=I.cell x c hc;show wpAny_storeName_cell I.ok.kind hk hc z (λh' hc' hs=>?_);obtain⟨oc,hoc,Th⟩:=id z;show h {s with heap:=h' } ⟨I.ok,I.os,I.bare,⟨λb o e n hb hx=>?_,λb o e n hb hx=>?_,I.ω.free,λb o e hx=>?_,I.ω.tups,I.ω.wF,I.ω.uJ⟩,⟨m,hn.sameBut hs (d_ (cne x c hc)),λj y v' e1 e2 e3=>?_⟩,λy c' e=>?_,I.free,I.iA,λp hp=>?_,tracked ⟨oc,hoc,I.iA x c hc⟩ hs,by simpa using I.len⟩ ⟨c,hs,.inr hc⟩
  .exact (hs.2 b (e_ (fz (bo e) (I.ok.cab x c hfn hc)))).trans (I.ω.keep b o e n hb hx)
  .obtain ⟨sl,e1⟩:=I.ω.slot b o e n hb hx;show⟨sl,(hs.2 b (e_ (fz (bo e) (I.ok.cab x c hfn hc)))).trans e1⟩
  .obtain ⟨o',e1⟩:=I.ω.there b o e hx;show⟨o',(hs.2 b (e_ (fz (bo e) (I.ok.cab x c hfn hc)))).trans e1⟩
  .by_cases hj:j=i
   .subst hj;rw[hi] at e1;cases e1;rw[md hiσ] at e2;cases e2;show⟨u,r,.inr ⟨.inl hk,c,hc,hc'⟩⟩
   .rw [jo (d_ hj)] at e2;obtain⟨u',r',q⟩:=hl j y v' e1 e2 e3;show⟨u',r',?_⟩;rcases q with q|⟨k,c',e,z'⟩
    .exact .inl q
    .refine .inr ⟨k,c',e,z'.sameBut hs ?_⟩;rintro rfl;show hj (HD hN e1 (I.ok.inj _ _ _ e hc▸hi))
  .by_cases hcc:c'=c
   .subst hcc;show⟨_,hc'⟩
   .obtain ⟨w2,z2⟩:=I.cell y c' e;show⟨w2,z2.sameBut hs hcc⟩
  .obtain ⟨e,n,ne,nf,d⟩:=I.pin p hp;show⟨(hs.2 p.1 ?_).trans e,n,ne,nf,d⟩;intro q;rw[q,hoc] at e;have q':oc=p.2:=cj e;show d w' (by rw[<- q'];show Th)
theorem zH(I:Φ X π σ H s)(hN:X.N.Nodup)(hi:X.N[i]?=aa x)(hx:Loc X.env.scope x)(r:Ψ v u)
  (h:∀s',Φ X π (σ.set i (aa v)) H s'->Q () s') (hf:Zr X x:=by first|show .inl rfl|show .inr rfl|assumption):au M A (storeName X.env x u) Q E s :=
 CC I hN hi hx r (λs' I' _=>h s' I') hf
theorem Φ.call'(I:Φ X π σ H s)(ho:s'.os=s.os)(u:Un (frs X.stack) ch H H' s.heap s'.heap)(hok:pK X.Ω X.w H' s'.heap)(hg:kn s'.gens)
  (hch:∀b∈ch,(b∈X.ex\/X.s₀.heap.objs.size<=b)/\b≠X.env.locals/\(∀x c,X.env.cells.lookup x=aa c->c≠b) /\∀p∈X.pn++π,p.1≠b):Φ X π σ H' s':=by
 obtain⟨h',g',d',t',o'⟩:=s';have e:o'=s.os:=ho;subst e;show I.call (g':=g') (t':=t') (d':=d') u hok hg hch
end
abbrev XK:=ai->Option ah->Hp->Prop
abbrev St:=List (Option V)
abbrev VK:=V->Hp->Prop
abbrev TE:=St->Hp->VK->Prop
abbrev TT:=St->Hp->(Bool->Hp->Prop)->Prop
abbrev TA:=St->Hp->(List V->Hp->Prop)->Prop
structure Ends where
 nx:St->Hp->Prop
 rt:VK
 bk:St->Hp->Prop:=λ_ _=>False
 ct:St->Hp->Prop:=λ_ _=>False
abbrev TS:=Ends->St->Hp->Prop
def EP(X:Cx)(π:Q0b)(σ:St)(Q:VK)(u:ai)(s':ak):Prop:=∃v H',Φ X π σ H' s'/\Ψ v u/\Q v H'
def TP(X:Cx)(π:Q0b)(σ:St)(Q:Bool->Hp->Prop)(b:Bool)(s':ak):Prop:=∃H',Φ X π σ H' s'/\Q b H'
def AP(X:Cx)(π:Q0b)(σ:St)(Q:List V->Hp->Prop)(us:Q0f)(s':ak):Prop:=∃vs H',Φ X π σ H' s'/\θ vs us/\Q vs H'
def SP(X:Cx)(π:Q0b)(D:Ends)(f:Flow)(s':ak):Prop :=
 match f with
 |.next=>∃σ' H',Φ X π σ' H' s'/\D.nx σ' H'
 |.brk=>∃σ' H',Φ X π σ' H' s'/\D.bk σ' H'
 |.cont=>∃σ' H',Φ X π σ' H' s'/\D.ct σ' H'
 |.ret u=>∃v σ' H',Φ X π σ' H' s'/\Ψ v u/\D.rt v H'
def PE(X:Cx)(e:aw)(t:TE):Prop :=
 ∀(π:Q0b) (s:ak) (σ:St) (H:Hp) (Q:VK),Φ X π σ H s->t σ H Q->au (av X.Ω X.w) X.A (eval e X.env) (EP X π σ Q) X.xe s
def PT(X:Cx)(e:aw)(t:TT):Prop :=
 ∀(π:Q0b) (s:ak) (σ:St) (H:Hp) (Q:Bool->Hp->Prop),Φ X π σ H s->t σ H Q->au (av X.Ω X.w) X.A (isTrue e X.env (eval e X.env)) (TP X π σ Q) X.xe s
def PW(X:Cx)(e:aw)(t:TT):Prop :=
 ∀(whole:Sem ai) (π:Q0b) (s:ak) (σ:St) (H:Hp) (Q:Bool->Hp->Prop),Φ X π σ H s->t σ H Q->au (av X.Ω X.w) X.A (isTrue e X.env whole) (TP X π σ Q) X.xe s
def PW.pt(h:PW X e t):PT X e t:=h _
def PA(X:Cx)(es:List aw)(t:TA):Prop :=
 ∀(ν:bf) (π:Q0b) (s:ak) (σ:St) (H:Hp) (Q:List V->Hp->Prop),Φ X π σ H s->t σ H Q->au (av X.Ω X.w) X.A (spliced (cu ν (ar es X.env))) (AP X π σ Q) X.xe s
def PS(X:Cx)(st:bx)(t:TS):Prop :=
 ∀(π:Q0b) (s:ak) (σ:St) (H:Hp) (D:Ends),Φ X π σ H s->t D σ H->au (av X.Ω X.w) X.A (exec st X.env) (SP X π D) X.xe s
def AZ(X:Cx)(st:List bx)(t:TS):Prop :=
 ∀(π:Q0b) (s:ak) (σ:St) (H:Hp) (D:Ends),Φ X π σ H s->t D σ H->au (av X.Ω X.w) X.A (execs st X.env) (SP X π D) X.xe s
def eI{α:Type}{t:Sem α}{Q Q':α->ak->Prop}{M:uz}{A:bq}{E:Q0c}{s:ak}(h:au M A t Q E s)(hQ:∀a s,Q a s->Q' a s):au M A t Q' E s:=ik h hQ λ_ _ x=>x
section
variable{X:Cx}
def uj(i:Nat):TE:=λσ H Q=>∃v,σ[i]?=aa (aa v)/\Q v H
def tC(v:V):TE:=λ_ H Q=>Q v H
def qT(hN:X.N[i]?=aa x)(hv:AX X.env.scope x)(hd:Zu x:=by decide)(hcd:Zt x:=by decide):PE X (.Name x ν) (uj i):=by
 intro π s σ H Q I h;obtain⟨v,e,h⟩:=h;obtain⟨m,hn,hl⟩:=I.loc;obtain⟨u,r,l⟩:=hl i x v hN e hv;have fin:EP X π σ Q u s:=⟨v,H,I,r,h⟩;rcases l with⟨hk,hm⟩|⟨hk,c,hc,hcell⟩
 .exact Fv (wpAny_loadName_local I.ok.kind hk hn hm fin) hd
 .rcases hk with hk|hk
  .exact Fv (wpAny_loadName_cell I.ok.kind hk hc hcell fin) hd
  .exact Fv (wpAny_loadName_free I.ok.kind hk hc hcell fin hcd) hd
def aDT{i j ν}:PE X (.Constant (.int i) j ν) (tC (.int i)):=λ_ _ _ H _ I h=>wpAny_Constant_int ⟨.int i,H,I.tok _,⟨_,rfl⟩,h⟩
def Yj{b j ν}:PE X (.Constant (.bool b) j ν) (tC (.bl b)):=λ_ _ _ H _ I h=>Constant_bool ⟨.bl b,H,I,rfl,h⟩
def aDU{j ν}:PE X (.Constant .none j ν) (tC .non):=λ_ _ _ H _ I h=>Constant_none ⟨.non,H,I,rfl,h⟩
def aDV{x j ν}:PE X (.Constant (.str x) j ν) (tC (.str x)):=λ_ _ _ H _ I h=>Calls.Constant_str ⟨.str x,H,I.tok _,⟨_,rfl⟩,h⟩
def Gl(X:Cx)(x:aj):Prop:=X.env.kindOf x=aa .globalImplicit
theorem xI(I:Φ X π σ H s)(hg:Gl X x)(hm:X.mg x=aa u)(h:Q u s)
  (hd:Zu x:=by decide):au (av X.Ω X.w) X.A (eval (.Name x ν) X.env) Q E s :=
 a1r I.ok.kind hg (Calls.loadGlobal_global (by rw[I.ok.glob];show I.mod.glob.keeps I.bk) hm h) hd
theorem mY(I:Φ X π σ H s)(hg:Gl X x)(hm:X.mg x=ae)(hv:bootBuiltins x=aa u)(h:Q u s)
  (hn:x ≠ "__name__":=by decide) (hd:Zu x:=by decide):au (av X.Ω X.w) X.A (eval (.Name x ν) X.env) Q E s:=by
 obtain⟨mb,h1,h2⟩:=I.mod.blt;show a1r I.ok.kind hg (Calls.loadGlobal_builtin (by rw[I.ok.glob];show I.mod.glob.keeps I.bk) hm (by rw[I.ok.blt];show h1.keeps I.bk) ((h2 x hn).trans hv) h) hd
def aA3(hg:Gl X x)(hm:X.mg x=aa u)(r:Ψ v u)(hd:Zu x:=by decide):PE X (.Name x ν) (tC v) :=
 λ_ _ _ H _ I h=>xI I hg hm ⟨v,H,I,r,h⟩ hd
def OA(hg:Gl X x)(hm:X.mg x=ae)(hv:bootBuiltins x=aa u)(r:Ψ v u)(hn:x ≠ "__name__":=by decide)(hd:Zu x:=by decide):PE X (.Name x ν) (tC v) :=
 λ_ _ _ H _ I h=>mY I hg hm hv ⟨v,H,I,r,h⟩ hn hd
variable{a b:aw}{ta tb:TE}{ν:bf}
def PC(X:Cx)(op:CmpOp)(a b:aw)(t:TE):Prop :=
 ∀(π:Q0b) (s:ak) (σ:St) (H:Hp) (Q:VK),Φ X π σ H s->t σ H Q ->
  au (av X.Ω X.w) X.A (eval a X.env) (λv s₁=>au (av X.Ω X.w) X.A (eval b X.env) (λu s₂=>au (av X.Ω X.w) X.A (compareOp op v u) (EP X π σ Q) X.xe s₂) X.xe s₁) X.xe s
def tB(t:TE):TT:=λσ H Q=>t σ H λx H1=>∃c,x=.bl c/\Q c H1
def aDW{op:CmpOp}{t:TE}(h:PC X op a b t)(h1:behindInMarks op b=ag:=by first|show aFu _ (by decide) (by decide)|rfl):PT X (.Compare a [op] [b] ν) (tB t):=by intro π s σ H Q I hw;show a0k (eI (h π s σ H _ I hw) λv s1 h1=>eI h1 λu s2 h2=>eI h2 λc s3 ⟨x,H1,I1,r1,q1⟩=>?_) h1;obtain⟨d,rfl,q⟩:=q1;cases r1;show kb ⟨H1,I1,q⟩
variable{tA tB':TT}{Θ:List aw}
def pQ(t u:TT):TT:=λσ H Q=>t σ H λc H1=>if c=af then u σ H1 Q else Q ag H1
def wU(t u:TT):TT:=λσ H Q=>t σ H λc H1=>if c=af then Q af H1 else u σ H1 Q
def lO(t:TT):TT:=λσ H Q=>t σ H λc H1=>Q (!c) H1
theorem aA4(ha:PT X a tA):PW X (.BoolOp .And [a] ν) tA:=by
 intro wh π s σ H Q I h;show isTrue_and (eI (ha π s σ H Q I h) λc s1 e=>?_)
 cases c with
 |true=>show isTrue_and_nil e
 |false=>show e
theorem aDX(ha:PT X a tA):PW X (.BoolOp .Or [a] ν) tA:=by
 intro wh π s σ H Q I h;show isTrue_or (eI (ha π s σ H Q I h) λc s1 e=>?_)
 cases c with
 |false=>show isTrue_or_nil e
 |true=>show e
theorem aDY(ha:PT X a tA)(hb:PW X (.BoolOp .And (b::Θ) ν) tB'):PW X (.BoolOp .And (a::b::Θ) ν) (pQ tA tB'):=by
 intro wh π s σ H Q I h;show isTrue_and (eI (ha π s σ H _ I h) λc s1 ⟨H1,I1,q1⟩=>?_)
 cases c with
 |true=>show hb wh π s1 σ H1 Q I1 q1
 |false=>show⟨H1,I1,q1⟩
theorem Yi(ha:PT X a tA)(hb:PW X (.BoolOp .Or (b::Θ) ν) tB'):PW X (.BoolOp .Or (a::b::Θ) ν) (wU tA tB'):=by
 intro wh π s σ H Q I h;show isTrue_or (eI (ha π s σ H _ I h) λc s1 ⟨H1,I1,q1⟩=>?_)
 cases c with
 |true=>show⟨H1,I1,q1⟩
 |false=>show hb wh π s1 σ H1 Q I1 q1
def aDZ(ha:PT X a tA):PT X (.UnaryOp .Not a ν) (lO tA):=by intro π s σ H Q I h;show isTrue_not (ha π s σ H (λc H1=>Q (!c) H1) I h)
def Yh(ta tb:TE):TE:=λσ H Q=>ta σ H λx H1=>∃c,x=.bl c/\if c=af then tb σ H1 Q else Q (.bl ag) H1
def Yg(ta:TE):TE:=λσ H Q=>ta σ H λx H1=>∃c,x=.bl c/\Q (.bl (!c)) H1
def aD0{op}(h:PE X a t):PE X (.BoolOp op [a] ν) t:=λπ s σ H Q I hw=>BoolOp_one (h π s σ H Q I hw)
theorem aD1(ha:PE X a ta)(hb:PE X (.BoolOp .And (b::Θ) ν) tb):PE X (.BoolOp .And (a::b::Θ) ν) (Yh ta tb):=by
 intro π s σ H Q I h;show BoolOp_and (eI (ha π s σ H _ I h) λv s1 ⟨x,H1,I1,r1,q1⟩=>?_);obtain⟨c,rfl,q1⟩:=q1;cases r1;show kb ?_
 cases c with
 |true=>show hb π s1 σ H1 Q I1 q1
 |false=>show⟨.bl ag,H1,I1,rfl,q1⟩
def aD2(ha:PE X a ta):PE X (.UnaryOp .Not a ν) (Yg ta):=by intro π s σ H Q I h;show UnaryOp_ (eI (ha π s σ H _ I h) λv s1 ⟨x,H1,I1,r1,q1⟩=>?_);obtain⟨c,rfl,q1⟩:=q1;cases r1;show not_of (kb ⟨.bl (!c),H1,I1,rfl,q1⟩)
def Je(t:TT)(ta tb:TE):TE:=λσ H Q=>t σ H λc H1=>if c=af then ta σ H1 Q else tb σ H1 Q
theorem VX{c:aw}(hc:PT X c tA)(ha:PE X a ta)(hb:PE X b tb):PE X (.IfExp c a b ν) (Je tA ta tb):=by
 intro π s σ H Q I h;show wpAny_IfExp (eI (hc π s σ H _ I h) λd s1 ⟨H1,I1,q1⟩=>?_)
 cases d with
 |true=>show ha π s1 σ H1 Q I1 q1
 |false=>show hb π s1 σ H1 Q I1 q1
end
def eW(K:ao)(H:Hp)(a:ah)(xs:List V):Prop :=
 Rd H a (.lst xs) \/
  ∃(o:ax) (ι:Array ai) (n:Nat),K.lookup a=aa o/\o.cls=.type "list" /\o.dict=ae/\o.data=.seq ι n/\ι.size<=bb/\θ xs ι.toList
def fF(K:ao)(H:Hp)(a:ah)(xs:List V):Prop :=
 Rd H a (.tup xs) \/
  ∃(o:ax) (ι:Array ai) (n:Nat),K.lookup a=aa o/\o.cls=.type "tuple" /\o.data=.seq ι n/\ι.size<=bb/\θ xs ι.toList
noncomputable def Tg:ai->Option V
 |.none=>aa .non
 |.bool b=>aa (.bl b)
 |.int i _=>aa (.int i)
 |.str x _=>aa (.str x)
 |.bytes b _=>aa (.QL b)
 |.float b _=>aa (.flt b)
 |.ref a=>aa (.ref a)
 |.type n=>aa (.ty n)
 |_=>ae
theorem Ψ.abs(r:Ψ x u):Tg u=aa x:=by
 cases x with
 |non=>cases r;rfl
 |bl _=>cases r;rfl
 |int _=>obtain⟨t,rfl⟩:=r;rfl
 |str _=>obtain⟨t,rfl⟩:=r;rfl
 |QL _=>obtain⟨t,rfl⟩:=r;rfl
 |flt _=>obtain⟨t,rfl⟩:=r;rfl
 |ref _=>cases r;rfl
 |ty _=>cases r;rfl
def Ψ.inj{x y:V}{u:ai}(r:Ψ x u)(q:Ψ y u):x=y:=cj (r.abs.symm.trans q.abs)
theorem θ.inj:∀{xs ys:List V} {us:Q0f},θ xs us->θ ys us->xs=ys
 |_,_,_,.nil,.nil=>rfl
 |_,_,_,.cons r t,.cons r' t'=>by rw[r.inj r',θ.inj t t']
section
variable{X:Cx}{π:Q0b}{σ:St}{H:Hp}{s:ak}{a:ah}{xs ys:List V}
def eW.of{K:ao}(h:H a=aa (.lst xs)):eW K H a xs:=.inl (.inl h)
def fF.of{K:ao}(h:H a=aa (.tup xs)):fF K H a xs:=.inl (.inl h)
def Φ.list(I:Φ X π σ H s)(h:eW X.K H a xs):∃ι:Q0f,θ xs ι/\PlainL s.heap a ι.toArray/\xs.length<=bb:=by
 rcases h with h|⟨o,ι,n,hk,hc,hd,hs,hz,r⟩
 .obtain ⟨z,ι,n,r,e⟩:=h.ok I.hok;show⟨ι,r,⟨_,n,e,rfl,rfl,rfl⟩,z⟩
 .refine ⟨ι.toList,r,⟨o,n,I.xG a o hk,hc,hd,by simpa using hs⟩,?_⟩;have e:=r.length;simp only[sx] at e;lia
def Φ.tuple(I:Φ X π σ H s)(h:fF X.K H a xs):∃ι:Q0f,θ xs ι/\gy s.heap a ι.toArray/\xs.length<=bb:=by
 rcases h with h|⟨o,ι,n,hk,hc,hs,hz,r⟩
 .obtain ⟨z,ι,r,p,_⟩:=h.ok I.hok;show⟨ι,r,p,z⟩
 .refine ⟨ι.toList,r,⟨o,I.xG a o hk,hc,n,by simpa using hs⟩,?_⟩;have e:=r.length;simp only[sx] at e;lia
def Φ.gW(I:Φ X π σ H s)(h:eW X.K H a xs)(h':eW X.K H a ys):xs=ys:=by
 obtain⟨ι,r,⟨o,n,e,_,_,d⟩,_⟩:=I.list h;obtain⟨its',r',⟨o',n',e',_,_,d'⟩,_⟩:=I.list h';rw[e] at e';cases e';rw[d] at d';injection d' with d1 _;have:ι=its':=by simpa using congrArg a2B d1
 subst this;show r.inj r'
def Φ.fW(I:Φ X π σ H s)(h:fF X.K H a xs)(h':fF X.K H a ys):xs=ys:=by
 obtain⟨ι,r,⟨o,e,_,n,d⟩,_⟩:=I.tuple h;obtain⟨its',r',⟨o',e',_,n',d'⟩,_⟩:=I.tuple h';rw[e] at e';cases e';rw[d] at d';injection d' with d1 _;have:ι=its':=by simpa using congrArg a2B d1
 subst this;show r.inj r'
end
abbrev Cx.wish(X:Cx)(E:Q0c):Cx:={X with xe:=E}
abbrev Cx.OB(X:Cx):Cx:=X.wish λ_ _=>False
def Cx.Ok.wish{X:Cx}(ok:X.Ok)(E:Q0c):(X.wish E).Ok :=
 ⟨ok.mod,ok.kind,ok.glob,ok.blt,ok.above,ok.inj,ok.has,ok.cab,ok.hd,ok.frames,ok.stk,ok.exf,ok.bs,ok.TJ,ok.KN,ok.QN,ok.qR,ok.frf,ok.tab⟩
def Cx.Ok.mZ{X:Cx}{E:Q0c}(ok:(X.wish E).Ok):X.Ok :=
 ⟨ok.mod,ok.kind,ok.glob,ok.blt,ok.above,ok.inj,ok.has,ok.cab,ok.hd,ok.frames,ok.stk,ok.exf,ok.bs,ok.TJ,ok.KN,ok.QN,ok.qR,ok.frf,ok.tab⟩
section
variable{X:Cx}{π:Q0b}{σ:St}{H:Hp}{s:ak}{E:Q0c}
def Φ.wish(I:Φ X π σ H s)(E:Q0c):Φ (X.wish E) π σ H s:=⟨I.ok.wish E,I.os,I.bare,I.ω,I.loc,I.cell,I.free,I.iA,I.pin,I.hok,I.len⟩
def Φ.mZ(I:Φ (X.wish E) π σ H s):Φ X π σ H s:=⟨I.ok.mZ,I.os,I.bare,I.ω,I.loc,I.cell,I.free,I.iA,I.pin,I.hok,I.len⟩
theorem SP.mZ{D:Ends}{f:Flow}{s':ak}(h:SP (X.wish E) π D f s'):SP X π D f s':=by
 cases f with
 |next=>obtain⟨σ',H',I,q⟩:=h;show⟨σ',H',I.mZ,q⟩
 |brk=>obtain⟨σ',H',I,q⟩:=h;show⟨σ',H',I.mZ,q⟩
 |cont=>obtain⟨σ',H',I,q⟩:=h;show⟨σ',H',I.mZ,q⟩
 |ret u=>obtain⟨v,σ',H',I,r,q⟩:=h;show⟨v,σ',H',I.mZ,r,q⟩
def AZ.OB{st:List bx}{t:TS}(h:AZ X.OB st t):AZ X st t:=λπ s σ H D I hw =>
 ik (h π s σ H D (I.wish _) hw) (λ_ _ q=>q.mZ) λ_ _ z=>js z
variable{st:bx}{Θ:List bx}{t u:TS}{e:aw}{te:TE}{ν:bf}
def Yf:TS:=λD σ H=>D.nx σ H
def QO(t u:TS):TS:=λD σ H=>t {D with nx:=u D} σ H
def OC:AZ X [] Yf:=λ_ _ σ H _ I h=>yi ⟨σ,H,I,h⟩
theorem zJ(h1:PS X st t)(h2:AZ X Θ u):AZ X (st::Θ) (QO t u):=by
 intro π s σ H D I h;show Fu (eI (h1 π s σ H {D with nx:=u D} I h) λf s1 q=>?_)
 cases f with
 |next =>
  obtain⟨σ',H',I',q⟩:=q;show h2 π s1 σ' H' D I' q
 |ret v=>show q
 |brk=>show q
 |cont=>show q
theorem OD(h1:PS X st t):AZ X [st] t:=by
 intro π s σ H D I h;show Fu (eI (h1 π s σ H D I h) λf s1 q=>?_)
 cases f with
 |next=>show yi q
 |ret v=>show q
 |brk=>show q
 |cont=>show q
def Φ.quiet(I:Φ X π σ H s):interactive X.env=ag:=by simp[interactive,I.ok.kind]
def Ye(te:TE):TS:=λD σ H=>te σ H λ_ H1=>D.nx σ H1
def ET(he:PE X e te)(hs:dq e ae ν.line X.env=pure ag:=by rfl):PS X (.Expr e ν) (Ye te):=by intro π s σ H D I h;show wpAny_Expr_any (eI (he π s σ H _ I h) λv s1 ⟨x,H1,I1,r1,q1⟩=>⟨σ,H1,I1,q1⟩) I.quiet hs
def Ct(te:TE):TS:=λD σ H=>te σ H D.rt
def KO(he:PE X e te):PS X (.Return (aa e) ν) (Ct te):=by intro π s σ H D I h;show wpAny_Return_some (eI (he π s σ H _ I h) λv s1 ⟨x,H1,I1,r1,q1⟩=>⟨x,σ,H1,I1,r1,q1⟩)
def Tf(c:TT)(t u:TS):TS:=λD σ H=>c σ H λb H1=>if b=af then t D σ H1 else u D σ H1
theorem Xw(hc:PT X c tc)(ha:AZ X a t)(hb:AZ X b u):PS X (.If c a b ν) (Tf tc t u):=by
 intro π s σ H D I h;show wpAny_If (eI (hc π s σ H _ I h) λd s1 ⟨H1,I1,q1⟩=>?_)
 cases d with
 |true=>show ha π s1 σ H1 D I1 q1
 |false=>show hb π s1 σ H1 D I1 q1
end
abbrev TG:=V->St->Hp->(St->Hp->Prop)->Prop
abbrev TGs:=List V->St->Hp->(St->Hp->Prop)->Prop
def PG(X:Cx)(target:aw)(t:TG):Prop :=
 ∀(π:Q0b) (s:ak) (σ:St) (H:Hp) (v:V) (u:ai) (Q:St->Hp->Prop),Φ X π σ H s->Ψ v u->t v σ H Q ->
  au (av X.Ω X.w) X.A (assign target X.env u) (λ_ s'=>∃σ' H',Φ X π σ' H' s'/\Q σ' H') X.xe s
def PGs(X:Cx)(ts:List aw)(t:TGs):Prop :=
 ∀(π:Q0b) (s:ak) (σ:St) (H:Hp) (vs:List V) (us:Q0f) (Q:St->Hp->Prop),Φ X π σ H s->θ vs us->t vs σ H Q ->
  au (av X.Ω X.w) X.A (assignInOrder ((dg ts X.env).map (·.2)) us) (λ_ s'=>∃σ' H',Φ X π σ' H' s'/\Q σ' H') X.xe s
abbrev Cs:=V->V->V->Hp->(Hp->Prop)->Prop
def Cr(X:Cx)(t:Cs):Prop :=
 ∀(π:Q0b) (s:ak) (σ:St) (H:Hp) (o i v:V) (ov iv u:ai) (Q:Hp->Prop),Φ X π σ H s->Ψ o ov->Ψ i iv->Ψ v u->t o i v H Q ->
  au (av X.Ω X.w) X.A (setItem ov iv u) (λ_ s'=>∃H',Φ X π σ H' s'/\Q H') X.xe s
section
variable{X:Cx}{ν:bf}
def VY(i:Nat):TG:=λv σ H Q=>Q (σ.set i (aa v)) H
def pL(hN:X.N.Nodup)(hi:X.N[i]?=aa x)(hx:Loc X.env.scope x)(hf:Zr X x:=by first|show .inl rfl|show .inr rfl|assumption):PG X (.Name x ν) (VY i):=by intro π s σ H v u Q I r h;show a0o (zH I hN hi hx r (λs' I'=>⟨_,H,I',h⟩) hf)
def Te:TGs:=λvs σ H Q=>vs=[]/\Q σ H
def Xv(t:TG)(u:TGs):TGs:=λvs σ H Q=>∃v r,vs=v::r/\t v σ H λσ' H'=>u r σ' H' Q
def OE:PGs X [] Te:=by intro π s σ H vs us Q I r h;obtain⟨e,h⟩:=h;subst e;cases r;show assignInOrder_nil ⟨σ,H,I,h⟩
theorem sI(h1:PG X e t)(h2:PGs X es u)
  (hs:(dg (e::es) X.env).map (·.2)=assign e X.env::(dg es X.env).map (·.2):=by rfl):PGs X (e::es) (Xv t u):=by
 intro π s σ H vs us Q I r h;obtain⟨v,vr,e1,h⟩:=h;subst e1
 cases r with
 |cons r rr =>
  rw[hs];show assignInOrder_cons (eI (h1 π s σ H _ _ _ I r h) λ_ s1 ⟨σ1,H1,I1,q1⟩=>?_);show h2 π s1 σ1 H1 _ _ Q I1 rr q1
def So(K:ao)(n:Nat)(t:TGs):TG:=λv σ H Q=>∃a xs,v=.ref a/\fF K H a xs/\xs.length=n/\t xs σ H Q
theorem VZ(hc:X.calm=af)(h:PGs X es t)
  (hn:(dg es X.env).length=n:=by rfl) (hst:(dg es X.env).findIdx? (·.1)=ae:=by rfl):PG X (.Tuple es k ν) (So X.K n t):=by
 intro π s σ H v u Q I r hw;obtain⟨a,xs,e1,hq,hl,hw⟩:=hw;subst e1;cases r;obtain⟨ι,rv,ht,hz⟩:=I.tuple hq;show assign_Tuple_tuple (I.ok.hd hc) ht (by simp[hn,<- hl,rv.length]) hst λh' hx=>?_;have I1:Φ X π σ H {s with heap:=h' }:=I.kept (t':=s.toks) λb o e=>hx b o (e_ (bo e)) e;show h π _ σ H xs _ Q I1 (by simpa using rv) hw
def Sn(to ti:TE)(t:Cs):TG:=λv σ H Q=>to σ H λo H1=>ti σ H1 λi H2=>t o i v H2 λH3=>Q σ H3
theorem aD3(ho:PE X o to)(hi:PE X i ti)(hs:Cr X t)
  (ha:∀v,assign (.Subscript o i ν) X.env v=(do
   let ov <- holding [v] (eval o X.env)
   let iv <- holding [v,ov] (eval i X.env)
   standAt ν
   holding [v,ov,iv] (setItem ov iv v)
   release [v,ov,iv] []):=by intro _;rfl):PG X (.Subscript o i ν) (Sn to ti t):=by
 intro π s σ H v u Q I r h;rw[ha];show aq (iw (eI (ho π s σ H _ I h) λov s1 ⟨x,H1,I1,r1,q1⟩=>?_));show aq (iw (eI (hi π s1 σ H1 _ I1 q1) λiv s2 ⟨y,H2,I2,r2,q2⟩=>?_));show aq (Fm (aq (iw (eI (hs π s2 σ H2 x y v ov iv u _ I2 r1 r2 r q2) λ_ s3 ⟨H3,I3,q3⟩=>?_))));show wpAny_release ⟨σ,H3,I3,q3⟩
def xx(te:TE)(g:TG):TS:=λD σ H=>te σ H λx H1=>g x σ H1 D.nx
def V0(he:PE X e te)(hg:PG X tg g)(hs:swapsWithSole [tg] e ν.line X.env=pure ag:=by rfl)(hw:swappedStores [tg] e X.env=pure ae:=by rfl)
  (h1:(dg [tg] X.env).map (·.2)=[assign tg X.env]:=by rfl):PS X (.Assign [tg] e ν) (xx te g):=by
 intro π s σ H D I h;show wpAny_Assign_stores (eI (he π s σ H _ I h) λv s1 ⟨x,H1,I1,r1,q1⟩=>?_) hs hw;rw[h1];show eI (hg π s1 σ H1 x v _ I1 r1 q1) λ_ s2 q=>q
def oG(hN:X.N.Nodup)(hi:X.N[i]?=aa x)(hx:Loc X.env.scope x)(he:PE X e te)(hs:Si X e x pos' ν:=by rfl)(hf:Zr X x:=by first|show .inl rfl|show .inr rfl|assumption):
  PS X (.Assign [.Name x pos'] e ν) (xx te (VY i)):=by
 intro π s σ H D I h;show wpAny_Assign_Name (eI (he π s σ H _ I h) λv s1 ⟨y,H1,I1,r1,q1⟩=>?_) hs;show zH I1 hN hi hx r1 (λs2 I2=>⟨_,H1,I2,q1⟩) hf
def aD5(c:TT)(tb:TS):TS:=λD σ H=>∃W:Nat->St->Hp->Prop,(∃m,W m σ H) /\∀m σ H,W m σ H ->
 c σ H λb H1=>if b=af then ∃N:St->Hp->Prop,(∀σ' H',N σ' H' ->∃m',m'<m/\W m' σ' H')/\tb {D with nx:=N,ct:=N,bk:=D.nx} σ H1 else D.nx σ H1
theorem V1(hp:qr (av X.Ω X.w) X.A X.env X.xe)(hc:PT X c tc)(hb:AZ X body tb):PS X (.While c body [] ν) (aD5 tc tb):=by
 intro π s σ H D I h;obtain⟨W,⟨m0,w0⟩,turn⟩:=h;show wpAny_While (codeAny_whileLoop (λn s'=>∃σ' H',Φ X π σ' H' s'/\W n σ' H') ?_ m0 ⟨σ,H,I,w0⟩);rintro n s1 ⟨σ1,H1,I1,w1⟩;show ox hp (eI (hc π s1 σ1 H1 _ I1 (turn n σ1 H1 w1)) λb s2 ⟨H2,I2,q2⟩=>?_)
 cases b with
 |true =>
  obtain⟨N,hN,q2⟩:=q2;rw[Z_ rfl];show ox hp (eI (hb π s2 σ1 H2 _ I2 q2) λf s3 q3=>?_)
  cases f with
  |next =>
   obtain⟨σ3,H3,I3,n3⟩:=q3;obtain⟨m',hm,w3⟩:=hN σ3 H3 n3;show⟨m',hm,σ3,H3,I3,w3⟩
  |cont =>
   obtain⟨σ3,H3,I3,n3⟩:=q3;obtain⟨m',hm,w3⟩:=hN σ3 H3 n3;show⟨m',hm,σ3,H3,I3,w3⟩
  |brk=>show q3
  |ret v=>show q3
 |false =>
  rw[Zz bp];show yi ⟨σ1,H2,I2,q2⟩
end
structure It where
 go:Nat->Hp->Prop
 yld:Nat->Hp->V->Hp->Prop
 stop:Nat->Hp->Prop
def qU(X:Cx)(π:Q0b)(H:Hp)(b:ah):Prop :=
 H b=ae/\b≠X.env.locals/\b∉X.fs/\(b∈X.ex\/X.s₀.heap.objs.size<=b)/\(∀x c,X.env.cells.lookup x=aa c->c≠b) /\∀p∈X.pn++π,p.1≠b
def Φ.EU(I:Φ X π σ H s)(hb:s.heap.objs.size<=b)(hn:H' b=ae):qU X π H' b:=by
 show⟨hn,ko (fz I.lt hb),I.Ti hb,.inr (gx I.sz hb),λx c e z=>?_,λp hp z=>?_⟩
 .obtain ⟨v,q⟩:=I.cell x c e;show Zw (fz q.lt (by rw[z];show hb)) (jb _)
 .exact Zw (fz (bo (I.pin p hp).1) (by rw[z];show hb)) (jb _)
structure Turn (P:bc) (w:ba) (K:ao) (tg:aw) (J:It) (fp:List ah) (it:ah) (tn:Nat->ay->Prop):Prop where
 mem:it∈fp
 obj:∀i h,tn i h ->∀b∈fp,∃o,h.get? b=aa o /\∀v,o.data≠.cell v
 keep:∀i h h',tn i h->(∀b∈fp,∀o,h.get? b=aa o->h'.get? b=aa o)->tn i h'
 item:∀(X:Cx),X.Ω=P->X.w=w->X.K=K->X.calm=af ->∀(i:Nat) (π:Q0b) (s:ak) (σ:St) (H:Hp) (E:Q0c),Φ X π σ H s->(∀b∈fp,qU X π H b)->tn i s.heap->J.go i H ->
  au (av P w) X.A (pyNext (.ref it)) (λr s1=>∃u,r=aa u /\
   au (av P w) X.A (letOwnedTupleGo tg (.ref it) u) (λ_ s2=>∃x H',Φ X π σ H' s2/\Ψ x u/\J.yld i H x H'/\tn (i+1) s2.heap /\∀b∈fp,H' b=ae) E s1) E s
 done:∀(X:Cx),X.Ω=P->X.w=w->X.K=K->X.calm=af ->∀(i:Nat) (π:Q0b) (s:ak) (σ:St) (H:Hp) (E:Q0c),Φ X π σ H s->(∀b∈fp,qU X π H b)->tn i s.heap->J.stop i H ->
  au (av P w) X.A (pyNext (.ref it)) (λr s1=>r=ae/\Φ X π σ H s1) E s
 self:∀(A:bq) (i:Nat) (s:ak) (Q:Q0c) (E:Q0c),tn i s.heap->Q (.ref it) s->au (av P w) A (pyIter (.ref it)) Q E s
abbrev TI:=St->Hp->(It->Hp->Prop)->Prop
def PIE(X:Cx)(π:Q0b)(σ:St)(tg:aw)(R:It->Hp->Prop)(itv:ai)(s2:ak):Prop :=
 ∃(it:ah) (fp:List ah) (tn:Nat->ay->Prop) (J:It) (H':Hp),itv=.ref it/\Φ X π σ H' s2/\Turn X.Ω X.w X.K tg J fp it tn/\tn 0 s2.heap/\(∀b∈fp,qU X π H' b)/\R J H'
def PI(X:Cx)(tg iter:aw)(wi:TI):Prop :=
 ∀(π:Q0b) (s:ak) (σ:St) (H:Hp) (R:It->Hp->Prop),Φ X π σ H s->wi σ H R ->
  au (av X.Ω X.w) X.A (eval iter X.env) (λv s1=>au (av X.Ω X.w) X.A (pyIter v) (PIE X π σ tg R) X.xe s1) X.xe s
theorem V2(ho:s.heap.get? it=aa o)(hc:o.cls=.type n)(hd:o.data=.fields vs)
  (hn:["enumerate","zip","dict_itemiterator","dict_reverseitemiterator","odict_iterator","itertools.zip_longest","itertools.pairwise"].contains n=ag) (hQ:Q () s):au M A (letOwnedTupleGo tg (.ref it) u) Q E s:=by
 unfold letOwnedTupleGo;cases tg<;>first
  |show az hQ
  | (cases u<;>first
    |show az hQ
    | (show aq (Fs ho ?_)
       rw[hc,hd];show au M A (if(["enumerate","zip","dict_itemiterator","dict_reverseitemiterator","odict_iterator","itertools.zip_longest","itertools.pairwise"].contains n&&vs[0]? == aa (rawInt _))=af then _ else _) Q E s;rw[Zz (by intro h;rw[hn,sr] at h;cases h)];show az hQ))
def Itl(K:ao)(a:ah):It :=
 ⟨λi H=>∃xs x,eW K H a xs/\xs[i]?=aa x,λi H x H'=>H'=H /\∀xs,eW K H a xs->xs[i]?=aa x,λi H=>∃xs,eW K H a xs/\xs.length<=i⟩
def Itt(K:ao)(a:ah):It :=
 ⟨λi H=>∃xs x,fF K H a xs/\xs[i]?=aa x,λi H x H'=>H'=H /\∀xs,fF K H a xs->xs[i]?=aa x,λi H=>∃xs,fF K H a xs/\xs.length<=i⟩
def Itr(lo:Int)(n:Nat):It:=⟨λi _=>i<n,λi H x H'=>H'=H/\x=.int (lo+i),λi _=>n<=i⟩
theorem QP{P:bc}{w:ba}{K:ao}{tg:aw}(a it:ah):Turn P w K tg (Itl K a) [it] it (λi h=>h.IsListIter it a i) where
 mem:=by simp
 obj:=λi h st b hb=>by
  have e:b=it:=by simpa using hb
  subst e;obtain⟨o,e,c,d⟩:=st;show⟨o,e,λv z=>by rw[d] at z;cases z⟩
 keep:=λi h h' st k=>st.at λo e=>k it (by simp) o e
 item:=by intro X hP hw hK hc i π s σ H E I hf st hg;subst hP hw hK;obtain⟨xs,x,hq,hx⟩:=hg;obtain⟨ι,rv,p,hz⟩:=I.list hq;obtain⟨u,hu,ru⟩:=rv.get hx;obtain⟨f0,f1,f2,f3,f4,f5⟩:=hf it (by simp);show wpAny_pyNext_list_item st p.isList (x:=u) (by simpa using hu) λh' st' sb=>?_;have I1:Φ X π σ H {s with heap:=h' }:=I.turned (t':=s.toks) (λb o hb e=>(sb.2 b hb).trans e) f0 f1 f3 f4 f5;obtain⟨o,e,c,d⟩:=id st';show⟨u,rfl,V2 (s:={s with heap:=h' }) e c d (by decide) ⟨x,H,I1,ru,⟨rfl,λys hy=>by rw[I.gW hy hq];show hx⟩,st',λb hb=>(hf b hb).1⟩⟩
 done:=by intro X hP hw hK hc i π s σ H E I hf st hg;subst hP hw hK;obtain⟨xs,hq,hx⟩:=hg;obtain⟨ι,rv,p,hz⟩:=I.list hq;obtain⟨f0,f1,f2,f3,f4,f5⟩:=hf it (by simp);have hl:=rv.length;show wpAny_pyNext_list_end (I.ok.hd hc) st p.isList (by simp;lia) λh' eb=>⟨rfl,I.turned (t':=s.toks) (λb o hb e=>eb b o hb e) f0 f1 f3 f4 f5⟩
 self:=λ_ _ _ _ _ st h=>wpAny_pyIter_listiter st h
theorem KP{P:bc}{w:ba}{K:ao}{tg:aw}(a it:ah):Turn P w K tg (Itt K a) [it] it (λi h=>h.IsTupleIter it a i) where
 mem:=by simp
 obj:=λi h st b hb=>by
  have e:b=it:=by simpa using hb
  subst e;obtain⟨o,e,c,d⟩:=st;show⟨o,e,λv z=>by rw[d] at z;cases z⟩
 keep:=λi h h' st k=>st.at λo e=>k it (by simp) o e
 item:=by intro X hP hw hK hc i π s σ H E I hf st hg;subst hP hw hK;obtain⟨xs,x,hq,hx⟩:=hg;obtain⟨ι,rv,p,hz⟩:=I.tuple hq;obtain⟨u,hu,ru⟩:=rv.get hx;obtain⟨f0,f1,f2,f3,f4,f5⟩:=hf it (by simp);show wpAny_pyNext_tuple_item st (show s.heap.IsTuple a ι.toArray from p) (x:=u) (by simpa using hu) λh' st' sb=>?_;have I1:Φ X π σ H {s with heap:=h' }:=I.turned (t':=s.toks) (λb o hb e=>(sb.2 b hb).trans e) f0 f1 f3 f4 f5;obtain⟨o,e,c,d⟩:=id st';show⟨u,rfl,V2 (s:={s with heap:=h' }) e c d (by decide) ⟨x,H,I1,ru,⟨rfl,λys hy=>by rw[I.fW hy hq];show hx⟩,st',λb hb=>(hf b hb).1⟩⟩
 done:=by intro X hP hw hK hc i π s σ H E I hf st hg;subst hP hw hK;obtain⟨xs,hq,hx⟩:=hg;obtain⟨ι,rv,p,hz⟩:=I.tuple hq;obtain⟨f0,f1,f2,f3,f4,f5⟩:=hf it (by simp);have hl:=rv.length;show wpAny_pyNext_tuple_end (I.ok.hd hc) st (show s.heap.IsTuple a ι.toArray from p) (by simp;lia) λh' eb=>⟨rfl,I.turned (t':=s.toks) (λb o hb e=>eb b o hb e) f0 f1 f3 f4 f5⟩
 self:=λ_ _ _ _ _ st h=>wpAny_pyIter_tupleiter st h
theorem KQ{P:bc}{w:ba}{K:ao}{tg:aw}(it:ah)(lo:Int)(n:Nat):Turn P w K tg (Itr lo n) [it] it (λi h=>a06 h it (lo+(i:Nat)*1) ((n:Int)-(i:Nat)) 1) where
 mem:=by simp
 obj:=λi h st b hb=>by
  have e:b=it:=by simpa using hb
  subst e;show⟨_,st,λv z=>by have z':Data.fields _=Data.cell v:=z;cases z'⟩
 keep:=λi h h' st k=>k it (by simp) _ st
 item:=by intro X hP hw hK hc i π s σ H E I hf st hg;subst hP hw hK;obtain⟨f0,f1,f2,f3,f4,f5⟩:=hf it (by simp);have W:=Walks.range (prog:=X.Ω) (w:=X.w) (I.ok.hd hc) it lo 1 n;show W.item i s _ _ hg st λv h' tk hv st' kk=>?_;obtain⟨t,rfl⟩:=hv;have I1:Φ X π σ H {s with heap:=h',toks:=tk}:=I.turned (λb o hb e=>kk b o (by simpa using hb) e) f0 f1 f3 f4 f5;show⟨_,rfl,V2 (s:={s with heap:=h',toks:=tk}) (n:="range_iterator") st' rfl rfl (by decide) ⟨.int (lo+i),H,I1,⟨t,?_⟩,⟨rfl,rfl⟩,st',λb hb=>(hf b hb).1⟩⟩;rw[a2s]
 done:=by intro X hP hw hK hc i π s σ H E I hf st hg;subst hP hw hK;obtain⟨f0,f1,f2,f3,f4,f5⟩:=hf it (by simp);show wpAny_pyNext_range_end (I.ok.hd hc) st (by have:n<=i:=hg;lia) λh' eb=>⟨rfl,I.turned (t':=s.toks) (λb o hb e=>eb b o hb e) f0 f1 f3 f4 f5⟩
 self:=λ_ _ _ _ _ st h=>wpAny_pyIter_rangeiter st h
section
variable{X:Cx}{tg:aw}
theorem V3{π:Q0b}{σ:St}{H:Hp}{s:ak}{R:It->Hp->Prop}{E:Q0c}{lo hi:Int}{t u v:gk}{tk:Nat}(I:Φ X π σ H s)(h1:-(2^62)<=lo)(h2:lo<2^62)(h3:-(2^62)<=hi)(h4:hi<2^62)
  (q:R (Itr lo (hi-lo).toNat) H):au (av X.Ω X.w) X.A (pyIter (.ref s.heap.objs.size)) (PIE X π σ tg R) E {s with heap:=s.heap.push {cls:=.type "range",data:=.fields #[.int lo t,.int hi u,.int 1 v]},toks:=tk}:=by
 show wpAny_pyIter_range (IsRange.new ..) (Fx h1 h2 h3 h4) ?_;have I1:Φ X π σ H {s with heap:=s.heap.push {cls:=.type "range",data:=.fields #[.int lo t,.int hi u,.int 1 v]},toks:=tk}:=I.kept λb o e=>cn _ e;show⟨(s.heap.push {cls:=.type "range",data:=.fields #[.int lo t,.int hi u,.int 1 v]}).objs.size,[(s.heap.push {cls:=.type "range",data:=.fields #[.int lo t,.int hi u,.int 1 v]}).objs.size],_,_,H,rfl,
  I1.kept (t':=tk) λb o e=>cn _ e,KQ _ lo (hi-lo).toNat,?_,λb hb=>?_,q⟩
 .have e1:lo+((0:Nat):Int)*1=lo:=by simp
  have e2:(((hi-lo).toNat:Nat):Int)-((0:Nat):Int)=zr lo hi 1:=by rw[Ga];split<;>lia
  show a06 _ _ (lo+((0:Nat):Int)*1) ((((hi-lo).toNat:Nat):Int)-((0:Nat):Int)) 1;rw[e1,e2];show dm _ rfl
 .have e:b=(s.heap.push {cls:=.type "range",data:=.fields #[.int lo t,.int hi u,.int 1 v]}).objs.size:=by simpa using hb
  subst e;show I1.EU (bg _) (I1.hok.fresh (bg _))
def Xu(ta:TA):TI:=λσ H R=>ta σ H λvs H1=>∃j:Int,vs=[.int j] /\ -(2^62)<=j/\j<2^62/\R (Itr 0 j.toNat) H1
theorem QQ{a:aw}{ta:TA}{p ν:bf}(hg:Gl X "range")(hm:X.mg "range"=ae)(ha:PA X [a] ta)(hs:ar [a] X.env=[(ag,eval a X.env)]:=by rfl):PI X tg (.Call (.Name "range" p) [a] [] ν) (Xu ta):=by
 intro π s σ H R I h;show vg (mY I hg hm a1E (q_ (eI (ha ν π s σ H _ I h) λus s1 ⟨vs,H1,I1,r1,q1⟩=>?_) hs rfl));obtain⟨j,e,q1,q2,q⟩:=q1;subst e
 cases r1 with
 |cons r rr =>
  cases rr;obtain⟨t,rfl⟩:=r;show a0C (V3 I1 ∅ ∅ q1 q2 (by simpa using q))
def Sm(wi:TI)(g:TG)(tb:TS):TS:=λD σ H=>wi σ H λJ H1=>∃W:Nat->Nat->St->Hp->Prop,(∃m,W 0 m σ H1) /\∀i m σ H,W i m σ H ->
 (J.stop i H/\D.nx σ H)\/(J.go i H /\∃N:St->Hp->Prop,(∀σ' H',N σ' H' ->∃m',m'<m/\W (i+1) m' σ' H') /\∀x H',J.yld i H x H'->g x σ H' λσ2 H2=>tb {D with nx:=N,ct:=N,bk:=D.nx} σ2 H2)
def zK(fp:List ah)(h:ay):List (ah×ax):=fp.filterMap λb=>(h.get? b).map λo=>(b,o)
def m6(hb:b∈fp)(e:h.get? b=aa o):(b,o)∈zK fp h:=qa.mpr ⟨b,hb,by rw[e];rfl⟩
theorem QR(hp:p∈zK fp h):p.1∈fp/\h.get? p.1=aa p.2:=by
 obtain⟨b,hb,e⟩:=qa.mp hp
 cases q:h.get? b with
 |none=>rw[q] at e;cases e
 |some o =>
  rw[q] at e;have e':(b,o)=p:=cj e;subst e';show⟨hb,q⟩
def Φ.pinned(I:Φ X π σ H s)(hf:∀b∈fp,qU X π H b)(ho:∀b∈fp,∃o,s.heap.get? b=aa o /\∀v,o.data≠.cell v):Φ X (π++zK fp s.heap) σ H s :=
 I.ES λp hp=>(gm.mp hp).elim (λz=>I.pin p (gq _ z)) λz=>by obtain⟨hb,e⟩:=QR z;obtain⟨f0,f1,f2,_⟩:=hf p.1 hb;obtain⟨o,e',d⟩:=ho p.1 hb;rw[e] at e';cases e';show⟨e,f0,f1,f2,d⟩
def Φ.jH(I:Φ X (π++pl) σ H s):Φ X π σ H s:=I.ES λp hp=>I.pin p (gq _ (gj _ hp))
theorem aD6(hp:qr (av X.Ω X.w) X.A X.env X.xe)(hc:X.calm=af)(hi:PI X tg iter wi)(hg:PG X tg g)(hb:AZ X body tb)
  (hs:Zp X iter:=by intro _;rfl):PS X (.For tg iter body [] ν) (Sm wi g tb):=by
 intro π s σ H D I h;show wpAny_For (eI (hi π s σ H _ I h) λv s1 h1=>eI h1 λitv s2 h2=>?_) hs;obtain⟨it,fp,tn,J,H2,e,I2,T,st2,f2,W,⟨m0,w0⟩,turn⟩:=h2;subst e
 -- what stays af of the iterator's objects through the loop
 have stat:∀{H':Hp},(∀b∈fp,H' b=ae) ->∀b∈fp,qU X π H' b:=λhn b hb=>⟨hn b hb,(f2 b hb).2⟩;show codeAny_forLoop_any (λn s'=>∃i σ' H',Φ X π σ' H' s'/\tn i s'.heap/\(∀b∈fp,H' b=ae)/\W i n σ' H') ?_ m0 ⟨0,σ,H2,I2,st2,λb hb=>(f2 b hb).1,w0⟩;rintro n s3 ⟨i,σ3,H3,I3,st3,fr3,w3⟩;rcases turn i n σ3 H3 w3 with⟨stop,qn⟩|⟨go,N,hN,step⟩
 .refine ox hp (eI (T.done X rfl rfl rfl hc i π s3 σ3 H3 X.xe I3 (stat fr3) st3 stop) λr s4 ⟨hr,I4⟩=>?_);subst hr;show yi ⟨σ3,H3,I4,qn⟩
 .refine ox hp (eI (T.item X rfl rfl rfl hc i π s3 σ3 H3 X.xe I3 (stat fr3) st3 go) λr s4 ⟨u,hr,h4⟩=>?_);subst hr;show ox hp (eI h4 λ_ s5 ⟨x,H5,I5,r5,y5,st5,fr5⟩=>?_);have I5':=I5.pinned (stat fr5) (T.obj _ _ st5);show ox hp (eI (hg _ s5 σ3 H5 x u _ I5' r5 (step x H5 y5)) λ_ s6 ⟨σ6,H6,I6,q6⟩=>?_);show ox hp (eI (hb _ s6 σ6 H6 _ I6 q6) λf s7 q7=>?_);have again:∀{σ7:St} {H7:Hp},Φ X (π++zK fp s5.heap) σ7 H7 s7->N σ7 H7 ->∃m,m<n /\∃i σ' H',Φ X π σ' H' s7/\tn i s7.heap/\(∀b∈fp,H' b=ae)/\W i m σ' H':=λ{σ7 H7} I7 n7=>by obtain⟨m',hm,w7⟩:=hN σ7 H7 n7;show⟨m',hm,i+1,σ7,H7,I7.jH,T.keep _ _ _ st5 λb hb o e=>(I7.pin (b,o) (gq _ (gq _ (m6 hb e)))).1,λb hb=>?_,w7⟩;obtain⟨o,e,d⟩:=T.obj _ _ st5 b hb;show(I7.pin (b,o) (gq _ (gq _ (m6 hb e)))).2.1
  cases f with
  |next=>obtain⟨σ7,H7,I7,n7⟩:=q7;show again I7 n7
  |cont=>obtain⟨σ7,H7,I7,n7⟩:=q7;show again I7 n7
  |brk=>obtain⟨σ7,H7,I7,q7⟩:=q7;show⟨σ7,H7,I7.jH,q7⟩
  |ret v=>obtain⟨x7,σ7,H7,I7,r7,q7⟩:=q7;show⟨x7,σ7,H7,I7.jH,r7,q7⟩
end
abbrev R2:=V->V->Hp->VK->Prop
def jS(X:Cx)(f:ai->ai->Sem ai)(r:R2):Prop :=
 ∀(π:Q0b) (s:ak) (σ:St) (H:Hp) (x y:V) (v u:ai) (Q:VK),Φ X π σ H s->Ψ x v->Ψ y u->r x y H Q ->
  au (av X.Ω X.w) X.A (f v u) (EP X π σ Q) X.xe s
def UnR(X:Cx)(f:ai->Sem ai)(r:V->Hp->VK->Prop):Prop :=
 ∀(π:Q0b) (s:ak) (σ:St) (H:Hp) (x:V) (v:ai) (Q:VK),Φ X π σ H s->Ψ x v->r x H Q ->
  au (av X.Ω X.w) X.A (f v) (EP X π σ Q) X.xe s
def gX(X:Cx)(f:ai)(r:List V->Hp->VK->Prop):Prop :=
 ∀(π:Q0b) (s:ak) (σ:St) (H:Hp) (xs:List V) (us:Q0f) (Q:VK),Φ X π σ H s->θ xs us->r xs H Q ->
  au (av X.Ω X.w) X.A (call f us) (EP X π σ Q) X.xe s
def Sk(X:Cx)(r:V->Hp->(Bool->Hp->Prop)->Prop):Prop :=
 ∀(π:Q0b) (s:ak) (σ:St) (H:Hp) (x:V) (v:ai) (Q:Bool->Hp->Prop),Φ X π σ H s->Ψ x v->r x H Q ->
  au (av X.Ω X.w) X.A (truthy v) (TP X π σ Q) X.xe s
def qi(r:R2)(ta tb:TE):TE:=λσ H Q=>ta σ H λx H1=>tb σ H1 λy H2=>r x y H2 Q
def Jc(r:V->Hp->VK->Prop)(ta:TE):TE:=λσ H Q=>ta σ H λx H1=>r x H1 Q
def rI(C:Int->Int->Prop)(g:Int->Int->V):R2:=λx y H Q=>∃i j,x=.int i/\y=.int j/\C i j/\Q (g i j) H
def QS(g:Int->Int->V):R2:=λx y H Q=>∃i j,x=.int i/\y=.int j/\Q (g i j) H
def rU(g:Int->V):V->Hp->VK->Prop:=λx H Q=>∃i,x=.int i/\Q (g i) H
section
variable{X:Cx}{a b c:aw}{ta tb tc:TE}{ν:bf}
theorem xw(ha:PE X a ta)(hb:PE X b tb){π:Q0b}{s:ak}{σ:St}{H:Hp}{R:V->V->Hp->Prop}(I:Φ X π σ H s)
  (h:ta σ H λx H1=>tb σ H1 λy H2=>R x y H2) {Q:Q0c} {f:ai->ai->Sem ai}
  (hf:∀v u s2 x y H2,Φ X π σ H2 s2->Ψ x v->Ψ y u->R x y H2->au (av X.Ω X.w) X.A (f v u) Q X.xe s2):
  au (av X.Ω X.w) X.A (eval a X.env) (λv s₁=>au (av X.Ω X.w) X.A (eval b X.env) (λu s₂=>au (av X.Ω X.w) X.A (f v u) Q X.xe s₂) X.xe s₁) X.xe s:=by
 show eI (ha π s σ H _ I h) λv s1 hq2=>?_;obtain⟨x,H1,I1,r1,q1⟩:=hq2;show eI (hb π s1 σ H1 _ I1 q1) λu s2 hq3=>?_;obtain⟨y,H2,I2,r2,q2⟩:=hq3;show hf v u s2 x y H2 I2 r1 r2 q2
def V4{op:Operator}{r:R2}(ho:jS X (binaryOp op) r)(ha:PE X a ta)(hb:PE X b tb):PE X (.BinOp a op b ν) (qi r ta tb):=by intro π s σ H Q I h;show wpAny_BinOp (xw ha hb I h λv u s2 x y H2 I2 rx ry q=>ho π s2 σ H2 x y v u Q I2 rx ry q)
def Xt(ho:UnR X (unaryOp op) r)(ha:PE X a ta):PE X (.UnaryOp op a ν) (Jc r ta):=by intro π s σ H Q I h;show UnaryOp_ (eI (ha π s σ H _ I h) λv s1 ⟨x,H1,I1,r1,q1⟩=>ho π s1 σ H1 x v Q I1 r1 q1)
theorem opI{f:ai->ai->Sem ai}{C:Int->Int->Prop}{g:Int->Int->Int}
  (rule:∀(i j:Int) (t u:gk) (s:ak) (Q:Q0c) (E:Q0c),C i j->Q (.int (g i j) s.toks) {s with toks:=s.toks+1}->au (av X.Ω X.w) X.A (f (.int i t) (.int j u)) Q E s):
  jS X f (rI C λi j=>.int (g i j)):=by
 intro π s σ H x y v u Q I rx ry h;obtain⟨i,j,rfl,rfl,hc,q⟩:=h;obtain⟨t,rfl⟩:=rx;obtain⟨t',rfl⟩:=ry;show rule i j t t' s _ _ hc ⟨.int (g i j),H,I.tok _,⟨_,rfl⟩,q⟩
theorem Cq{f:ai->ai->Sem ai}{g:Int->Int->Int}
  (rule:∀(i j:Int) (t u:gk) (s:ak) (Q:Q0c) (E:Q0c),Q (.int (g i j) s.toks) {s with toks:=s.toks+1}->au (av X.Ω X.w) X.A (f (.int i t) (.int j u)) Q E s):
  jS X f (QS λi j=>.int (g i j)):=by
 intro π s σ H x y v u Q I rx ry h;obtain⟨i,j,rfl,rfl,q⟩:=h;obtain⟨t,rfl⟩:=rx;obtain⟨t',rfl⟩:=ry;show rule i j t t' s _ _ ⟨.int (g i j),H,I.tok _,⟨_,rfl⟩,q⟩
theorem ui{f:ai->ai->Sem ai}{g:Int->Int->Bool}
  (rule:∀(i j:Int) (t u:gk) (s:ak) (Q:Q0c) (E:Q0c),Q (.bool (g i j)) s->au (av X.Ω X.w) X.A (f (.int i t) (.int j u)) Q E s):
  jS X f (QS λi j=>.bl (g i j)):=by
 intro π s σ H x y v u Q I rx ry h;obtain⟨i,j,rfl,rfl,q⟩:=h;obtain⟨t,rfl⟩:=rx;obtain⟨t',rfl⟩:=ry;show rule i j t t' s _ _ ⟨.bl (g i j),H,I,rfl,q⟩
def Cp(i j:Int):Prop:=0<j/\j<1073741824
def Co(i j:Int):Prop:=0<=j/\j<=1000000/\i.natAbs<2^64
def uh(i j:Int):Prop:=(-(2^64)<i/\i<2^64)\/(-(2^64)<j/\j<2^64)
def uh.ok{i j:Int}(h:uh i j):vc i j:=by
 rcases h with⟨h1,h2⟩|⟨h1,h2⟩
 .exact .of_left (a0x h1 h2)
 .exact .of_right (a0x h1 h2)
def aD8:jS X (binaryOp .Add) (QS λi j=>.int (i+j)):=Cq λ_ _ _ _ _ _ _ q=>add_int q
def aD9:jS X (binaryOp .Sub) (QS λi j=>.int (i-j)):=Cq λ_ _ _ _ _ _ _ q=>sub_int q
def aA7:jS X (binaryOp .FloorDiv) (rI Cp λi j=>.int (i/j)):=opI λi j _ _ _ _ _ hc q=>by have h1:(0:Int)<j:=hc.1;have h2:j<1073741824:=hc.2;show floordiv_int ∅ (by rw[Int.fdiv_eq_ediv_of_nonneg i ∅];show q) (.inl (PyProof.noPylong_small ∅))
def aDa:jS X (binaryOp .Mod) (rI (λ_ j=>0<j) λi j=>.int (i%j)):=opI λi j _ _ _ _ _ hc q=>by have h1:(0:Int)<j:=hc;show mod_int' ∅ (by rw[Int.fmod_eq_emod_of_nonneg i ∅];show q)
def aDb:jS X (binaryOp .Pow) (rI Co λi j=>.int (i^j.toNat)):=opI λ_ _ _ _ _ _ _ hc q=>pow_int_small hc.1 hc.2.1 hc.2.2 q
theorem unI{f:ai->Sem ai}{g:Int->Int}
  (rule:∀(i:Int) (t:gk) (s:ak) (Q:Q0c) (E:Q0c),Q (.int (g i) s.toks) {s with toks:=s.toks+1}->au (av X.Ω X.w) X.A (f (.int i t)) Q E s):
  UnR X f (rU λi=>.int (g i)):=by
 intro π s σ H x v Q I rx h;obtain⟨i,rfl,q⟩:=h;obtain⟨t,rfl⟩:=rx;show rule i t s _ _ ⟨.int (g i),H,I.tok _,⟨_,rfl⟩,q⟩
def aDc:UnR X (unaryOp .USub) (rU λi=>.int (-i)):=unI λ_ _ _ _ _ q=>neg_int q
end
noncomputable def xq:V->V->Bool
 |.non,.non=>af | .non,.int _=>af | .int _,.non=>af | .non,.bl _=>af | .bl _,.non=>af | .non,.str _=>af | .str _,.non=>af
 |.int _,.int _=>af | .bl _,.bl _=>af | .str _,.str _=>af | .QL _,.QL _=>af
 |.int _,.str _=>af | .str _,.int _=>af | .bl _,.str _=>af | .str _,.bl _=>af
 |_,_=>ag
def Aw:R2:=λx y H Q=>xq x y=af/\Q (.bl (Zv (x=y))) H
def Au:R2:=λx y H Q=>xq x y=af/\Q (.bl (!Zv (x=y))) H
def EV:Zv (V.int i=V.int j)=(i == j):=by rw[mj];simp
def KR:Zv (V.bl i=V.bl j)=(i == j):=by rw[mj];simp
def EW:Zv (V.str i=V.str j)=(i == j):=by rw[mj];simp
def OG:Zv (V.QL i=V.QL j)=(i.toList == j.toList):=by rw[mj];cases i;cases j;simp
section
variable{X:Cx}{a b c:aw}{ta tb tc:TE}{ν:bf}
def cR(I:Φ X π σ H s)(q:Q (.bl k) H)(e:k=k'):EP X π σ Q (.bool k') s:=by subst e;show⟨.bl k,H,I,rfl,q⟩
theorem Ed:jS X (compareOp .Eq) Aw:=by
 intro π s σ H x y v u Q I rx ry h;obtain⟨hs,q⟩:=h
 cases x with
 |non =>
  cases rx
  cases y with
  |non=>cases ry;show a28 (cR I q (by simp))
  |bl j=>cases ry;show a3a (cR I q (by simp))
  |int j=>obtain⟨t',rfl⟩:=ry;show a29 (cR I q (by simp))
  |str j=>obtain⟨t',rfl⟩:=ry;show a27 (cR I q (by simp))
  |_=>show Zw (show ag=af from hs) bp
 |bl i =>
  cases rx
  cases y with
  |non=>cases ry;show a3c (cR I q (by simp))
  |bl j=>cases ry;show eq_bool (cR I q KR)
  |str j=>obtain⟨t',rfl⟩:=ry;show a3k (cR I q (by simp))
  |_=>show Zw (show ag=af from hs) bp
 |int i =>
  obtain⟨t,rfl⟩:=rx
  cases y with
  |non=>cases ry;show a3b (cR I q (by simp))
  |int j=>obtain⟨t',rfl⟩:=ry;show eq_int (cR I q EV)
  |str j=>obtain⟨t',rfl⟩:=ry;show a3j (cR I q (by simp))
  |_=>show Zw (show ag=af from hs) bp
 |str i =>
  obtain⟨t,rfl⟩:=rx
  cases y with
  |non=>cases ry;show a26 (cR I q (by simp))
  |bl j=>cases ry;show a3i (cR I q (by simp))
  |int j=>obtain⟨t',rfl⟩:=ry;show a3h (cR I q (by simp))
  |str j=>obtain⟨t',rfl⟩:=ry;show eq_str (cR I q EW)
  |_=>show Zw (show ag=af from hs) bp
 |QL i =>
  obtain⟨t,rfl⟩:=rx
  cases y with
  |QL j=>obtain⟨t',rfl⟩:=ry;show PySem.W.eq_bytes (cR I q OG)
  |_=>show Zw (show ag=af from hs) bp
 |_=>cases y<;>show Zw (show ag=af from hs) bp
theorem Xs:jS X (compareOp .NotEq) Au:=by
 intro π s σ H x y v u Q I rx ry h;obtain⟨hs,q⟩:=h
 cases x with
 |non =>
  cases rx
  cases y with
  |non=>cases ry;show a21 (cR I q (by simp))
  |bl j=>cases ry;show a23 (cR I q (by simp))
  |int j=>obtain⟨t',rfl⟩:=ry;show a22 (cR I q (by simp))
  |str j=>obtain⟨t',rfl⟩:=ry;show a20 (cR I q (by simp))
  |_=>show Zw (show ag=af from hs) bp
 |bl i =>
  cases rx
  cases y with
  |non=>cases ry;show a25 (cR I q (by simp))
  |bl j=>cases ry;show ne_bool (cR I q (congrArg not KR))
  |str j=>obtain⟨t',rfl⟩:=ry;show a3g (cR I q (by simp))
  |_=>show Zw (show ag=af from hs) bp
 |int i =>
  obtain⟨t,rfl⟩:=rx
  cases y with
  |non=>cases ry;show a24 (cR I q (by simp))
  |int j=>obtain⟨t',rfl⟩:=ry;show ne_int (cR I q (congrArg not EV))
  |str j=>obtain⟨t',rfl⟩:=ry;show a3f (cR I q (by simp))
  |_=>show Zw (show ag=af from hs) bp
 |str i =>
  obtain⟨t,rfl⟩:=rx
  cases y with
  |non=>cases ry;show a2Z (cR I q (by simp))
  |bl j=>cases ry;show a3e (cR I q (by simp))
  |int j=>obtain⟨t',rfl⟩:=ry;show a3d (cR I q (by simp))
  |str j=>obtain⟨t',rfl⟩:=ry;show ne_str (cR I q (congrArg not EW))
  |_=>show Zw (show ag=af from hs) bp
 |QL i =>
  obtain⟨t,rfl⟩:=rx
  cases y with
  |QL j=>obtain⟨t',rfl⟩:=ry;show PySem.W.ne_bytes (cR I q (congrArg not OG))
  |_=>show Zw (show ag=af from hs) bp
 |_=>cases y<;>show Zw (show ag=af from hs) bp
def OH:jS X (compareOp .Lt) (QS λi j=>.bl (Zv (i<j))):=ui λ_ _ _ _ _ _ _ q=>lt_int q
def vM:jS X (compareOp .LtE) (QS λi j=>.bl (Zv (i<=j))):=ui λ_ _ _ _ _ _ _ q=>le_int q
def Ec:jS X (compareOp .Gt) (QS λi j=>.bl (Zv (j<i))):=ui λ_ _ _ _ _ _ _ q=>gt_int q
def Eb:jS X (compareOp .GtE) (QS λi j=>.bl (Zv (j<=i))):=ui λ_ _ _ _ _ _ _ q=>ge_int q
def V5:jS X (compareOp .Is) (λx y H Q=>y=.non/\Q (.bl (Zv (x=.non))) H):=by
 intro π s σ H x y v u Q I rx ry h;obtain⟨rfl,q⟩:=h;cases ry;show is_none_gen (cR I q ?_);cases x<;>first
  | (cases rx;rfl)
  | (obtain⟨t,rfl⟩:=rx;rfl)
def jS.or(h:jS X f r)(h':jS X f r'):jS X f (λx y H Q=>r x y H Q\/r' x y H Q):=by
 intro π s σ H x y v u Q I rx ry q;rcases q with q|q
 .exact h π s σ H x y v u Q I rx ry q
 .exact h' π s σ H x y v u Q I rx ry q
def iI(b:aw)(h:op≠.In:=by decide)(h2:op≠.NotIn:=by decide):behindInMarks op b=ag:=by
 have e1:(op == CmpOp.In)=ag:=by cases op<;>first|rfl|show Zw rfl h
 have e2:(op == CmpOp.NotIn)=ag:=by cases op<;>first|rfl|show Zw rfl h2
 cases b<;>simp[behindInMarks,e1,e2]
def aA8{op:CmpOp}{r:R2}(ho:jS X (compareOp op) r)(ha:PE X a ta)(hb:PE X b tb)(hm:behindInMarks op b=ag):PE X (.Compare a [op] [b] ν) (qi r ta tb):=by intro π s σ H Q I h;show wpAny_Compare1 (xw ha hb I h λv u s2 x y H2 I2 rx ry q=>ho π s2 σ H2 x y v u Q I2 rx ry q) hm
def HE(t:TE):TT:=λσ H Q=>t σ H λx H'=>∃k,x=.bl k/\Q k H'
def aA9(ho:jS X (compareOp op) r)(ha:PE X a ta)(hb:PE X b tb)(hm:behindInMarks op b=ag):PT X (.Compare a [op] [b] ν) (HE (qi r ta tb)):=by
 intro π s σ H Q I h;show a0k (eI (ha π s σ H _ I h) λv s1 ⟨x,H1,I1,r1,q1⟩=>eI (hb π s1 σ H1 _ I1 q1) λu s2 ⟨y,H2,I2,r2,q2⟩ =>
  eI (ho π s2 σ H2 x y v u _ I2 r1 r2 q2) λc s3 ⟨z,H3,I3,r3,k,e,q3⟩=>?_) hm
 subst e;cases r3;show kb ⟨H3,I3,q3⟩
def KS(r r':R2)(ta tb tc:TE):TE:=λσ H Q=>ta σ H λx H1=>tb σ H1 λy H2=>r x y H2 λz H3=>∃k,z=.bl k /\
 (if k=af then tc σ H3 λw' H4=>r' y w' H4 Q else Q (.bl ag) H3)
theorem V6(ho:jS X (compareOp op) r)(ho':jS X (compareOp op') r')(ha:PE X a ta)(hb:PE X b tb)(hc:PE X c tc)
  (hm:lastMarks [op,op'] [b,c]=ag:=by with_unfolding_all rfl):PE X (.Compare a [op,op'] [b,c] ν) (KS r r' ta tb tc):=by
 intro π s σ H Q I h;show Compare_chain (eI (ha π s σ H _ I h) λv s1 ⟨x,H1,I1,r1,q1⟩=>chain_link (eI (hb π s1 σ H1 _ I1 q1) λu s2 ⟨y,H2,I2,r2,q2⟩ =>
  eI (ho π s2 σ H2 x y v u _ I2 r1 r2 q2) λd s3 ⟨z,H3,I3,r3,k,e,q3⟩=>?_)) hm
 subst e;cases r3;show kb ?_
 cases k with
 |false=>show ite_ff ⟨.bl ag,H3,I3,rfl,q3⟩
 |true=>show ite_tt (chain_last (eI (hc π s3 σ H3 _ I3 q3) λw' s4 ⟨z',H4,I4,r4,q4⟩=>ho' π s4 σ H4 y z' u w' Q I4 r2 r4 q4))
theorem V7(ho:jS X (compareOp op) r)(ho':jS X (compareOp op') r')(ha:PE X a ta)(hb:PE X b tb)(hc:PE X c tc)
  (hm:lastMarks [op,op'] [b,c]=ag:=by with_unfolding_all rfl):PT X (.Compare a [op,op'] [b,c] ν) (HE (KS r r' ta tb tc)):=by
 intro π s σ H Q I h;show isTrue_chain (eI (ha π s σ H _ I h) λv s1 ⟨x,H1,I1,r1,q1⟩=>test_link (eI (hb π s1 σ H1 _ I1 q1) λu s2 ⟨y,H2,I2,r2,q2⟩ =>
  eI (ho π s2 σ H2 x y v u _ I2 r1 r2 q2) λd s3 ⟨z,H3,I3,r3,k,e,q3⟩=>?_)) hm
 subst e;cases r3;show kb ?_
 cases k with
 |false =>
  obtain⟨k',e',q'⟩:=q3;cases e';show ite_ff ⟨H3,I3,q'⟩
 |true =>
  show ite_tt (test_last (eI (hc π s3 σ H3 _ I3 q3) λw' s4 ⟨z',H4,I4,r4,q4⟩=>eI (ho' π s4 σ H4 y z' u w' _ I4 r2 r4 q4) λd' s5 ⟨z2,H5,I5,r5,k2,e2,q5⟩=>?_));subst e2;cases r5;show kb ⟨H5,I5,q5⟩
noncomputable def Cn(K:ao)(x:V)(H:Hp)(k:Bool):Prop :=
 match x with
 |.non=>k=ag
 |.bl b=>k=b
 |.int i=>k=(i !=0)
 |.str y=>y.length<=bb/\k=((y.length:Int) !=0)
 |.QL y=>y.size<=bb/\k=((y.size:Int) !=0)
 |.ref p=>(∃xs,eW K H p xs/\k=!xs.isEmpty)\/(∃xs,fF K H p xs/\k=!xs.isEmpty) \/∃χ,H p=aa (.dK χ)/\k=!χ.isEmpty
 |_=>False
def KU{κ:Type}{χ:List (κ×V)}{vs:List (κ×ai)}(r:KV χ vs):(!vs.isEmpty)=!χ.isEmpty:=by cases r<;>rfl
def m7{xs:List V}{ι:Q0f}(r:θ xs ι):(!ι.toArray.isEmpty)=!xs.isEmpty:=by cases r<;>simp
def zL:(bb:Nat)<2^63:=by rw[fm];decide
theorem aDe:Sk X (λx H Q=>∃k,Cn X.K x H k/\Q k H):=by
 intro π s σ H x v Q I rx h;obtain⟨k,e,q⟩:=h;have hl:=zL;have hs:bb=16777216:=fm
 cases x with
 |non =>
  cases rx;have e':k=ag:=e;subst e';show truthy_none ⟨H,I,q⟩
 |bl b =>
  cases rx;have e':k=b:=e;subst e';show kb ⟨H,I,q⟩
 |int i =>
  obtain⟨t,rfl⟩:=rx;have e':k=(i !=0):=e;subst e';show PySem.P.truthy_int ⟨H,I,q⟩
 |str y =>
  obtain⟨t,rfl⟩:=rx;obtain⟨hy,e'⟩:y.length<=bb/\k=((y.length:Int) !=0):=e;subst e';show PySem.P.truthy_str ∅ ⟨H,I.tok _,q⟩
 |QL y =>
  obtain⟨t,rfl⟩:=rx;obtain⟨hy,e'⟩:y.size<=bb/\k=((y.size:Int) !=0):=e;subst e';show PySem.W.truthy_bytes ∅ ⟨H,I.tok _,q⟩
 |ref p =>
  cases rx;have e':(∃xs,eW X.K H p xs/\k=!xs.isEmpty)\/(∃xs,fF X.K H p xs/\k=!xs.isEmpty) \/∃χ,H p=aa (.dK χ)/\k=!χ.isEmpty:=e;rcases e' with⟨xs,hx,e'⟩|⟨xs,hx,e'⟩|⟨χ,hx,e'⟩
  .subst e';obtain⟨ι,r,pl,hz⟩:=I.list hx;have hlen:=r.length;show a0c pl.isList (by simp only[bt];lia) ⟨H,I.tok _,by rw[m7 r];show q⟩
  .subst e';obtain⟨ι,r,pl,hz⟩:=I.tuple hx;have hlen:=r.length;show a1x pl (by simp only[bt];lia) ⟨H,I.tok _,by rw[m7 r];show q⟩
  .subst e';obtain⟨hz,hS,vs,r,m⟩:χ.length<=bb/\(p == sysModules)=ag /\∃vs,KV χ vs/\s.heap.DictOf (bI X.Ω X.w) p vs:=I.hok p _ hx;have hlen:χ.length=vs.length:=qt r;show wpAny_truthy_dict hS m ∅ ⟨H,I.tok _,by rw[KU r];show q⟩
 |_=>show(show False from e).elim
theorem V8(ha:PE X a ta)(he:∀whole,isTrue a X.env whole=(do let v <- whole;standAt a.pos;holding [v] (truthy v))):
  PT X a (λσ H Q=>ta σ H λx H'=>∃k,Cn X.K x H' k/\Q k H'):=by
 intro π s σ H Q I h;show isTrue_plain (eI (ha π s σ H _ I h) λv s1 ⟨x,H1,I1,r1,q1⟩=>aDe π s1 σ H1 x v Q I1 r1 q1) (he _)
def KW:jS X (binaryOp .Add) (λx y H Q=>∃i j,x=.str i/\y=.str j/\i.length+j.length<=bb/\Q (.str (i++j)) H):=by intro π s σ H x y v u Q I rx ry h;obtain⟨i,j,rfl,rfl,hz,q⟩:=h;obtain⟨t,rfl⟩:=rx;obtain⟨t',rfl⟩:=ry;show add_str (λt' tk=>⟨.str (i++j),H,I.tok _,⟨_,rfl⟩,q⟩) hz
theorem vals1(r:θ [x] us):∃u,us=[u]/\Ψ x u:=by
 cases r with
 |cons r1 r2=>cases r2;show⟨_,rfl,r1⟩
theorem vals2(r:θ [x,y] us):∃u w',us=[u,w']/\Ψ x u/\Ψ y w':=by
 cases r with
 |cons r1 r2 =>
  cases r2 with
  |cons r3 r4=>cases r4;show⟨_,_,rfl,r1,r3⟩
def QT:gX X (.type "int") (λxs H Q=>(∃i,xs=[.int i]/\Q (.int i) H) \/∃k,xs=[.bl k]/\Q (.int (if k then 1 else 0)) H):=by
 intro π s σ H xs us Q I r h;rcases h with⟨i,rfl,q⟩|⟨k,rfl,q⟩
 .obtain ⟨u,rfl,t,rfl⟩:=vals1 r;show call_int_int ⟨.int i,H,I,⟨_,rfl⟩,q⟩
 .obtain ⟨u,rfl,r1⟩:=vals1 r;cases r1;show call_int_bool ⟨.int (if k then 1 else 0),H,I.tok _,⟨_,rfl⟩,q⟩
end
structure xp (h:ay) (x dx C:ah) (mA:Q0d):Prop where
 obj:h.get? x=aa (instObj C dx)
 ns:h.Ns1 dx mA
 ne:dx≠x
def QU{h:ay}{dx:ah}{mA:Q0d}(n:h.Ns1 dx mA):∃od,h.get? dx=aa od /\∀name,lookIn name od=aa (mA name):=by
 obtain⟨o,es,ep,ho,hd,hk,_,hm⟩:=n;show⟨o,ho,λname=>?_⟩;have e:=hm name;unfold nsFind findBy at e;rw[<- Array.find?_toList] at e;unfold lookIn;rw[hd];dsimp only;split
 .rename_i y q;rw[q] at e;show congrArg aa e
 .rename_i q;rw[q] at e;have a:es.toList.any (·.refKey)=ag:=by rw[List.any_eq_false];intro y hy;obtain⟨z,t,hkey⟩:=hk y (Array.mem_toList_iff.mp hy);simp[a3l,hkey]
  have a':¬ es.toList.any (·.refKey)=af:=by rw[a];show bp
  rw[Zz a'];show congrArg aa e
def xp.look(I:xp h x dx C mA):∃od,PySem.W.InstAt h x (instObj C dx) C (aa od) /\∀name,lookIn name od=aa (mA name) :=
 let ⟨od,ho,hl⟩:=QU I.ns
 ⟨od,⟨I.obj,rfl,rfl,ho⟩,hl⟩
theorem qQ.some_of(r:qQ (aa v) o):∃u,o=aa u/\Ψ v u:=by
 cases o with
 |none=>show(show False from r).elim
 |some u=>show⟨u,rfl,r⟩
section
variable{P:bc}{w:ba}{H H':Hp}{h h':ay}{a C dx:ah}{fs fs':List (aj×V)}
def aAa(hok:pK P w H h)(e:H a=aa (.ins C dx fs)):∃mA,xp h a dx C mA/\(∀f,qQ (fs.lookup f) (mA f))/\a0F mA (fs.map (·.1))/\fs.length<=1000/\H dx=aa (.own a):=by obtain⟨d,z,ne,ob,mA,n,r,q⟩:=(show dG P w H h a (.ins C dx fs) from hok a _ e);show⟨mA,⟨ob,n,ne⟩,r,q,z,d⟩
end
structure Cls (K:ao) (C:ah):Prop where
 pg:a0J K C Str.empty=af
 hd:PySem.W.hasDictIn K C=af
 po:PySem.W.plainOver K C=af
 sa:a0O K (.ref C) "__setattr__"=aa (aa (.builtin "object.__setattr__"))
def Cls.get{K:ao}{C:ah}(c:Cls K C)(f:aj):a0J K C f=af:=c.pg
section
variable{X:Cx}{π:Q0b}{σ:St}{H:Hp}{s:ak}{A:bq}{E:Q0c}{Q:Q0c}{c:ai}{b:Bool}
inductive sJ (K:ao) (H:Hp):V->ai->Prop where
 |non:sJ K H .non (.type "NoneType")
 |bl (x:Bool):sJ K H (.bl x) (.type "bool")
 |int (i:Int):sJ K H (.int i) (.type "int")
 |str (x:aj):sJ K H (.str x) (.type "str")
 |flt (x:UInt64):sJ K H (.flt x) (.type "float")
 |lst {a:ah} {xs:List V} (e:H a=aa (.lst xs)):sJ K H (.ref a) (.type "list")
 |xF {a:ah} {o:ax} {xs:List V} (e:H a=aa (.xF o (.lst xs))):sJ K H (.ref a) (.type "list")
 |tup {a:ah} {xs:List V} (e:H a=aa (.tup xs)):sJ K H (.ref a) (.type "tuple")
 |dK {a:ah} {χ:List (Key×V)} (e:H a=aa (.dK χ)):sJ K H (.ref a) (.type "dict")
 |dT {a:ah} {χ:List (List Key×V)} (e:H a=aa (.dT χ)):sJ K H (.ref a) (.type "dict")
 |ins {a C dx:ah} {fs:List (aj×V)} (e:H a=aa (.ins C dx fs)) (cl:Cls K C) (ha:a0O K (.ref C) "__class__"=aa (aa (.builtin "object.__class__")))
   (hn:PySem.W.specialIn K (.builtin "object.__class__") "__get__"=aa (aa (.builtin "getset_descriptor.__get__"))) (htk:PySem.W.takesIn K (.builtin "object.__class__")=aa af)
   (hm:PySem.W.mroIn K C (.type "object")=aa af):sJ K H (.ref a) (.ref C)
theorem QV(I:Φ X π σ H s)(rx:Ψ x u)(ty:sJ X.K H x t)(e:qo X.K t c=aa b)(h:∀tk,Q (.bool b) {s with toks:=tk}):
  au (av X.Ω X.w) A (call (.builtin "isinstance") [u,c]) Q E s:=by
 cases ty with
 |non=>cases (show u=je from rx);show jc PySem.W.kitx_none I.xG jt e (λz=>nomatch z) h
 |bl y=>cases (show u=kh y from rx);show jc PySem.W.kitx_bool I.xG jt e (λz=>nomatch z) h
 |int i=>obtain⟨t,q⟩:=(show ∃t,u=jv i t from rx);cases q;show jc PySem.W.kitx_int I.xG jt e (λz=>nomatch z) h
 |str y=>obtain⟨t,q⟩:=(show ∃t,u=yw y t from rx);cases q;show jc PySem.W.kitx_str I.xG jt e (λz=>nomatch z) h
 |flt y=>obtain⟨t,q⟩:=(show ∃t,u=a0Y y t from rx);cases q;show jc PySem.W.kitx_float I.xG jt e (λz=>nomatch z) h
 | @lst a xs ea =>
  cases (show u=cp a from rx);obtain⟨_,_,n,_,h1⟩:=(show dG X.Ω X.w H s.heap a (.lst xs) from I.hok a _ ea);show jc Gm I.xG ⟨_,h1,rfl⟩ e (λz=>nomatch z) h
 | @xF a ob xs ea =>
  cases (show u=cp a from rx);obtain⟨_,_,_,n,_,h1⟩:=(show dG X.Ω X.w H s.heap a (.xF ob (.lst xs)) from I.hok a _ ea);show jc Gm I.xG ⟨_,h1,rfl⟩ e (λz=>nomatch z) h
 | @tup a xs ea =>
  cases (show u=cp a from rx);obtain⟨_,_,_,p,_⟩:=(show dG X.Ω X.w H s.heap a (.tup xs) from I.hok a _ ea);obtain⟨o,h1,h2,_⟩:=p;show jc a0K I.xG ⟨o,h1,h2⟩ e (λz=>nomatch z) h
 | @dK a χ ea =>
  cases (show u=cp a from rx);obtain⟨_,_,vs,_,p⟩:=(show dG X.Ω X.w H s.heap a (.dK χ) from I.hok a _ ea);obtain⟨o,es,ep,h1,h2,_⟩:=p;show jc a0L I.xG ⟨o,h1,h2.1⟩ e (λz=>nomatch z) h
 | @dT a χ ea =>
  cases (show u=cp a from rx);obtain⟨_,_,xs,_,o,es,ep,h1,h2,_⟩:=(show dG X.Ω X.w H s.heap a (.dT χ) from I.hok a _ ea);show jc a0L I.xG ⟨o,h1,h2.1⟩ e (λz=>nomatch z) h
 | @ins a C dx fs ea cl ha hn htk hm =>
  cases (show u=cp a from rx);obtain⟨mA,O,_⟩:=aAa I.hok ea;obtain⟨od,J,_⟩:=O.look;show jc (PySem.W.kitx_own (cl.get _) cl.hd ha hn htk hm) I.xG J e (λz=>nomatch z) h
end
structure fS (k:Nat) (A:bq):Prop where
 hd:A.handled=ae
 dp:A.depth+3*k+5<recursionLimit
 un:A.units+16*k+200<cz
def fS.mono(r:fS k A)(h:j<=k):fS j A:=⟨r.hd,by have:=r.dp;lia,by have:=r.un;lia⟩
def fS.deeper(r:fS (k+1) A)(env:dh):fS k (A.deeper env) :=
 ⟨r.hd,by have:=r.dp;show A.depth+1+3*k+5<_;lia,by have:=r.un;show A.units+3+16*k+200<_;lia⟩
def fS.depth(r:fS k A):A.depth<recursionLimit:=by have:=r.dp;lia
def fS.units(r:fS k A):A.units+64<cz:=by have:=r.un;lia
def Cm:TA:=λ_ H Q=>Q [] H
def Ea(ta:TE)(tr:TA):TA:=λσ H Q=>ta σ H λx H1=>tr σ H1 λxs H2=>Q (x::xs) H2
section
variable{X:Cx}{e:aw}{es:List aw}{te:TE}{t:TA}{ν:bf}
def kT:PA X [] Cm:=λ_ _ _ _ H Q I h=>Calls.spliced_nil ⟨[],H,I,.nil,h⟩
def eK(ha:PE X e te)(hr:PA X es t)(hs:Zs X e es:=by rfl):PA X (e::es) (Ea te t):=by intro ν π s σ H Q I h;rw[hs];show au _ _ (spliced ((ag,eval e X.env)::cu ν (ar es X.env))) _ _ s;show Calls.spliced_cons (eI (ha π s σ H _ I h) λu s1 ⟨x,H1,I1,r1,q1⟩=>?_);show eI (hr ν π s1 σ H1 _ I1 q1) λus s2 hq4=>by obtain⟨xs,H2,I2,r2,q2⟩:=hq4;show⟨x::xs,H2,I2,.cons r1 r2,q2⟩
def Sj(t:TA):TE:=λσ H Q=>t σ H λxs H1=>xs.length<=bb /\∀p,H1 p=ae->Q (.ref p) (upd H1 p (.tup xs))
def Sg(t:TA):TE:=λσ H Q=>t σ H λxs H1=>xs.length<=bb /\∀p,H1 p=ae->Q (.ref p) (upd H1 p (.lst xs))
def aDg{x1}(h:PA X es t):PE X (.Tuple es x1 ν) (Sj t):=by intro π s σ H Q I hq;show wpAny_Tuple_spliced (eI (h ν π s σ H _ I hq) λus s1 ⟨xs,H1,I1,r,z,q⟩=>⟨by rw[<- r.length];show z,?_⟩);have hf:H1 s1.heap.objs.size=ae:=I1.hok.fresh (bg _);show⟨.ref s1.heap.objs.size,upd H1 s1.heap.objs.size (.tup xs),I1.laid (t':=s1.toks) (λb u e=>cn _ e) (bg _) ?_,rfl,q _ hf⟩;show⟨z,us,r,⟨_,dm _ rfl,rfl,_,rfl⟩,F7.new _ _⟩
def aDh(h:PA X es t):PE X (.List es ν) (Sg t):=by intro π s σ H Q I hq;show wpAny_List_spliced (eI (h ν π s σ H _ I hq) λus s1 ⟨xs,H1,I1,r,z,q⟩=>⟨by rw[<- r.length];show z,?_⟩);have hf:H1 s1.heap.objs.size=ae:=I1.hok.fresh (bg _);show⟨.ref s1.heap.objs.size,upd H1 s1.heap.objs.size (.lst xs),I1.laid (t':=s1.toks) (λb u e=>cn _ e) (bg _) ?_,rfl,q _ hf⟩;show⟨z,us,0,r,dm _ rfl⟩
end
abbrev Sp:=List V->Hp->VK->XK->Prop
abbrev KY:=List dh->Hp->ak->XK->ai->ak->Prop
structure ue (P:bc) (w:ba) (K:ao) (mg:Q0d) (ω:ay) (A:bq) (Γ:List dh) (s:ak) (H:Hp):Prop where
 frames:A.frames=aa Γ
 mod:Mod K mg ω
 bs:∀b o,ω.get? b=aa o->s.heap.get? b=aa o/\H b=ae
 TJ:ω.objs.size<=s.heap.objs.size
 qR:s.heap.FunFrames ω Γ
 frf:∀b∈frs Γ,H b=ae
 hok:pK P w H s.heap
 bare:kn s.gens
 tab:uk K ω H
def CE(Γ:List dh)(P:bc)(w:ba)(H:Hp)(s:ak)(Q:VK)(u:ai)(s':ak):Prop :=
 ∃v H',s'.os=s.os/\kn s'.gens/\Un (frs Γ) [] H H' s.heap s'.heap/\pK P w H' s'.heap/\Ψ v u/\Q v H'
def CR(CX:KY)(Γ:List dh)(P:bc)(w:ba)(H:Hp)(s:ak)(Q:VK)(E:XK)(r:yx)(s':ak):Prop :=
 match r with
 |.ok (.ret u)=>CE Γ P w H s Q u s'
 |.ok _=>False
 |.error e=>CX Γ H s E e s'
structure lG (P:bc) (w:ba) (K:ao) (mg:Q0d) (ω:ay) (CX:KY) (k:Nat) (f:ah) (fd:fv) (ps:Q0g) (sp:Sp):Prop where
 len:∀vs H Q E,sp vs H Q E->vs.length=ps.length
 run:∀(A:bq) (Γ:List dh) (s:ak) (H:Hp) (args:Args) (us:Q0f) (vs:List V) (Q:VK) (E:XK),fS k A->ue P w K mg ω A Γ s H->qx s fd args (ps.zip us)->θ vs us->sp vs H Q E ->
  mx (av P w) A (.call (.ref f) args) (CR CX Γ P w H s Q E) s
theorem lG.mono{P:bc}{w:ba}{K:ao}{mg:Q0d}{ω:ay}{CX:KY}{j k:Nat}{f:ah}{fd:fv}{ps:Q0g}{sp:Sp}(F:lG P w K mg ω CX j f fd ps sp)(h:j<=k):
  lG P w K mg ω CX k f fd ps sp:=⟨F.len,λA Γ s H args us vs Q E hr=>F.run A Γ s H args us vs Q E (hr.mono h)⟩
section
variable{X:Cx}{π:Q0b}{σ:St}{H:Hp}{s s':ak}
def Φ.env0(I:Φ X π σ H s):ue X.Ω X.w X.K X.mg X.ω X.A X.stack s H :=
 ⟨I.ok.frames,I.ok.mod,I.bs,gx I.ok.TJ I.sz,I.stack,I.xH,I.hok,I.bare,I.tab⟩
def Φ.after(I:Φ X π σ H s)(h:CE X.stack X.Ω X.w H s Q u s'):EP X π σ Q u s':=by obtain⟨v,H',os,bare,un,hok,r,q⟩:=h;obtain⟨hh,g,d,t,os'⟩:=s';obtain rfl:os'=s.os:=os;show⟨v,H',I.call (h':=hh) (g':=g) (d':=d) (t':=t) (ch:=[]) un hok bare (λb z=>Zw z (by simp)),r,q⟩
end
def D_(sp:Sp)(dvs:List V)(E:XK)(t:TA):TE:=λσ H Q=>t σ H λvs H1=>sp (vs++dvs) H1 Q E
def Binds(K:ao)(fd:fv)(ps:Q0g)(ds:Q0f):Prop :=
 ∀(s:ak) (us:Q0f),K.In s.heap->(us++ds).length=ps.length->qx s fd ⟨us,[]⟩ (ps.zip (us++ds))
def Binds.all{K:ao}{fd:fv}{ps:Q0g}(h:∀us:Q0f,us.length=ps.length->bindArgs fd ⟨us,[]⟩=pure (ps.zip us)):Binds K fd ps []:=λs us _ hl=>by rw[ij] at hl ⊢;show .of_eq (h us hl)
def Passes(CX:KY)(X:Cx)(E:XK):Prop:=∀(π:Q0b) (σ:St) (H:Hp) (s:ak) (e:ai) (s':ak),Φ X π σ H s->CX X.stack H s E e s'->X.xe e s'
section
variable{X:Cx}{CX:KY}{k:Nat}{f C:ah}{fd:fv}{ps:Q0g}{sp:Sp}{dvs:List V}{ds:Q0f}{E:XK}{x m:aj}{p ν apos:bf}{e o:aw}{es:List aw}{ta:TE}{t:TA}
theorem aDi(F:lG X.Ω X.w X.K X.mg X.ω CX k f fd ps sp)(hr:fS k X.A)(hb:Binds X.K fd ps ds)(hd:θ dvs ds)(hx:Passes CX X E)
  (I:Φ X π σ H s) (r:θ vs us) (h:sp (vs++dvs) H Q E):au (av X.Ω X.w) X.A (call (.ref f) us) (EP X π σ Q) X.xe s:=by
 have r2:θ (vs++dvs) (us++ds):=r.append hd;have hl:(us++ds).length=ps.length:=by rw[<- r2.length];show F.len _ _ _ _ h
 show yj (Gh (F.run X.A X.stack s H ⟨us,[]⟩ (us++ds) (vs++dvs) Q E hr I.env0 (hb s us I.xG hl) r2 h) λr s' hq=>?_)
 cases r with
 |error e=>show hx π σ H s e s' I hq
 |ok fl =>
  cases fl with
  |ret u=>show I.after hq
  |next=>show js hq
  |brk=>show js hq
  |cont=>show js hq
theorem pM(F:lG X.Ω X.w X.K X.mg X.ω CX k f fd ps sp)(hr:fS k X.A)(hg:Gl X x)(hm:X.mg x=aa (.ref f))(hk:keepIn X.K (.ref f)=af)(hb:Binds X.K fd ps ds)(hd:θ dvs ds)(hx:Passes CX X E)
  (ha:PA X (e::es) t) (hdb:Zu x:=by decide) (he:Zs X e es:=by rfl) (hpl:Q0l X ν es:=by rfl):
  PE X (.Call (.Name x p) (e::es) [] ν) (D_ sp dvs E t):=by
 intro π s σ H Q I h;show yl (xI I hg hm ?_ hdb);show PySem.W.callWith_K (h₀:=X.ω) I.ok.mod.kin hk (eI (ha ν π s σ H _ I h) λus s1 ⟨vs,H1,I1,r,q⟩=>⟨I1.xG,?_⟩) he hpl;show aDi F hr hb hd hx I1 r q
end
structure gO (N P:Q0g) (sc:fq):Prop where
 kind:sc.kind=.function
 co:sc.isCoroutine=ag
 gen:sc.isGenerator=ag
 nd:N.Nodup
 pre:N.take P.length=P
 par:∀x∈P,sc.names.lookup x=aa .local\/sc.names.lookup x=aa .cell
 aDj:∀y∈sc.names,y.2≠.free
theorem CD{kindOf:aj->Option ja}{x:aj}:∀{binds:List (aj×ai)} {m:Q0d},(∀v,(x,v)∉binds)->bindL kindOf binds m x=m x
 |[],_,_=>rfl
 | (n,v)::r,m,h=>by
  unfold bindL;rw[CD λw hw=>h w (fj _ hw)];split
  .have:x≠n:=by rintro rfl;show h v b_
   simp[this]
  .rfl
theorem CF{kindOf:aj->Option ja}{x:aj}:∀{binds:List (aj×ai)} {m:Q0d},(∀v,(x,v)∉binds)->bindC kindOf binds m x=m x
 |[],_,_=>rfl
 | (n,v)::r,m,h=>by
  unfold bindC;rw[CF λw hw=>h w (fj _ hw)];split
  .rfl
  .have:x≠n:=by rintro rfl;show h v b_
   simp[this]
theorem CG{kindOf:aj->Option ja}{x:aj}{v:ai}:∀{P:Q0g} {vs:Q0f} {i:Nat} {m:Q0d},P.Nodup->P[i]?=aa x->vs[i]?=aa v->kindOf x=aa .local ->
  bindL kindOf (P.zip vs) m x=aa v
 |[],_,_,_,_,h,_,_=>by simp at h
 |_::_,[],_,_,_,_,h,_=>by simp at h
 |p::P,w::vs,0,m,nd,h1,h2,hk=>by simp at h1 h2;subst h1;subst h2;show bindL kindOf ((p,w)::P.zip vs) m p=_;unfold bindL;rw[CD λv hv=>(kr.mp nd).1 (rh hv).1,Z_ hk];simp
 |p::P,w::vs,i+1,m,nd,h1,h2,hk=>by show bindL kindOf ((p,w)::P.zip vs) m x=_;unfold bindL;show CG (i:=i) (kr.mp nd).2 (by simpa using h1) (by simpa using h2) hk
theorem CH{kindOf:aj->Option ja}{x:aj}{v:ai}:∀{P:Q0g} {vs:Q0f} {i:Nat} {m:Q0d},P.Nodup->P[i]?=aa x->vs[i]?=aa v->kindOf x≠aa .local ->
  bindC kindOf (P.zip vs) m x=aa v
 |[],_,_,_,_,h,_,_=>by simp at h
 |_::_,[],_,_,_,_,h,_=>by simp at h
 |p::P,w::vs,0,m,nd,h1,h2,hk=>by simp at h1 h2;subst h1;subst h2;show bindC kindOf ((p,w)::P.zip vs) m p=_;unfold bindC;rw[CF λv hv=>(kr.mp nd).1 (rh hv).1,Zz hk];simp
 |p::P,w::vs,i+1,m,nd,h1,h2,hk=>by show bindC kindOf ((p,w)::P.zip vs) m x=_;unfold bindC;show CH (i:=i) (kr.mp nd).2 (by simpa using h1) (by simpa using h2) hk
def start(N:Q0g)(vs:List V):St:=vs.map aa++bu (N.length-vs.length) ae
def m8(CX:KY)(P:bc)(w:ba)(K:ao)(mg:Q0d)(ω:ay)(N:Q0g)(qual:aj)(scope:fq)(f:ah)(cd:ai)(A:bq)(Γ:List dh)(s:ak)(H:Hp)(E:XK):Cx where
 Ω:=P
 w:=w
 K:=K
 mg:=mg
 ω:=ω
 A:=A.deeper (envOfC qual scope s.heap.objs.size f cd)
 N:=N
 s₀:=s
 H₀:=H
 env:=envOfC qual scope s.heap.objs.size f cd
 Γ:=Γ
 stack:=envOfC qual scope s.heap.objs.size f cd::Γ
 ex:=[]
 calm:=af
 fn:=λ_=>af
 pn:=[]
 xe:=λe s'=>au (av P w) (A.deeper (envOfC qual scope s.heap.objs.size f cd)) (leaving (envOfC qual scope s.heap.objs.size f cd) e) (λ_ s''=>CX Γ H s E e s'') (λe' s''=>CX Γ H s E e' s'') s'
def HF{sc:fq}{n:Nat}{x:aj}(h:sc.names.lookup x=aa .cell):∃c,(cellsFrom n sc.names []).lookup x=aa c:=by have q:=a0Q sc.names n [] (.inl h);show Option.isSome_iff_exists.mp q
theorem QW{CX:KY}{P:bc}{w:ba}{K:ao}{mg:Q0d}{ω:ay}{N ps:Q0g}{qual:aj}{scope:fq}{f:ah}{cd:ai}{A:bq}{Γ:List dh}{s s1:ak}{H:Hp}{E:XK}{us:Q0f}{vs:List V}
  (S:gO N ps scope) (hd:A.handled=ae) (e0:ue P w K mg ω A Γ s H) (hl:vs.length=ps.length) (r:θ vs us)
  (x:InCallC s s.heap.objs.size (bindL (envOfC qual scope s.heap.objs.size f cd).kindOf (ps.zip us) λ_=>ae) (cellsFrom (s.heap.objs.size+1) scope.names []) (bindC (envOfC qual scope s.heap.objs.size f cd).kindOf (ps.zip us) λ_=>ae) s1):
  Φ (m8 CX P w K mg ω N qual scope f cd A Γ s H E) [] (start N vs) H s1:=by
 have hpl:ps.length<=N.length:=by have:=congrArg ny S.pre;rw[kz] at this;lia
 obtain⟨h1,tk,rfl,hk⟩:=x.done;have noA:∀b:ah,b∉(m8 CX P w K mg ω N qual scope f cd A Γ s H E).ex:=λb z=>Zw (show b∈([]:List ah) from z) (by simp);show⟨⟨e0.mod,S.kind,rfl,rfl,bg _,λy z c h1 h2=>?_,λy hy=>?_,λy c _ h=>?_,λ_=>hd,a1v e0.frames,.inr ⟨rfl,rfl⟩,λb z=>Zw z (noA b),e0.bs,e0.TJ,λb _ _=>noA b,λb z=>Zw z (noA b),e0.qR,e0.frf,e0.tab⟩,
  rfl,e0.bare,Un.kept hk,⟨_,x.toInCall.ns,λi y v h1 h2 h3=>?_⟩,λy c h=>⟨_,x.cell y c h⟩,e0.hok.fresh (bg _),λy c h=>?_,λp hp=>Zw (show p∈([]:Q0b) from hp) (by simp),e0.hok.kept hk,?_⟩
 .exact a0v x.apart (ju h1) (ju h2)
 .have hy:scope.names.lookup y=aa .cell\/scope.names.lookup y=aa .free:=hy;rcases hy with hy|hy
  .exact HF hy
  .exact Zw rfl (S.aDj _ (ju hy))
 .exact kq (x.above y c (ju h))
 .have hi:i<vs.length:=by
   unfold start at h2;by_cases hi:i<vs.length
   .exact hi
   .rw [jy (by simpa using hi)] at h2;rw[jj] at h2;split at h2<;>cases h2
  have ha:vs[i]?=aa v:=by
   unfold start at h2;rw[jz (by simpa using hi),cf] at h2
   cases e:vs[i]? with
   |none=>rw[e] at h2;cases h2
   |some a=>rw[e] at h2;cases h2;rfl
  obtain⟨u,hu,rv⟩:=r.get ha;have hp:ps[i]?=aa y:=by rw[<- S.pre,Aj ∅];show h1
  have ndP:ps.Nodup:=by rw[<- S.pre];show S.nd.sublist (a1X _ _)
  show⟨u,rv,?_⟩;rcases S.par y (l_ hp) with k|k
  .exact .inl ⟨k,CG ndP hp hu k⟩
  .obtain ⟨c,e⟩:=HF (n:=s.heap.objs.size+1) k;show .inr ⟨.inl k,c,e,?_⟩;have q:=x.cell y c e;rw[CH ndP hp hu (by show scope.names.lookup y≠_;rw[k];decide)] at q;show q
 .exact e0.hok.fresh (kq (x.above y c (ju h)))
 .unfold start;show _=N.length;rw[di,a_,ie];lia
theorem V9{CX:KY}{P:bc}{w:ba}{K:ao}{mg:Q0d}{ω:ay}{k:Nat}{f:ah}{name qual:aj}{params:Hb}{body:List bx}{scope:fq}{dV kV doc pm cdv ct oc:ai}{an od:Option ah}
  {osl:Array (Option ai)} {N ps:Q0g} {sp:Sp} (lk:K.lookup f=aa ⟨oc,od,.func (fnOf name qual params body scope dV kV doc pm an cdv ct),osl⟩) (hcd:codeIn K cdv qual=af) (S:gO N ps scope)
  (len:∀vs H Q E,sp vs H Q E->vs.length=ps.length)
  (hbody:∀(A:bq) (Γ:List dh) (s:ak) (H:Hp) (vs:List V) (Q:VK) (E:XK),fS k (A.deeper (envOfC qual scope s.heap.objs.size f cdv))->sp vs H Q E ->
   ∃t,AZ (m8 CX P w K mg ω N qual scope f cdv A Γ s H E) body t/\t {nx:=λ_ H'=>Q .non H',rt:=Q} (start N vs) H):
  lG P w K mg ω CX (k+1) f (fnOf name qual params body scope dV kV doc pm an cdv ct) ps sp:=by
 show⟨len,λA Γ s H args us vs Q E hr e0 hb r hsp=>?_⟩;have hl:=len _ _ _ _ hsp;have KX:K.In s.heap:=e0.mod.kin.keeps λb o e=>(e0.bs b o e).1;have lim:s.heap.NoLimit:=e0.mod.nolimit.keeps λb o e=>(e0.bs b o e).1;have hkind:∀y∈ps.zip us,scope.names.lookup y.1=aa .local\/(scope.names.lookup y.1=aa .cell/\((cellsFrom (s.heap.objs.size+1) scope.names []).lookup y.1).isSome=af):=λ⟨n,v⟩ hy=>by
  rcases S.par n (rh hy).1 with q|q
  .exact .inl q
  .exact .inr ⟨q,a0Q _ _ _ (.inl q)⟩
 show codeAny_call_function hr.depth (KX _ _ lk) rfl S.co S.gen rfl (PySem.W.codeRec_of KX hcd) (hb _ _ _ _ ?_);show wpAny_newFunctionEnv_cells S.kind hkind λenv he s1 x=>?_;subst he;show⟨lim.keeps x.toInCall.keep,codeAny_func ?_⟩;obtain⟨t,ht,hq⟩:=hbody A Γ s H vs Q E (hr.deeper _) hsp;have I:Φ (m8 CX P w K mg ω N qual scope f cdv A Γ s H E) [] (start N vs) H s1:=QW S hr.hd e0 hl r x;show ik (ht [] s1 (start N vs) H _ I hq) (λfl s' hs=>?_) λe s' hs=>hs;have fin:∀{σ':St} {H':Hp} {v:V} {u:ai},Φ (m8 CX P w K mg ω N qual scope f cdv A Γ s H E) [] σ' H' s'->Ψ v u->Q v H'->CE Γ P w H s Q u s' :=
  λ{σ' H' v u} J rv q=>⟨v,H',J.os,J.bare,J.ω,J.hok,rv,q⟩
 cases fl with
 |ret u =>
  obtain⟨v,σ',H',J,rv,q⟩:=hs;show fin J rv q
 |next =>
  obtain⟨σ',H',J,q⟩:=hs;show fin (v:=V.non) (u:=je) J rfl q
 |brk =>
  obtain⟨_,_,_,q⟩:=hs;show js q
 |cont =>
  obtain⟨_,_,_,q⟩:=hs;show js q
section
variable{X:Cx}{x:aj}{p ν:bf}{e:aw}{es:List aw}{t:TA}{id T:String}{r:List V->Hp->VK->Prop}
def s_(r:List V->Hp->VK->Prop)(t:TA):TE:=λσ H Q=>t σ H λvs H1=>r vs H1 Q
def lZ(hc:gX X (.builtin id) r)(hg:Gl X x)(hm:X.mg x=ae)(hv:bootBuiltins x=aa (.builtin id))(ha:PA X (e::es) t)(hn:x ≠ "__name__":=by decide)(hdb:Zu x:=by decide)
  (he:Zs X e es:=by rfl) (hpl:Q0l X ν es:=by rfl):PE X (.Call (.Name x p) (e::es) [] ν) (s_ r t):=by
 intro π s σ H Q I h;show yl (mY I hg hm hv ?_ hn hdb);show a3y (eI (ha ν π s σ H _ I h) λus s1 ⟨vs,H1,I1,r1,q1⟩=>hc π s1 σ H1 vs us Q I1 r1 q1) he hpl
def CI(hc:gX X (.type T) r)(hg:Gl X x)(hm:X.mg x=ae)(hv:bootBuiltins x=aa (.type T))(ha:PA X (e::es) t)(hn:x ≠ "__name__":=by decide)(hdb:Zu x:=by decide)
  (he:Zs X e es:=by rfl) (hpl:Q0l X ν es:=by rfl):PE X (.Call (.Name x p) (e::es) [] ν) (s_ r t):=by
 intro π s σ H Q I h;show yl (mY I hg hm hv ?_ hn hdb);show q_ (eI (ha ν π s σ H _ I h) λus s1 ⟨vs,H1,I1,r1,q1⟩=>hc π s1 σ H1 vs us Q I1 r1 q1) he hpl
end
end L2
namespace HT
open PyProof.Rows
section
open PySem.SeqAt

open PySem.MeetsSeq PySem.MeetsSeq2 PySem.MeetsSeq3
end
section
variable{Ω:bc}{w:ba}{A:bq}{E:Q0c}{s:ak}
theorem aAc(ht:gy s.heap t vs.toArray)(hb:gy s.heap b ws.toArray)(hv:vs≠[])
  (h1:ws=[]->Q (.ref t) s) (h2:ws≠[]->Q (.ref s.heap.objs.size) {s with heap:=s.heap.push {cls:=.type "tuple",data:=.seq (vs++ws).toArray} })
  (hsz:vs.length+ws.length<=bb):au (av Ω w) A (binaryOp .Add (.ref t) (.ref b)) Q E s:=by
 obtain⟨⟨cls,dd,data,sl⟩,ho,hc,n,hd⟩:=id ht;obtain⟨⟨cls2,dd2,data2,sl2⟩,ho2,hc2,n2,hd2⟩:=id hb;simp only at hc hd hc2 hd2;subst hc hd hc2 hd2;have e:vs.toArray++ws.toArray=(vs++ws).toArray:=by simp
 by_cases hw:ws=[]
 .exact Gf ⟨_,ho,rfl⟩ ⟨_,ho2,rfl⟩ Ge Fy Gv Gy (G_ _ _)
   (tuple_addW1 t b vs.toArray ws.toArray n n2 dd dd2 sl sl2 (by simpa using hv) (by simp[hw])) ⟨ho,ho2,h1 hw⟩
 .refine Gf ⟨_,ho,rfl⟩ ⟨_,ho2,rfl⟩ Ge Fy Gv Gy (G_ _ _)
   (tuple_addW2 t b vs.toArray ws.toArray n n2 dd dd2 sl sl2 (by simpa using hv) (by simpa using hw) (by rw[bt,bt];show hsz)) ⟨ho,ho2,?_⟩
  rw[e];show h2 hw
noncomputable def iD(n d:Nat):Option Int->Nat
 |none=>d
 |some v=>if v<0 then(v+(n:Int)).toNat else min v.toNat n
theorem aDk(n d:Nat)(hd:d<=n)(o:Option Int):iD n d o<=n:=by
 cases o with
 |none=>show hd
 |some v =>
  show(if v<0 then(v+(n:Int)).toNat else min v.toNat n)<=n;by_cases hv:v<0
  .rw [Z_ hv];lia
  .rw [Zz hv];show Nat.min_le_right _ _
def OJ(v:Int)(n d:Nat):(if v<0 then max (v+(n:Int)) 0 else min v (n:Int))=((iD n d (aa v):Nat):Int):=by
 show(if v<0 then max (v+(n:Int)) 0 else min v (n:Int))=(((if v<0 then(v+(n:Int)).toNat else min v.toNat n):Nat):Int);by_cases hv:v<0
 .simp only[Z_ hv];lia
 .simp only[Zz hv];lia
def KZ(lo hi:Option Int)(n:Nat):Ha lo hi 1 (n:Int)=(((iD n 0 lo:Nat):Int),((iD n n hi:Nat):Int)):=by
 have h1:¬ ((1:Int)<0):=by lia
 unfold Ha;simp only[h1,if_false];show Prod.ext ?_ ?_
 .cases lo with
  |none=>rfl
  |some v=>show OJ v n 0
 .cases hi with
  |none=>rfl
  |some v=>show OJ v n n
def K0(i j:Nat):zq (i:Int) (j:Int) 1=j-i:=by
 unfold zq;have h1:(1:Int)>0:=by lia
 simp only[h1,if_true,Int.ediv_one];split<;>lia
theorem zM(p:kl v o)(h:Q o s):au (av Ω w) A (a3o v) Q E s:=by
 cases p with
 |none=>show a1B h
 |int i t=>show slicePart_int h
theorem l5{sl:ah}{vl vu:ai}{lo hi:Option Int}{n:Nat}{Q:Int×Int×Nat->ak->Prop}(hs:s.heap.IsSliceOf sl vl vu .none)(pl:kl vl lo)(pu:kl vu hi)
  (h:Q (((iD n 0 lo:Nat):Int),1,iD n n hi-iD n 0 lo) s):au (av Ω w) A (a1u (.ref sl) (pure (n:Int))) Q E s:=by
 obtain⟨os,hos,hcs,hds⟩:=id hs;unfold a1u a3p;show aq (aq (il hos hds (x:=vl) rfl (aq (il hos hds (x:=vu) rfl (aq (il hos hds (x:=.none) rfl (az ?_)))))));show aq (a1B ?_);show au _ _ (if((1:Int) == 0)=af then _ else _) _ _ s;rw[Zz (by decide)];show aq (zM pl (aq (zM pu (aq (az ?_)))));show au _ _ (match Ha lo hi 1 (n:Int) with|(lo,hi)=>pure (lo,(1:Int),zq lo hi 1)) _ _ s;rw[KZ lo hi n];show au _ _ (pure (((iD n 0 lo:Nat):Int),(1:Int),zq ((iD n 0 lo:Nat):Int) ((iD n n hi:Nat):Int) 1)) _ _ s;rw[K0];show az h
def WB(xs:Array ai)(i k:Nat):((bz k).filterMap λ(m:Nat)=>xs[((i:Int)+(m:Int)*1).toNat]?).toArray=((xs.toList.drop i).take k).toArray:=by
 have e:(λ(m:Nat)=>xs[((i:Int)+(m:Int)*1).toNat]?)=λm=>xs[i+m]?:=by
  funext m
  have:((i:Int)+(m:Int)*1).toNat=i+m:=by lia
  rw[this]
 rw[e];have:=pick_run xs i k;rw[List.filterMap_map] at this;have e2:((λx=>xs[x]?)∘λx=>i+x)=λm=>xs[i+m]?:=rfl;rw[e2] at this;rw[this]
theorem sL{t sl:ah}{items:Array ai}{vl vu:ai}{lo hi:Option Int}{Q:Q0c}(ht:gy s.heap t items)(hs:s.heap.IsSliceOf sl vl vu .none)(pl:kl vl lo)(pu:kl vu hi)
  (hw:¬ (iD items.size 0 lo=0/\iD items.size items.size hi=items.size))
  (h:Q (.ref s.heap.objs.size) {s with heap:=s.heap.push {cls:=.type "tuple",data:=.seq ((items.toList.drop (iD items.size 0 lo)).take (iD items.size items.size hi-iD items.size 0 lo)).toArray} })
  (hsz:items.size<=bb):au (av Ω w) A (getItem (.ref t) (.ref sl)) Q E s:=by
 have OK:sizeOk (.seq ((items.toList.drop (iD items.size 0 lo)).take (iD items.size items.size hi-iD items.size 0 lo)).toArray):=by show((items.toList.drop (iD items.size 0 lo)).take (iD items.size items.size hi-iD items.size 0 lo)).toArray.size<=bb;rw[bt,kz,qc,sx];lia
 have hj:iD items.size items.size hi<=items.size:=aDk _ _ (bg _) hi;obtain⟨os,hos,hcs,hds⟩:=id hs;have Kh:s.TypeIs (.ref sl) "slice":=⟨os,hos,hcs⟩;unfold getItem
 try with_reducible show iw ?_
 first|show aq (az ?_)|skip
 show aq (a0h ht.typeIs (by decide) ?_);show aq (oy (name:=pq "__getitem__") ht.typeIs pw
  (kc pw ht.typeIs a1C ?_ (a1F _ _)))
 show au _ _ (a1s (.ref t) >>= _) _ _ s;show aq (a1w ht ?_);show aq (Fl Kh ?_);rw[Z_ (by decide)];show aq (l5 hs pl pu ?_);have hno:¬ ((((iD items.size 0 lo:Nat):Int) == 0&&(1:Int) == 1&&(iD items.size items.size hi-iD items.size 0 lo) == items.size)=af):=by intro q;rw[iu,iu] at q;have q1:((iD items.size 0 lo:Nat):Int)=0:=eq_of_beq q.1.1;have q2:iD items.size items.size hi-iD items.size 0 lo=items.size:=eq_of_beq q.2;show hw ⟨by lia,by lia⟩
 show au _ _ (if(((iD items.size 0 lo:Nat):Int) == 0&&(1:Int) == 1&&(iD items.size items.size hi-iD items.size 0 lo) == items.size)=af then _ else _) _ _ s;rw[Zz hno,WB]
 first
  |show aq (m:=zo _) (uo (az ⟨_,rfl,az h⟩) OK)
  |show aq (m:=zo _) (uo (aq (az (az ⟨_,rfl,az h⟩))) OK)
  |show aq (aq (m:=zo _) (uo (az (az ⟨_,rfl,az h⟩)) OK))
  |show aq (aq (m:=zo _) (uo (az ⟨_,rfl,az h⟩) OK))
end
end HT
namespace L2
open PySem.Spec PyProof.Rows
abbrev TO:=St->Hp->(Option Int->Hp->Prop)->Prop
def PO(X:Cx)(e:Option aw)(t:TO):Prop :=
 ∀(π:Q0b) (s:ak) (σ:St) (H:Hp) (Q:Option Int->Hp->Prop),Φ X π σ H s->t σ H Q ->
  au (av X.Ω X.w) X.A (evalPart e X.env) (λu s'=>∃o H',Φ X π σ H' s'/\kl u o/\Q o H') X.xe s
def aAd:TO:=λ_ H Q=>Q ae H
def Xr(t:TE):TO:=λσ H Q=>t σ H λx H1=>∃i,x=.int i/\Q (aa i) H1
theorem intsAre_of:∀{us:Q0f},θ (ns.map V.int) us->jw us ns:=by
 induction ns with
 |nil=>intro us r;rw[ma] at r;cases r;show .nil
 |cons n ns ih =>
  intro us r;rw[bj] at r
  cases r with
  |cons r1 r2 =>
   obtain⟨t,e⟩:=r1;subst e;show .cons n t (ih r2)
section
variable{X:Cx}{e:aw}{te:TE}{lo hi:Option aw}{tl th:TO}{ν p2:bf}
def aAe:PO X ae aAd:=by intro π s σ H Q I h;rw[a0z];show az ⟨ae,H,I,.none,h⟩
def aAf(h:PE X e te):PO X (aa e) (Xr te):=by intro π s σ H Q I hw;rw[evalPart_some];show eI (h π s σ H _ I hw) λu s1 hq5=>?_;obtain⟨x,H1,I1,r1,q1⟩:=hq5;obtain⟨i,rfl,q⟩:=q1;obtain⟨t,rfl⟩:=r1;show⟨aa i,H1,I1,.int i t,q⟩
def SlR(X:Cx)(r:V->Option Int->Option Int->Hp->VK->Prop):Prop :=
 ∀(π:Q0b) (s:ak) (σ:St) (H:Hp) (x:V) (v vl vu:ai) (lo hi:Option Int) (sl:ah) (Q:VK),Φ X π σ H s->Ψ x v->s.heap.IsSliceOf sl vl vu .none->kl vl lo->kl vu hi->r x lo hi H Q ->
  ∃T id,typeLookup (.type T) "__getitem__"=pure (aa (.builtin id))/\s.TypeIs v T/\au (av X.Ω X.w) X.A (getItem v (.ref sl)) (EP X π σ Q) X.xe s
def SlR.or(h:SlR X r)(h':SlR X r'):SlR X (λx lo hi H Q=>r x lo hi H Q\/r' x lo hi H Q):=by
 intro π s σ H x v vl vu lo hi sl Q I rx hs pl pu q;rcases q with q|q
 .exact h π s σ H x v vl vu lo hi sl Q I rx hs pl pu q
 .exact h' π s σ H x v vl vu lo hi sl Q I rx hs pl pu q
def Jd(r:V->Option Int->Option Int->Hp->VK->Prop)(te:TE)(tl th:TO):TE:=λσ H Q=>te σ H λx H1=>tl σ H1 λl H2=>th σ H2 λu H3=>r x l u H3 Q
def WC(hr:SlR X r)(he:PE X e te)(hl:PO X lo tl)(hu:PO X hi th):PE X (.Subscript e (.Slice lo hi ae p2) ν) (Jd r te tl th):=by intro π s σ H Q I h;show Hk (eI (he π s σ H _ I h) λv s1 ⟨x,H1,I1,r1,q1⟩=>?_);show wpAny_Slice (eI (hl π s1 σ H1 _ I1 q1) λvl s2 ⟨l,H2,I2,pl,q2⟩=>eI (hu π s2 σ H2 _ I2 q2) λvu s3 ⟨u,H3,I3,pu,q3⟩=>?_);rw[a0z];show az ?_;have I4:Φ X π σ H3 {s3 with heap:=s3.heap.push {cls:=.type "slice",data:=.fields #[vl,vu,.none]} }:=I3.kept (t':=s3.toks) λb ob q=>cn _ q;obtain⟨T,id,hT,ht,hg⟩:=hr π {s3 with heap:=s3.heap.push {cls:=.type "slice",data:=.fields #[vl,vu,.none]} } σ H3 x v vl vu l u s3.heap.objs.size Q I4 r1 (a2X ..) pl pu q3;show au (av X.Ω X.w) X.A (subscriptTail e (.Slice lo hi ae p2) v (.ref s3.heap.objs.size)) (EP X π σ Q) X.xe {s3 with heap:=s3.heap.push {cls:=.type "slice",data:=.fields #[vl,vu,.none]} };show tail_any (ops:=[.ref s3.heap.objs.size,v]) ht hT hg (by with_unfolding_all rfl)
def HG(xs:List V)(lo hi:Option Int):List V:=(xs.drop (HT.iD xs.length 0 lo)).take (HT.iD xs.length xs.length hi-HT.iD xs.length 0 lo)
def vN(xs:List V)(lo hi:Option Int):(HG xs lo hi).length<=xs.length:=by unfold HG;rw[kz,qc];lia
def Sf(K:ao):V->Option Int->Option Int->Hp->VK->Prop:=λx lo hi H Q=>∃a xs,x=.ref a/\fF K H a xs /\
 ¬ (HT.iD xs.length 0 lo=0/\HT.iD xs.length xs.length hi=xs.length) /\∀p,H p=ae->Q (.ref p) (upd H p (.tup (HG xs lo hi)))
def aDl:SlR X (Sf X.K):=by
 intro π s σ H x v vl vu lo hi sl Q I rx hs pl pu h;obtain⟨a,xs,rfl,hx,hw,q⟩:=h;cases rx;obtain⟨ι,r,ht,hz⟩:=I.tuple hx;have hlen:ι.toArray.size=xs.length:=by rw[bt];show r.length.symm
 show⟨"tuple",_,pw.lookup,ht.typeIs,?_⟩;show HT.sL ht hs pl pu (by rw[hlen];show hw) ?_ (by rw[hlen];show hz);rw[hlen];show⟨.ref s.heap.objs.size,_,I.laid (t':=s.toks) (o:=.tup (HG xs lo hi)) (λb ob q=>cn _ q) (bg _) ?_,rfl,q _ (I.hok.fresh (bg _))⟩;show⟨gx (vN xs lo hi) hz,_,(r.drop (HT.iD xs.length 0 lo)).take (HT.iD xs.length xs.length hi-HT.iD xs.length 0 lo),Hl _ _,F7.new _ _⟩
def Xq(K:ao):R2:=λx y H Q=>∃a b xs ys,x=.ref a/\y=.ref b/\fF K H a xs/\fF K H b ys/\xs≠[]/\xs.length+ys.length<=bb /\
 (ys=[]->Q (.ref a) H)/\(ys≠[] ->∀p,H p=ae->Q (.ref p) (upd H p (.tup (xs++ys))))
theorem θ.EX(r:θ xs us):us=[]↔xs=[]:=by
 cases r with
 |nil=>simp
 |cons _ _=>simp
def aAg:jS X (binaryOp .Add) (Xq X.K):=by intro π s σ H x y v u Q I rx ry h;obtain⟨a,b,xs,ys,rfl,rfl,ha,hb,hx,hz,q1,q2⟩:=h;cases rx;cases ry;obtain⟨ι,r1,p1,_⟩:=I.tuple ha;obtain⟨its2,r2,p2,_⟩:=I.tuple hb;show HT.aAc p1 p2 (λz=>hx (r1.EX.mp z)) (λz=>⟨.ref a,H,I,rfl,q1 (r2.EX.mp z)⟩) (λz=>?_) (by rw[<- r1.length,<- r2.length];show hz);show⟨.ref s.heap.objs.size,_,I.laid (t':=s.toks) (o:=.tup (xs++ys)) (λb ob q=>cn _ q) (bg _) ?_,rfl,q2 (λw=>z (r2.EX.mpr w)) _ (I.hok.fresh (bg _))⟩;show⟨by rw[di];show hz,_,r1.append r2,Hl _ _,F7.new _ _⟩
end
def QX(n:Nat)(i:Int):Option Nat:=if 0<=i then(if i<n then aa i.toNat else ae) else if -(n:Int)<=i then aa (i+n).toNat else ae
def wH{α:Type}(xs:List α)(i:Int):Option α:=(QX xs.length i).bind λj=>xs[j]?
def EY(h:QX n i=aa j):seqIndex? i n=aa j/\j<n /\ -(n:Int)<=i/\i<n:=by
 unfold QX at h;by_cases h0:0<=i
 .rw [Z_ h0] at h;by_cases h1:i<n
  .rw [Z_ h1] at h;have e:i.toNat=j:=cj h;show⟨by rw[Fz h0 h1,e],by lia,by lia,h1⟩
  .rw [Zz h1] at h;cases h
 .rw [Zz h0] at h;by_cases h1:-(n:Int)<=i
  .rw [Z_ h1] at h;have e:(i+n).toNat=j:=cj h;show⟨by rw[F_ ∅ h1,e],by lia,h1,by lia⟩
  .rw [Zz h1] at h;cases h
theorem OL{α:Type}{xs:List α}{i:Int}{v:α}(h:wH xs i=aa v):∃j,seqIndex? i xs.length=aa j/\xs[j]?=aa v/\j<xs.length /\ -(xs.length:Int)<=i/\i<xs.length:=by
 unfold wH at h
 cases e:QX xs.length i with
 |none=>rw[e] at h;cases h
 |some j =>
  rw[e] at h;obtain⟨h1,h2,h3,h4⟩:=EY e;show⟨j,h1,h,h2,h3,h4⟩
def EZ(b:aw):Prop:=∀o i,subscripted b ag o i=operate [o,i] (getItem o i)
def IxR(X:Cx)(r:R2):Prop :=
 ∀(value slice:aw) (π:Q0b) (s:ak) (σ:St) (H:Hp) (x y:V) (v u:ai) (Q:VK),Φ X π σ H s->Ψ x v->Ψ y u->r x y H Q ->
  subscripted slice ag v u=operate [v,u] (getItem v u)->au (av X.Ω X.w) X.A (subscriptTail value slice v u) (EP X π σ Q) X.xe s
def MtR(X:Cx)(id:String)(r:V->List V->Hp->VK->Prop):Prop :=
 ∀(π:Q0b) (s:ak) (σ:St) (H:Hp) (x:V) (xs:List V) (v:ai) (us:Q0f) (Q:VK),Φ X π σ H s->Ψ x v->θ xs us->r x xs H Q ->
  au (av X.Ω X.w) X.A (call (.builtin id) (v::us)) (EP X π σ Q) X.xe s
section
variable{X:Cx}{a b:aw}{ta tb:TE}{ν:bf}
def IxR.or(h:IxR X r)(h':IxR X r'):IxR X (λx y H Q=>r x y H Q\/r' x y H Q):=by
 intro value slice π s σ H x y v u Q I rx ry q hs;rcases q with q|q
 .exact h value slice π s σ H x y v u Q I rx ry q hs
 .exact h' value slice π s σ H x y v u Q I rx ry q hs
def Xp(hr:IxR X r)(ha:PE X a ta)(hb:PE X b tb)(hs:EZ b):PE X (.Subscript a b ν) (qi r ta tb):=by intro π s σ H Q I h;show Hk (xw ha hb I h λv u s2 x y H2 I2 rx ry q=>hr a b π s2 σ H2 x y v u Q I2 rx ry q (hs _ _))
def Ck(K:ao):R2:=λx y H Q=>∃p xs i v,x=.ref p/\y=.int i/\eW K H p xs/\wH xs i=aa v/\Q v H
def Cj(K:ao):R2:=λx y H Q=>∃p xs i v,x=.ref p/\y=.int i/\fF K H p xs/\wH xs i=aa v/\Q v H
def aAh:IxR X (Ck X.K):=by
 intro value slice π s σ H x y v u Q I rx ry h hs;obtain⟨p,xs,i,z,rfl,rfl,hq,he,q⟩:=h;cases rx;obtain⟨t,rfl⟩:=ry;obtain⟨ι,r,pl,hz⟩:=I.list hq;obtain⟨j,h1,h2,h3,h4,h5⟩:=OL he;obtain⟨w,ew,HH⟩:=r.get h2;have hl:=r.length;have hn:=zL;have fin:EP X π σ Q w s:=⟨z,H,I,HH,q⟩;by_cases h0:0<=i
 .have hj:i.toNat=j:=by rw[Fz h0 h5] at h1;show cj h1
  show item_listR pl.isList h0 ∅ (by rw[hj];simpa using ew) fin hs
 .have hj:(i+(ι.toArray.size:Int)).toNat=j:=by rw[F_ ∅ h4] at h1;rw[bt,<- hl];show cj h1
  show a1y (x:=w) pl.isList.typeIs a0s.lookup
   (wpAny_getItem_list_neg (Q:=λr s'=>r=w/\EP X π σ Q r s') pl.isList ∅ (by rw[bt]<;>lia) ∅ (by rw[hj];simpa using ew) ⟨rfl,fin⟩) hs
def aDn:IxR X (Cj X.K):=by
 intro value slice π s σ H x y v u Q I rx ry h hs;obtain⟨p,xs,i,z,rfl,rfl,hq,he,q⟩:=h;cases rx;obtain⟨t,rfl⟩:=ry;obtain⟨ι,r,pl,hz⟩:=I.tuple hq;obtain⟨j,h1,h2,h3,h4,h5⟩:=OL he;obtain⟨w,ew,HH⟩:=r.get h2;have hl:=r.length;have hn:=zL;have fin:EP X π σ Q w s:=⟨z,H,I,HH,q⟩;show a1y (x:=w) pl.typeIs pw.lookup
  (getItem_tuple (j:=j) (Q:=λr s'=>r=w/\EP X π σ Q r s') pl ∅ ∅ (by rw[bt,<- hl];show h1) (by simpa using ew) ⟨rfl,fin⟩) hs
def K1(ι:Q0f)(n j:Nat)(u:ai):fg (·.setIfInBounds j u) {cls:=.type "list",data:=.seq ι.toArray n}={cls:=.type "list",data:=.seq (ι.set j u).toArray n}:=by simp[fg]
theorem Φ.lst{π:Q0b}{σ:St}{H:Hp}{s:ak}{p:ah}{xs:List V}(I:Φ X π σ H s)(h:H p=aa (.lst xs)):
  ∃(ι:Q0f) (n:Nat),θ xs ι/\s.heap.get? p=aa {cls:=.type "list",data:=.seq ι.toArray n}/\xs.length<=bb:=by
 obtain⟨z,ι,n,r,e⟩:=I.hok p _ h;show⟨ι,n,r,e,z⟩
theorem Φ.aDo{π:Q0b}{σ:St}{H:Hp}{s:ak}{p:ah}{xs ys:List V}{ι its':Q0f}{n n':Nat}{f:ax->ax}(I:Φ X π σ H s)(h:H p=aa (.lst xs))
  (ho:s.heap.get? p=aa {cls:=.type "list",data:=.seq ι.toArray n}) (hf:f {cls:=.type "list",data:=.seq ι.toArray n}={cls:=.type "list",data:=.seq its'.toArray n' }) (r:θ ys its') (hz:ys.length<=bb) (t:Nat):
  Φ X π σ (upd H p (.lst ys)) {s with heap:=s.heap.update p f,toks:=t}:=by
 have e:(s.heap.update p f).get? p=aa {cls:=.type "list",data:=.seq its'.toArray n' }:=by rw[y_ f ho (by rw[hf]<;>rfl),hf]
 show I.write (x:=p) (e:=p) (by rw[h];trivial) (.inl rfl) (λb u hb q=>(Gu _ _ (d_ hb)).trans q) ⟨_,e⟩ ?_;show⟨hz,its',n',r,e⟩
def Xo:V->V->V->Hp->(Hp->Prop)->Prop:=λo i v H Q=>∃p xs k j,o=.ref p/\i=.int k/\H p=aa (.lst xs)/\QX xs.length k=aa j/\Q (upd H p (.lst (xs.set j v)))
def set_list:Cr X Xo:=by
 intro π s σ H o i v ov iv u Q I ro ri rv h;obtain⟨p,xs,k,j,rfl,rfl,hp,hj,q⟩:=h;cases ro;obtain⟨t,rfl⟩:=ri;obtain⟨ι,n,r,ho,hz⟩:=I.lst hp;obtain⟨h1,h2,h3,h4⟩:=EY hj;have hl:=r.length;have hn:=zL;have I':Φ X π σ (upd H p (.lst (xs.set j v))) {s with heap:=s.heap.update p (fg (·.setIfInBounds j u))} :=
  I.aDo hp ho (K1 ι n j u) (r.set rv j) (by rw[gn];show hz) s.toks
 by_cases h0:0<=k
 .have hk:k.toNat=j:=by rw[Fz h0 h4] at h1;show cj h1
  show PySem.W.ki_setAt ho h0 ∅ (by rw[bt,<- hl];show h4) (by rw[hk];show⟨_,I',q⟩)
 .have hk:(k+(ι.toArray.size:Int)).toNat=j:=by rw[F_ ∅ h3] at h1;rw[bt,<- hl];show cj h1
  show PySem.W.ki_setBack ho ∅ (by rw[bt,<- hl];show h3) ∅ (by rw[hk];show⟨_,I',q⟩)
def E1(lo hi:Option Int)(n:Nat):(sliceBounds lo hi ae n).1=((HT.iD n 0 lo:Nat):Int)/\(sliceBounds lo hi ae n).2.1=((HT.iD n n hi:Nat):Int)/\(sliceBounds lo hi ae n).2.2=1:=by
 show⟨?_,?_,rfl⟩
 .cases lo with
  |none=>simp[sliceBounds,HT.iD]
  |some i =>
   simp only[sliceBounds,HT.iD,a1K,show(1:Int)>0 by decide,if_true];by_cases h:i<0
   .simp only[h,if_true]<;>lia
   .simp only[h,if_false]<;>lia
 .cases hi with
  |none=>simp[sliceBounds,HT.iD]
  |some i =>
   simp only[sliceBounds,HT.iD,a1K,show(1:Int)>0 by decide,if_true];by_cases h:i<0
   .simp only[h,if_true]<;>lia
   .simp only[h,if_false]<;>lia
def A6(ι:Q0f)(lo hi:Option Int):slicePick ι.toArray lo hi ae=((ι.drop (HT.iD ι.length 0 lo)).take (HT.iD ι.length ι.length hi-HT.iD ι.length 0 lo)).toArray:=by obtain⟨h1,h2,h3⟩:=E1 lo hi ι.toArray.size;unfold slicePick;rw[h1,h2,h3];simp only[sliceRange_one,pick_run,bt]<;>rfl
def Se(K:ao):V->Option Int->Option Int->Hp->VK->Prop:=λx lo hi H Q=>∃a xs,x=.ref a/\eW K H a xs /\∀p,H p=ae->Q (.ref p) (upd H p (.lst (HG xs lo hi)))
theorem aAi:SlR X (Se X.K):=by intro π s σ H x v vl vu lo hi sl Q I rx hs pl pu h;obtain⟨a,xs,rfl,hx,q⟩:=h;cases rx;obtain⟨ι,r,ht,hz⟩:=I.list hx;have hlen:=r.length;show⟨"list",_,a0s.lookup,ht.isList.typeIs,?_⟩;show wpAny_getItem_list_slice ht.isList hs pl pu .none (by simp) ?_ (by rw[bt]<;>lia);rw[A6,<- hlen];show⟨.ref s.heap.objs.size,_,I.laid (t':=s.toks) (o:=.lst (HG xs lo hi)) (λb ob q=>cn _ q) (bg _) ?_,rfl,q _ (I.hok.fresh (bg _))⟩;show⟨gx (vN xs lo hi) hz,_,0,(r.drop (HT.iD xs.length 0 lo)).take (HT.iD xs.length xs.length hi-HT.iD xs.length 0 lo),dm _ rfl⟩
noncomputable def sM:V->Bool
 |.non=>af
 |.bl _=>af
 |.int _=>af
 |.str _=>af
 |_=>ag
noncomputable def eqV:V->V->Bool
 |.non,.non=>af
 |.bl a,.bl b=>a == b
 |.bl a,.int b=>(if a then 1 else 0) == b
 |.int a,.bl b=>a == (if b then 1 else 0)
 |.int a,.int b=>a == b
 |.str a,.str b=>a == b
 |_,_=>ag
theorem aDp(ry:Ψ y u)(rx:Ψ x v)(fy:sM y=af)(fx:sM x=af):qq A s u v (eqV y x):=by
 cases y with
 |non =>
  cases ry
  cases x with
  |non=>cases rx;show Gr _
  |bl b=>cases rx;show a2O b
  |int b=>obtain⟨t,rfl⟩:=rx;show a2N b t
  |str b=>obtain⟨t,rfl⟩:=rx;show a2M b t
  |_=>show Zw (show ag=af from fx) bp
 |bl a =>
  cases ry
  cases x with
  |non=>cases rx;show a2T a
  |bl b=>cases rx;show a02 a b
  |int b=>obtain⟨t,rfl⟩:=rx;show a2U a b t
  |str b=>obtain⟨t,rfl⟩:=rx;show a2S a b t
  |_=>show Zw (show ag=af from fx) bp
 |int a =>
  obtain⟨t',rfl⟩:=ry
  cases x with
  |non=>cases rx;show a2Q a t'
  |bl b=>cases rx;show a2R a t' b
  |int b=>obtain⟨t,rfl⟩:=rx;show Gs a t' b t
  |str b=>obtain⟨t,rfl⟩:=rx;show a01 a t' b t
  |_=>show Zw (show ag=af from fx) bp
 |str a =>
  obtain⟨t',rfl⟩:=ry
  cases x with
  |non=>cases rx;show a2K a t'
  |bl b=>cases rx;show a2L a t' b
  |int b=>obtain⟨t,rfl⟩:=rx;show a00 a t' b t
  |str b=>obtain⟨t,rfl⟩:=rx;show a2J a t' b t
  |_=>show Zw (show ag=af from fx) bp
 |_=>show Zw (show ag=af from fy) bp
def K2(x:V)(u:ai):Bool:=match u with
 |.none=>eqV .non x
 |.bool b=>eqV (.bl b) x
 |.int i _=>eqV (.int i) x
 |.str z _=>eqV (.str z) x
 |_=>ag
theorem WD(r:Ψ y u)(f:sM y=af):K2 x u=eqV y x:=by
 cases y with
 |non=>cases r;rfl
 |bl b=>cases r;rfl
 |int i=>obtain⟨t,rfl⟩:=r;rfl
 |str z=>obtain⟨t,rfl⟩:=r;rfl
 |_=>show Zw (show ag=af from f) bp
theorem sN:∀{xs:List V} {us:Q0f},θ xs us->xs.all sM=af->us.any (K2 x)=xs.any λy=>eqV y x
 |_,_,.nil,_=>rfl
 |y::xs,u::us,.cons r t,f=>by rw[oh,iu] at f;rw[mf,mf,WD r f.1,sN t f.2]
theorem oH(rx:Ψ x v)(fx:sM x=af):∀{xs:List V} {us:Q0f},θ xs us->xs.all sM=af ->∀u∈us,qq A s u v (K2 x u)
 |_,_,.nil,_=>λu hu=>by cases hu
 |y::xs,u::us,.cons r t,f=>λu' hu=>by
  rw[oh,iu] at f;rcases bh.mp hu with rfl|hu
  .rw [WD r f.1];show aDp r rx f.1 fx
  .exact oH rx fx t f.2 u' hu
def inV(x:V)(xs:List V):Bool:=xs.any λy=>eqV y x
def wa(K:ao)(neg:Bool):R2:=λx y H Q=>∃p xs,y=.ref p/\(eW K H p xs\/fF K H p xs)/\sM x=af/\xs.all sM=af/\Q (.bl (if neg then !inV x xs else inV x xs)) H
def QY:jS X (compareOp .In) (wa X.K ag):=by
 intro π s σ H x y v u Q I rx ry h;obtain⟨p,xs,rfl,hq,fx,fs,q⟩:=h;cases ry;rcases hq with hq|hq
 .obtain ⟨ι,r,pl,hz⟩:=I.list hq;show SeqAt.in_listAt (K2 x) pl.isList (λw hw=>oH rx fx r fs w (by simpa using hw)) ⟨.bl _,H,I,rfl,?_⟩;rw[show ι.toArray.any (K2 x)=ι.any (K2 x) by simp,sN r fs];show q
 .obtain ⟨ι,r,pl,hz⟩:=I.tuple hq;show SeqAt.in_tupleAt (K2 x) pl (λw hw=>oH rx fx r fs w (by simpa using hw)) ⟨.bl _,H,I,rfl,?_⟩;rw[show ι.toArray.any (K2 x)=ι.any (K2 x) by simp,sN r fs];show q
def E2:jS X (compareOp .NotIn) (wa X.K af):=by
 intro π s σ H x y v u Q I rx ry h;obtain⟨p,xs,rfl,hq,fx,fs,q⟩:=h;cases ry;rcases hq with hq|hq
 .obtain ⟨ι,r,pl,hz⟩:=I.list hq;show SeqAt.notIn_listAt (K2 x) pl.isList (λw hw=>oH rx fx r fs w (by simpa using hw)) ⟨.bl _,H,I,rfl,?_⟩;rw[show ι.toArray.any (K2 x)=ι.any (K2 x) by simp,sN r fs];show q
 .obtain ⟨ι,r,pl,hz⟩:=I.tuple hq;show SeqAt.notIn_tupleAt (K2 x) pl (λw hw=>oH rx fx r fs w (by simpa using hw)) ⟨.bl _,H,I,rfl,?_⟩;rw[show ι.toArray.any (K2 x)=ι.any (K2 x) by simp,sN r fs];show q
def E3:gX X (.builtin "len") (λxs H Q=>∃p ys,xs=[.ref p]/\(eW X.K H p ys\/fF X.K H p ys)/\Q (.int ys.length) H):=by
 intro π s σ H xs us Q I r h;obtain⟨p,ys,rfl,hq,q⟩:=h;obtain⟨u,rfl,rx⟩:=vals1 r;cases rx;have hn:=zL;rcases hq with hq|hq
 .obtain ⟨ι,r',pl,hz⟩:=I.list hq;have hlen:=r'.length;show Calls.call_len_list pl.isList (by simp only[bt]<;>lia) ⟨.int ys.length,H,I.tok _,⟨s.toks+1,by rw[bt,hlen]⟩,q⟩
 .obtain ⟨ι,r',pl,hz⟩:=I.tuple hq;have hlen:=r'.length;show len_tuple pl (by simp only[bt]<;>lia) ⟨.int ys.length,H,I.tok _,⟨s.toks+1,by rw[bt,hlen]⟩,q⟩
theorem A7:gX X (.type "tuple") (λxs H Q=>∃p ys,xs=[.ref p]/\((eW X.K H p ys /\∀l,H l=ae->Q (.ref l) (upd H l (.tup ys)))\/(fF X.K H p ys/\Q (.ref p) H))):=by
 intro π s σ H xs us Q I r h;obtain⟨p,ys,rfl,h⟩:=h;obtain⟨u,rfl,rx⟩:=vals1 r;cases rx;rcases h with⟨hq,q⟩|⟨hq,q⟩
 .obtain ⟨ι,r',pl,hz⟩:=I.list hq;have hlen:=r'.length;show call_tuple_list pl.isList (λh' kp=>?_) (by simp only[bt]<;>lia);have I1:Φ X π σ H {s with heap:=h' }:=I.kept (t':=s.toks) kp;have I2:Φ X π σ (upd H h'.objs.size (.tup ys)) {s with heap:=h'.push {cls:=.type "tuple",data:=.seq ι.toArray} } :=
   I1.laid (t':=s.toks) (λb o e=>cn _ e) (bg _) (show dG X.Ω X.w _ _ _ (.tup ys) from⟨hz,ι,r',Hl _ _,F7.new _ _⟩)
  show⟨.ref h'.objs.size,_,I2,rfl,q _ (I1.hok.fresh (bg _))⟩
 .obtain ⟨ι,r',pl,hz⟩:=I.tuple hq;show call_tuple_same pl ⟨.ref p,H,I,rfl,q⟩
def tyV(K:ao)(T:String)(x:V)(H:Hp):Prop:=match x with
 |.str _=>T="str"
 |.int _=>T="int"
 |.ref p=>(T="list" /\∃xs,eW K H p xs)\/(T="tuple" /\∃o,K.lookup p=aa o/\o.cls=.type "tuple" /\o.dict=ae) \/
   (T="dict" /\((∃χ,H p=aa (.dK χ)) \/∃χ,H p=aa (.dT χ)))\/(T="set" /\∃S n,H p=aa (.set S n))\/(T="tuple" /\∃xs,H p=aa (.tup xs))
 |_=>False
theorem aDq(I:Φ X π σ H s)(r:Ψ x v)(ty:tyV X.K T x H):
  s.TypeIs v T /\∀a,v=.ref a ->∃ob,s.heap.get? a=aa ob/\ob.dict=ae:=by
 cases x with
 |str z =>
  obtain⟨t,rfl⟩:=r;cases (show T="str" from ty);show⟨typeIs_str s z t,λ_ e=>nomatch e⟩
 |int i =>
  obtain⟨t,rfl⟩:=r;cases (show T="int" from ty);show⟨Fw s i t,λ_ e=>nomatch e⟩
 |ref p =>
  cases r;rcases ty with⟨rfl,xs,hq⟩|⟨rfl,o,hk,hc,hd⟩|⟨rfl,hk⟩|⟨rfl,S,n,hk⟩|⟨rfl,xs,hk⟩
  .obtain ⟨ι,_,pl,_⟩:=I.list hq;show⟨pl.isList.typeIs,λa e=>?_⟩;cases e;obtain⟨o,n,e,c,hd,_⟩:=pl;show⟨o,e,hd⟩
  .refine ⟨⟨o,I.xG p o hk,hc⟩,λa e=>?_⟩;cases e;show⟨o,I.xG _ o hk,hd⟩
  .have z:∃o,s.heap.get? p=aa o/\o.ExactDict:=by
    rcases hk with⟨χ,hk⟩|⟨χ,hk⟩
    .obtain ⟨_,_,_,_,o,_,_,e,ex,_⟩:=I.hok p _ hk;show⟨o,e,ex⟩
    .obtain ⟨_,_,_,_,o,_,_,e,ex,_⟩:=I.hok p _ hk;show⟨o,e,ex⟩
   obtain⟨o,e,ex⟩:=z;show⟨⟨o,e,ex.1⟩,λa e2=>?_⟩;cases e2;show⟨o,e,ex.2.1⟩
  .obtain ⟨o,_,_,_,e,ex,_⟩:=I.hok p _ hk;show⟨⟨o,e,ex.1⟩,λa e2=>?_⟩;cases e2;show⟨o,e,ex.2.1⟩
  .obtain ⟨_,_,_,⟨o,e,c,_⟩,nd⟩:=I.hok p _ hk;show⟨⟨o,e,c⟩,λa e2=>?_⟩;cases e2;show⟨o,e,nd _ e⟩
 |_=>show js ty
def As(K:ao)(T:String)(r:V->List V->Hp->VK->Prop)(to:TE)(t:TA):TE:=λσ H Q=>to σ H λx H1=>tyV K T x H1/\t σ H1 λxs H2=>r x xs H2 Q
variable{o e:aw}{es:List aw}{to:TE}{t:TA}{name:aj}{apos cpos:bf}{T id:String}{r:V->List V->Hp->VK->Prop}
theorem OM(pa:PlainAttrs T)(slot:Slot T name id)(hty:typeOf (.builtin id)=pure (.type "method_descriptor"))(hm:MtR X id r)(ho:PE X o to)(ha:PA X (e::es) t)
  (hbase:attributeBase o name X.env (eval o X.env)=eval o X.env:=by rfl)
  (hfew:((cu cpos (ar (e::es) X.env)).all (λx=>!x.1)&&(backToKw cpos (kg [] X.env)).all (λx=>x.1.isSome)
   && Zv ((e::es).length+([]:List gi).length+(if([]:List gi).isEmpty then 0 else 1)<30))=af:=by rfl)
  (hline:Q0k apos cpos:=by rfl) (hs:Zs X e es:=by rfl) (hplain:Q0l X cpos es:=by rfl):
  PE X (.Call (.Attribute o name apos) (e::es) [] cpos) (As X.K T r to t):=by
 intro π s σ H Q I h;show wpAny_Call_method_late hbase hfew hline rfl (eI (ho π s σ H _ I h) λv s1 ⟨x,H1,I1,r1,ty,q1⟩=>?_);obtain⟨h1,h2⟩:=aDq I1 r1 ty;show⟨T,id,pa,slot,hty,h1,h2,?_⟩;have hA:=ha cpos π s1 σ H1 _ I1 q1;rw[hs] at hA ⊢;show Calls.callWith_builtin (by show(ag||(cu cpos (ar es X.env)).any (·.1))=ag;rw[hplain]<;>rfl) (a1p ?_);show eI hA λus s2 hq6=>by obtain⟨vs,H2,I2,r2,q2⟩:=hq6;show hm π s2 σ H2 x vs v us Q I2 r1 r2 q2
end
def MtM(X:Cx)(id:String)(r:V->List V->Hp->VK->Prop):Prop :=
 ∀(π:Q0b) (s:ak) (σ:St) (H:Hp) (x:V) (xs:List V) (v:ai) (us:Q0f) (Q:VK),Φ X π σ H s->Ψ x v->θ xs us->r x xs H Q ->
  au (av X.Ω X.w) X.A (call (.builtin id) (v::us)) (EP X π σ Q) X.xe s
theorem θ.one:∀{x:V} {us:Q0f},θ [x] us ->∃u,us=[u]/\Ψ x u
 |_,_,.cons r .nil=>⟨_,rfl,r⟩
theorem θ.eraseIdx:∀{xs:List V} {us:Q0f} (i:Nat),θ xs us->θ (xs.eraseIdx i) (us.eraseIdx i)
 |_,_,_,.nil=>.nil
 |_,_,0,.cons _ t=>t
 |_,_,i+1,.cons r t=>.cons r (θ.eraseIdx i t)
theorem θ.rep(h:θ xs us):∀k:Nat,θ (bu k xs).flatten (bu k us).flatten
 |0=>.nil
 |k+1=>by rw[jh,jh,qe,qe];show θ.append h (θ.rep h k)
theorem CJ{α:Type}:∀(l:List α) (i:Nat),(l.eraseIdx i).length<=l.length
 |[],_=>bg _
 |_::_,0=>p_ _
 |_::r,i+1=>Nat.succ_le_succ (CJ r i)
theorem foldl_rep(ι:Q0f):∀(k:Nat) (ψ:Q0f),
  Ic (λx1 x2=>x1++x2) ψ.toArray (bu k ι.toArray)=(ψ++(bu k ι).flatten).toArray
 |0,ψ=>by simp
 |k+1,ψ=>by
  have e:ψ.toArray++ι.toArray=(ψ++ι).toArray:=by simp
  have e2:(ψ++ι)++(bu k ι).flatten=ψ++(bu (k+1) ι).flatten:=by rw[jh,qe,og]
  rw[<- e2,<- foldl_rep ι k (ψ++ι),<- e,jh,me]
section
variable{X:Cx}{π:Q0b}{σ:St}{H:Hp}{s:ak}{l b:ah}{xs ys zs:List V}
theorem Φ.xo{ι its':Q0f}{n:Nat}{f:Array ai->Array ai}{t':Nat}(I:Φ X π σ H s)(hH:H l=aa (.lst xs))
  (e:s.heap.get? l=aa {cls:=.type "list",data:=.seq ι.toArray n}) (hf:f ι.toArray=its'.toArray) (hv:θ ys its') (hz:ys.length<=bb):
  Φ X π σ (upd H l (.lst ys)) {s with heap:=s.heap.update l (fg f),toks:=t' }:=by
 have q:=a2W e f;rw[hf] at q;show I.write (x:=l) (e:=l) (by rw[hH];show trivial) (.inl rfl) (λb' u hb hu=>(Gu s.heap (fg f) (d_ hb)).trans hu) ⟨_,q⟩ ?_;show⟨hz,its',_,hv,q⟩
theorem Φ.Ci(I:Φ X π σ H s)(hv:θ ys ι)(hz:ys.length<=bb):
  Φ X π σ (upd H s.heap.objs.size (.lst ys)) {s with heap:=s.heap.push {cls:=.type "list",data:=.seq ι.toArray},toks:=t' } :=
 I.laid (λ_ _ q=>cn _ q) (bg _) ⟨hz,ι,0,hv,dm _ rfl⟩
def Φ.fresh(I:Φ X π σ H s):H s.heap.objs.size=ae:=I.hok.fresh (bg _)
def Φ.E4(I:Φ X π σ H s)(hH:H l=aa (.lst xs)):xs.length<=bb /\∃(ι:Q0f) (n:Nat),θ xs ι/\xs.length=ι.length/\s.heap.get? l=aa {cls:=.type "list",data:=.seq ι.toArray n}:=by obtain⟨z,ι,n,r,e⟩:=I.hok l _ hH;show⟨z,ι,n,r,r.length,e⟩
def HI{n:Nat}(h:n<=bb):zt n=ag:=by unfold zt;show Zy ∅
def ON:V->List V->Hp->VK->Prop:=λx vs H Q=>∃l xs y,x=.ref l/\vs=[y]/\H l=aa (.lst xs)/\xs.length<bb/\Q .non (upd H l (.lst (xs++[y])))
def CK:MtM X "list.append" ON:=by intro π s σ H x vs v us Q I rx rv h;obtain⟨l,xs,y,rfl,rfl,hH,hz,q⟩:=h;cases rx;obtain⟨u,rfl,ru⟩:=rv.one;obtain⟨z,ι,n,r,hl,e⟩:=I.E4 hH;show oz a1e ⟨_,e,rfl⟩ F.entry_list_append (F.args_list_append_2 _ _) (PySem.list_append l ι.toArray n u (by rw[bt];lia)) ⟨e,?_⟩;show⟨.non,_,I.xo (its':=ι++[u]) hH e (by simp) (r.append (.cons ru .nil)) ?_,rfl,q⟩;rw[di,Af];lia
def OO:V->List V->Hp->VK->Prop:=λx vs H Q=>∃l b xs zs,x=.ref l/\vs=[.ref b]/\H l=aa (.lst xs)/\H b=aa (.lst zs)/\xs.length+zs.length<=bb/\Q .non (upd H l (.lst (xs++zs)))
def QZ:MtM X "list.extend" OO:=by
 intro π s σ H x vs v us Q I rx rv h;obtain⟨l,b,xs,zs,rfl,rfl,hH,hB,hz,q⟩:=h;cases rx;obtain⟨u,rfl,ru⟩:=rv.one;cases ru;obtain⟨z,ι,n,r,hl,e⟩:=I.E4 hH;obtain⟨z2,its2,n2,r2,hl2,e2⟩:=I.E4 hB;have hsz:ι.toArray.size+its2.toArray.size<=bb:=by rw[bt,bt];lia
 have WH:¬ (!ι.toArray.isEmpty&&zt (ι.toArray.size+its2.toArray.size))=af:=by rw[HI hsz,a2y];show bp
 show oz a1c ⟨_,e,rfl⟩ F.entry_list_extend (F.args_list_extend_2 _ _)
  (a3v l ι.toArray n b its2.toArray n2 WH (by rw[bt];lia) ∅) ⟨e,e2,?_⟩
 show⟨.non,_,I.xo (its':=ι++its2) hH e (by simp) (r.append r2) ?_,rfl,q⟩;rw[di];lia
def WJ:V->List V->Hp->VK->Prop:=λx vs H Q=>∃l xs i k y,x=.ref l/\vs=[.int i]/\H l=aa (.lst xs) /\ -(2^63)<=i/\i<2^63/\seqIndex? i xs.length=aa k/\xs[k]?=aa y/\Q y (upd H l (.lst (xs.eraseIdx k)))
def WK:MtM X "list.pop" WJ:=by
 intro π s σ H x vs v us Q I rx rv h;obtain⟨l,xs,i,k,y,rfl,rfl,hH,h1,h2,hk,hy,q⟩:=h;cases rx;obtain⟨u,rfl,ru⟩:=rv.one;obtain⟨t,rfl⟩:=ru;obtain⟨z,ι,n,r,hl,e⟩:=I.E4 hH;obtain⟨w,hw,HH⟩:=r.get hy;show oz a1a ⟨_,e,rfl⟩ F.entry_list_pop (F.args_list_pop_2 _ _)
  (a2V l ι.toArray n i t k w (a0y h1 h2) (by rw[bt,<- hl];show hk) (by rw[<- Array.getElem?_toList];show hw) (by rw[bt];lia)) ⟨e,?_⟩
 show⟨y,_,I.xo (its':=ι.eraseIdx k) hH e ?_ (r.eraseIdx k) ?_,HH,q⟩
 .show ι.toArray.eraseIdxIfInBounds k=(ι.eraseIdx k).toArray;rw[List.eraseIdxIfInBounds_toArray]
 .have:=CJ xs k;lia
def Cg:R2:=λx y H Q=>∃l b xs zs,x=.ref l/\y=.ref b/\H l=aa (.lst xs)/\H b=aa (.lst zs)/\xs.length+zs.length<=bb /\∀p,H p=ae->Q (.ref p) (upd H p (.lst (xs++zs)))
def WL:jS X (binaryOp .Add) Cg:=by
 intro π s σ H x y v u Q I rx ry h;obtain⟨l,b,xs,zs,rfl,rfl,hH,hB,hz,q⟩:=h;cases rx;cases ry;obtain⟨z,ι,n,r,hl,e⟩:=I.E4 hH;obtain⟨z2,its2,n2,r2,hl2,e2⟩:=I.E4 hB;show PySem.P.add_list e e2 ?_ (by rw[bt,bt];lia);have ea:ι.toArray++its2.toArray=(ι++its2).toArray:=by simp
 rw[ea];show⟨.ref _,_,I.Ci (t':=s.toks) (r.append r2) (by rw[di];lia),rfl,q _ I.fresh⟩
def Sb:R2:=λx y H Q=>∃l k xs,x=.ref l/\y=.int k/\H l=aa (.lst xs) /\ -(2^63)<=k/\k<2^63/\xs.length*k.toNat<=bb /\
 ∀p,H p=ae->Q (.ref p) (upd H p (.lst (bu k.toNat xs).flatten))
theorem len_rep{α:Type}(xs:List α)(k:Nat):(bu k xs).flatten.length=k*xs.length:=by
 induction k with
 |zero=>simp
 |succ k ih=>rw[jh,qe,di,ih,Ho,Nat.add_comm]
def aDs:jS X (binaryOp .Mult) Sb:=by
 intro π s σ H x y v u Q I rx ry h;obtain⟨l,k,xs,rfl,rfl,hH,h1,h2,hz,q⟩:=h;cases rx;obtain⟨t,rfl⟩:=ry;obtain⟨z,ι,n,r,hl,e⟩:=I.E4 hH;have hlen:ι.toArray.size*k.toNat<=bb:=by rw[bt,<- hl];show hz
 have hcap:¬ ι.toArray.size*k.toNat>(2^63-1)/8:=by
  have:(bb:Nat)<=(2^63-1)/8:=by decide
  lia
 have hfit:¬ (!Builtin.List.listFitsIndex k)=af:=by rw[a0y h1 h2];show bp
 have WH:¬ zt (ι.toArray.size*k.toNat)=af:=by rw[HI hlen];show bp
 have hnew:Ic (λx1 x2=>x1++x2) #[] (bu (if ι.toArray.isEmpty=af then 0 else k.toNat) ι.toArray)=(bu k.toNat ι).flatten.toArray:=by
  have f0:∀m:Nat,Ic (λx1 x2=>x1++x2) #[] (bu m ι.toArray)=(bu m ι).flatten.toArray:=λm=>by have:=foldl_rep ι m [];rw[ku] at this;show this
  rw[f0]
  cases ι with
  |nil=>simp
  |cons a r'=>rw[Zz (by simp)]
 show wpAny_binaryOp_repeat_ref (T:="list") (U:="int") (by decide) ⟨_,e,rfl⟩ (λs'=>Fw s' k t) noFill_list_mul F.fills_int_mul a1f repeat_list F.slot_int_index.lookup
  (oz a1f (Fw s k t) F.entry_int_rmul (F.args_int_rmul_2 _ _) (int___rmul___int_list k t l ι.toArray n)
   ⟨e,rfl,⟨_,e,rfl⟩,oz F.slot_list_mul ⟨_,e,rfl⟩ F.entry_list_mul (F.args_list_mul_2 _ _) (a3w l ι.toArray n k t hfit hcap WH) ⟨e,?_⟩⟩)
 rw[hnew];show⟨.ref _,_,I.Ci (t':=s.toks) (r.rep k.toNat) (by rw[len_rep,Nat.mul_comm];show hz),rfl,q _ I.fresh⟩
end
section
variable{Ω:bc}{w:ba}{A:bq}{E:Q0c}{s:ak}
set_option maxRecDepth 100000 in
end
end L2
namespace Att
open PySem.W PySem.Calls PyProof.Rows
theorem wJ:∀(ns:Q0e) (vs:Q0f),WellAll P h vs (ns.map a0S)->jw vs ns:=by
 intro ns
 induction ns with
 |nil =>
  intro vs w;rw[ma] at w;cases w;show .nil
 |cons n ns ih =>
  intro vs w;rw[bj] at w
  cases w with
  |cons a b =>
   cases a;show .cons _ _ (ih _ b)
theorem Q0{l:qp}{n:Nat}(hn:l.most=aa n){P:Params}{h:ay}{args:List WData}{vals:Q0f}
  (hpre:l.row.toRowW.claim.pre args=af) (hwl:WellAll P h vals args):
  ∃a vs ns,vals=[cp a]/\args=[WData.list (ns.map a0S)]/\h.get? a=aa {cls:=.type "list",data:=.seq vs.toArray}/\jw vs ns/\ns.length<=n:=by
 have hsh:WShape.hasAll [] args [.list .int]=af:=(pre_splitW hpre).1;have hc:l.pre.holds [] {args:=args}=af:=(pre_splitW hpre).2;obtain⟨d,r,rfl,h1,h2⟩:=hasAllW_cons hsh;obtain rfl:=hasAllW_nil h2;obtain⟨xs,rfl,h3⟩:=hasW_list h1;obtain⟨ns,rfl⟩:=items_int h3;have hlen:ns.length<=n:=by
  unfold OpenLaw.pre at hc;have h4:(WTm.not (.lt (.lit (.int (n:Int))) (.len (.arg 0)))).holds [] {args:=[.list (ns.map .int)]}=af:=by have h4:=(holds_andW hc).1;rw[hn] at h4;show h4
  have h5:=condW_of h4 (w_not (w_lt w_lit (w_len_list (w_arg rfl))));rw[a_] at h5;show Nat.le_of_not_lt λq=>?_;have q':(n:Int)<((ns.length:Nat):Int):=by lia
  first
   | (rw[Zx q'] at h5;show Zw h5 (by decide))
   | (simp at h5;lia)
 cases hwl with
 |cons w1 w2 =>
  cases w2
  cases w1 with
  |list ho hall=>show⟨_,_,ns,rfl,rfl,ho,wJ ns _ hall,hlen⟩
def Q1(l:qp)(args:List WData):l.row.toRowW.claim.post args (.bool af) args=af :=
 postW_of (r:=l.row.toRowW) (X:=(af == af))
  (show a0R [] (.bool af) .bool=af by first|rfl|decide|simp[a0R,WShape.arms,WShape.armsAll])
  (show(WTm.eq .res (.lit (.bool af))).value [] {args:=args,res:=aa (.bool af),after:=args}=aa (.bool (af == af)) from w_eq_bool (w_res rfl) w_lit) rfl
theorem HJ{l:qp}{n:Nat}{q:bc}{loose:Q0g}{XP:(aj->Option ai)->ay->Prop}{YP:ba->ay->Prop}{d:DefRec}
  (hn:l.most=aa n) (hdf:d.params.defaults=[])
  (call:∀(w:ba) (s₀ s₁:ak) (mg mb:Q0d) (fa:ah) (o:ax) (pm cd doc:ai) (a:ah) (vs:Q0f) (ns:Q0e),
   Ground q loose [] XP w s₀ mg mb s₁.heap->YP w s₁.heap ->
   s₁.heap.get? fa=aa o->o.data=.func (docDef d.name d.params d.body d.scope pm cd doc)->s₁.heap.CodeRec cd d.name->mg d.name=aa (.ref fa) ->
   s₁.heap.get? a=aa {cls:=.type "list",data:=.seq vs.toArray}->jw vs ns->ns.length<=n->s₁.gens=#[] ->
   mx (av l.prog w) callerA (.call (.ref fa) ⟨[.ref a],[]⟩) (λr s'=>r=.ok (.ret (.bool af))/\OldK s₁.heap s'.heap/\s'.os=s₁.os/\kn s'.gens) s₁):
  Gq q loose XP YP l.row.toRowW d [] (λf vs=>Gi f vs):=by
 intro w s₀ s₁ mg mb G Y fa o pm cd doc dV kV ho hd hcd hD hmg hg args vals as hpre hlay hrd hwl hlo;obtain rfl:dV=.none:=Dflts.none hD hdf;obtain rfl:kV=.none:=Dflts.noKw hD;obtain⟨a,vs,ns,rfl,rfl,hobj,hints,hlen⟩:=Q0 hn hpre hwl;show enter_call (Gh (call w s₀ s₁ mg mb fa o pm cd doc a vs ns G Y ho (fd_plain hd) hcd hmg hobj hints hlen hg) λr s' hq=>?_);obtain⟨rfl,h2,h3,h4⟩:=hq;show⟨.inl ⟨.bool af,.bool af,[],rfl,λ_=>rfl,.bool af,Q1 l _,λ_=>⟨Im,λ_ hm=>(nomatch hm)⟩⟩,h2,h3,h4⟩
section
variable{Ω:bc}{w:ba}{A:bq}{E:Q0c}{s:ak}{K:ao}
def zN(h:ay):ay:={h with objs:=#[]}
theorem qV(h:ay)(b:ah):(zN h).get? b=ae:=by
 cases e:(zN h).get? b with
 |none=>rfl
 |some o=>show Zw (bo e) (Nat.not_lt_zero _)
def ledger(h:ay)(L d:ah):List (ah×ax):=(bz h.objs.size).filterMap λa=>if a=L\/a=d then ae else(h.get? a).map λo=>(a,o)
def i8:(a,o)∈ledger h L d↔a≠L/\a≠d/\h.get? a=aa o:=by
 unfold ledger;rw[qa]
 constructor
 .rintro ⟨b,_,e⟩;split at e
  .cases e
  .rename_i hb;obtain⟨o',ho,e'⟩:=ip.mp e;cases e';show⟨λq=>hb (.inl q),λq=>hb (.inr q),ho⟩
 .rintro ⟨n1,n2,ho⟩;show⟨a,lz.mpr (bo ho),?_⟩;rw[Zz (show ¬ (a=L\/a=d) from λq=>q.elim n1 n2),ho]<;>rfl
def WM(n:h.Ns L m):Fr (zN h) L h m :=
 ⟨n,λb o e=>(by rw[qV] at e;cases e),jm _⟩
end
end Att
namespace L2
open PySem.Spec PyProof.Rows
theorem iB:∀{vs:Q0f} {ns:Q0e},jw vs ns->θ (ns.map V.int) vs
 |_,_,.nil=>.nil
 |_,_,.cons n t h=>.cons ⟨t,rfl⟩ (iB h)
def Only(H:Hp):Prop:=∀b,H b=ae\/(∃o xs,H b=aa (.xF o (.lst xs))) \/∃q,H b=aa (.N8 q)
structure TabsOk (K:ao) (q:bc):Prop where
 nd:((eF K).map (·.2.2)).Nodup
 rc:∀t∈eF K,∃e,(recsOf q).find? (λe=>e.name == t.1)=aa e
theorem K3{K:ao}{t:aj×ah×ah}(h:t∈eF K):uu K t.1=aa (t.2.1,t.2.2):=by
 obtain⟨x,_,e⟩:=qa.mp h
 cases q:uu K x with
 |none=>rw[q] at e;cases e
 |some p=>rw[q] at e;cases e;show q
def K4(K:ao)(a:ah)(u:Option HO):Hp:=λb=>if b=a then u else((eF K).find? λt=>t.2.2 == b).map λt=>.N8 (oF t.1)
theorem Q2{l:List (aj×ah×ah)}(nd:(l.map (·.2.2)).Nodup){t:aj×ah×ah}(h:t∈l):l.find? (λu=>u.2.2 == t.2.2)=aa t:=by
 induction l with
 |nil=>cases h
 |cons u l ih =>
  rw[bj,kr] at nd;rw[ig];by_cases e:(u.2.2 == t.2.2)=af
  .rw [e];rcases bh.1 h with z|z
   .rw [z]
   .exact Zw (fw.2 ⟨t,z,(eq_of_beq e).symm⟩) nd.1
  .rw [a2x] at e;rw[e];rcases bh.1 h with z|z
   .rw [z,beq_self_eq_true] at e;cases e
   .exact ih nd.2 z
theorem WN{P:bc}{w:ba}{K:ao}{mg mb:Q0d}{CX:KY}{k:Nat}{fa a:ah}{fd:fv}{x:aj}{sp:Sp}{s₁:ak}{vs:Q0f}{ns:Q0e}
  (KX:K.In s₁.heap) (hns:s₁.heap.Ns df mg) (hb:s₁.heap.Ns builtinsNs mb) (hbb:∀x:aj,x ≠ "__name__"->mb x=bootBuiltins x) (hlim:s₁.heap.NoLimit)
  (hbm:∃bm ob,mg "__builtins__"=aa (.ref bm)/\bm≠builtinsNs/\s₁.heap.get? bm=aa ob/\ob.cls=.type "module" /\ob.dict=aa builtinsNs/\ob.data=.plain)
  (hT:∀t∈eF K,CodeHd s₁.heap t.2.1 t.2.2/\s₁.heap.get? t.2.2=aa (tabObj #[])) (hnd:((eF K).map (·.2.2)).Nodup) (hnt:noTabs K=af) (hg:s₁.gens=#[])
  (ha:s₁.heap.get? a=aa {cls:=.type "list",data:=.seq vs.toArray}) (hi:jw vs ns) (hl:ns.length<=bb) (hr:fS k callerA)
  (F:∀ω:ay,K.In ω->ω.Ns df mg->lG P w K mg ω CX k fa fd [x] sp) (hbind:∀(s:ak) (u:ai),qx s fd ⟨[u],[]⟩ [(x,u)])
  (hsp:∀H:Hp,Only H->eW K H a (ns.map V.int)->sp [.ref a] H (λv _=>v=.bl af) λ_ _ _=>False)
  (wj:∀H e s',CX [] H s₁ (λ_ _ _=>False) e s'->False):
  mx (av P w) callerA (.call (.ref fa) ⟨[.ref a],[]⟩) (λr s'=>r=.ok (.ret (.bool af))/\OldK s₁.heap s'.heap/\s'.os=s₁.os/\kn s'.gens) s₁:=by
 have rv:=iB hi;have lenV:=hi.length;have neA:∀t∈eF K,t.2.2≠a:=λt ht z=>by have e:=(hT t ht).2;rw[z,ha] at e;cases e
 -- a tracked address: the script or a table
 have core:∀u:Option HO,(u=ae \/∃o xs,u=aa (.xF o (.lst xs)))->eW K (K4 K a u) a (ns.map V.int)->(∀v,u=aa v->dG P w (K4 K a u) s₁.heap a v)->(u≠ae->K.lookup a=ae) ->
   mx (av P w) callerA (.call (.ref fa) ⟨[.ref a],[]⟩) (λr s'=>r=.ok (.ret (.bool af))/\OldK s₁.heap s'.heap/\s'.os=s₁.os/\kn s'.gens) s₁:=by
  intro u hu hS Cf hK;obtain⟨H,eH⟩:∃H,K4 K a u=H:=⟨_,rfl⟩;have xZ:∀t∈eF K,H t.2.2=aa (.N8 (oF t.1)):=λt ht=>by rw[<- eH];unfold K4;rw[Zz (neA t ht),Q2 hnd ht];rfl
  have uK:∀b,H b=ae\/(b=a/\H b=u/\u≠ae) \/∃t∈eF K,t.2.2=b/\H b=aa (.N8 (oF t.1)):=λb=>by
   by_cases hb:b=a
   .cases hu2:u with
    |none=>left;rw[<- eH];unfold K4;rw[Z_ hb,hu2]
    |some v=>right;left;show⟨hb,?_,by simp⟩;rw[<- eH];unfold K4;rw[Z_ hb,hu2]
   .cases q:(eF K).find? λt=>t.2.2 == b with
    |none=>left;rw[<- eH];unfold K4;rw[Zz hb,q];rfl
    |some t =>
     have e1:t.2.2=b:=eq_of_beq (List.find?_some (p:=λt:aj×ah×ah=>t.2.2 == b) q);have e2:=List.mem_of_find?_eq_some q;show .inr (.inr ⟨t,e2,e1,by rw[<- e1];show xZ t e2⟩)
  rw[eH] at hS Cf;have hO:Only H:=λb=>by
   rcases uK b with z|⟨_,z,_⟩|⟨t,_,_,z⟩
   .exact .inl z
   .rcases hu with y|⟨o,xs,y⟩
    .exact .inl (z.trans y)
    .exact .inr (.inl ⟨o,xs,z.trans y⟩)
   .exact .inr (.inr ⟨_,z⟩)
  have hok:pK P w H s₁.heap:=λb v e=>by
   rcases uK b with z|⟨rfl,z,_⟩|⟨t,ht,rfl,z⟩
   .rw [z] at e;cases e
   .exact Cf v (by rw[<- z];show e)
   .rw [z] at e;cases e;show⟨#[],(hT t ht).2,trivial,λν cv e=>by cases e⟩
  -- an object that is neither the script nor a table is not tracked
  have WQ:∀{b:ah} {o:ax},s₁.heap.get? b=aa o->o.cls≠.none->(∀ys n,o.data≠.seq ys n)->H b=ae:=λ{b o} e hc hs=>by
   rcases uK b with z|⟨rfl,_,_⟩|⟨t,ht,rfl,z⟩
   .exact z
   .rw [ha] at e;cases e;show Zw rfl (hs _ _)
   .rw [(hT t ht).2] at e;cases e;show Zw rfl hc
  have nsN:∀{b:ah} {o:ax} {es:Array DictEntry} {ep:Nat},s₁.heap.get? b=aa o->o.data=.dict es ep->H b=ae:=λ{b o es ep} e d=>by
   rcases uK b with z|⟨rfl,_,_⟩|⟨t,ht,rfl,z⟩
   .exact z
   .rw [ha] at e;cases e;cases d
   .rw [(hT t ht).2] at e;cases e;cases d
  have xJ:∀{b:ah} {o:ax},s₁.heap.get? b=aa o->H b=ae->(A5 s₁.heap H).get? b=aa o:=λe n=>VV e n;have nsK:∀{b:ah} {m:Q0d},s₁.heap.Ns b m->(A5 s₁.heap H).Ns b m:=λ{b m} ⟨o,es,ep,e,d,r⟩=>⟨o,es,ep,xJ e (nsN e d),d,r⟩;have Bi:K.In (A5 s₁.heap H):=λb o e=>xJ (KX b o e) (by
   rcases uK b with z|⟨rfl,_,z⟩|⟨t,ht,rfl,z⟩
   .exact z
   .rw [hK z] at e;cases e
   .have e2:=KX _ o e;rw[(hT t ht).2] at e2;cases e2;have h2:=gp.mp hnt (t.2.2,tabObj #[]) (PySem.W.mem_of_lookupK e);show Zw (show ag=af from h2) bp)
  have hM:Mod K mg (A5 s₁.heap H):=⟨Bi,nsK hns,⟨mb,nsK hb,hbb⟩,let ⟨mc,h1,h2⟩:=hlim;⟨mc,nsK h1,h2⟩,
   let ⟨bm,ob,b1,b2,b3,b4,b5,b6⟩:=hbm;⟨bm,ob,b1,b2,xJ b3 (WQ b3 (by rw[b4];nofun) λys n z=>by rw[b6] at z;cases z),b4,b5,b6⟩⟩
  have Sa:uk K (A5 s₁.heap H) H:=λt ht=>by obtain⟨o,vs',file,tf,flags,tg,inF,text,tt,e1,r1,r2,r3⟩:=(hT t ht).1;show⟨⟨o,vs',file,tf,flags,tg,inF,text,tt,xJ e1 (WQ e1 (by rw[r1];nofun) λys n z=>by rw[r2] at z;cases z),r1,r2,r3⟩,xZ t ht⟩
  have e0:ue P w K mg (A5 s₁.heap H) callerA [] s₁ H:=⟨rfl,hM,λb o e=>aAZ e,nh (QM _ _),trivial,λb hb=>Zw (show b∈([]:List ah) from hb) (by simp),hok,.of_eq hg,Sa⟩;show Gh ((F _ Bi (nsK hns)).run callerA [] s₁ H ⟨[.ref a],[]⟩ [.ref a] [.ref a] _ _ hr e0 (hbind s₁ (.ref a)) (.cons rfl .nil) (hsp H hO hS)) λr s' h=>?_
  cases r with
  |error e=>show(wj H e s' h).elim
  |ok fl =>
   cases fl with
   |next=>show js h
   |brk=>show js h
   |cont=>show js h
   |ret v =>
    obtain⟨y,H',os,bare,un,hok',r',q⟩:=h;have q':y=.bl af:=q;subst q';obtain rfl:v=kh af:=r';have old:∀b o,s₁.heap.get? b=aa o->asItWas s₁.heap s'.heap b o /\∃o',s'.heap.get? b=aa o':=λb o e=>by
     rcases uK b with z|⟨rfl,z,hne⟩|⟨t,ht,rfl,z⟩
     .have k:=un.keep b o e z (by intro z;show Zw (show b∈([]:List ah) from z) (by simp)) (by simp);show⟨.inl k,o,k⟩
     .rcases hu with y|⟨ob,xs,y⟩
      .exact Zw y hne
      .have z1:=z.trans y;have z2:=un.wF b ob _ z1;obtain⟨e1,_⟩:=hok b _ z1;obtain⟨e2,_⟩:=hok' b _ z2;rw[e] at e1;cases e1;show⟨.inl e2,o,e2⟩
     .obtain ⟨ps,e2,_⟩:=hok' _ _ (un.uJ _ _ z);have e1:=(hT t ht).2;rw[e] at e1;cases e1;show⟨.inr (.inl ⟨((hT t ht).1.tab (hT t ht).2).isCodeTable,rfl,#[],ps,rfl,by rw[e2,Array.empty_append]⟩),_,e2⟩
    show⟨rfl,⟨λb o e=>(old b o e).1,λb o e=>(old b o e).2⟩,os,bare⟩
 cases hk:K.lookup a with
 |some o =>
  -- the script is one of the module's own objects
  have e:=KX a o hk;rw[ha] at e;cases e;show core ae (.inl rfl) (.inr ⟨_,vs.toArray,_,hk,rfl,rfl,rfl,by rw[bt,lenV];show hl,by simpa using rv⟩) (λv z=>by cases z) λz=>Zw rfl z
 |none =>
  show core (aa (.xF {cls:=.type "list",data:=.seq vs.toArray} (.lst (ns.map V.int)))) (.inr ⟨_,_,rfl⟩) (.inl (.inr ⟨{cls:=.type "list",data:=.seq vs.toArray},Z_ rfl⟩)) (λv z=>?_) λ_=>hk;cases z;show⟨ha,by rw[a_];show hl,vs,_,rv,ha⟩
abbrev KOf{K:ao}{h:ay}(_:K.In h):ao:=K
theorem aAj{l:qp}{n k:Nat}{q:bc}{loose:Q0g}{XP:(aj->Option ai)->ay->Prop}{YP:ba->ay->Prop}{d:DefRec}{K:Params->ao}{CX:ba->KY}{sp:ba->Sp}{x:aj}
  (hn:l.most=aa n) (hn2:n<=bb) (hdf:d.params.defaults=[]) (hr:fS k callerA)
  (hY:∀(w:ba) (h:ay),YP w h->(K w.params).In h)
  (tj:∀w:ba,TabsOk (K w.params) q) (hnt:∀w:ba,noTabs (K w.params)=af)
  (F:∀(w:ba) (mg:Q0d) (fa:ah) (h:ay),(K w.params).In h->h.Ns df mg->mg d.name=aa (.ref fa) ->
   ∃fd:fv,(∀(s:ak) (u:ai),qx s fd ⟨[u],[]⟩ [(x,u)]) /\
    ∀ω:ay,(K w.params).In ω->ω.Ns df mg->lG l.prog w (K w.params) mg ω (CX w) k fa fd [x] (sp w))
  (hsp:∀(w:ba) (H:Hp) (a:ah) (ns:Q0e),ns.length<=n->Only H->eW (K w.params) H a (ns.map V.int)->sp w [.ref a] H (λv _=>v=.bl af) λ_ _ _=>False)
  (wj:∀(w:ba) (H:Hp) (s:ak) (e:ai) (s':ak),CX w [] H s (λ_ _ _=>False) e s'->False):
  Gq q loose XP YP l.row.toRowW d [] (λf vs=>Gi f vs):=by
 show Att.HJ hn hdf λw s₀ s₁ mg mb fa o pm cd doc a vs ns G Y ho hd hcd hmg hobj hints hlen hg=>?_;have KX:=hY w _ Y;obtain⟨fd,hb,hF⟩:=F w mg fa _ KX G.T.g hmg;have hT:∀t∈eF (K w.params),CodeHd s₁.heap t.2.1 t.2.2/\s₁.heap.get? t.2.2=aa (tabObj #[]):=λt ht=>by obtain⟨e,he⟩:=(tj w).rc t ht;show PySem.W.tab_of G.T KX he (K3 ht)
 show WN KX G.T.g G.T.b G.T.builtins G.T.nolimit G.T.bmain hT (tj w).nd (hnt w) hg hobj hints (gx hlen hn2) hr hF hb (λH hO hS=>hsp w H a ns hlen hO hS) λH e s'=>wj w H s₁ e s'
noncomputable def sO(s:bx):Hb:=match s with
 |.FunctionDef _ a _ _ _ _ _ _ _ _=>a
 |_=>{posonlyargs:=[],args:=[],vararg:=ae,kwonlyargs:=[],kw_defaults:=[],kwarg:=ae,defaults:=[]}
noncomputable def fL(s:bx):List bx:=match s with
 |.FunctionDef _ _ b _ _ _ _ _ _ _=>b
 |_=>[]
noncomputable def bB(s:bx):fq:=match s with
 |.FunctionDef _ _ _ _ _ _ sc _ _ _=>sc
 |_=>{kind:=.function,names:=[],isGenerator:=ag,isCoroutine:=ag}
abbrev cC:KY:=λ_ _ _ _ _ _=>False
abbrev E0:XK:=λ_ _ _=>False
def OP:Passes cC X E0:=λ_ _ _ _ _ _ _ h=>h.elim
structure Y9 (K:ao) (x qual:aj) (st:bx) (f:ah) (fd:fv):Prop where
 ex:∃(oc:ai) (od:Option ah) (kV doc pm:ai) (an:Option ah) (cdv ct:ai) (osl:Array (Option ai)),
  fd=fnOf x qual (sO st) (fL st) (bB st) .none kV doc pm an cdv ct/\K.lookup f=aa ⟨oc,od,.func fd,osl⟩/\codeIn K cdv qual=af
 kp:keepIn K (.ref f)=af
section
variable{P:bc}{w:ba}{K:ao}{mg:Q0d}{ω:ay}
theorem Y9.ok{x qual:aj}{st:bx}{f:ah}{fd:fv}{N ps:Q0g}{k:Nat}{sp:Sp}(F:Y9 K x qual st f fd)(S:gO N ps (bB st))(len:∀vs H Q E,sp vs H Q E->vs.length=ps.length)
  (hbody:∀(cdv:ai) (A:bq) (Γ:List dh) (s:ak) (H:Hp) (vs:List V) (Q:VK) (E:XK),fS k (A.deeper (envOfC qual (bB st) s.heap.objs.size f cdv))->sp vs H Q E ->
   ∃t,AZ (m8 cC P w K mg ω N qual (bB st) f cdv A Γ s H E).OB (fL st) t/\t {nx:=λ_ H'=>Q .non H',rt:=Q} (start N vs) H):lG P w K mg ω cC (k+1) f fd ps sp:=by
 obtain⟨oc,od,kV,doc,pm,an,cdv,ct,osl,rfl,lk,hcd⟩:=F.ex;show V9 lk hcd S len λA Γ s H vs Q E hr hsp=>?_;obtain⟨t,h,q⟩:=hbody cdv A Γ s H vs Q E hr hsp;show⟨t,h.OB,q⟩
theorem aDu{x qual:aj}{st:bx}{f:ah}{oc:ai}{od an:Option ah}{osl:Array (Option ai)}{kV doc pm cdv ct:ai}(l:K.lookup f=aa ⟨oc,od,.func (fnOf x qual (sO st) (fL st) (bB st) .none kV doc pm an cdv ct),osl⟩)
  (c:codeIn K cdv qual=af) (k:keepIn K (.ref f)=af):Y9 K x qual st f (fnOf x qual (sO st) (fL st) (bB st) .none kV doc pm an cdv ct):=⟨⟨oc,od,kV,doc,pm,an,cdv,ct,osl,rfl,l,c⟩,k⟩
end
def ξ(H H':Hp):Prop:=∀b o,H b=aa o->H' b=aa o
def ξ.refl(H:Hp):ξ H H:=λ_ _ h=>h
def ξ.trans{H H1 H2:Hp}(a:ξ H H1)(b:ξ H1 H2):ξ H H2:=λc o h=>b c o (a c o h)
theorem ξ.free{H H':Hp}(e:ξ H H'){l:ah}(h:H' l=ae):H l=ae:=by
 cases q:H l with
 |none=>rfl
 |some o =>
  rw[e l o q] at h;cases h
section
variable{κ:Type}[DecidableEq κ]
def nO(χ:List (κ×V))(k:κ):Option V:=(χ.find? λkv=>Zv (kv.1=k)).map (·.2)
def putK(χ:List (κ×V))(k:κ)(v:V):List (κ×V) :=
 if(χ.any λkv=>Zv (kv.1=k))=af then χ.map (λkv=>if kv.1=k then(kv.1,v) else kv) else χ++[(k,v)]
def zP{p:κ×V}{r:List (κ×V)}{k:κ}(e:p.1=k):nO (p::r) k=aa p.2:=by simp[nO,ig,e]
def zQ{p:κ×V}{r:List (κ×V)}{k:κ}(e:¬ p.1=k):nO (p::r) k=nO r k:=by simp[nO,ig,e]
theorem zR(k:κ):∀χ:List (κ×V),(χ.any λkv=>Zv (kv.1=k))=(nO χ k).isSome
 |[]=>rfl
 |p::r=>by
  rw[mf];by_cases e:p.1=k
  .simp only[zP e,Zx e,Bool.true_or,Option.isSome_some]
  .rw [zQ e,Zy e,Bool.false_or];show zR k r
def vO(χ:List (κ×V))(k:κ)(v:V):(putK χ k v).length<=χ.length+1:=by
 unfold putK;split
 .rw [a_];lia
 .rw [di,cx,iq];lia
def WR{χ:List (κ×V)}{k:κ}(v:V)(h:nO χ k=ae):putK χ k v=χ++[(k,v)]:=by unfold putK;rw[zR,h];show Zz (by decide)
theorem qQ.pN(r:qQ o u):o.isSome=u.isSome:=by
 cases o with
 |none=>cases u with
  |none=>rfl
  |some _=>show(show False from r).elim
 |some _=>cases u with
  |none=>show(show False from r).elim
  |some _=>rfl
theorem KV.val{χ:List (κ×V)}{vs:List (κ×ai)}(r:KV χ vs)(k:κ):qQ (nO χ k) (valueAt vs k):=by
 unfold KV at r
 induction r with
 |nil=>show jt
 | @cons p q ps qs h t ih =>
  obtain⟨h1,h2⟩:=h;by_cases e:p.1=k
  .have e':q.1=k:=h1.symm.trans e;have b:valueAt (q::qs) k=aa q.2:=by simp[valueAt,ig,e']
   rw[zP e,b];show h2
  .have e':¬ q.1=k:=λz=>e (h1.trans z);have b:valueAt (q::qs) k=valueAt qs k:=by simp[valueAt,ig,e']
   rw[zQ e,b];show ih
theorem KV.any{χ:List (κ×V)}{vs:List (κ×ai)}(r:KV χ vs)(k:κ):(χ.any λkv=>Zv (kv.1=k))=vs.any λkv=>Zv (kv.1=k):=by
 unfold KV at r
 induction r with
 |nil=>rfl
 |cons h t ih=>rw[mf,mf,ih,h.1]
theorem KV.repl(r:KV χ vs)(k:κ)(ry:Ψ y u):
  KV (χ.map λkv=>if kv.1=k then(kv.1,y) else kv) (vs.map λkv=>if kv.1=k then(kv.1,u) else kv):=by
 unfold KV at r ⊢
 induction r with
 |nil=>show .nil
 | @cons p q ps qs h t ih =>
  rw[bj,bj];show .cons ?_ ih;obtain⟨h1,h2⟩:=h;by_cases e:p.1=k
  .rw [Z_ e,Z_ (h1.symm.trans e)];show⟨h1,ry⟩
  .rw [Zz e,Zz (λz=>e (h1.trans z))];show⟨h1,h2⟩
def KV.put(r:KV χ vs)(k:κ)(ry:Ψ y u):KV (putK χ k y) (stored vs k u):=by
 unfold putK stored;rw[r.any k];by_cases e:(vs.any λkv=>Zv (kv.1=k))=af
 .rw [Z_ e,Z_ e];show r.repl k ry
 .rw [Zz e,Zz e];show yy r ⟨rfl,ry⟩
def KV.length{χ:List (κ×V)}{vs:List (κ×ai)}(r:KV χ vs):χ.length=vs.length:=qt r
end
theorem vP(r:Ψ (kV k) u):(bI P w).is k u=af:=by
 cases k with
 |inl i=>obtain⟨t,e⟩:=(show ∃t,u=jv i t from r);subst e;show HA P w i t
 |inr x=>obtain⟨t,e⟩:=(show ∃t,u=yw x t from r);subst e;show HB P w x t
theorem CL:∀{ks:List Key} {us:Q0f},θ (ks.map kV) us->ItemsAre (bI P w) ks us
 |[],_,r=>by rw[ma] at r;cases r;show .nil
 |k::ks,_,r=>by
  rw[bj] at r
  cases r with
  |cons h t=>show .cons (vP h) (CL t)
abbrev KT(H:Hp):List (List Key×V)->List (List Key×ah×ai)->Prop:=i_ λp q=>p.1=q.1/\H q.2.1=aa (.tup (p.1.map kV))/\Ψ p.2 q.2.2
theorem KT.val{H:Hp}{χ:List (List Key×V)}{xs:List (List Key×ah×ai)}(r:KT H χ xs)(k:List Key):qQ (nO χ k) ((atKey xs k).map (·.2)):=by
 induction r with
 |nil=>show jt
 | @cons p q ps qs h t ih =>
  obtain⟨h1,_,h2⟩:=h;by_cases e:p.1=k
  .have e':q.1=k:=h1.symm.trans e;have b:atKey (q::qs) k=aa q.2:=by simp[atKey,ig,e']
   rw[zP e,b];show h2
  .have e':¬ q.1=k:=λz=>e (h1.trans z);have b:atKey (q::qs) k=atKey qs k:=by simp[atKey,ig,e']
   rw[zQ e,b];show ih
theorem KT.repl(r:KT H χ xs)(k:List Key)(ry:Ψ y u):
  KT H (χ.map λkv=>if kv.1=k then(kv.1,y) else kv) (xs.map (putAt k u)):=by
 induction r with
 |nil=>show .nil
 | @cons p q ps qs h t ih =>
  rw[bj,bj];show .cons ?_ ih;obtain⟨h1,h2,h3⟩:=h;unfold putAt;by_cases e:p.1=k
  .rw [Z_ e,Z_ (h1.symm.trans e)];show⟨h1,h2,ry⟩
  .rw [Zz e,Zz (λz=>e (h1.trans z))];show⟨h1,h2,h3⟩
theorem KT.put(r:KT H χ xs)(k:List Key)(hb:H b=aa (.tup (k.map kV)))(ry:Ψ y u):
  KT H (putK χ k y) (storedH xs k b u):=by
 have e:(χ.any λkv=>Zv (kv.1=k))=(atKey xs k).isSome:=by rw[zR,(r.val k).pN,zz]
 unfold putK storedH;rw[e];by_cases q:(atKey xs k).isSome=af
 .rw [Z_ q,Z_ q];show r.repl k ry
 .rw [Zz q,Zz q];show yy r ⟨rfl,hb,ry⟩
def KT.keeps(r:KT H χ xs)(ht:∀b ys,H b=aa (.tup ys)->H' b=aa (.tup ys)):KT H' χ xs :=
 Paired.xr r λ_ _ z=>⟨z.1,ht _ _ z.2.1,z.2.2⟩
section
variable{P:bc}{w:ba}{H:Hp}{h:ay}{a:ah}
def Dz(ok:pK P w H h)(e:Rd H a u):dG P w H h a u:=e.ok ok
def WU(ok:pK P w H h)(e:Rd H a (.dK χ)):χ.length<=bb/\(a == sysModules)=ag /\∃vs,KV χ vs/\h.DictOf (bI P w) a vs :=
 show dG P w H h a (.dK χ) from Dz ok e
def Yd(ok:pK P w H h)(e:H a=aa (.dK χ)):χ.length<=bb/\(a == sysModules)=ag /\∃vs,KV χ vs/\h.DictOf (bI P w) a vs:=WU ok (.inl e)
def E5(ok:pK P w H h)(e:H a=aa (.tup (ks.map kV))):(tupleKind (bI P w)).is h ks a:=by obtain⟨_,ι,r,⟨o,h1,h2,n,h3⟩,_⟩:=(show dG P w H h a (.tup (ks.map kV)) from ok a _ e);show⟨o,ι.toArray,n,h1,h2,h3,by simpa using CL r⟩
theorem WV(ok:pK P w H h)(e:Rd H a (.dT χ)):χ.length<=bb/\(a == sysModules)=ag /\
  ∃xs,KT H χ xs/\h.DictOfH (tupleKind (bI P w)) a xs:=by
 obtain⟨z,y,xs,r,o,es,ep,h1,h2,h3,h4,h5⟩:=(show dG P w H h a (.dT χ) from Dz ok e);show⟨z,y,xs,r,o,es,ep,h1,h2,h3,h4,λx hx=>?_,h5⟩;have all:∀{l:List (List Key×V)} {m:List (List Key×ah×ai)},KT H l m ->∀x∈m,(tupleKind (bI P w)).is h x.1 x.2.1:=by
  intro l m q
  induction q with
  |nil=>intro x hx;show nomatch hx
  | @cons p q ps qs hq t ih =>
   intro x hx;rcases bh.mp hx with e|hx
   .subst e;show E5 ok (by rw[<- hq.1];show hq.2.1)
   .exact ih x hx
 show all r x hx
theorem Yc(ok:pK P w H h)(e:H a=aa (.dT χ)):χ.length<=bb/\(a == sysModules)=ag /\
  ∃xs,KT H χ xs/\h.DictOfH (tupleKind (bI P w)) a xs:=WV ok (.inl e)
end
def Q4(H:Hp)(a:ah)(y:V)(r:Option V):Prop :=
 (∃χ k,Rd H a (.dK χ)/\y=kV k/\r=nO χ k) \/∃χ k b,Rd H a (.dT χ)/\y=.ref b/\H b=aa (.tup (k.map kV))/\r=nO χ k
def WW(H:Hp)(a:ah)(y v:V)(H':Hp):Prop :=
 (∃χ k,H a=aa (.dK χ)/\y=kV k/\χ.length<bb/\H'=upd H a (.dK (putK χ k v))) \/
 ∃χ k b,H a=aa (.dT χ)/\y=.ref b/\H b=aa (.tup (k.map kV))/\χ.length<bb/\H'=upd H a (.dT (putK χ k v))
def Q4.k{H:Hp}{a:ah}{χ:List (Key×V)}{k:Key}(e:H a=aa (.dK χ)):Q4 H a (kV k) (nO χ k):=.inl ⟨χ,k,.inl e,rfl,rfl⟩
def WW.k{H:Hp}{a:ah}{χ:List (Key×V)}{k:Key}{v:V}(e:H a=aa (.dK χ))(hl:χ.length<bb):WW H a (kV k) v (upd H a (.dK (putK χ k v))):=.inl ⟨χ,k,e,rfl,hl,rfl⟩
section
variable{X:Cx}{π:Q0b}{σ:St}{H:Hp}{s:ak}{a:ah}{y v:V}{u r:ai}{o:Option V}{A:bq}{E:Q0c}
def Φ.big(I:Φ X π σ H s):sysModules<s.heap.objs.size:=by have h:df<s.heap.objs.size:=(I.mod.glob.keeps I.bk).lt;show a1M (by decide) h
theorem Q5(hu:A.units+1<cz)(I:Φ X π σ H s)(g:Q4 H a y (aa v))(ry:Ψ y u)(h:∀w' s',Φ X π σ H s'->Ψ v w'->Q w' s'):
  au (av X.Ω X.w) A (getItem (.ref a) u) Q E s:=by
 rcases g with⟨χ,k,e,ey,l⟩|⟨χ,k,b,e,ey,eb,l⟩
 .subst ey;obtain⟨z,hd,vs,rel,dd⟩:=WU I.hok e;obtain⟨w',hw,HH⟩:=qQ.some_of (v:=v) (o:=valueAt vs k) (by rw[l];show rel.val k);show a0l (vP ry) dd.mapOf hw (h w' _ (I.tok _) HH)
 .subst ey;cases (show u=cp b from ry);obtain⟨z,hd,xs,rel,dd⟩:=WV I.hok e;obtain⟨w',hw,HH⟩:=qQ.some_of (v:=v) (o:=(atKey xs k).map (·.2)) (by rw[l];show rel.val k);obtain⟨p,hp,hp2⟩:=ip.mp hw;show a0m (a0r hu) (E5 I.hok eb) dd hp ?_;rw[hp2];show h w' _ (I.tok _) HH
theorem xK(I:Φ X π σ H s)(mu:Mut (H a))(hs:m_ a s.heap h')(he:∃q,h'.get? a=aa q)(new:dG X.Ω X.w (upd H a ob) h' a ob):
  Φ X π σ (upd H a ob) {s with heap:=h',toks:=t' } :=
 I.write (x:=a) (e:=a) mu (.inl rfl) (λb q hb z=>(hs.2 b hb).trans z) he new
theorem aDv(z:χ.length<=bb)(hd:(a == sysModules)=ag)(rel:KV χ vs)(dd:h'.DictOf (bI P w) a vs):
  dG P w H' h' a (.dK χ):=⟨z,hd,vs,rel,dd⟩
theorem Q6(hu:A.units+1<cz)(I:Φ X π σ H s)(g:WW H a y v H')(ry:Ψ y u)(rv:Ψ v r)(h:∀s',Φ X π σ H' s'->Q () s'):
  au (av X.Ω X.w) A (setItem (.ref a) u r) Q E s:=by
 rcases g with⟨χ,k,e,ey,l,eH⟩|⟨χ,k,b,e,ey,eb,l,eH⟩
 .subst ey eH;obtain⟨z,hd,vs,rel,dd⟩:=Yd I.hok e;have hz:vs.length<=bb:=by rw[<- rel.length];show z
  have hl:(putK χ k v).length<=bb:=by have:=vO χ k v;lia
  show a0d (hsz:=hz) (vP ry) dd λh' dd' hs=>h _ ?_;have he:∃q,h'.get? a=aa q:=let ⟨q,_,_,hq,_⟩:=dd';⟨q,hq⟩;show xK I (by rw[e];show jt) hs he (aDv hl hd (rel.put k rv) dd')
 .subst ey eH;cases (show u=cp b from ry);obtain⟨z,hd,xs,rel,dd⟩:=Yc I.hok e;have hz:xs.length<=bb:=by rw[<- qt rel];show z
  have hl:(putK χ k v).length<=bb:=by have:=vO χ k v;lia
  show a0e (hsz:=hz) (a0r hu) (E5 I.hok eb) dd λh' dd' hs=>h _ ?_;obtain⟨q,es,ep,hq,h2,h3,h4,_,h5⟩:=dd';show xK I (by rw[e];show jt) hs ⟨q,hq⟩ ⟨hl,hd,_,(rel.put k eb rv).keeps λc ys ec=>?_,q,es,ep,hq,h2,h3,h4,h5⟩;rw[aV (Ee ec e (λz=>nomatch z))];show ec
end
def K5(i:aw):Prop:=∀ov iv,subscripted i ag ov iv=operate [ov,iv] (getItem ov iv)
theorem OQ{Ω:bc}{w:ba}{A:bq}{E:Q0c}{s:ak}{env:dh}{value slice:aw}{ν:bf}{T id:String}{Q:Q0c}
  (hl:typeLookup (.type T) "__getitem__"=pure (aa (.builtin id))) (hs:K5 slice)
  (h:au (av Ω w) A (eval value env) (λo s₁=>au (av Ω w) A (eval slice env) (λi s₂=>s₂.TypeIs o T/\au (av Ω w) A (getItem o i) Q E s₂) E s₁) E s):
  au (av Ω w) A (eval (.Subscript value slice ν) env) Q E s:=by
 show Hk (ik h (λo s₁ h₁=>ik h₁ (λi s₂ h₂=>?_) λ_ _ x=>x) λ_ _ x=>x);obtain⟨hT,h₂⟩:=h₂;unfold subscriptTail;show aq ?_;rw[getitemInPython_of_ne hT.not_modules];show aq (Fn hT hl ?_);have fin:au (av Ω w) A (subscripted slice ag o i) (λr s₃=>au (av Ω w) A (letTemporaryGo value o r >>= λ_=>pure r) Q E s₃) E s₂:=by rw[hs o i];show wpAny_operating (ik h₂ (λr s₃ h₃=>aq (wpAny_letTemporaryGo (az h₃))) λ_ _ x=>x)
 first
  |show az (aq fin)
  |show aq (az (aq fin))
  |show aq fin
def HK(I:Φ X π σ H s)(g:Q4 H a y o):s.TypeIs (.ref a) "dict":=by
 rcases g with⟨χ,k,e,_,_⟩|⟨χ,k,b,e,_,_,_⟩
 .obtain ⟨_,_,vs,_,dd⟩:=WU I.hok e;show dd.typeIs
 .obtain ⟨_,_,xs,_,dd⟩:=WV I.hok e;show dd.typeIs
def Yb(td ty:TE):TE:=λσ H Q=>td σ H λx H1=>ty σ H1 λy H2=>∃a v,x=.ref a/\Q4 H2 a y (aa v)/\Q v H2
def Ya(td ty tv:TE):TS:=λD σ H=>tv σ H λv H1=>td σ H1 λx H2=>ty σ H2 λy H3=>∃a H4,x=.ref a/\WW H3 a y v H4/\D.nx σ H4
section
variable{X:Cx}{o i e value:aw}{ν pos' tpos:bf}{td ty tv:TE}
def aAk(hu:X.A.units+1<cz)(ho:PE X o td)(hi:PE X i ty)(hs:K5 i):PE X (.Subscript o i ν) (Yb td ty):=by intro π s σ H Q I h;show OQ a1g.lookup hs (eI (ho π s σ H _ I h) λu s1 ⟨x,H1,I1,rx,q1⟩=>eI (hi π s1 σ H1 _ I1 q1) λiv s2 ⟨y,H2,I2,ry,a,v,ex,g,q2⟩=>?_);subst ex;obtain rfl:u=cp a:=rx;show⟨HK I2 g,Q5 hu I2 g ry λw' s3 I3 HH=>⟨v,H2,I3,HH,q2⟩⟩
theorem aAl(hu:X.A.units+1<cz)(ho:PE X o td)(hi:PE X i ty)(hv:PE X value tv)(hs:dq value (aa (.Subscript o i pos')) ν.line X.env=pure ag):
  PS X (.Assign [.Subscript o i pos'] value ν) (Ya td ty tv):=by
 intro π s σ H D I h;show a0q (eI (hv π s σ H _ I h) λr s1 ⟨v,H1,I1,rv,q1⟩=>eI (ho π s1 σ H1 _ I1 q1) λu s2 ⟨x,H2,I2,rx,q2⟩=>eI (hi π s2 σ H2 _ I2 q2) λiv s3 ⟨y,H3,I3,ry,a,H4,ex,g,q3⟩=>?_) hs;subst ex;obtain rfl:u=cp a:=rx;show Q6 hu I3 g ry rv λs4 I4=>⟨σ,H4,I4,q3⟩
end
def WY(h:ay)(hb:sysModules<h.objs.size):dG P w H (h.push {cls:=.type "dict",data:=.dict #[]}) h.objs.size (.dK []) :=
 ⟨jm _,beq_eq_false_iff_ne.mpr (d_ (e_ hb)),[],.nil,a2Y h⟩
def aDw:TE:=λ_ H Q=>∀p,H p=ae->Q (.ref p) (upd H p (.dK []))
section
variable{X:Cx}{ν:bf}
def WZ:PE X (.Dict [] [] ν) aDw:=λπ s σ H Q I h =>
 a0p ⟨.ref s.heap.objs.size,_,I.laid (a:=s.heap.objs.size) (o:=.dK []) (t':=s.toks) (λ_ _ q=>cn _ q) (bg _) (WY s.heap I.big),rfl,h _ (I.hok.fresh (bg _))⟩
end
end L2
end
namespace L3
open L2
def Scr(K:ao)(H:Hp)(a:ah)(ns:Q0e):Prop:=(∃o,H a=aa (.xF o (.lst (ns.map V.int))))\/eW K (λ_=>ae) a (ns.map V.int)
def Rw(S:ah->Prop)(H:Hp)(xs:Q0a)(p:ah):Prop:=∃as:List ah,H p=aa (.lst (as.map V.ref))/\as.Nodup/\(∀a∈as,S a)/\as.map H=xs.map λx=>aa (.lst (x.map V.int))
mutual
noncomputable def Dn(K:ao)(S:ah->Prop)(H:Hp):D->V->Prop
 |.non,v=>v=.non
 |.bl b,v=>v=.bl b
 |.int i,v=>v=.int i
 |.str x,v=>v=.str x
 |.tup ds,v=>∃a xs,v=.ref a/\H a=aa (.tup xs)/\aW K S H ds xs
 |.lst ds,v=>∃a xs,v=.ref a/\H a=aa (.lst xs)/\S a/\aW K S H ds xs
 |.j6 ns,v=>∃a,v=.ref a/\Scr K H a ns
 |.kZ ks ds,v=>∃a xs,v=.ref a/\H a=aa (.dK (ks.zip xs))/\S a/\ks.length=xs.length/\aW K S H ds xs
 |.c8 q ks ds,v=>∃a o χ,v=.ref a/\H a=aa (.dX o χ)/\S a/\(χ.map (·.1)=ks/\q a o)/\aW K S H ds (χ.map (·.2.2))
 |.exc _ a,v=>v=.ref a
 |.rws xs,v=>∃a,v=.ref a/\S a/\Rw S H xs a
noncomputable def aW(K:ao)(S:ah->Prop)(H:Hp):List D->List V->Prop
 |[],xs=>xs=[]
 |d::ds,xs=>∃v r,xs=v::r/\Dn K S H d v/\aW K S H ds r
end
structure Fits (K:ao) (S S':ah->Prop) (H H':Hp):Prop where
 t:∀a xs,H a=aa (.tup xs)->H' a=aa (.tup xs)
 s:∀a ns,Scr K H a ns->Scr K H' a ns
 l:∀a xs,H a=aa (.lst xs)->S a->H' a=aa (.lst xs)/\S' a
 d:∀a xs,H a=aa (.dK xs)->S a->H' a=aa (.dK xs)/\S' a
 e:∀a o xs,H a=aa (.dX o xs)->S a->H' a=aa (.dX o xs)/\S' a
section
variable{K:ao}{S S':ah->Prop}{H H':Hp}
def Rw.fits(f:Fits K S S' H H')(hp:∀ys,H p=aa (.lst ys)->H' p=aa (.lst ys))(h:Rw S H xs p):Rw S' H' xs p:=by
 obtain⟨as,h1,h2,h3,h4⟩:=h;have hl:as.length=xs.length:=by have:=congrArg ny h4;simpa using this
 have at1:∀i (hi:i<as.length),H as[i]=aa (.lst ((xs[i]'(hl▸hi)).map V.int)):=λi hi=>by have:=congrArg (λl=>l[i]?) h4;simpa[hi,hl▸hi] using this
 show⟨as,hp _ h1,h2,λa ha=>?_,Ii (by simpa using hl) λi hi hi2=>?_⟩
 .obtain ⟨i,hi,rfl⟩:=Ag ha;show(f.l _ _ (at1 i hi) (h3 _ ha)).2
 .rw [a_] at hi;rw[qd,qd];show(f.l _ _ (at1 i hi) (h3 _ (k_ hi))).1
mutual
theorem Dn.fits(f:Fits K S S' H H'):∀(d:D) (v:V),Dn K S H d v->Dn K S' H' d v
 |.non,v,h=>by simpa only[Dn] using h
 |.bl b,v,h=>by simpa only[Dn] using h
 |.int i,v,h=>by simpa only[Dn] using h
 |.str x,v,h=>by simpa only[Dn] using h
 |.tup ds,v,h=>by symm at h ⊢;obtain⟨a,xs,e,q,r⟩:=h;show⟨a,xs,e,f.t a xs q,aW.fits f ds xs r⟩
 |.lst ds,v,h=>by symm at h ⊢;obtain⟨a,xs,e,q,s,r⟩:=h;obtain⟨q',s'⟩:=f.l a xs q s;show⟨a,xs,e,q',s',aW.fits f ds xs r⟩
 |.j6 ns,v,h=>by symm at h ⊢;obtain⟨a,e,q⟩:=h;show⟨a,e,f.s a ns q⟩
 |.kZ ks ds,v,h=>by symm at h ⊢;obtain⟨a,xs,e,q,s,l,r⟩:=h;obtain⟨q',s'⟩:=f.d a _ q s;show⟨a,xs,e,q',s',l,aW.fits f ds xs r⟩
 |.c8 _ ks ds,v,h=>by symm at h ⊢;obtain⟨a,o,χ,e,q,s,l,r⟩:=h;obtain⟨q',s'⟩:=f.e a _ _ q s;show⟨a,o,χ,e,q',s',l,aW.fits f ds _ r⟩
 |.exc _ _,v,h=>by simpa only[Dn] using h
 |.rws xs,v,h=>by symm at h ⊢;obtain⟨a,e,s,r⟩:=h;obtain⟨as,h1,h2⟩:=r;show⟨a,e,(f.l a _ h1 s).2,Rw.fits f (λys e1=>(f.l a ys e1 s).1) ⟨as,h1,h2⟩⟩
theorem aW.fits(f:Fits K S S' H H'):∀(ds:List D) (xs:List V),aW K S H ds xs->aW K S' H' ds xs
 |[],xs,h=>by simpa only[aW] using h
 |d::ds,xs,h=>by simp only[aW] at h ⊢;obtain⟨v,r,e,h1,h2⟩:=h;show⟨v,r,e,Dn.fits f d v h1,aW.fits f ds r h2⟩
end
mutual
theorem Dn.Q7:∀(d:D) (v:V),d.A2=af->Dn K S H d v->Dn K S' H d v
 |.non,v,_,h=>by simpa only[Dn] using h
 |.bl b,v,_,h=>by simpa only[Dn] using h
 |.int i,v,_,h=>by simpa only[Dn] using h
 |.str x,v,_,h=>by simpa only[Dn] using h
 |.tup ds,v,hi,h=>by symm at h ⊢;obtain⟨a,xs,e,q,r⟩:=h;show⟨a,xs,e,q,aW.Q7 ds xs (by simpa only[D.A2] using hi) r⟩
 |.lst _,v,hi,h=>by simp only[D.A2] at hi;cases hi
 |.j6 ns,v,_,h=>by simpa only[Dn] using h
 |.kZ _ _,v,hi,h=>by simp only[D.A2] at hi;cases hi
 |.c8 _ _ _,v,hi,h=>by simp only[D.A2] at hi;cases hi
 |.exc _ _,v,_,h=>by simpa only[Dn] using h
 |.rws _,v,hi,h=>by simp only[D.A2] at hi;cases hi
theorem aW.Q7:∀(ds:List D) (xs:List V),rH ds=af->aW K S H ds xs->aW K S' H ds xs
 |[],xs,_,h=>by simpa only[aW] using h
 |d::ds,xs,hi,h=>by simp only[rH,iu] at hi;simp only[aW] at h ⊢;obtain⟨v,r,e,h1,h2⟩:=h;show⟨v,r,e,Dn.Q7 d v hi.1 h1,aW.Q7 ds r hi.2 h2⟩
end
def Dn.A2(hi:d.A2=af)(h:Dn K S H d v):Dn K S' H d v:=Dn.Q7 d v hi h
def aW.A2(hi:rH ds=af)(h:aW K S H ds xs):aW K S' H ds xs:=aW.Q7 ds xs hi h
def eW.some(h:eW K (λ_=>ae) a xs):eW K H a xs:=by
 rcases h with(h|⟨o,h⟩)|h
 .cases h
 .cases h
 .exact .inr h
def Scr.sq(h:Scr K H a ns):eW K H a (ns.map V.int):=by
 rcases h with⟨o,h⟩|h
 .exact .inl (.inr ⟨o,h⟩)
 .exact eW.some h
def Wr(H:Hp)(p:ah):Prop:=(∃xs,H p=aa (.lst xs))\/(∃xs,H p=aa (.dK xs)) \/∃o xs,H p=aa (.dX o xs)
def Wr.tup(w:Wr H p)(h:H a=aa (.tup xs)):upd H p o a=aa (.tup xs):=by
 rw[aV]
 .exact h
 .intro e;subst e;rcases w with⟨ys,w⟩|⟨ys,w⟩|⟨_,ys,w⟩<;>rw[h] at w<;>cases w
def Wr.j6(w:Wr H p)(h:Scr K H a ns):Scr K (upd H p o) a ns:=by
 rcases h with⟨ob,h⟩|h
 .refine .inl ⟨ob,?_⟩;rw[aV]
  .exact h
  .intro e;subst e;rcases w with⟨ys,w⟩|⟨ys,w⟩|⟨_,ys,w⟩<;>rw[h] at w<;>cases w
 .exact .inr h
def Fits.same(e:ξ H H'):Fits K S S H H' :=
 ⟨λa xs h=>e _ _ h,λa ns h=>h.elim (λ⟨o,h⟩=>.inl ⟨o,e _ _ h⟩) .inr,λa xs h s=>⟨e _ _ h,s⟩,λa xs h s=>⟨e _ _ h,s⟩,λa _ xs h s=>⟨e _ _ h,s⟩⟩
def Fits.mono(m:∀a,S a->S' a):Fits K S S' H H :=
 ⟨λ_ _ h=>h,λ_ _ h=>h,λa _ h s=>⟨h,m a s⟩,λa _ h s=>⟨h,m a s⟩,λa _ _ h s=>⟨h,m a s⟩⟩
def Fits.fresh(hp:H p=ae):Fits K S (λa=>S a/\a≠p) H H :=
 ⟨λ_ _ h=>h,λ_ _ h=>h,λa _ h s=>⟨h,s,bN h hp⟩,λa _ h s=>⟨h,s,bN h hp⟩,λa _ _ h s=>⟨h,s,bN h hp⟩⟩
def Fits.upd(w:Wr H p)(hs:¬ S p):Fits K S S H (upd H p o):=by have ne:∀a,S a->a≠p:=λa s e=>hs (e▸s);show⟨λa xs h=>w.tup h,λa ns h=>w.j6 h,λa xs h s=>⟨by rw[aV (ne a s)];show h,s⟩,λa xs h s=>⟨by rw[aV (ne a s)];show h,s⟩,λa _ xs h s=>⟨by rw[aV (ne a s)];show h,s⟩⟩
def Fits.trans(a:Fits K S S' H H')(b:Fits K S' S'' H' H''):Fits K S S'' H H'' :=
 ⟨λx xs h=>b.t x xs (a.t x xs h),λx ns h=>b.s x ns (a.s x ns h),λx xs h s=>let ⟨h1,s1⟩:=a.l x xs h s;b.l x xs h1 s1,λx xs h s=>let ⟨h1,s1⟩:=a.d x xs h s;b.d x xs h1 s1,λx o xs h s=>let ⟨h1,s1⟩:=a.e x o xs h s;b.e x o xs h1 s1⟩
def aY(hp:H p=ae):ξ H (upd H p o):=λb u h=>by rw[aV (bN h hp)];show h
theorem aW.len:∀{ds:List D} {xs:List V},aW K S H ds xs->ds.length=xs.length
 |[],xs,h=>by simp only[aW] at h;subst h;rfl
 |d::ds,xs,h=>by simp only[aW] at h;obtain⟨v,r,e,_,h2⟩:=h;subst e;simp[aW.len h2]
theorem aW.get:∀{ds:List D} {xs:List V} {i:Nat} {d:D},aW K S H ds xs->ds[i]?=aa d ->∃v,xs[i]?=aa v/\Dn K S H d v
 |[],xs,i,d,h,e=>by simp at e
 |d::ds,xs,i,d',h,e=>by
  simp only[aW] at h;obtain⟨v,r,e1,h1,h2⟩:=h;subst e1
  cases i with
  |zero=>simp at e;subst e;show⟨v,by simp,h1⟩
  |succ i =>
   obtain⟨u,e2,q⟩:=aW.get (i:=i) (d:=d') h2 (by simpa using e);show⟨u,by simpa using e2,q⟩
def aW.nil:aW K S H [] []:=by simp only[aW]
def aW.cons(h:Dn K S H d v)(t:aW K S H ds xs):aW K S H (d::ds) (v::xs):=by simp only[aW];show⟨v,xs,rfl,h,t⟩
def aW.bO(h:aW K S H (d::ds) xs):∃v r,xs=v::r/\Dn K S H d v/\aW K S H ds r:=by simpa only[aW] using h
theorem aW.append:∀{ds es:List D} {xs ys:List V},aW K S H ds xs->aW K S H es ys->aW K S H (ds++es) (xs++ys)
 |[],es,xs,ys,h,g=>by simp only[aW] at h;subst h;show g
 |d::ds,es,xs,ys,h,g=>by obtain⟨v,r,e,h1,h2⟩:=h.bO;subst e;show aW.cons h1 (aW.append h2 g)
def aW.one(h:Dn K S H d v):aW K S H [d] [v]:=aW.cons h aW.nil
theorem aW.take:∀{ds:List D} {xs:List V} (n:Nat),aW K S H ds xs->aW K S H (ds.take n) (xs.take n)
 |_,_,0,_=>by simp[aW.nil]
 |[],xs,n+1,h=>by simp only[aW] at h;subst h;simp[aW.nil]
 |d::ds,xs,n+1,h=>by obtain⟨v,r,e,h1,h2⟩:=h.bO;subst e;simpa using aW.cons h1 (aW.take n h2)
theorem aW.drop:∀{ds:List D} {xs:List V} (n:Nat),aW K S H ds xs->aW K S H (ds.drop n) (xs.drop n)
 |_,_,0,h=>by simpa using h
 |[],xs,n+1,h=>by simp only[aW] at h;subst h;simp[aW.nil]
 |d::ds,xs,n+1,h=>by obtain⟨v,r,e,h1,h2⟩:=h.bO;subst e;simpa using aW.drop n h2
theorem aW.set:∀{ds:List D} {xs:List V} {d:D} {v:V} (n:Nat),Dn K S H d v->aW K S H ds xs->aW K S H (ds.set n d) (xs.set n v)
 |[],xs,d,v,n,h,g=>by simp only[aW] at g;subst g;simp[aW.nil]
 |d::ds,xs,d',v',n,h,g=>by
  obtain⟨v,r,e,h1,h2⟩:=g.bO;subst e
  cases n with
  |zero=>show aW.cons h h2
  |succ n=>show aW.cons h1 (aW.set n h h2)
theorem aW.erase:∀{ds:List D} {xs:List V} (n:Nat),aW K S H ds xs->aW K S H (ds.eraseIdx n) (xs.eraseIdx n)
 |[],xs,n,g=>by simp only[aW] at g;subst g;simp[aW.nil]
 |d::ds,xs,n,g=>by
  obtain⟨v,r,e,h1,h2⟩:=g.bO;subst e
  cases n with
  |zero=>show h2
  |succ n=>show aW.cons h1 (aW.erase n h2)
theorem aW.ints:∀{ns:Q0e} {xs:List V},aW K S H (ns.map D.int) xs↔xs=ns.map V.int
 |[],xs=>by simp[aW]
 |n::ns,xs=>by
  rw[bj,bj]
  constructor
  .intro h;obtain⟨v,r,e,h1,h2⟩:=h.bO;symm at h1;rw[e,h1,aW.ints.mp h2]
  .intro e;rw[e];show aW.cons (by symm) (aW.ints.mpr rfl)
end
def Sl(K:ao)(S:ah->Prop)(H:Hp)(ρ:dW)(σ:St):Prop:=∀(i:Nat) (d:D),ρ[i]?=aa (aa d) ->∃v,σ[i]?=aa (aa v)/\Dn K S H d v
theorem Sl.fits{K:ao}{S S':ah->Prop}{H H':Hp}{ρ:dW}{σ:St}(f:Fits K S S' H H')(h:Sl K S H ρ σ):Sl K S' H' ρ σ:=λi d e =>
 let ⟨v,e1,q⟩:=h i d e;⟨v,e1,Dn.fits f d v q⟩
def zS(K:ao)(S:ah->Prop)(H:Hp)(d:D)(p:ah):Prop :=
 match d with
 |.lst ds=>∃xs,H p=aa (.lst xs)/\aW K S H ds xs
 |.kZ ks ds=>∃xs,H p=aa (.dK (ks.zip xs))/\ks.length=xs.length/\aW K S H ds xs
 |.c8 q ks ds=>∃o χ,H p=aa (.dX o χ)/\(χ.map (·.1)=ks/\q p o)/\aW K S H ds (χ.map (·.2.2))
 |.rws xs=>Rw S H xs p
 |_=>False
def SO(S:ah->Prop)(w:Nat->ah)(ρ:bU):ah->Prop:=λa=>S a /\∀(i:Nat) (d:D),ρ[i]?=aa (Sv.ow d)->a≠w i
structure ST (K:ao) (H₀:Hp) (S:ah->Prop) (w:Nat->ah) (σ:St) (H:Hp) (ρ:bU) (G:List (D×V)):Prop where
 fc:∀a,H₀ a=ae->S a
 sm:ξ H₀ H
 own:∀(i:Nat) (d:D),ρ[i]?=aa (Sv.ow d)->σ[i]?=aa (aa (.ref (w i)))/\H₀ (w i)=ae/\zS K (SO S w ρ) H d (w i)
 inj:∀(i j:Nat) (d e:D),ρ[i]?=aa (Sv.ow d)->ρ[j]?=aa (Sv.ow e)->w i=w j->i=j
 ro:∀(i:Nat) (d:D),ρ[i]?=aa (Sv.ro d) ->∃v,σ[i]?=aa (aa v)/\Dn K (SO S w ρ) H d v
 gh:∀g∈G,Dn K (SO S w ρ) H g.1 g.2
 rw:∀(i:Nat) (xs:Q0a),ρ[i]?=aa (Sv.ow (.rws xs)) ->∀ys,H (w i)=aa (.lst ys) ->∀a,V.ref a∈ys->H₀ a=ae
section
variable{K:ao}{H₀ H H':Hp}{S S':ah->Prop}{w:Nat->ah}{σ:St}{ρ:bU}{G:List (D×V)}
theorem zS.wr(h:zS K S H d p):Wr H p:=by
 cases d with
 |lst ds=>obtain⟨xs,e,_⟩:=h;show .inl ⟨_,e⟩
 |kZ ks ds=>obtain⟨xs,e,_⟩:=h;show .inr (.inl ⟨_,e⟩)
 |c8 q0 ks ds=>obtain⟨o,χ,e,_⟩:=h;show .inr (.inr ⟨_,_,e⟩)
 |rws xs=>obtain⟨_,e,_⟩:=h;show .inl ⟨_,e⟩
 |_=>show js h
theorem zS.dn{d:D}{p:ah}(h:zS K S H d p)(hs:S' p)(m:∀a,S a->S' a):Dn K S' H d (.ref p):=by
 cases d with
 |lst ds=>obtain⟨xs,e,q⟩:=h;symm;show⟨p,xs,rfl,e,hs,aW.fits (.mono m) ds xs q⟩
 |kZ ks ds=>obtain⟨xs,e,l,q⟩:=h;symm;show⟨p,xs,rfl,e,hs,l,aW.fits (.mono m) ds xs q⟩
 |c8 q0 ks ds=>obtain⟨o,χ,e,l,q⟩:=h;symm;show⟨p,o,χ,rfl,e,hs,l,aW.fits (.mono m) ds _ q⟩
 |rws xs=>symm;show⟨p,rfl,hs,Rw.fits (.mono (K:=K) m) (λ_ e=>e) h⟩
 |_=>show js h
theorem zS.fits{d:D}{p:ah}(f:Fits K S S' H H')(hp:∀o,H p=aa o->H' p=aa o)(h:zS K S H d p):zS K S' H' d p:=by
 cases d with
 |lst ds=>obtain⟨xs,e,q⟩:=h;show⟨xs,hp _ e,aW.fits f ds xs q⟩
 |kZ ks ds=>obtain⟨xs,e,l,q⟩:=h;show⟨xs,hp _ e,l,aW.fits f ds xs q⟩
 |c8 q0 ks ds=>obtain⟨o,χ,e,l,q⟩:=h;show⟨o,χ,hp _ e,l,aW.fits f ds _ q⟩
 |rws xs=>show Rw.fits f (λ_ e=>hp _ e) h
 |_=>show js h
def ST.rwN(h:ST K H₀ S w σ H ρ G)(q:ρ[i]?=aa (Sv.ow (.rws xs)))(hp:∀o,H (w i)=aa o->H' (w i)=aa o):∀ys,H' (w i)=aa (.lst ys) ->∀a,V.ref a∈ys->H₀ a=ae:=λys hy=>by obtain⟨as,e,_⟩:=(h.own i _ q).2.2;rw[hp _ e] at hy;cases hy;show h.rw i xs q _ e
def ST.K6(h:ST K H₀ S w σ H ρ G):∀a,H a=ae->S a:=λa e=>h.fc a (h.sm.free e)
def ST.OR(h:ST K H₀ S w σ H ρ G):∀a,H a=ae->SO S w ρ a:=λa e=>⟨h.K6 a e,λi d q z=>by have wr:=(h.own i d q).2.2.wr;subst z;rcases wr with⟨xs,k⟩|⟨xs,k⟩|⟨_,xs,k⟩<;>rw[e] at k<;>cases k⟩
theorem A8{i:Nat}{d:D}(h:(bR ρ)[i]?=aa (aa d)):ρ[i]?=aa (Sv.ro d)\/ρ[i]?=aa (Sv.ow d):=by
 unfold bR at h;rw[cf] at h
 cases e:ρ[i]? with
 |none=>rw[e] at h;cases h
 |some s =>
  rw[e] at h
  cases s with
  |no=>cases h
  |ro d'=>cases h;show .inl rfl
  |ow d'=>cases h;show .inr rfl
theorem E6{i:Nat}{d:D}(h:(jL ρ)[i]?=aa (aa d)):ρ[i]?=aa (Sv.ro d):=by
 unfold jL at h;rw[cf] at h
 cases e:ρ[i]? with
 |none=>rw[e] at h;cases h
 |some s =>
  rw[e] at h
  cases s with
  |no=>cases h
  |ro d'=>cases h;rfl
  |ow d'=>cases h
def ST.all(h:ST K H₀ S w σ H ρ G):Sl K S H (bR ρ) σ:=λi d e=>by
 rcases A8 e with e|e
 .obtain ⟨v,e1,q⟩:=h.ro i d e;show⟨v,e1,Dn.fits (.mono λ_ z=>z.1) d v q⟩
 .obtain ⟨e1,e2,q⟩:=h.own i d e;show⟨_,e1,q.dn (h.fc _ e2) λ_ z=>z.1⟩
def ST.rd(h:ST K H₀ S w σ H ρ G):Sl K (SO S w ρ) H (jL ρ) σ:=λi d e=>h.ro i d (E6 e)
def ST.same(h:ST K H₀ S w σ H ρ G)(e:ξ H H'):ST K H₀ S w σ H' ρ G :=
 ⟨h.fc,h.sm.trans e,λi d q=>let ⟨a,b,c⟩:=h.own i d q;⟨a,b,c.fits (.same e) λo z=>e _ o z⟩,h.inj,λi d q=>let ⟨v,a,b⟩:=h.ro i d q;⟨v,a,Dn.fits (.same e) d v b⟩,λg hg=>Dn.fits (.same e) _ _ (h.gh g hg),λi xs q=>h.rwN q λo z=>e _ o z⟩
def SO.mono{ρ':bU}(hw:∀(i:Nat) (d:D),ρ'[i]?=aa (Sv.ow d) ->∃e,ρ[i]?=aa (Sv.ow e)):∀a,SO S w ρ a->SO S w ρ' a:=λa hq7=>by obtain⟨s,n⟩:=hq7;show⟨s,λi d e=>let ⟨d',e'⟩:=hw i d e;n i d' e'⟩
def get_set{α:Type}{l:List α}{i j:Nat}{x y:α}(h:(l.set i x)[j]?=aa y):(j=i/\y=x/\i<l.length)\/(j≠i/\l[j]?=aa y):=by
 by_cases e:j=i
 .subst e;by_cases hl:j<l.length
  .rw [md hl] at h;show .inl ⟨rfl,(cj h).symm,hl⟩
  .rw [jq (by simp;lia)] at h;cases h
 .rw [jo (d_ e)] at h;show .inr ⟨e,h⟩
theorem ST.lH{i:Nat}{d:D}{v:V}(h:ST K H₀ S w σ H ρ G)(hi:i<σ.length)(q:Dn K (SO S w ρ) H d v):ST K H₀ S w (σ.set i (aa v)) H (ρ.set i (.ro d)) G:=by
 have hw:∀(j:Nat) (e:D),(ρ.set i (.ro d))[j]?=aa (Sv.ow e)->j≠i/\ρ[j]?=aa (Sv.ow e):=λj e he=>by
  rcases get_set he with⟨_,z,_⟩|z
  .cases z
  .exact z
 have m:∀a,SO S w ρ a->SO S w (ρ.set i (.ro d)) a:=SO.mono λj e he=>⟨e,(hw j e he).2⟩;show⟨h.fc,h.sm,λj e he=>?_,λj k d' e' h1 h2=>h.inj j k d' e' (hw j d' h1).2 (hw k e' h2).2,λj e he=>?_,λg hg=>Dn.fits (.mono m) _ _ (h.gh g hg),λj xs hx=>h.rw j xs (hw j _ hx).2⟩
 .obtain ⟨hj,he'⟩:=hw j e he;obtain⟨a,b,c⟩:=h.own j e he';show⟨by rw[jo (d_ hj)];show a,b,c.fits (.mono m) λ_ z=>z⟩
 .rcases get_set he with⟨hj,z,_⟩|⟨hj,z⟩
  .cases z;subst hj;show⟨v,md hi,Dn.fits (.mono m) d v q⟩
  .obtain ⟨u,a,b⟩:=h.ro j e z;show⟨u,by rw[jo (d_ hj)];show a,Dn.fits (.mono m) e u b⟩
noncomputable def freeze(ρ:bU)(i:Nat):bU:=match ρ[i]? with
 |some (.ow d)=>ρ.set i (.ro d)
 |_=>ρ
theorem ST.frozen{i:Nat}(h:ST K H₀ S w σ H ρ G):ST K H₀ S w σ H (freeze ρ i) G:=by
 unfold freeze
 cases e:ρ[i]? with
 |none=>show h
 |some s =>
  cases s with
  |no=>show h
  |ro d=>show h
  |ow d =>
   dsimp only;obtain⟨a,b,c⟩:=h.own i d e;have hi:i<σ.length:=(cb.mp a).1;have hw:∀(j:Nat) (e:D),(ρ.set i (.ro d))[j]?=aa (Sv.ow e)->j≠i/\ρ[j]?=aa (Sv.ow e):=λj e he=>by
    rcases get_set he with⟨_,z,_⟩|z
    .cases z
    .exact z
   have m:∀a,SO S w ρ a->SO S w (ρ.set i (.ro d)) a:=SO.mono λj e he=>⟨e,(hw j e he).2⟩;show⟨h.fc,h.sm,λj f hf=>?_,λj k d' e' h1 h2=>h.inj j k d' e' (hw j d' h1).2 (hw k e' h2).2,λj f hf=>?_,λg hg=>Dn.fits (.mono m) _ _ (h.gh g hg),λj xs hx=>h.rw j xs (hw j _ hx).2⟩
   .obtain ⟨a,b,c⟩:=h.own j f (hw j f hf).2;show⟨a,b,c.fits (.mono m) λ_ z=>z⟩
   .rcases get_set hf with⟨hj,z,_⟩|⟨hj,z⟩
    .cases z;subst hj;show⟨_,a,c.dn ⟨h.fc _ b,λk f' hk z=>?_⟩ m⟩;obtain⟨hk1,hk2⟩:=hw k f' hk;show hk1 (h.inj _ _ _ _ e hk2 z).symm
    .obtain ⟨u,a,b⟩:=h.ro j f z;show⟨u,a,Dn.fits (.mono m) f u b⟩
theorem ST.K7{i:Nat}{d:D}{p:ah}(h:ST K H₀ S w σ H ρ G)(hi:i<σ.length)(e:ξ H H')(hp:H p=ae)(q:zS K (λa=>SO S w ρ a/\a≠p) H' d p)
  (hr:∀xs,d=.rws xs ->∀ys,H' p=aa (.lst ys) ->∀a,V.ref a∈ys->H₀ a=ae:=by intro _ z;cases z):
  ST K H₀ S (λj=>if j=i then p else w j) (σ.set i (aa (.ref p))) H' (ρ.set i (.ow d)) G:=by
 have h0:H₀ p=ae:=h.sm.free hp;have hw:∀(j:Nat) (e:D),j≠i->(ρ.set i (.ow d))[j]?=aa (Sv.ow e)->ρ[j]?=aa (Sv.ow e):=λj e hj he=>by
  rcases get_set he with⟨z,_,_⟩|⟨_,z⟩
  .exact Zw z hj
  .exact z
 have m:∀a,(SO S w ρ a/\a≠p)->SO S (λj=>if j=i then p else w j) (ρ.set i (.ow d)) a:=λa ⟨⟨s,n⟩,ne⟩=>⟨s,λj f hf=>by
  show a≠(if j=i then p else w j);by_cases hj:j=i
  .rw [Z_ hj];show ne
  .rw [Zz hj];show n j f (hw j f hj hf)⟩
 have F:Fits K (SO S w ρ) (SO S (λj=>if j=i then p else w j) (ρ.set i (.ow d))) H H':=((Fits.fresh hp).trans (.mono m)).trans (.same e);have wp:∀(j:Nat) (f:D),ρ[j]?=aa (Sv.ow f)->w j≠p:=λj f hf z=>by have wr:=(h.own j f hf).2.2.wr;rw[z] at wr;rcases wr with⟨xs,k⟩|⟨xs,k⟩|⟨_,xs,k⟩<;>rw[hp] at k<;>cases k
 show⟨h.fc,h.sm.trans e,λj f hf=>?_,λj k d' e' h1 h2 z=>?_,λj f hf=>?_,λg hg=>Dn.fits F _ _ (h.gh g hg),λj xs hx=>?_⟩
 rotate_right
 .show ∀ys,H' (if j=i then p else w j)=aa (.lst ys)->_;by_cases hj:j=i
  .subst hj;rw[Z_ rfl];rcases get_set hx with⟨_,z,_⟩|⟨z,_⟩
   .exact hr xs (Sv.ow.inj z).symm
   .exact Zw rfl z
  .rw [Zz hj];show h.rwN (hw j _ hj hx) λo z=>e _ o z
 .by_cases hj:j=i
  .subst hj;rcases get_set hf with⟨_,z,_⟩|⟨z,_⟩
   .cases z;rw[Z_ rfl];show⟨md hi,h0,q.fits (.mono m) λ_ z=>z⟩
   .exact Zw rfl z
  .rw [Zz hj];obtain⟨a,b,c⟩:=h.own j f (hw j f hj hf);show⟨by rw[jo (d_ hj)];show a,b,c.fits F λo z=>e _ o z⟩
 .have z:(if j=i then p else w j)=(if k=i then p else w k):=z;by_cases hj:j=i
  .by_cases hk:k=i
   .rw [hj,hk]
   .rw [Z_ hj,Zz hk] at z;show Zw z.symm (wp k e' (hw k e' hk h2))
  .by_cases hk:k=i
   .rw [Zz hj,Z_ hk] at z;show Zw z (wp j d' (hw j d' hj h1))
   .rw [Zz hj,Zz hk] at z;show h.inj j k d' e' (hw j d' hj h1) (hw k e' hk h2) z
 .rcases get_set hf with⟨_,z,_⟩|⟨hj,z⟩
  .cases z
  .obtain ⟨u,a,b⟩:=h.ro j f z;show⟨u,by rw[jo (d_ hj)];show a,Dn.fits F f u b⟩
def ST.write{i:Nat}{d d':D}{o:HO}(h:ST K H₀ S w σ H ρ G)(e:ρ[i]?=aa (Sv.ow d))(q:zS K (SO S w ρ) (upd H (w i) o) d' (w i))(hr:∀xs,d'≠.rws xs:=by intro _ z;cases z):ST K H₀ S w σ (upd H (w i) o) (ρ.set i (.ow d')) G:=by
 obtain⟨a0,b0,c0⟩:=h.own i d e;have so:SO S w (ρ.set i (.ow d'))=SO S w ρ:=by
  funext a
  show propext ⟨λ⟨s,n⟩=>⟨s,λj f hf=>?_⟩,λ⟨s,n⟩=>⟨s,λj f hf=>?_⟩⟩
  .by_cases hj:j=i
   .subst hj;show n j d' (by rw[md (cb.mp e).1])
   .exact n j f (by rw[jo (d_ hj)];show hf)
  .by_cases hj:j=i
   .subst hj;show n j d e
   .exact n j f (by rw[jo (d_ hj)] at hf;show hf)
 have nS:¬ SO S w ρ (w i):=λ⟨_,n⟩=>n i d e rfl;have F:Fits K (SO S w ρ) (SO S w ρ) H (upd H (w i) o):=.upd c0.wr nS;show⟨h.fc,λb u hb=>?_,λj f hf=>?_,λj k d1 e1 h1 h2 z=>?_,λj f hf=>?_,λg hg=>by rw[so];show Dn.fits F _ _ (h.gh g hg),λj xs hx=>?_⟩
 rotate_right
 .rcases get_set hx with⟨_,z,_⟩|⟨hj,z⟩
  .exact Zw (Sv.ow.inj z).symm (hr xs)
  .exact h.rwN z λob hob=>by rw[aV λy=>hj (h.inj _ _ _ _ z e y)];show hob
 .rw [aV (bN hb b0)];show h.sm b u hb
 .rw [so];rcases get_set hf with⟨hj,z,_⟩|⟨hj,z⟩
  .cases z;subst hj;show⟨a0,b0,q⟩
  .obtain ⟨a,b,c⟩:=h.own j f z;show⟨a,b,c.fits F λob hob=>by rw[aV λy=>hj (h.inj _ _ _ _ z e y)];show hob⟩
 .have g1:∃d2,ρ[j]?=aa (Sv.ow d2):=by
   rcases get_set h1 with⟨hj,_,_⟩|⟨_,z⟩
   .subst hj;show⟨d,e⟩
   .exact ⟨_,z⟩
  have g2:∃d2,ρ[k]?=aa (Sv.ow d2):=by
   rcases get_set h2 with⟨hj,_,_⟩|⟨_,z⟩
   .subst hj;show⟨d,e⟩
   .exact ⟨_,z⟩
  obtain⟨_,g1⟩:=g1;obtain⟨_,g2⟩:=g2;show h.inj j k _ _ g1 g2 z
 .rw [so];rcases get_set hf with⟨_,z,_⟩|⟨hj,z⟩
  .cases z
  .obtain ⟨u,a,b⟩:=h.ro j f z;show⟨u,a,Dn.fits F f u b⟩
def R_{n i:Nat}{d:D}{P:Nat->Prop}:∀(j:Nat) (xs:Q0a),((bu n Sv.no).set i (.ro d))[j]?=aa (Sv.ow (.rws xs))->P j:=λj xs z=>by
 rcases get_set z with⟨_,z,_⟩|⟨_,z⟩
 .cases z
 .rw [jj] at z;split at z<;>cases z
def ST.ghost(h:ST K H₀ S w σ H ρ G)(hg:∀g∈G',Dn K (SO S w ρ) H g.1 g.2):ST K H₀ S w σ H ρ G':=⟨h.fc,h.sm,h.own,h.inj,h.ro,hg,h.rw⟩
end
open PySem.Spec PyProof.Rows
abbrev WE:=dW->(D->Prop)->Prop
abbrev WT:=dW->(Bool->Prop)->Prop
abbrev WA:=dW->(List D->Prop)->Prop
def lift(K:ao)(t:WE):TE:=λσ H Q=>∃(S:ah->Prop) (ρ:dW) (Q3:D->Prop),(∀a,H a=ae->S a)/\Sl K S H ρ σ/\t ρ Q3 /\∀v H' d,ξ H H'->Dn K S H' d v->Q3 d->Q v H'
def liftT(K:ao)(t:WT):TT:=λσ H Q=>∃(S:ah->Prop) (ρ:dW) (Q3:Bool->Prop),(∀a,H a=ae->S a)/\Sl K S H ρ σ/\t ρ Q3 /\∀b H',ξ H H'->Q3 b->Q b H'
def W0(K:ao)(t:WA):TA:=λσ H Q=>∃(S:ah->Prop) (ρ:dW) (Q3:List D->Prop),(∀a,H a=ae->S a)/\Sl K S H ρ σ/\t ρ Q3 /\∀vs H' ds,ξ H H'->aW K S H' ds vs->Q3 ds->Q vs H'
def W2(K:ao)(t:WE):TE:=λσ H Q=>∃(S:ah->Prop) (ρ:dW) (Q3:D->Prop),(∀a,H a=ae->S a)/\Sl K S H ρ σ/\t ρ Q3 /\
 ∀p xs H' ds,H p=ae->H' p=aa (.lst xs)->ξ H H'->aW K (λa=>S a/\a≠p) H' ds xs->Q3 (.lst ds)->Q (.ref p) H'
def cV(X:Cx)(e:aw)(t:WE):Prop:=PE X e (lift X.K t)
def K8(X:Cx)(e:aw)(t:WE):Prop:=PE X e (W2 X.K t)
def xM(X:Cx)(e:aw)(t:WT):Prop:=PT X e (liftT X.K t)
def CM(X:Cx)(es:List aw)(t:WA):Prop:=PA X es (W0 X.K t)
section
variable{X:Cx}
def imp(h:PE X e t)(f:∀σ H Q,t' σ H Q->t σ H Q):PE X e t':=λπ s σ H Q I q=>h π s σ H Q I (f σ H Q q)
def Q8(h:PT X e t)(f:∀σ H Q,t' σ H Q->t σ H Q):PT X e t':=λπ s σ H Q I q=>h π s σ H Q I (f σ H Q q)
def HL(h:PA X e t)(f:∀σ H Q,t' σ H Q->t σ H Q):PA X e t':=λν π s σ H Q I q=>h ν π s σ H Q I (f σ H Q q)
def bJ{H H':Hp}{S:ah->Prop}(fc:∀a,H a=ae->S a)(s:ξ H H'):∀a,H' a=ae->S a:=λa e=>fc a (s.free e)
theorem K8.pe(h:K8 X e t):cV X e t:=imp h λσ H Q hq8=>by obtain⟨S,ρ,Q3,fc,sl,ht,k⟩:=hq8;show⟨S,ρ,Q3,fc,sl,ht,λp xs H' ds hp hp' s dn q=>k _ H' _ s (by symm;show⟨p,xs,rfl,hp',fc p hp,aW.fits (.mono λ_ z=>z.1) ds xs dn⟩) q⟩
noncomputable def ud(i:Nat):WE:=λρ Q=>match ρ[i]? with
 |some (aa d)=>Q d
 |_=>False
def wC(d:D):WE:=λ_ Q=>Q d
def W3{K:ao}{i:Nat}{σ:L2.St}{H:Hp}{Q:VK}(h:lift K (ud i) σ H Q):uj i σ H Q:=by
 obtain⟨S,ρ,Q3,fc,sl,ht,k⟩:=h;unfold ud at ht;split at ht
 .rename_i d e;obtain⟨v,e1,q⟩:=sl i d e;show⟨v,e1,k v H d (ξ.refl H) q ht⟩
 .exact ht.elim
def x3(i:Nat)(hN:X.N[i]?=aa x:=by rfl)(hv:AX X.env.scope x:=by walk_at "1")(hd:Zu x:=by decide)
  (hcd:Zt x:=by decide):cV X (.Name x ν) (ud i):=imp (qT hN hv hd hcd) λ_ _ _=>W3
def E7{K:ao}{d:D}{v:V}{σ:L2.St}{H:Hp}{Q:VK}(hd:∀S H,Dn K S H d v)(h:lift K (wC d) σ H Q):tC v σ H Q:=by obtain⟨S,ρ,Q3,fc,sl,ht,k⟩:=h;show k v H d (ξ.refl H) (hd S H) ht
def i3{j ν}:cV X (.Constant (.int i) j ν) (wC (.int i)):=imp aDT λ_ _ _=>E7 (λ_ _=>by symm)
def b3{j ν}:cV X (.Constant (.bool b) j ν) (wC (.bl b)):=imp Yj λ_ _ _=>E7 (λ_ _=>by symm)
def n3{j ν}:cV X (.Constant .none j ν) (wC .non):=imp aDU λ_ _ _=>E7 (λ_ _=>by symm)
def s3{j ν}:cV X (.Constant (.str x) j ν) (wC (.str x)):=imp aDV λ_ _ _=>E7 (λ_ _=>by symm)
abbrev F2:=D->D->(D->Prop)->Prop
def g7(f:F2)(ta tb:WE):WE:=λρ Q=>ta ρ λx=>tb ρ λy=>f x y Q
def O3(K:ao)(r:R2)(f:F2):Prop:=∀(S:ah->Prop) (H:Hp) (x y:V) (dx dy:D) (Q3:D->Prop) (Q:VK),(∀a,H a=ae->S a)->Dn K S H dx x->Dn K S H dy y->f dx dy Q3 ->
 (∀v H' d,ξ H H'->Dn K S H' d v->Q3 d->Q v H')->r x y H Q
def sP{K:ao}{r:R2}{f:F2}{ta tb:WE}{σ:L2.St}{H:Hp}{Q:VK}(h3:O3 K r f)(h:lift K (g7 f ta tb) σ H Q):qi r (lift K ta) (lift K tb) σ H Q:=by obtain⟨S,ρ,Q3,fc,sl,ht,k⟩:=h;show⟨S,ρ,_,fc,sl,ht,λv H1 d s1 d1 q1=>?_⟩;show⟨S,ρ,_,bJ fc s1,Sl.fits (.same s1) sl,q1,λu H2 d2 s2 d2' q2=>?_⟩;show h3 S H2 v u d d2 Q3 Q (bJ fc (s1.trans s2)) (Dn.fits (.same s2) _ _ d1) d2' q2 λv' H' d' s' dn' q'=>k v' H' d' ((s1.trans s2).trans s') dn' q'
theorem op3(ho:jS X (binaryOp op) r)(h3:O3 X.K r f)(ha:cV X a ta)(hb:cV X b tb):cV X (.BinOp a op b ν) (g7 f ta tb) :=
 imp (V4 ho ha hb) λ_ _ _=>sP h3
def E8(C:Int->Int->Prop)(g:Int->Int->D):F2
 |.int i,.int j,Q=>C i j/\Q (g i j)
 |_,_,_=>False
theorem E9{K:ao}{C:Int->Int->Prop}{g:Int->Int->Int}:O3 K (rI C λi j=>.int (g i j)) (E8 C λi j=>.int (g i j)):=by
 intro S H x y dx dy Q3 Q fc hx hy hf k;cases dx<;>cases dy<;>try show hf.elim
 symm at hx hy;show⟨_,_,hx,hy,hf.1,k _ H _ (ξ.refl H) (by symm) hf.2⟩
noncomputable def vQ(g:Int->Int->D):F2
 |.int i,.int j,Q=>Q (g i j)
 |_,_,_=>False
def aAn{K:ao}{g:Int->Int->Int}:O3 K (QS λi j=>.int (g i j)) (vQ λi j=>.int (g i j)):=by
 intro S H x y dx dy Q3 Q fc hx hy hf k;cases dx<;>cases dy<;>try show hf.elim
 symm at hx hy;show⟨_,_,hx,hy,k _ H _ (ξ.refl H) (by symm) hf⟩
def Rz:F2:=vQ λi j=>.int (i-j)
def Ry:F2:=E8 (λ_ j=>0<j) λi j=>.int (i%j)
def Rx:F2:=E8 Cp λi j=>.int (i/j)
def Ru:F2:=E8 Co λi j=>.int (i^j.toNat)
section
variable{a b:aw}{ν:bf}{ta tb:WE}
def Rr(ha:cV X a ta)(hb:cV X b tb):cV X (.BinOp a .Sub b ν) (g7 Rz ta tb):=op3 aD9 aAn ha hb
def Rq(ha:cV X a ta)(hb:cV X b tb):cV X (.BinOp a .Mod b ν) (g7 Ry ta tb):=op3 aDa E9 ha hb
def Rc(ha:cV X a ta)(hb:cV X b tb):cV X (.BinOp a .FloorDiv b ν) (g7 Rx ta tb):=op3 aA7 E9 ha hb
def Rb(ha:cV X a ta)(hb:cV X b tb):cV X (.BinOp a .Pow b ν) (g7 Ru ta tb):=op3 aDb E9 ha hb
end
def Dy(K:ao):R2:=λx y H Q=>∃a b xs ys,x=.ref a/\y=.ref b/\fF K H a xs/\fF K H b ys/\xs.length+ys.length<=bb /\
 (xs=[]->Q (.ref b) H)/\(xs≠[]->ys=[]->Q (.ref a) H)/\(xs≠[]->ys≠[] ->∀p,H p=ae->Q (.ref p) (upd H p (.tup (xs++ys))))
theorem W4{Ω:bc}{w:ba}{A:bq}{E:Q0c}{s:ak}{t b:ah}{ws:Q0f}{Q:Q0c}(ht:gy s.heap t #[])(hb:gy s.heap b ws.toArray)
  (h1:Q (.ref b) s):au (av Ω w) A (binaryOp .Add (.ref t) (.ref b)) Q E s:=by
 obtain⟨⟨cls,dd,data,sl⟩,ho,hc,n,hd⟩:=id ht;obtain⟨⟨cls2,dd2,data2,sl2⟩,ho2,hc2,n2,hd2⟩:=id hb;simp only at hc hd hc2 hd2;subst hc hd hc2 hd2;show Gf ⟨_,ho,rfl⟩ ⟨_,ho2,rfl⟩ Ge Fy Gv Gy (G_ _ _)
   (tuple_addW0 t b #[] ws.toArray n n2 dd dd2 sl sl2 (by simp)) ⟨ho,ho2,h1⟩
theorem W5:jS X (binaryOp .Add) (Dy X.K):=by
 intro π s σ H x y v u Q I rx ry h;obtain⟨a,b,xs,ys,rfl,rfl,ha,hb,hz,q0,q1,q2⟩:=h;by_cases hx:xs=[]
 .cases rx;cases ry;subst hx;obtain⟨ι,r1,p1,_⟩:=I.tuple ha;obtain⟨its2,r2,p2,_⟩:=I.tuple hb;cases r1;show W4 p1 p2 ⟨.ref b,H,I,rfl,q0 rfl⟩
 .exact aAg π s σ H _ _ v u Q I rx ry ⟨a,b,xs,ys,rfl,rfl,ha,hb,hx,hz,q1 hx,q2 hx⟩
noncomputable def xm:F2
 |.int i,.int j,Q=>Q (.int (i+j))
 |.lst a,.lst b,Q=>a.length+b.length<=bb/\Q (.lst (a++b))
 |.tup a,.tup b,Q=>a.length+b.length<=bb/\Q (.tup (a++b))
 |.str a,.str b,Q=>a.length+b.length<=bb/\Q (.str (a++b))
 |_,_,_=>False
def Cv(K:ao):R2:=λx y H Q=>(QS λi j=>.int (i+j)) x y H Q\/(Cg x y H Q\/(Dy K x y H Q \/∃i j,x=.str i/\y=.str j/\i.length+j.length<=bb/\Q (.str (i++j)) H))
theorem aDy{K:ao}:O3 K (Cv K) xm:=by
 intro S H x y dx dy Q3 Q fc hx hy hf k
 cases dx with
 |int i =>
  cases dy with
  |int j=>symm at hx hy;show .inl ⟨_,_,hx,hy,k _ H _ (ξ.refl H) (by symm) hf⟩
  |_=>show hf.elim
 |str i =>
  cases dy with
  |str j=>symm at hx hy;show .inr (.inr (.inr ⟨_,_,hx,hy,hf.1,k _ H _ (ξ.refl H) (by symm) hf.2⟩))
  |_=>show hf.elim
 |lst ds =>
  cases dy with
  |lst es =>
   symm at hx hy;obtain⟨a,xs,rfl,ha,sa,da⟩:=hx;obtain⟨b,ys,rfl,hb,sb,db⟩:=hy;show .inr (.inl ⟨a,b,xs,ys,rfl,rfl,ha,hb,by rw[<- da.len,<- db.len];show hf.1,λp hp=>k _ _ _ (aY hp) ?_ hf.2⟩);symm;show⟨p,_,rfl,bA,fc p hp,aW.fits (.same (aY hp)) _ _ (da.append db)⟩
  |_=>show hf.elim
 |tup ds =>
  cases dy with
  |tup es =>
   symm at hx hy;obtain⟨a,xs,rfl,ha,da⟩:=hx;obtain⟨b,ys,rfl,hb,db⟩:=hy;show .inr (.inr (.inl ⟨a,b,xs,ys,rfl,rfl,fF.of ha,fF.of hb,by rw[<- da.len,<- db.len];show hf.1,λe=>?_,λ_ e=>?_,λ_ _ p hp=>?_⟩))
   .subst e;have e2:ds=[]:=vm.mp da.len;subst e2;show k _ H _ (ξ.refl H) (by symm;show⟨b,ys,rfl,hb,db⟩) hf.2
   .subst e;have e2:es=[]:=vm.mp db.len;subst e2;have q:=hf.2;rw[ij] at q;show k _ H _ (ξ.refl H) (by symm;show⟨a,xs,rfl,ha,da⟩) q
   .refine k _ _ _ (aY hp) ?_ hf.2;symm;show⟨p,_,rfl,bA,aW.fits (.same (aY hp)) _ _ (da.append db)⟩
  |_=>show hf.elim
 |_=>cases dy<;>show hf.elim
def aAo:jS X (binaryOp .Add) (Cv X.K):=jS.or aD8 (jS.or WL (jS.or W5 KW))
theorem Ra(ha:cV X a ta)(hb:cV X b tb):cV X (.BinOp a .Add b ν) (g7 xm ta tb):=op3 aAo aDy ha hb
noncomputable def Cu:F2
 |.lst a,.lst b,Q=>a.length+b.length<=bb/\Q (.lst (a++b))
 |_,_,_=>False
def X_{a b:aw}{ν:bf}{ta tb:WE}(ha:cV X a ta)(hb:cV X b tb):K8 X (.BinOp a .Add b ν) (g7 Cu ta tb):=imp (V4 WL ha hb) λσ H Q h=>by
 obtain⟨S,ρ,Q3,fc,sl,ht,k⟩:=h;show⟨S,ρ,_,fc,sl,ht,λv H1 d s1 d1 q1=>?_⟩;show⟨S,ρ,_,bJ fc s1,Sl.fits (.same s1) sl,q1,λu H2 d2 s2 d2' q2=>?_⟩;cases d<;>cases d2<;>try show q2.elim
 symm at d1 d2';obtain⟨a,xs,rfl,ha,sa,da⟩:=d1;obtain⟨b,ys,rfl,hb,sb,db⟩:=d2';have da':=aW.fits (.same s2) _ _ da;show⟨a,b,xs,ys,rfl,rfl,s2 _ _ ha,hb,by rw[<- da.len,<- db.len];show q2.1,λp hp=>k p _ _ _ ((s1.trans s2).free hp) bA ((s1.trans s2).trans (aY hp)) ?_ q2.2⟩;show aW.fits ((Fits.fresh hp).trans (.same (aY hp))) _ _ (da'.append db)
def Q_:WA:=λ_ Q=>Q []
def Xz(ta:WE)(t:WA):WA:=λρ Q=>ta ρ λd=>t ρ λds=>Q (d::ds)
def Qz:CM X [] Q_:=HL kT λσ H Q hq9=>by obtain⟨S,ρ,Q3,fc,sl,ht,k⟩:=hq9;show k [] H [] (ξ.refl H) aW.nil ht
def Xy{e:aw}{es:List aw}{te:WE}{t:WA}(ha:cV X e te)(hr:CM X es t)(hs:Zs X e es:=by rfl):CM X (e::es) (Xz te t) :=
 HL (eK ha hr hs) λσ H Q Qy=>by obtain⟨S,ρ,Q3,fc,sl,ht,k⟩:=Qy;show⟨S,ρ,_,fc,sl,ht,λv H1 d s1 d1 q1=>?_⟩;show⟨S,ρ,_,bJ fc s1,Sl.fits (.same s1) sl,q1,λus H2 ds s2 d2 q2=>?_⟩;show k _ H2 _ (s1.trans s2) (aW.cons (Dn.fits (.same s2) _ _ d1) d2) q2
def Qx(t:WA):WE:=λρ Q=>t ρ λds=>ds.length<=bb/\Q (.tup ds)
def Qw(t:WA):WE:=λρ Q=>t ρ λds=>ds.length<=bb/\Q (.lst ds)
def Qu{x1}(h:CM X es t):cV X (.Tuple es x1 ν) (Qx t):=imp (aDg h) λσ H Q Qt=>by obtain⟨S,ρ,Q3,fc,sl,ht,k⟩:=Qt;show⟨S,ρ,_,fc,sl,ht,λvs H1 ds s1 d1 q1=>⟨by rw[<- d1.len];show q1.1,λp hp=>k _ _ _ (s1.trans (aY hp)) ?_ q1.2⟩⟩;symm;show⟨p,_,rfl,bA,aW.fits (.same (aY hp)) _ _ d1⟩
def Qs(h:CM X es t):K8 X (.List es ν) (Qw t):=imp (aDh h) λσ H Q Qr=>by obtain⟨S,ρ,Q3,fc,sl,ht,k⟩:=Qr;show⟨S,ρ,_,fc,sl,ht,λvs H1 ds s1 d1 q1=>⟨by rw[<- d1.len];show q1.1,λp hp=>k p vs _ ds (s1.free hp) bA (s1.trans (aY hp)) ?_ q1.2⟩⟩;show aW.fits ((Fits.fresh hp).trans (.same (aY hp))) _ _ d1
end
section
variable{X:Cx}
noncomputable def nL(t:WE):WT:=λρ Q=>t ρ λd=>match d with
 |.bl b=>Q b
 |_=>False
theorem CN{K:ao}{t:WE}{σ:L2.St}{H:Hp}{Q:Bool->Hp->Prop}(h:liftT K (nL t) σ H Q):HE (lift K t) σ H Q:=by
 obtain⟨S,ρ,Q3,fc,sl,ht,k⟩:=h;show⟨S,ρ,_,fc,sl,ht,λv H1 d s1 d1 q1=>?_⟩
 cases d with
 |bl b=>symm at d1;show⟨b,d1,k b H1 s1 q1⟩
 |_=>show q1.elim
def zT(f:∀σ H Q,t' σ H Q->t σ H Q)(h:HE t' σ H Q):HE t σ H Q:=f σ H _ h
def HM(ho:jS X (compareOp op) r)(h3:O3 X.K r f)(ha:cV X a ta)(hb:cV X b tb)(hm:behindInMarks op b=ag):cV X (.Compare a [op] [b] ν) (g7 f ta tb) :=
 imp (aA8 ho ha hb hm) λ_ _ _=>sP h3
def vR(ho:jS X (compareOp op) r)(h3:O3 X.K r f)(ha:cV X a ta)(hb:cV X b tb)(hm:behindInMarks op b=ag):xM X (.Compare a [op] [b] ν) (nL (g7 f ta tb)) :=
 Q8 (aA9 ho ha hb hm) λ_ _ _ h=>zT (λ_ _ _=>sP h3) (CN h)
theorem lI{K:ao}{g:Int->Int->Bool}:O3 K (QS λi j=>.bl (g i j)) (vQ λi j=>.bl (g i j)):=by
 intro S H x y dx dy Q3 Q fc hx hy hf k;cases dx<;>cases dy<;>try show hf.elim
 symm at hx hy;show⟨_,_,hx,hy,k _ H _ (ξ.refl H) (by symm) hf⟩
noncomputable def W6:D->D->Bool
 |.non,.non=>af | .non,.int _=>af | .int _,.non=>af | .non,.bl _=>af | .bl _,.non=>af | .non,.str _=>af | .str _,.non=>af
 |.int _,.int _=>af | .bl _,.bl _=>af | .str _,.str _=>af | .int _,.str _=>af | .str _,.int _=>af | .bl _,.str _=>af | .str _,.bl _=>af
 |_,_=>ag
noncomputable def eqS:D->D->Bool
 |.non,.non=>af
 |.int i,.int j=>Zv (i=j)
 |.bl i,.bl j=>Zv (i=j)
 |.str i,.str j=>Zv (i=j)
 |_,_=>ag
def uc:F2:=λx y Q=>W6 x y=af/\Q (.bl (eqS x y))
def xl:F2:=λx y Q=>W6 x y=af/\Q (.bl (!eqS x y))
def OS{K:ao}{S:ah->Prop}{H:Hp}{x y:V}{dx dy:D}(hx:Dn K S H dx x)(hy:Dn K S H dy y)(h:W6 dx dy=af):xq x y=af/\Zv (x=y)=eqS dx dy:=by
 cases dx<;>first
  | (show Zw (show ag=af from h) bp)
  |skip
 all_goals (cases dy<;>first
  | (show Zw (show ag=af from h) bp)
  | (symm at hx hy;subst hx;subst hy;show⟨rfl,by first|show EV|show KR|show EW|show Zy (λh=>by cases h)|show Zx rfl⟩))
def W7{K:ao}:O3 K Aw uc:=by intro S H x y dx dy Q3 Q fc hx hy hf k;obtain⟨h1,h2⟩:=OS hx hy hf.1;show⟨h1,k _ H _ (ξ.refl H) (by symm;rw[h2]) hf.2⟩
theorem aEA{K:ao}:O3 K Au xl:=by intro S H x y dx dy Q3 Q fc hx hy hf k;obtain⟨h1,h2⟩:=OS hx hy hf.1;show⟨h1,k _ H _ (ξ.refl H) (by symm;rw[h2]) hf.2⟩
noncomputable def allI:List D->Bool
 |[]=>af
 |.int _::r=>allI r
 |_::_=>ag
noncomputable def A9(i:Int):List D->Bool
 |[]=>ag
 |.int j::r=>j == i||A9 i r
 |_::r=>A9 i r
theorem CO:∀ns:Q0e,allI (ns.map D.int)=af
 |[]=>rfl
 |n::ns=>by rw[bj];show CO ns
theorem CP(i:Int):∀ns:Q0e,A9 i (ns.map D.int)=ns.contains i
 |[]=>rfl
 |n::ns=>by rw[bj,A9,CP i ns,List.contains_cons];congr 1;show Bool.beq_comm
theorem FA:∀{ds:List D},allI ds=af ->∃ns:Q0e,ds=ns.map D.int
 |[],_=>⟨[],rfl⟩
 |.int n::r,h=>by obtain⟨ns,e⟩:=FA (ds:=r) h;show⟨n::ns,by rw[e];rfl⟩
 |.non::r,h=>Zw (show ag=af from h) bp
 |.bl _::r,h=>Zw (show ag=af from h) bp
 |.str _::r,h=>Zw (show ag=af from h) bp
 |.tup _::r,h=>Zw (show ag=af from h) bp
 |.lst _::r,h=>Zw (show ag=af from h) bp
 |.j6 _::r,h=>Zw (show ag=af from h) bp
 |.kZ _ _::r,h=>Zw (show ag=af from h) bp
 |.c8 _ _ _::r,h=>Zw (show ag=af from h) bp
def inF(neg:Bool):F2
 |.int i,.tup ds,Q=>allI ds=af/\Q (.bl (if neg then !A9 i ds else A9 i ds))
 |.int i,.lst ds,Q=>allI ds=af/\Q (.bl (if neg then !A9 i ds else A9 i ds))
 |_,_,_=>False
theorem zU(i:Int):∀ns:Q0e,inV (.int i) (ns.map V.int)=A9 i (ns.map D.int)
 |[]=>rfl
 |n::ns=>by have e:=zU i ns;unfold inV at e ⊢;rw[bj,bj,mf,A9,e];rfl
theorem uL:∀ns:Q0e,(ns.map V.int).all sM=af
 |[]=>rfl
 |n::ns=>by rw[bj,oh,uL ns];rfl
theorem Dx{K:ao}{neg:Bool}:O3 K (wa K neg) (inF neg):=by
 intro S H x y dx dy Q3 Q fc hx hy hf k
 cases dx with
 |int i =>
  symm at hx;subst hx
  cases dy with
  |tup ds =>
   symm at hy;obtain⟨a,xs,rfl,ha,da⟩:=hy;obtain⟨h1,h2⟩:=hf;obtain⟨ns,rfl⟩:=FA h1;have e:=aW.ints.mp da;subst e;show⟨a,_,rfl,.inr (fF.of ha),rfl,uL ns,k _ H _ (ξ.refl H) ?_ h2⟩;symm;rw[zU]
  |lst ds =>
   symm at hy;obtain⟨a,xs,rfl,ha,_,da⟩:=hy;obtain⟨h1,h2⟩:=hf;obtain⟨ns,rfl⟩:=FA h1;have e:=aW.ints.mp da;subst e;show⟨a,_,rfl,.inl (eW.of ha),rfl,uL ns,k _ H _ (ξ.refl H) ?_ h2⟩;symm;rw[zU]
  |_=>show hf.elim
 |_=>cases dy<;>show hf.elim
section
variable{a b:aw}{ν:bf}{ta tb:WE}
def ltF:F2:=vQ λi j=>.bl (Zv (i<j))
def leF:F2:=vQ λi j=>.bl (Zv (i<=j))
def gtF:F2:=vQ λi j=>.bl (Zv (i>j))
def geF:F2:=vQ λi j=>.bl (Zv (i >= j))
def lt3(ha:cV X a ta)(hb:cV X b tb):cV X (.Compare a [.Lt] [b] ν) (g7 ltF ta tb):=HM OH lI ha hb (iI _)
def le3(ha:cV X a ta)(hb:cV X b tb):cV X (.Compare a [.LtE] [b] ν) (g7 leF ta tb):=HM vM lI ha hb (iI _)
def gt3(ha:cV X a ta)(hb:cV X b tb):cV X (.Compare a [.Gt] [b] ν) (g7 gtF ta tb):=HM Ec lI ha hb (iI _)
def ge3(ha:cV X a ta)(hb:cV X b tb):cV X (.Compare a [.GtE] [b] ν) (g7 geF ta tb):=HM Eb lI ha hb (iI _)
def Qq(ha:cV X a ta)(hb:cV X b tb):cV X (.Compare a [.Eq] [b] ν) (g7 uc ta tb):=HM Ed W7 ha hb (iI _)
def in3(ha:cV X a ta)(hb:cV X b tb)(hm:behindInMarks .In b=ag:=by with_unfolding_all rfl):cV X (.Compare a [.In] [b] ν) (g7 (inF ag) ta tb):=HM QY Dx ha hb hm
def Qp(ha:cV X a ta)(hb:cV X b tb):xM X (.Compare a [.Lt] [b] ν) (nL (g7 ltF ta tb)):=vR OH lI ha hb (iI _)
def Qo(ha:cV X a ta)(hb:cV X b tb):xM X (.Compare a [.LtE] [b] ν) (nL (g7 leF ta tb)):=vR vM lI ha hb (iI _)
def Qn(ha:cV X a ta)(hb:cV X b tb):xM X (.Compare a [.Gt] [b] ν) (nL (g7 gtF ta tb)):=vR Ec lI ha hb (iI _)
def Qm(ha:cV X a ta)(hb:cV X b tb):xM X (.Compare a [.GtE] [b] ν) (nL (g7 geF ta tb)):=vR Eb lI ha hb (iI _)
def Xx(ha:cV X a ta)(hb:cV X b tb):xM X (.Compare a [.Eq] [b] ν) (nL (g7 uc ta tb)):=vR Ed W7 ha hb (iI _)
def Xn(ha:cV X a ta)(hb:cV X b tb):xM X (.Compare a [.NotEq] [b] ν) (nL (g7 xl ta tb)):=vR Xs aEA ha hb (iI _)
def Xm(ha:cV X a ta)(hb:cV X b tb)(hm:behindInMarks .NotIn b=ag:=by with_unfolding_all rfl):xM X (.Compare a [.NotIn] [b] ν) (nL (g7 (inF af) ta tb)):=vR E2 Dx ha hb hm
end
noncomputable def isD:D->Bool
 |.non=>af
 |_=>ag
def ub:F2:=λx y Q=>isD y=af/\Q (.bl (isD x))
def W8{K:ao}:O3 K (λx y H Q=>y=.non/\Q (.bl (Zv (x=.non))) H) ub:=by
 intro S H x y dx dy Q3 Q fc hx hy hf k;obtain⟨h1,h2⟩:=hf;cases dy<;>try show Zw (show ag=af from h1) bp
 symm at hy;show⟨hy,k _ H _ (ξ.refl H) ?_ h2⟩;cases dx<;>symm at hx ⊢
 all_goals first
  | (subst hx;simp[isD])
  | (obtain⟨a,xs,rfl,_⟩:=hx;simp[isD])
  | (obtain⟨a,_,xs,rfl,_⟩:=hx;simp[isD])
  | (obtain⟨a,rfl,_⟩:=hx;simp[isD])
def Xl(ha:cV X a ta)(hb:cV X b tb):xM X (.Compare a [.Is] [b] ν) (nL (g7 ub ta tb)):=vR V5 W8 ha hb (iI _)
def Ql(ha:cV X a ta)(hb:cV X b tb):cV X (.Compare a [.Is] [b] ν) (g7 ub ta tb):=HM V5 W8 ha hb (iI _)
def Xk(t:WT):WT:=λρ Q=>t ρ λb=>Q (!b)
def Xj(t u:WT):WT:=λρ Q=>t ρ λb=>if b=af then u ρ Q else Q ag
def Qk(t u:WT):WT:=λρ Q=>t ρ λb=>if b=af then Q af else u ρ Q
def TK(X:Cx)(e:aw)(t:WT):Prop:=PW X e (liftT X.K t)
def xi(h:PW X e t)(f:∀σ H Q,t' σ H Q->t σ H Q):PW X e t':=λwh π s σ H Q I q=>h wh π s σ H Q I (f σ H Q q)
section
variable{a b:aw}{Θ:List aw}{ν:bf}{ta tb:WT}
def TK.pt(h:TK X e t):xM X e t:=PW.pt h
def Xi(ha:xM X a ta):xM X (.UnaryOp .Not a ν) (Xk ta):=Q8 (aDZ ha) λσ H Q Qj=>by obtain⟨S,ρ,Q3,fc,sl,ht,k⟩:=Qj;show⟨S,ρ,_,fc,sl,ht,λb H1 s1 q1=>k (!b) H1 s1 q1⟩
def Qi(ha:xM X a ta):TK X (.BoolOp .And [a] ν) ta:=aA4 ha
def or1(ha:xM X a ta):TK X (.BoolOp .Or [a] ν) ta:=aDX ha
theorem Xh(ha:xM X a ta)(hb:TK X (.BoolOp .And (b::Θ) ν) tb):TK X (.BoolOp .And (a::b::Θ) ν) (Xj ta tb):=xi (aDY ha hb) λσ H Q Qh=>by
 obtain⟨S,ρ,Q3,fc,sl,ht,k⟩:=Qh;show⟨S,ρ,_,fc,sl,ht,λc H1 s1 q1=>?_⟩
 cases c with
 |true=>rw[Z_ rfl] at q1 ⊢;show⟨S,ρ,Q3,bJ fc s1,Sl.fits (.same s1) sl,q1,λb' H2 s2 q2=>k b' H2 (s1.trans s2) q2⟩
 |false=>rw[Zz bp] at q1 ⊢;show k ag H1 s1 q1
theorem Qg(ha:xM X a ta)(hb:TK X (.BoolOp .Or (b::Θ) ν) tb):TK X (.BoolOp .Or (a::b::Θ) ν) (Qk ta tb):=xi (Yi ha hb) λσ H Q Rp=>by
 obtain⟨S,ρ,Q3,fc,sl,ht,k⟩:=Rp;show⟨S,ρ,_,fc,sl,ht,λc H1 s1 q1=>?_⟩
 cases c with
 |false=>rw[Zz bp] at q1 ⊢;show⟨S,ρ,Q3,bJ fc s1,Sl.fits (.same s1) sl,q1,λb' H2 s2 q2=>k b' H2 (s1.trans s2) q2⟩
 |true=>rw[Z_ rfl] at q1 ⊢;show k af H1 s1 q1
end
noncomputable def Ro(ta tb:WE):WE:=λρ Q=>ta ρ λx=>match x with
 |.bl af=>tb ρ Q
 |.bl ag=>Q (.bl ag)
 |_=>False
noncomputable def Rn(ta:WE):WE:=λρ Q=>ta ρ λx=>match x with
 |.bl b=>Q (.bl (!b))
 |_=>False
def Jb(t:WT)(ta tb:WE):WE:=λρ Q=>t ρ λb=>if b=af then ta ρ Q else tb ρ Q
section
variable{a b c:aw}{Θ:List aw}{ν:bf}{ta tb:WE}{tc:WT}
def Rm{op}(ha:cV X a ta):cV X (.BoolOp op [a] ν) ta:=aD0 ha
theorem Rl(ha:cV X a ta)(hb:cV X (.BoolOp .And (b::Θ) ν) tb):cV X (.BoolOp .And (a::b::Θ) ν) (Ro ta tb):=imp (aD1 ha hb) λσ H Q Rk=>by
 obtain⟨S,ρ,Q3,fc,sl,ht,k⟩:=Rk;show⟨S,ρ,_,fc,sl,ht,λv H1 d s1 d1 q1=>?_⟩
 cases d with
 |bl c =>
  symm at d1;show⟨c,d1,?_⟩
  cases c with
  |true=>rw[Z_ rfl];show⟨S,ρ,Q3,bJ fc s1,Sl.fits (.same s1) sl,q1,λv' H2 d' s2 d2 q2=>k v' H2 d' (s1.trans s2) d2 q2⟩
  |false=>rw[Zz bp];show k _ H1 (.bl ag) s1 (by symm) q1
 |_=>show q1.elim
theorem Rj(ha:cV X a ta):cV X (.UnaryOp .Not a ν) (Rn ta):=imp (aD2 ha) λσ H Q Ri=>by
 obtain⟨S,ρ,Q3,fc,sl,ht,k⟩:=Ri;show⟨S,ρ,_,fc,sl,ht,λv H1 d s1 d1 q1=>?_⟩
 cases d with
 |bl c=>symm at d1;show⟨c,d1,k _ H1 (.bl (!c)) s1 (by symm) q1⟩
 |_=>show q1.elim
theorem if3(hc:xM X c tc)(ha:cV X a ta)(hb:cV X b tb):cV X (.IfExp c a b ν) (Jb tc ta tb):=imp (VX hc ha hb) λσ H Q Rh=>by
 obtain⟨S,ρ,Q3,fc,sl,ht,k⟩:=Rh;show⟨S,ρ,_,fc,sl,ht,λc H1 s1 q1=>?_⟩
 cases c with
 |true=>rw[Z_ rfl] at q1 ⊢;show⟨S,ρ,Q3,bJ fc s1,Sl.fits (.same s1) sl,q1,λv' H2 d' s2 d2 q2=>k v' H2 d' (s1.trans s2) d2 q2⟩
 |false=>rw[Zz bp] at q1 ⊢;show⟨S,ρ,Q3,bJ fc s1,Sl.fits (.same s1) sl,q1,λv' H2 d' s2 d2 q2=>k v' H2 d' (s1.trans s2) d2 q2⟩
noncomputable def Rf(ta:WE):WE:=λρ Q=>ta ρ λx=>match x with
 |.int i=>Q (.int (-i))
 |_=>False
theorem Qf(ha:cV X a ta):cV X (.UnaryOp .USub a ν) (Rf ta):=imp (Xt aDc ha) λσ H Q Qd=>by
 obtain⟨S,ρ,Q3,fc,sl,ht,k⟩:=Qd;show⟨S,ρ,_,fc,sl,ht,λv H1 d s1 d1 q1=>?_⟩
 cases d with
 |int i=>symm at d1;show⟨i,d1,k _ H1 (.int (-i)) s1 (by symm) q1⟩
 |_=>show q1.elim
end
noncomputable def FC(f g:F2)(ta tb tc:WE):WE:=λρ Q=>ta ρ λx=>tb ρ λy=>f x y λz=>match z with
 |.bl af=>tc ρ λu=>g y u Q
 |.bl ag=>Q (.bl ag)
 |_=>False
theorem zV{K:ao}{r r':R2}{f g:F2}{ta tb tc:WE}{σ:L2.St}{H:Hp}{Q:VK}(h1:O3 K r f)(h2:O3 K r' g)(h:lift K (FC f g ta tb tc) σ H Q):KS r r' (lift K ta) (lift K tb) (lift K tc) σ H Q:=by
 obtain⟨S,ρ,Q3,fc,sl,ht,k⟩:=h;show⟨S,ρ,_,fc,sl,ht,λv H1 d s1 d1 q1=>?_⟩;show⟨S,ρ,_,bJ fc s1,Sl.fits (.same s1) sl,q1,λu H2 e s2 e1 q2=>?_⟩;show h1 S H2 v u d e _ _ (bJ fc (s1.trans s2)) (Dn.fits (.same s2) _ _ d1) e1 q2 λz H3 dz s3 dz1 q3=>?_
 cases dz with
 |bl c =>
  symm at dz1;show⟨c,dz1,?_⟩
  cases c with
  |false=>rw[Zz bp];show k _ H3 (.bl ag) ((s1.trans s2).trans s3) (by symm) q3
  |true =>
   rw[Z_ rfl];show⟨S,ρ,_,bJ fc ((s1.trans s2).trans s3),Sl.fits (.same ((s1.trans s2).trans s3)) sl,q3,λw' H4 dw s4 dw1 q4=>?_⟩;show h2 S H4 u w' e dw Q3 Q (bJ fc (((s1.trans s2).trans s3).trans s4)) (Dn.fits (.same (s3.trans s4)) _ _ e1) dw1 q4 λv' H5 d' s5 d5 q5=>k v' H5 d' ((((s1.trans s2).trans s3).trans s4).trans s5) d5 q5
 |_=>show q3.elim
theorem aEC(ho:jS X (compareOp op) r)(ho':jS X (compareOp op') r')(h1:O3 X.K r f)(h2:O3 X.K r' g)(ha:cV X a ta)(hb:cV X b tb)(hc:cV X c tc)
  (hm:lastMarks [op,op'] [b,c]=ag:=by with_unfolding_all rfl):cV X (.Compare a [op,op'] [b,c] ν) (FC f g ta tb tc):=imp (V6 ho ho' ha hb hc hm) λ_ _ _=>zV h1 h2
theorem aAr(ho:jS X (compareOp op) r)(ho':jS X (compareOp op') r')(h1:O3 X.K r f)(h2:O3 X.K r' g)(ha:cV X a ta)(hb:cV X b tb)(hc:cV X c tc)
  (hm:lastMarks [op,op'] [b,c]=ag:=by with_unfolding_all rfl):xM X (.Compare a [op,op'] [b,c] ν) (nL (FC f g ta tb tc)):=Q8 (V7 ho ho' ha hb hc hm) λ_ _ _ h=>zT (λ_ _ _=>zV h1 h2) (CN h)
noncomputable def ixF:F2
 |.lst ds,.int i,Q=>(match wH ds i with|some d=>Q d|none=>False)
 |.tup ds,.int i,Q=>(match wH ds i with|some d=>Q d|none=>False)
 |.j6 ns,.int i,Q=>(match wH ns i with|some n=>Q (.int n)|none=>False)
 |_,_,_=>False
theorem aW.at{K:ao}{S:ah->Prop}{H:Hp}{ds:List D}{xs:List V}{i:Int}{d:D}(h:aW K S H ds xs)(e:wH ds i=aa d):∃v,wH xs i=aa v/\Dn K S H d v:=by
 unfold wH at e ⊢;rw[<- h.len]
 cases q:QX ds.length i with
 |none=>rw[q] at e;cases e
 |some j =>
  rw[q] at e;obtain⟨v,e1,dn⟩:=h.get (i:=j) (d:=d) e;show⟨v,e1,dn⟩
theorem aAs{α β:Type}(f:α->β)(xs:List α)(i:Int):wH (xs.map f) i=(wH xs i).map f:=by
 unfold wH;rw[a_]
 cases QX xs.length i with
 |none=>rfl
 |some j=>simp
theorem Xg{K:ao}:O3 K (λx y H Q=>Ck K x y H Q\/Cj K x y H Q) ixF:=by
 intro S H x y dx dy Q3 Q fc hx hy hf k
 cases dx with
 |lst ds =>
  cases dy with
  |int i =>
   symm at hx hy;obtain⟨a,xs,rfl,ha,sa,da⟩:=hx;have hf:(match wH ds i with|some d=>Q3 d|none=>False):=hf
   cases e:wH ds i with
   |none=>rw[e] at hf;show hf.elim
   |some d =>
    rw[e] at hf;obtain⟨v,e1,dv⟩:=da.at e;show .inl ⟨a,xs,i,v,rfl,hy,eW.of ha,e1,k v H d (ξ.refl H) dv hf⟩
  |_=>show hf.elim
 |tup ds =>
  cases dy with
  |int i =>
   symm at hx hy;obtain⟨a,xs,rfl,ha,da⟩:=hx;have hf:(match wH ds i with|some d=>Q3 d|none=>False):=hf
   cases e:wH ds i with
   |none=>rw[e] at hf;show hf.elim
   |some d =>
    rw[e] at hf;obtain⟨v,e1,dv⟩:=da.at e;show .inr ⟨a,xs,i,v,rfl,hy,(fF.of ha),e1,k v H d (ξ.refl H) dv hf⟩
  |_=>show hf.elim
 |j6 ns =>
  cases dy with
  |int i =>
   symm at hx hy;obtain⟨a,rfl,ha⟩:=hx;have hf:(match wH ns i with|some n=>Q3 (.int n)|none=>False):=hf
   cases e:wH ns i with
   |none=>rw[e] at hf;show hf.elim
   |some n =>
    rw[e] at hf;show .inl ⟨a,_,i,.int n,rfl,hy,ha.sq,by rw[aAs,e];rfl,k _ H (.int n) (ξ.refl H) (by symm) hf⟩
  |_=>show hf.elim
 |_=>cases dy<;>show hf.elim
def ix3(ha:cV X a ta)(hb:cV X b tb)(hs:EZ b:=by intro _ _;rfl):cV X (.Subscript a b ν) (g7 ixF ta tb) :=
 imp (Xp (aAh.or aDn) ha hb hs) λ_ _ _=>sP Xg
abbrev F1:=List D->(D->Prop)->Prop
def W9(f:F1)(t:WA):WE:=λρ Q=>t ρ λds=>f ds Q
def C3(K:ao)(r:List V->Hp->VK->Prop)(f:F1):Prop:=∀(S:ah->Prop) (H:Hp) (xs:List V) (ds:List D) (Q3:D->Prop) (Q:VK),(∀a,H a=ae->S a)->aW K S H ds xs->f ds Q3 ->
 (∀v H' d,ξ H H'->Dn K S H' d v->Q3 d->Q v H')->r xs H Q
def C3F(K:ao)(r:List V->Hp->VK->Prop)(f:F1):Prop:=∀(S:ah->Prop) (H:Hp) (xs:List V) (ds:List D) (Q3:D->Prop) (Q:VK),(∀a,H a=ae->S a)->aW K S H ds xs->f ds Q3 ->
 (∀p ys H' es,H p=ae->H' p=aa (.lst ys)->ξ H H'->aW K (λa=>S a/\a≠p) H' es ys->Q3 (.lst es)->Q (.ref p) H')->r xs H Q
def OT{K:ao}{r:List V->Hp->VK->Prop}{f:F1}{t:WA}{σ:L2.St}{H:Hp}{Q:VK}(h3:C3 K r f)(h:lift K (W9 f t) σ H Q):s_ r (W0 K t) σ H Q:=by obtain⟨S,ρ,Q3,fc,sl,ht,k⟩:=h;show⟨S,ρ,_,fc,sl,ht,λvs H1 ds s1 d1 q1=>?_⟩;show h3 S H1 vs ds Q3 Q (bJ fc s1) d1 q1 λv H' d s' d' q'=>k v H' d (s1.trans s') d' q'
def XA{K:ao}{r:List V->Hp->VK->Prop}{f:F1}{t:WA}{σ:L2.St}{H:Hp}{Q:VK}(h3:C3F K r f)(h:W2 K (W9 f t) σ H Q):s_ r (W0 K t) σ H Q:=by obtain⟨S,ρ,Q3,fc,sl,ht,k⟩:=h;show⟨S,ρ,_,fc,sl,ht,λvs H1 ds s1 d1 q1=>?_⟩;show h3 S H1 vs ds Q3 Q (bJ fc s1) d1 q1 λp ys H' es hp hp' s' d' q'=>k p ys H' es (s1.free hp) hp' (s1.trans s') d' q'
def uM{x:aj}{p ν:bf}{e:aw}{es:List aw}{t:WA}{id:String}{r:List V->Hp->VK->Prop}{f:F1}(hc:gX X (.builtin id) r)(h3:C3 X.K r f)(hv:bootBuiltins x=aa (.builtin id))(hg:Gl X x)(hm:X.mg x=ae)(ha:CM X (e::es) t)(hn:x ≠ "__name__":=by decide)(hdb:Zu x:=by decide)
  (he:Zs X e es:=by rfl) (hpl:Q0l X ν es:=by rfl):cV X (.Call (.Name x p) (e::es) [] ν) (W9 f t) :=
 imp (lZ hc hg hm hv ha hn hdb he hpl) λ_ _ _=>OT h3
def OU{x:aj}{p ν:bf}{e:aw}{es:List aw}{t:WA}{id:String}{r:List V->Hp->VK->Prop}{f:F1}(hc:gX X (.builtin id) r)(h3:C3F X.K r f)(hv:bootBuiltins x=aa (.builtin id))(hg:Gl X x)(hm:X.mg x=ae)(ha:CM X (e::es) t)(hn:x ≠ "__name__":=by decide)(hdb:Zu x:=by decide)
  (he:Zs X e es:=by rfl) (hpl:Q0l X ν es:=by rfl):K8 X (.Call (.Name x p) (e::es) [] ν) (W9 f t) :=
 imp (lZ hc hg hm hv ha hn hdb he hpl) λ_ _ _=>XA h3
theorem OV(hc:gX X (.type T) r)(h3:C3 X.K r f)(hv:bootBuiltins x=aa (.type T))(hg:Gl X x)(hm:X.mg x=ae)(ha:CM X (e::es) t)(hn:x ≠ "__name__":=by decide)(hdb:Zu x:=by decide)
  (he:Zs X e es:=by rfl) (hpl:Q0l X ν es:=by rfl):cV X (.Call (.Name x p) (e::es) [] ν) (W9 f t) :=
 imp (CI hc hg hm hv ha hn hdb he hpl) λ_ _ _=>OT h3
noncomputable def BA:F1
 |[.lst ds],Q=>Q (.int ds.length)
 |[.tup ds],Q=>Q (.int ds.length)
 |[.j6 ns],Q=>Q (.int ns.length)
 |_,_=>False
theorem aED{K:ao}:C3 K (λxs H Q=>∃p ys,xs=[.ref p]/\(eW K H p ys\/fF K H p ys)/\Q (.int ys.length) H) BA:=by
 intro S H xs ds Q3 Q fc hd hf k
 match ds,hf with
 |[.lst es],hf =>
  obtain⟨v,r,rfl,h1,h2⟩:=hd.bO;simp only[aW] at h2;subst h2;symm at h1;obtain⟨a,ys,rfl,ha,sa,da⟩:=h1;show⟨a,ys,rfl,.inl (eW.of ha),k _ H _ (ξ.refl H) (by symm;rw[da.len]) hf⟩
 |[.tup es],hf =>
  obtain⟨v,r,rfl,h1,h2⟩:=hd.bO;simp only[aW] at h2;subst h2;symm at h1;obtain⟨a,ys,rfl,ha,da⟩:=h1;show⟨a,ys,rfl,.inr (fF.of ha),k _ H _ (ξ.refl H) (by symm;rw[da.len]) hf⟩
 |[.j6 ns],hf =>
  obtain⟨v,r,rfl,h1,h2⟩:=hd.bO;simp only[aW] at h2;subst h2;symm at h1;obtain⟨a,rfl,ha⟩:=h1;show⟨a,_,rfl,.inl ha.sq,k _ H _ (ξ.refl H) (by symm;rw[a_]) hf⟩
theorem Qb(hm:X.mg "len"=ae)(ha:CM X [e] t)(hg:Gl X "len":=by rfl)
  (he:Zs X e []:=by rfl):cV X (.Call (.Name "len" p) [e] [] ν) (W9 BA t):=uM E3 aED PySem.boot_len hg hm ha (by decide) (by decide) he (by rfl)
noncomputable def K9:F1
 |[.lst ds],Q=>Q (.tup ds)
 |[.tup ds],Q=>Q (.tup ds)
 |_,_=>False
theorem XB{K:ao}:C3 K (λxs H Q=>∃p ys,xs=[.ref p]/\((eW K H p ys /\∀l,H l=ae->Q (.ref l) (upd H l (.tup ys)))\/(fF K H p ys/\Q (.ref p) H))) K9:=by
 intro S H xs ds Q3 Q fc hd hf k
 match ds,hf with
 |[.lst es],hf =>
  obtain⟨v,r,rfl,h1,h2⟩:=hd.bO;simp only[aW] at h2;subst h2;symm at h1;obtain⟨a,ys,rfl,ha,sa,da⟩:=h1;show⟨a,ys,rfl,.inl ⟨eW.of ha,λl hl=>k _ _ _ (aY hl) ?_ hf⟩⟩;symm;show⟨l,ys,rfl,bA,aW.fits (.same (aY hl)) _ _ da⟩
 |[.tup es],hf =>
  obtain⟨v,r,rfl,h1,h2⟩:=hd.bO;simp only[aW] at h2;subst h2;have h1':=h1;symm at h1;obtain⟨a,ys,rfl,ha,da⟩:=h1;show⟨a,ys,rfl,.inr ⟨(fF.of ha),k _ H _ (ξ.refl H) h1' hf⟩⟩
def aEE(hm:X.mg "tuple"=ae)(hv:bootBuiltins "tuple"=aa (.type "tuple"))(ha:CM X [e] t)(hg:Gl X "tuple":=by rfl)
  (he:Zs X e []:=by rfl):cV X (.Call (.Name "tuple" p) [e] [] ν) (W9 K9 t):=OV A7 XB hv hg hm ha (by decide) (by decide) he (by rfl)
abbrev Spec:=List D->(D->Prop)->Prop
def sp3(K:ao)(R:Spec):Sp:=λvs H Q _=>∃(S:ah->Prop) (ds:List D) (Q3:D->Prop),(∀a,H a=ae->S a)/\aW K S H ds vs/\R ds Q3 /\∀v H' d,ξ H H'->Dn K S H' d v->Q3 d->Q v H'
theorem Xf(F:lG X.Ω X.w X.K X.mg X.ω cC k f fd ps (sp3 X.K R))(hr:fS k X.A)(hm:X.mg x=aa (.ref f))(hk:keepIn X.K (.ref f)=af)(hb:Binds X.K fd ps [])
  (ha:CM X (e::es) t) (hg:Gl X x:=by rfl) (hdb:Zu x:=by decide) (he:Zs X e es:=by rfl) (hpl:Q0l X ν es:=by rfl):
  cV X (.Call (.Name x p) (e::es) [] ν) (W9 R t):=imp (pM F hr hg hm hk hb .nil OP ha hdb he hpl) λσ H Q Qa=>by
 obtain⟨S,ρ,Q3,fc,sl,ht,k⟩:=Qa;show⟨S,ρ,_,fc,sl,ht,λvs H1 ds s1 d1 q1=>?_⟩;show sp3 X.K R (vs++[]) H1 Q E0;rw[ij];show⟨S,ds,Q3,bJ fc s1,d1,q1,λv H' d s' d' q'=>k v H' d (s1.trans s') d' q'⟩
end
structure DE where
 nx:bU->Prop
 rt:D->Prop
 bk:bU->Prop:=λ_=>False
 ct:bU->Prop:=λ_=>False
 ex:aj->Prop:=λ_=>False
abbrev WS:=DE->bU->Prop
structure qW (X:Cx) (π:Q0b) (H:Hp) (s:ak) (e:ah) (cls a0:ai) (P:List ah):Prop where
 mem:e∈P
 free:∀q∈P,H q=ae
 new:∀q∈P,X.s₀.heap.get? q=ae
 fld:∀q∈P,∃o vs,s.heap.get? q=aa o/\o.data=.fields vs
 pin:∀q∈P,∀p∈X.pn++π,p.1≠q
 tr:(∃oe vs,s.heap.get? e=aa oe/\oe.cls=cls/\oe.data=.fields vs/\vs[1]?=aa .none/\vs[0]?=aa a0) \/
  (∃oe vs T oT ts,s.heap.get? e=aa oe/\(oe.cls=cls/\vs[0]?=aa a0)/\oe.data=.fields vs/\vs[1]?=aa (.ref T)/\T∈P/\T≠e/\s.heap.get? T=aa oT/\oT.data=.fields ts/\ts[3]?=aa .none)
def XC(X:Cx)(c:aj)(H:Hp):Prop:=∃C:ah,X.mg c=aa (.ref C) /\∀(π:Q0b) (σ:L2.St) (s:ak) (e:ah) (a0:ai) (P:List ah),Φ X π σ H s->qW X π H s e (.ref C) a0 P->X.xe (.ref e) s
structure XD (K:ao) (xc:aj->Hp->Prop) (n:Nat) (H₀:Hp) (S:ah->Prop) (G:List (D×V)) (E:DE) (B:Ends):Prop where
 nx:∀w σ H ρ,σ.length=n->ST K H₀ S w σ H ρ G->E.nx ρ->B.nx σ H
 rt:∀v H d,ξ H₀ H->Dn K S H d v->E.rt d->B.rt v H
 bk:∀w σ H ρ,σ.length=n->ST K H₀ S w σ H ρ G->E.bk ρ->B.bk σ H
 ct:∀w σ H ρ,σ.length=n->ST K H₀ S w σ H ρ G->E.ct ρ->B.ct σ H
 ex:∀c H,ξ H₀ H->E.ex c->xc c H
def vS(K:ao)(xc:aj->Hp->Prop)(n:Nat)(t:WS):TS:=λB σ H=>∃(H₀:Hp) (S:ah->Prop) (w:Nat->ah) (ρ:bU) (G:List (D×V)) (E:DE),σ.length=n/\ST K H₀ S w σ H ρ G/\t E ρ/\XD K xc n H₀ S G E B
def FD(X:Cx)(st:bx)(t:WS):Prop:=PS X st (vS X.K (XC X) X.N.length t)
def wK(X:Cx)(st:List bx)(t:WS):Prop:=AZ X st (vS X.K (XC X) X.N.length t)
section
variable{X:Cx}
def jN{e:bx}{t t':TS}(h:PS X e t)(f:∀B σ H,t' B σ H->t B σ H):PS X e t':=λπ s σ H B I q=>h π s σ H B I (f B σ H q)
def HN(h:AZ X e t)(f:∀B σ H,t' B σ H->t B σ H):AZ X e t':=λπ s σ H B I q=>h π s σ H B I (f B σ H q)
def Xe:WS:=λE ρ=>E.nx ρ
def xh(t u:WS):WS:=λE ρ=>t {E with nx:=u E} ρ
def P_:wK X [] Xe:=HN OC λB σ H Pz=>by obtain⟨H₀,S,w,ρ,G,E,hl,st,ht,ok⟩:=Pz;show ok.nx w σ H ρ hl st ht
def Py{st:bx}{Θ:List bx}{t u:WS}(h1:FD X st t)(h2:wK X Θ u):wK X (st::Θ) (xh t u):=HN (zJ h1 h2) λB σ H Px=>by obtain⟨H₀,S,w,ρ,G,E,hl,sT,ht,ok⟩:=Px;show⟨H₀,S,w,ρ,G,{E with nx:=u E},hl,sT,ht,⟨λw' σ' H' ρ' hl' st' q=>⟨H₀,S,w',ρ',G,E,hl',st',q,ok⟩,ok.rt,ok.bk,ok.ct,ok.ex⟩⟩
def Xd{st:bx}{t:WS}(h1:FD X st t):wK X [st] t:=HN (OD h1) λ_ _ _ h=>h
def Pw(t:WE):WS:=λE ρ=>t (bR ρ) E.rt
def Pu(h:cV X e t):FD X (.Return (aa e) ν) (Pw t):=jN (KO h) λB σ H Pr=>by obtain⟨H₀,S,w,ρ,G,E,hl,st,ht,ok⟩:=Pr;show⟨S,bR ρ,E.rt,st.K6,st.all,ht,λv H' d s' d' q'=>ok.rt v H' d (st.sm.trans s') d' q'⟩
def Pq(c:WT)(t u:WS):WS:=λE ρ=>c (bR ρ) λb=>if b=af then t E ρ else u E ρ
theorem Pp(hc:xM X c tc)(ha:wK X a t)(hb:wK X b u):FD X (.If c a b ν) (Pq tc t u):=jN (Xw hc ha hb) λB σ H Po=>by
 obtain⟨H₀,S,w,ρ,G,E,hl,st,ht,ok⟩:=Po;show⟨S,bR ρ,_,st.K6,st.all,ht,λd H1 s1 q1=>?_⟩
 cases d with
 |true=>rw[Z_ rfl] at q1 ⊢;show⟨H₀,S,w,ρ,G,E,hl,st.same s1,q1,ok⟩
 |false=>rw[Zz bp] at q1 ⊢;show⟨H₀,S,w,ρ,G,E,hl,st.same s1,q1,ok⟩
def xg(i:Nat)(t:WE):WS:=λE ρ=>t (jL ρ) λd=>E.nx (ρ.set i (.ro d))
def Pn(i:Nat)(t:WE):WS:=λE ρ=>t (jL ρ) λd=>E.nx (ρ.set i (.ow d))
section
variable{i:Nat}{x:aj}{e:aw}{t:WE}{ν pos':bf}
def jT{N:Q0g}{i:Nat}{x:aj}(h:N[i]?=aa x):i<N.length:=(cb.mp h).1
def Pm(hN:X.N.Nodup)(he:cV X e t)(hi:X.N[i]?=aa x:=by rfl)(hx:Loc X.env.scope x:=by walk_at "0")(hs:Si X e x pos' ν:=by rfl)(hf:Zr X x:=by walk_at "0"):
  FD X (.Assign [.Name x pos'] e ν) (xg i t):=jN (oG hN hi hx he hs hf) λB σ H Pl=>by
 obtain⟨H₀,S,w,ρ,G,E,hl,st,ht,ok⟩:=Pl;show⟨_,jL ρ,_,st.OR,st.rd,ht,λv H' d s' d' q'=>ok.nx w _ H' _ (by rw[gn];show hl) ((st.same s').lH (by rw[hl];show jT hi) d') q'⟩
def Pk(hN:X.N.Nodup)(he:K8 X e t)(hi:X.N[i]?=aa x:=by rfl)(hx:Loc X.env.scope x:=by walk_at "0")(hs:Si X e x pos' ν:=by rfl)(hf:Zr X x:=by walk_at "0"):
  FD X (.Assign [.Name x pos'] e ν) (Pn i t):=jN (oG hN hi hx he hs hf) λB σ H Pj=>by
 obtain⟨H₀,S,w,ρ,G,E,hl,st,ht,ok⟩:=Pj;show⟨_,jL ρ,_,st.OR,st.rd,ht,λp xs H' ds hp hp' s' d' q'=>ok.nx _ _ H' _ (by rw[gn];show hl) (st.K7 (d:=.lst ds) (by rw[hl];show jT hi) s' hp ⟨xs,hp',d'⟩) q'⟩
end
def jO(N:Q0g)(ds:List D):bU:=ds.map Sv.ro++bu (N.length-ds.length) Sv.no
def zW{K:ao}{H:Hp}{S:ah->Prop}{N:Q0g}{ds:List D}{vs:List V}(fc:∀a,H a=ae->S a)(h:aW K S H ds vs):ST K H S (λ_=>0) (L2.start N vs) H (jO N ds) []:=by
 have no:∀(i:Nat) (d:D),(jO N ds)[i]?≠aa (Sv.ow d):=λi d e=>by
  unfold jO at e;by_cases hi:i<ds.length
  .rw [jz (by simpa using hi),cf] at e
   cases q:ds[i]? with
   |none=>rw[q] at e;cases e
   |some a=>rw[q] at e;cases e
  .rw [jy (by simpa using hi),jj] at e;split at e<;>cases e
 have so:∀a,S a->SO S (λ_=>0) (jO N ds) a:=λa s=>⟨s,λi d e=>Zw e (no i d)⟩;show⟨fc,ξ.refl H,λi d e=>Zw e (no i d),λi j d e h1=>Zw h1 (no i d),λi d e=>?_,λg hg=>(nomatch hg),λi _ e=>Zw e (no i _)⟩;unfold jO at e;by_cases hi:i<ds.length
 .rw [jz (by simpa using hi),cf] at e
  cases q:ds[i]? with
  |none=>rw[q] at e;cases e
  |some a =>
   rw[q] at e;cases e;obtain⟨v,e1,dv⟩:=h.get q;show⟨v,?_,Dn.fits (.mono so) _ _ dv⟩;unfold L2.start;have hv:i<vs.length:=(cb.mp e1).1;rw[jz (by simpa using hv),cf,e1];rfl
 .rw [jy (by simpa using hi),jj] at e;split at e<;>cases e
theorem Ph{P:bc}{w:ba}{K:ao}{mg:Q0d}{ω:ay}{x qual:aj}{st:bx}{f:ah}{fd:fv}{N ps:Q0g}{k:Nat}{R:Spec}(F:Y9 K x qual st f fd)(S:gO N ps (bB st))(len:∀ds Q,R ds Q->ds.length=ps.length)
  (hbody:∀(cdv:ai) (A:bq) (Γ:List dh) (s:ak) (H:Hp) (E:XK),fS k (A.deeper (envOfC qual (bB st) s.heap.objs.size f cdv)) ->
   ∃t:WS,wK (m8 cC P w K mg ω N qual (bB st) f cdv A Γ s H E).OB (fL st) t /\∀ds Q,R ds Q->t {nx:=λ_=>Q .non,rt:=Q} (jO N ds)):lG P w K mg ω cC (k+1) f fd ps (sp3 K R):=by
 show F.ok S (λvs H Q E h=>?_) λcdv A Γ s H vs Q E hr h=>?_
 .obtain ⟨S',ds,Q3,fc,dn,r,_⟩:=h;rw[<- dn.len];show len ds Q3 r
 .obtain ⟨t,ht,hq⟩:=hbody cdv A Γ s H E hr;obtain⟨S',ds,Q3,fc,dn,r,kk⟩:=h;show⟨_,ht,H,S',λ_=>0,jO N ds,[],{nx:=λ_=>Q3 .non,rt:=Q3},?_,zW fc dn,hq ds Q3 r,⟨λw' σ' H' ρ' _ st' q=>?_,λv H' d s' d' q=>kk v H' d s' d' q,λ_ _ _ _ _ _ q=>q,λ_ _ _ _ _ _ q=>q,λ_ _ _ q=>q.elim⟩⟩
  .have hl:=len ds Q3 r;have hl2:=dn.len;have hp:ps.length<=N.length:=by have:=congrArg ny S.pre;rw[kz] at this;lia
   unfold L2.start;show _=N.length;rw[di,a_,ie];lia
  .exact kk .non H' .non st'.sm (by symm) q
end
abbrev WX:=bU->(bU->D->Prop)->Prop
def XE(K:ao)(n:Nat)(t:WX):TE:=λσ H Q=>∃(H₀:Hp) (S:ah->Prop) (w:Nat->ah) (ρ:bU) (G:List (D×V)) (Q3:bU->D->Prop),σ.length=n/\ST K H₀ S w σ H ρ G/\t ρ Q3 /\
 ∀w' v H' ρ' d,ST K H₀ S w' σ H' ρ' G->Dn K (SO S w' ρ') H' d v->Q3 ρ' d->Q v H'
def HP(X:Cx)(e:aw)(t:WX):Prop:=PE X e (XE X.K X.N.length t)
def Xc(t:WE):WX:=λρ Q=>t (bR ρ) λd=>d.A2=af/\Q ρ d
def aEH(t:WE):WX:=λρ Q=>t (jL ρ) λd=>Q ρ d
section
variable{X:Cx}
def px3(h:cV X e t):HP X e (Xc t):=imp h λσ H Q Pg=>by obtain⟨H₀,S,w,ρ,G,Q3,hl,st,ht,k⟩:=Pg;show⟨S,bR ρ,_,st.K6,st.all,ht,λv H' d s' d' q'=>k w v H' ρ d (st.same s') (Dn.A2 q'.1 d') q'.2⟩
def Pe(h:cV X e t):HP X e (aEH t):=imp h λσ H Q Pd=>by obtain⟨H₀,S,w,ρ,G,Q3,hl,st,ht,k⟩:=Pd;show⟨_,jL ρ,_,st.OR,st.rd,ht,λv H' d s' d' q'=>k w v H' ρ d (st.same s') d' q'⟩
def Xb(i:Nat)(t:WX):WS:=λE ρ=>t ρ λρ' d=>E.nx (ρ'.set i (.ro d))
def Xa(hN:X.N.Nodup)(he:HP X e t)(hi:X.N[i]?=aa x:=by rfl)(hx:Loc X.env.scope x:=by walk_at "0")(hs:Si X e x pos' ν:=by rfl)(hf:Zr X x:=by walk_at "0"):
  FD X (.Assign [.Name x pos'] e ν) (Xb i t):=jN (oG hN hi hx he hs hf) λB σ H Pc=>by
 obtain⟨H₀,S,w,ρ,G,E,hl,st,ht,ok⟩:=Pc;show⟨H₀,S,w,ρ,G,_,hl,st,ht,λw' v H' ρ' d st' d' q'=>ok.nx w' _ H' _ (by rw[gn];show hl) (st'.lH (by rw[hl];show jT hi) d') q'⟩
def W_(t:WX):WS:=λE ρ=>t ρ λρ' _=>E.nx ρ'
theorem Wz(he:HP X e t)(hs:dq e ae ν.line X.env=pure ag:=by rfl):FD X (.Expr e ν) (W_ t):=jN (ET he hs) λB σ H Pb=>by obtain⟨H₀,S,w,ρ,G,E,hl,st,ht,ok⟩:=Pb;show⟨H₀,S,w,ρ,G,_,hl,st,ht,λw' v H' ρ' d st' d' q'=>ok.nx w' _ H' _ hl st' q'⟩
noncomputable def oq(i:Nat)(f:List D->D->(List D->D->Prop)->Prop)(t:WX):WX:=λρ Q=>(match ρ[i]? with|some (.ow (.lst _))=>True|_=>False)/\t ρ λρ' d=>match ρ'[i]? with
 |some (.ow (.lst ds))=>f ds d λds' r=>Q (ρ'.set i (.ow (.lst ds'))) r
 |_=>False
def M3(K:ao)(r:V->List V->Hp->VK->Prop)(f:List D->D->(List D->D->Prop)->Prop):Prop:=∀(S:ah->Prop) (H:Hp) (p:ah) (xs:List V) (ds:List D) (y:V) (d:D) (Q3:List D->D->Prop) (Q:VK),
 H p=aa (.lst xs)->aW K S H ds xs->Dn K S H d y->f ds d Q3->(∀ys ds' v d',aW K S H ds' ys->Dn K S H d' v->Q3 ds' d'->Q v (upd H p (.lst ys)))->r (.ref p) [y] H Q
theorem aAt{K:ao}{n i:Nat}{r:V->List V->Hp->VK->Prop}{f:List D->D->(List D->D->Prop)->Prop}{t:WX}{σ:L2.St}{H:Hp}{Q:VK}(h3:M3 K r f)(h:XE K n (oq i f t) σ H Q):
  As K "list" r (uj i) (Ea (XE K n t) Cm) σ H Q:=by
 obtain⟨H₀,S,w,ρ,G,Q3,hl,st,⟨h0,ht⟩,k⟩:=h;split at h0
 .rename_i ds e;obtain⟨a,b,c⟩:=st.own i _ e;obtain⟨xs,hp,dn⟩:=c;show⟨_,a,.inl ⟨rfl,xs,eW.of hp⟩,H₀,S,w,ρ,G,_,hl,st,ht,λw' v H' ρ' d st' d' q'=>?_⟩;split at q'
  .rename_i ds' e';obtain⟨a',b',c'⟩:=st'.own i _ e';obtain⟨xs',hp',dn'⟩:=c';have ew:w i=w' i:=by have z:=a.symm.trans a';have z1:=cj (cj z);injection z1
   rw[ew];show h3 _ H' (w' i) xs' ds' v d _ Q hp' dn' d' q' λys ds2 v2 d2 sQ dv2 q2=>?_;have nS:¬ SO S w' ρ' (w' i):=λ⟨_,z⟩=>z i _ e' rfl;have F:Fits K (SO S w' ρ') (SO S w' ρ') H' (upd H' (w' i) (.lst ys)):=.upd (.inl ⟨_,hp'⟩) nS;have so:∀a,SO S w' ρ' a->SO S w' (ρ'.set i (.ow (.lst ds2))) a:=SO.mono λj f hf=>by
    rcases get_set hf with⟨hj,_,_⟩|⟨_,z⟩
    .subst hj;show⟨_,e'⟩
    .exact ⟨_,z⟩
   show k w' v2 _ _ d2 (st'.write (d':=.lst ds2) e' ⟨ys,bA,aW.fits F _ _ sQ⟩) (Dn.fits (F.trans (.mono so)) _ _ dv2) q2
  .exact q'.elim
 .exact h0.elim
theorem m1{i:Nat}{x:aj}{id:String}{name:aj}{e:aw}{p apos cpos:bf}{r:V->List V->Hp->VK->Prop}{f:List D->D->(List D->D->Prop)->Prop}{t:WX}(slot:Slot "list" name id)(hty:typeOf (.builtin id)=pure (.type "method_descriptor"))(hm:MtR X id r)(h3:M3 X.K r f)(he:HP X e t)
  (hN:X.N[i]?=aa x:=by rfl) (hv:AX X.env.scope x:=by walk_at "1") (hd:Zu x:=by decide) (hcd:Zt x:=by decide)
  (hbase:attributeBase (.Name x p) name X.env (eval (.Name x p) X.env)=eval (.Name x p) X.env:=by rfl)
  (hfew:Zq X cpos e:=by rfl)
  (hline:Q0k apos cpos:=by rfl) (hs:Zs X e []:=by rfl):
  HP X (.Call (.Attribute (.Name x p) name apos) [e] [] cpos) (oq i f t) :=
 imp (OM Gw slot hty hm (qT hN hv hd hcd) (eK he kT hs) hbase hfew hline hs (by rfl)) λ_ _ _ h=>aAt h3 h
def xf:List D->D->(List D->D->Prop)->Prop:=λds d Q=>ds.length<bb/\Q (ds++[d]) .non
theorem aEJ{K:ao}:M3 K ON xf:=by intro S H p xs ds y d Q3 Q hp dn dy hf k;show⟨p,xs,y,rfl,rfl,hp,by rw[<- dn.len];show hf.1,k _ _ _ _ (dn.append (aW.one dy)) (by symm) hf.2⟩
noncomputable def xb:List D->D->(List D->D->Prop)->Prop
 |ds,.int k,Q=>(-(2^63)<=k/\k<2^63)/\(match QX ds.length k with|some j=>(match ds[j]? with|some d=>Q (ds.eraseIdx j) d|none=>False)|none=>False)
 |_,_,_=>False
theorem aEL{K:ao}:M3 K WJ xb:=by
 intro S H p xs ds y d Q3 Q hp dn dy hf k
 cases d with
 |int i =>
  symm at dy;subst dy;obtain⟨⟨h1,h2⟩,hf⟩:=hf;split at hf
  .rename_i j ej;split at hf
   .rename_i dd ed;obtain⟨v,ev,dv⟩:=dn.get ed;obtain⟨g1,_⟩:=EY ej;show⟨p,xs,i,j,v,rfl,rfl,hp,h1,h2,by rw[<- dn.len];show g1,ev,k _ _ _ _ (dn.erase j) dv hf⟩
   .exact hf.elim
  .exact hf.elim
 |_=>show hf.elim
section
variable{i:Nat}{x:aj}{e:aw}{p apos cpos:bf}{t:WX}
def Oq(he:HP X e t)(hN:X.N[i]?=aa x:=by rfl)(hv:AX X.env.scope x:=by walk_at "1")(hd:Zu x:=by decide)(hcd:Zt x:=by decide)
  (hbase:attributeBase (.Name x p) "append" X.env (eval (.Name x p) X.env)=eval (.Name x p) X.env:=by rfl)
  (hfew:Zq X cpos e:=by rfl)
  (hline:Q0k apos cpos:=by rfl) (hs:Zs X e []:=by rfl):
  HP X (.Call (.Attribute (.Name x p) "append" apos) [e] [] cpos) (oq i xf t):=m1 a1e PySem.F.type_list_append CK aEJ he hN hv hd hcd hbase hfew hline hs
def Oo(he:HP X e t)(hN:X.N[i]?=aa x:=by rfl)(hv:AX X.env.scope x:=by walk_at "1")(hd:Zu x:=by decide)(hcd:Zt x:=by decide)
  (hbase:attributeBase (.Name x p) "pop" X.env (eval (.Name x p) X.env)=eval (.Name x p) X.env:=by rfl)
  (hfew:Zq X cpos e:=by rfl)
  (hline:Q0k apos cpos:=by rfl) (hs:Zs X e []:=by rfl):
  HP X (.Call (.Attribute (.Name x p) "pop" apos) [e] [] cpos) (oq i xb t):=m1 a1a PySem.F.type_list_pop WK aEL he hN hv hd hcd hbase hfew hline hs
end
def xa(ρ:bU)(i:Nat):Prop:=match ρ[i]? with
 |some (.ow (.lst _))=>True
 |_=>False
def Om(i:Nat)(t:WX)(tk:WE):WS:=λE ρ=>t ρ λρ' d=>xa ρ' i/\tk (bR ρ') λk=>match ρ'[i]?,k with
 |some (.ow (.lst ds)),.int k=>(match QX ds.length k with|some j=>E.nx (ρ'.set i (.ow (.lst (ds.set j d))))|none=>False)
 |_,_=>False
theorem put3(he:HP X e t)(hk:cV X k tk)
  (hN:X.N[i]?=aa x:=by rfl) (hv:AX X.env.scope x:=by walk_at "1") (hd:Zu x:=by decide) (hcd:Zt x:=by decide)
  (ha:∀v,assign (.Subscript (.Name x p) k pos') X.env v=(do
   let ov <- holding [v] (eval (.Name x p) X.env)
   let iv <- holding [v,ov] (eval k X.env)
   standAt pos'
   holding [v,ov,iv] (setItem ov iv v)
   release [v,ov,iv] []):=by intro _;rfl)
  (hs:swapsWithSole [.Subscript (.Name x p) k pos'] e ν.line X.env=pure ag:=by rfl) (hw:swappedStores [.Subscript (.Name x p) k pos'] e X.env=pure ae:=by rfl)
  (h1:(dg [.Subscript (.Name x p) k pos'] X.env).map (·.2)=[assign (.Subscript (.Name x p) k pos') X.env]:=by rfl):
  FD X (.Assign [.Subscript (.Name x p) k pos'] e ν) (Om i t tk):=jN (V0 he (aD3 (qT hN hv hd hcd) hk set_list ha) hs hw h1) λB σ H Ol=>by
 obtain⟨H₀,S,w,ρ,G,E,hl,st,ht,ok⟩:=Ol;show⟨H₀,S,w,ρ,G,_,hl,st,ht,λw' v H' ρ' d st' d' q'=>?_⟩;obtain⟨q0,q'⟩:=q';unfold xa at q0;split at q0
 .rename_i ds0 e0;obtain⟨a0,_,_⟩:=st'.own i _ e0;show⟨_,a0,S,bR ρ',_,st'.K6,st'.all,q',λkv H2 dk s2 dk2 q2=>?_⟩;split at q2
  .rename_i ds k' e1;symm at dk2;split at q2
   .rename_i j ej;have st2:=st'.same s2;obtain⟨a,b,c⟩:=st2.own i _ e1;obtain⟨xs,hp,dn⟩:=c;have nS:¬ SO S w' ρ' (w' i):=λ⟨_,z⟩=>z i _ e1 rfl;have F:Fits X.K (SO S w' ρ') (SO S w' ρ') H2 (upd H2 (w' i) (.lst (xs.set j v))):=.upd (.inl ⟨_,hp⟩) nS;show⟨w' i,xs,k',j,rfl,dk2,hp,by rw[<- dn.len];show ej,ok.nx w' σ _ _ hl (st2.write (d':=.lst (ds.set j d)) e1 ⟨_,bA,aW.fits F _ _ (dn.set j (Dn.fits (.same s2) _ _ d'))⟩) q2⟩
   .exact q2.elim
  .exact q2.elim
 .exact q0.elim
end
structure Wlk (K:ao) (J:It) (ds:List D) (G:List (D×V)):Prop where
 go:∀(S:ah->Prop) (H:Hp),(∀a,H a=ae->S a)->(∀g∈G,Dn K S H g.1 g.2) ->∀(i:Nat) (d:D),ds[i]?=aa d->J.go i H /\∀x H',J.yld i H x H'->ξ H H'/\Dn K S H' d x
 stop:∀(S:ah->Prop) (H:Hp),(∀g∈G,Dn K S H g.1 g.2) ->∀i:Nat,ds.length=i->J.stop i H
abbrev WI:=dW->(List D->Prop)->Prop
def Dw(K:ao)(t:WI):TI:=λσ H R=>∃(S:ah->Prop) (ρ:dW) (Q3:List D->Prop),(∀a,H a=ae->S a)/\Sl K S H ρ σ/\t ρ Q3 /\
 ∀J H' ds G,ξ H H'->(∀g∈G,Dn K S H' g.1 g.2)->Wlk K J ds G->Q3 ds->R J H'
def XG(X:Cx)(tg iter:aw)(t:WI):Prop:=PI X tg iter (Dw X.K t)
section
variable{X:Cx}{tg:aw}
theorem Q9(h:PI X tg e t)(f:∀σ H R,t' σ H R->t σ H R):PI X tg e t':=λπ s σ H R I q=>h π s σ H R I (f σ H R q)
noncomputable def Wy(t:WE):WI:=λρ Q=>t ρ λd=>match d with
 |.lst ds=>Q ds
 |.tup ds=>Q ds
 |_=>False
theorem XH{K:ao}{a:ah}{ds:List D}:Wlk K (Itl K a) ds [(.lst ds,.ref a)] where
 go:=λS H fc hg i d e=>by have h:=hg _ (cc.mpr rfl);symm at h;obtain⟨b,xs,eb,hb,sb,dn⟩:=h;injection eb with eb;subst eb;obtain⟨v,ev,dv⟩:=dn.get e;show⟨⟨xs,v,eW.of hb,ev⟩,λx H' y=>?_⟩;obtain⟨e1,y⟩:=y;subst e1;have ex:=y xs (eW.of hb);rw[ev] at ex;cases ex;show⟨ξ.refl _,dv⟩
 stop:=λS H hg i hi=>by have h:=hg _ (cc.mpr rfl);symm at h;obtain⟨b,xs,eb,hb,sb,dn⟩:=h;injection eb with eb;subst eb;show⟨xs,eW.of hb,by rw[<- dn.len];show nh hi⟩
theorem aAu{K:ao}{a:ah}{ds:List D}:Wlk K (Itt K a) ds [(.tup ds,.ref a)] where
 go:=λS H fc hg i d e=>by have h:=hg _ (cc.mpr rfl);symm at h;obtain⟨b,xs,eb,hb,dn⟩:=h;injection eb with eb;subst eb;obtain⟨v,ev,dv⟩:=dn.get e;show⟨⟨xs,v,(fF.of hb),ev⟩,λx H' y=>?_⟩;obtain⟨e1,y⟩:=y;subst e1;have ex:=y xs (fF.of hb);rw[ev] at ex;cases ex;show⟨ξ.refl _,dv⟩
 stop:=λS H hg i hi=>by have h:=hg _ (cc.mpr rfl);symm at h;obtain⟨b,xs,eb,hb,dn⟩:=h;injection eb with eb;subst eb;show⟨xs,(fF.of hb),by rw[<- dn.len];show nh hi⟩
def aEO(hl:PE X l tl):PI X tg l (λσ H R=>tl σ H λx H1=>∃a,x=.ref a/\(((∃xs,eW X.K H1 a xs)/\R (Itl X.K a) H1)\/((∃xs,fF X.K H1 a xs)/\R (Itt X.K a) H1))):=by
 intro π s σ H R I h;show eI (hl π s σ H _ I h) λv s1 Oj=>?_;obtain⟨x,H1,I1,r1,q1⟩:=Oj;obtain⟨a,e,q⟩:=q1;subst e;cases r1;rcases q with⟨⟨xs,hq⟩,q⟩|⟨⟨xs,hq⟩,q⟩
 .obtain ⟨ι,rv,p,hz⟩:=I1.list hq;show Fo p.isList ?_;show⟨s1.heap.objs.size,[s1.heap.objs.size],_,_,H1,rfl,I1.kept (t':=s1.toks) λb o e=>cn _ e,QP a _,⟨_,dm _ rfl,rfl,rfl⟩,λb hb=>?_,q⟩;have e:b=s1.heap.objs.size:=by simpa using hb
  subst e;show I1.EU (bg _) (I1.hok.fresh (bg _))
 .obtain ⟨ι,rv,p,hz⟩:=I1.tuple hq;show ou (show s1.heap.IsTuple a ι.toArray from p) ?_;show⟨s1.heap.objs.size,[s1.heap.objs.size],_,_,H1,rfl,I1.kept (t':=s1.toks) λb o e=>cn _ e,KP a _,⟨_,dm _ rfl,rfl,rfl⟩,λb hb=>?_,q⟩;have e:b=s1.heap.objs.size:=by simpa using hb
  subst e;show I1.EU (bg _) (I1.hok.fresh (bg _))
theorem Wx(h:cV X l t):XG X tg l (Wy t):=Q9 (aEO h) λσ H R Oi=>by
 obtain⟨S,ρ,Q3,fc,sl,ht,k⟩:=Oi;show⟨S,ρ,_,fc,sl,ht,λv H1 d s1 d1 q1=>?_⟩
 cases d with
 |lst ds =>
  have d1':=d1;symm at d1;obtain⟨a,xs,rfl,ha,sa,da⟩:=d1;show⟨a,rfl,.inl ⟨⟨xs,eW.of ha⟩,k _ H1 ds [(.lst ds,.ref a)] s1 (λg hg=>by cases cc.mp hg;show d1') XH q1⟩⟩
 |tup ds =>
  have d1':=d1;symm at d1;obtain⟨a,xs,rfl,ha,da⟩:=d1;show⟨a,rfl,.inr ⟨⟨xs,(fF.of ha)⟩,k _ H1 ds [(.tup ds,.ref a)] s1 (λg hg=>by cases cc.mp hg;show d1') aAu q1⟩⟩
 |_=>show q1.elim
def m9(lo:Int)(n:Nat):List Int:=(bz n).map λk:Nat=>lo+(k:Int)
def oI(lo:Int)(n:Nat):(m9 lo n).length=n:=by simp[m9]
def XI{lo:Int}{n i:Nat}:(m9 lo n)[i]?=if i<n then aa (lo+(i:Int)) else ae:=by
 unfold m9;rw[cf];by_cases h:i<n
 .rw [Z_ h,r6 h];rfl
 .rw [Zz h,jq (by simpa using h)];rfl
theorem RA{K:ao}{lo:Int}{n:Nat}:Wlk K (Itr lo n) ((m9 lo n).map D.int) [] where
 go:=λS H fc hg i d e=>by
  rw[cf,XI] at e;by_cases h:i<n
  .rw [Z_ h] at e;cases e;show⟨h,λx H' y=>?_⟩;obtain⟨e1,e2⟩:=y;subst e1;show⟨ξ.refl _,by symm;show e2⟩
  .rw [Zz h] at e;cases e
 stop:=λS H hg i hi=>by rw[a_,oI] at hi;show nh hi
noncomputable def aEP(t:WA):WI:=λρ Q=>t ρ λds=>match ds with
 |[.int j]=>(-(2^62)<=j/\j<2^62)/\Q ((m9 0 j.toNat).map D.int)
 |_=>False
def aEQ(hm:X.mg "range"=ae)(ha:CM X [a] t)(hg:Gl X "range":=by rfl)(hs:ar [a] X.env=[(ag,eval a X.env)]:=by rfl):XG X tg (.Call (.Name "range" p) [a] [] ν) (aEP t) :=
 Q9 (QQ hg hm ha hs) λσ H R Oh=>by
  obtain⟨S,ρ,Q3,fc,sl,ht,k⟩:=Oh;show⟨S,ρ,_,fc,sl,ht,λvs H1 ds s1 d1 q1=>?_⟩;split at q1
  .rename_i j;obtain⟨v,r,rfl,h1,h2⟩:=d1.bO;simp only[aW] at h2;subst h2;symm at h1;subst h1;show⟨j,rfl,q1.1.1,q1.1.2,k _ H1 _ [] s1 (λg hg=>nomatch hg) RA q1.2⟩
  .exact q1.elim
abbrev WG:=D->bU->(bU->Prop)->Prop
def Ww(K:ao)(n:Nat)(g:WG):TG:=λv σ H Q=>∃(H₀:Hp) (S:ah->Prop) (w:Nat->ah) (ρ:bU) (G:List (D×V)) (d:D) (Q3:bU->Prop),σ.length=n/\ST K H₀ S w σ H ρ G/\Dn K (SO S w ρ) H d v/\g d ρ Q3 /\
 ∀σ' H' ρ',σ'.length=n->ST K H₀ S w σ' H' ρ' G->Q3 ρ'->Q σ' H'
def PG3(X:Cx)(tg:aw)(g:WG):Prop:=PG X tg (Ww X.K X.N.length g)
def RB(h:PG X e t)(f:∀v σ H Q,t' v σ H Q->t v σ H Q):PG X e t':=λπ s σ H v u Q I r q=>h π s σ H v u Q I r (f v σ H Q q)
def gN(i:Nat):WG:=λd ρ Q=>Q (ρ.set i (.ro d))
theorem Wv(hN:X.N.Nodup)(hi:X.N[i]?=aa x:=by rfl)(hx:Loc X.env.scope x:=by walk_at "0")(hf:Zr X x:=by walk_at "0"):PG3 X (.Name x ν) (gN i) :=
 RB (pL hN hi hx hf) λv σ H Q Og=>by obtain⟨H₀,S,w,ρ,G,d,Q3,hl,st,dn,hg,k⟩:=Og;show k _ H _ (by rw[gn];show hl) (st.lH (by rw[hl];show jT hi) dn) hg
noncomputable def g2(i j:Nat):WG:=λd ρ Q=>match d with
 |.tup [d1,d2]=>Q ((ρ.set i (.ro d1)).set j (.ro d2))
 |_=>False
def Wu(hc:X.calm=af)(hN:X.N.Nodup)(hi:X.N[i]?=aa x:=by rfl)(hj:X.N[j]?=aa y:=by rfl)(hx:Loc X.env.scope x:=by walk_at "0")(hy:Loc X.env.scope y:=by walk_at "0")
  (hf:Zr X x:=by walk_at "0") (hf2:Zr X y:=by walk_at "0")
  (hn:Q0j X x y px py:=by rfl) (hst:Q0i X x y px py:=by rfl)
  (hs1:gV X x y px py:=by rfl) (hs2:Q0h X y py:=by rfl):
  PG3 X (.Tuple [.Name x px,.Name y py] k ν) (g2 i j) :=
 RB (VZ (n:=2) hc (sI (pL hN hi hx hf) (sI (pL hN hj hy hf2) OE hs2) hs1) hn hst) λv σ H Q Of=>by
  obtain⟨H₀,S,w,ρ,G,d,Q3,hl,st,dn,hg,k⟩:=Of;unfold g2 at hg;split at hg
  .rename_i d1 d2;symm at dn;obtain⟨a,xs,rfl,ha,da⟩:=dn;obtain⟨v1,r1,rfl,h1,h2⟩:=da.bO;obtain⟨v2,r2,rfl,h3,h4⟩:=h2.bO;simp only[aW] at h4;subst h4;show⟨a,_,rfl,(fF.of ha),rfl,v1,[v2],rfl,v2,[],rfl,rfl,?_⟩;have st1:=st.lH (i:=i) (by rw[hl];show jT hi) h1;have m:∀a,SO S w ρ a->SO S w (ρ.set i (.ro d1)) a:=SO.mono λn f hf=>by
    rcases get_set hf with⟨_,z,_⟩|⟨_,z⟩
    .cases z
    .exact ⟨_,z⟩
   have st2:=st1.lH (i:=j) (d:=d2) (v:=v2) (by rw[gn,hl];show jT hj) (Dn.fits (.mono m) _ _ h3);show k _ H _ (by rw[gn,gn];show hl) st2 hg
  .exact hg.elim
def Oe(ti:WI)(g:WG)(tb:WS):WS:=λE ρ=>ti (jL ρ) λds=>∃Φ:Nat->bU->Prop,Φ 0 ρ /\
 (∀(i:Nat) (d:D) (ρ':bU),ds[i]?=aa d->Φ i ρ'->g d ρ' λρ2=>tb {E with nx:=Φ (i+1),ct:=Φ (i+1),bk:=E.nx} ρ2) /\∀ρ',Φ ds.length ρ'->E.nx ρ'
theorem Od(hc:X.calm=af)(hp:qr (av X.Ω X.w) X.A X.env X.xe)(hi:XG X tg iter ti)(hg:PG3 X tg g)(hb:wK X body tb)
  (hs:Zp X iter:=by intro _;rfl):FD X (.For tg iter body [] ν) (Oe ti g tb):=jN (aD6 hp hc hi hg hb hs) λB σ H Oc=>by
 obtain⟨H₀,S,w,ρ,G,E,hl,st,ht,ok⟩:=Oc;show⟨_,jL ρ,_,st.OR,st.rd,ht,λJ H1 ds G1 s1 hg1 wk q1=>?_⟩;obtain⟨Iv,h0,turn,fin⟩:=q1;have stG:∀{w σ H ρ},ST X.K H₀ S w σ H ρ (G1++G)->ST X.K H₀ S w σ H ρ G:=λst=>st.ghost λg hg=>st.gh g (gq _ hg);show⟨λi m σ H=>m=ds.length-i/\i<=ds.length/\σ.length=X.N.length /\∃w ρ,ST X.K H₀ S w σ H ρ (G1++G)/\Iv i ρ,
  ⟨_,rfl,jm _,hl,w,ρ,(st.same s1).ghost λg hg=>(gm.mp hg).elim (λz=>hg1 g z) λz=>(st.same s1).gh g z,h0⟩,?_⟩
 rintro i m σ2 H2 ⟨rfl,hi2,hl2,w2,ρ2,st2,iv⟩;by_cases hlt:i<ds.length
 .refine .inr ?_;obtain⟨g1,g2⟩:=wk.go _ H2 st2.OR (λg hg=>st2.gh g (gj _ hg)) i ds[i] (by simp[hlt]);show⟨g1,λσ' H'=>σ'.length=X.N.length /\∃w ρ,ST X.K H₀ S w σ' H' ρ (G1++G)/\Iv (i+1) ρ,λσ' H' ⟨hl',w',ρ',st',iv'⟩=>⟨ds.length-(i+1),by lia,rfl,hlt,hl',w',ρ',st',iv'⟩,λx H' y=>?_⟩;obtain⟨s3,dx⟩:=g2 x H' y;show⟨H₀,S,w2,ρ2,G1++G,ds[i],_,hl2,st2.same s3,dx,turn i ds[i] ρ2 (by simp[hlt]) iv,λσ4 H4 ρ4 hl4 st4 q4=>?_⟩;show⟨H₀,S,w2,ρ4,G1++G,_,hl4,st4,q4,⟨λw' σ' H' ρ' hl' st' q=>⟨hl',w',ρ',st',q⟩,λv H' d s' d' q=>ok.rt v H' d s' d' q,λw' σ' H' ρ' hl' st' q=>ok.nx w' σ' H' ρ' hl' (stG st') q,λw' σ' H' ρ' hl' st' q=>⟨hl',w',ρ',st',q⟩,ok.ex⟩⟩
 .have e:i=ds.length:=by lia
  subst e;show .inl ⟨wk.stop _ H2 (λg hg=>st2.gh g (gj _ hg)) _ rfl,ok.nx w2 σ2 H2 ρ2 hl2 (stG st2) (fin ρ2 iv)⟩
end
theorem zX(h:∀x∈scope.names,x.2=.free ->∃c,env.cells.lookup x.1=aa c):
  ∃cl,closureFor scope env=pure cl/\(∀x∈scope.names,x.2=.free->cl.lookup x.1=env.cells.lookup x.1) /\∀x c,cl.lookup x=aa c->env.cells.lookup x=aa c:=by
 have go:∀(l:List (aj×ja)) (ψ:List (aj×ah)),(∀x∈l,x.2=.free ->∃c,env.cells.lookup x.1=aa c)->(∀x c,ψ.lookup x=aa c->env.cells.lookup x=aa c) ->
   ∃cl,(forIn l ψ λ(x:aj×ja) (cs:List (aj×ah))=>(match x with|(name,kind)=>if(kind == jf)=af then(do let c <- cellOf env name;pure (mh ((name,c)::cs))) else pure (mh cs):Sem (ForInStep (List (aj×ah)))))=pure cl /\
    (∀x c,ψ.lookup x=aa c->cl.lookup x=aa c)/\(∀x∈l,x.2=.free->cl.lookup x.1=env.cells.lookup x.1) /\∀x c,cl.lookup x=aa c->env.cells.lookup x=aa c:=by
  intro l
  induction l with
  |nil=>intro ψ _ ha;show⟨ψ,by rw[vn],λ_ _ z=>z,λx hx=>(nomatch hx),ha⟩
  |cons y l ih =>
   intro ψ hf ha;by_cases hk:y.2=.free
   .obtain ⟨c,hc⟩:=hf y b_ hk;have ha':∀x c',((y.1,c)::ψ).lookup x=aa c'->env.cells.lookup x=aa c':=λx c' hx=>by
     rw[rn] at hx;split at hx
     .rename_i e;cases hx;rw[eq_of_beq e];show hc
     .exact ha x c' hx
    obtain⟨cl,e,h1,h2,h3⟩:=ih ((y.1,c)::ψ) (λx hx=>hf x (fj _ hx)) ha';show⟨cl,?_,λx c' hx=>?_,λx hx hfx=>?_,h3⟩
    .rw [lh,<- e];have e1:(y.2 == jf)=af:=by rw[hk];rfl
     have e2:cellOf env y.1=pure c:=by unfold cellOf;rw[hc]
     obtain⟨yn,yk⟩:=y;dsimp only at e1 e2 ⊢;rw[Z_ e1,e2];rfl
    .by_cases hxy:x=y.1
     .subst hxy;have e3:((y.1,c)::ψ).lookup y.1=aa c:=by simp
      have e4:=ha _ _ hx;rw[hc] at e4;cases e4;show h1 _ _ e3
     .refine h1 x c' ?_;rw[rn];have:(x == y.1)=ag:=by simpa using hxy
      rw[this];show hx
    .rcases bh.mp hx with rfl|hx
     .rw [hc];show h1 _ _ (by simp)
     .exact h2 x hx hfx
   .obtain ⟨cl,e,h1,h2,h3⟩:=ih ψ (λx hx=>hf x (fj _ hx)) ha;show⟨cl,?_,h1,λx hx hfx=>?_,h3⟩
    .rw [lh,<- e];have e1:¬ (y.2 == jf)=af:=by simpa using hk
     obtain⟨yn,yk⟩:=y;dsimp only at e1 ⊢;rw[Zz e1];rfl
    .rcases bh.mp hx with rfl|hx
     .exact Zw hfx hk
     .exact h2 x hx hfx
 obtain⟨cl,e,_,h2,h3⟩:=go scope.names [] h (λx c z=>by simp at z);show⟨cl,?_,h2,h3⟩;have e':=congrArg (λt=>t >>= λr=>(pure r:Sem (List (aj×ah)))) e;show e'
theorem i9:∀(l:List (aj×ja)) (n:Nat) (own cl:List (aj×ah)),cellsFrom n l (own++cl)=cellsFrom n l own++cl
 |[],_,_,_=>rfl
 | (x,k)::r,n,own,cl=>by
  unfold cellsFrom;split
  .exact i9 r (n+1) ((x,n)::own) cl
  .exact i9 r n own cl
theorem kU:∀(l:List (aj×ja)) (n:Nat) (own:List (aj×ah)) (p:aj×ah),p∈cellsFrom n l own->p∈own\/(p.1,ki)∈l
 |[],_,_,_,h=>.inl h
 | (x,k)::r,n,own,p,h=>by
  unfold cellsFrom at h;split at h
  .rename_i hk;rcases kU r _ _ p h with h|h
   .rcases bh.1 h with rfl|h
    .exact .inr (by rw[<- eq_of_beq hk];show b_)
    .exact .inl h
   .exact .inr (fj _ h)
  .rcases kU r _ _ p h with h|h
   .exact .inl h
   .exact .inr (fj _ h)
theorem lJ:∀(l:List (aj×ja)) (n:Nat) (own:List (aj×ah)) (x:aj),((∃c,own.lookup x=aa c)\/(x,ki)∈l) ->∃c,(cellsFrom n l own).lookup x=aa c
 |[],_,_,_,h=>h.elim id λz=>(nomatch z)
 | (y,k)::r,n,own,x,h=>by
  unfold cellsFrom;split
  .refine lJ r _ _ x ?_;by_cases e:x=y
   .exact .inl ⟨n,by rw[e,rn,beq_self_eq_true]⟩
   .rcases h with⟨c,h⟩|h
    .exact .inl ⟨c,by rw[rn,beq_eq_false_iff_ne.mpr e];show h⟩
    .rcases bh.mp h with z|z
     .exact Zw (a1J z).1 e
     .exact .inr z
  .rename_i hk;show lJ r _ _ x (h.imp_right λz=>?_);rcases bh.mp z with z|z
   .rw [<- (a1J z).2] at hk;show Zw rfl hk
   .exact z
theorem RC{M:uz}{A:bq}{E:Q0c}{s:ak}{sc:fq}{g:ah}{cl:List (aj×ah)}{q:aj}{f:Option ah}{code:ai}{env:dh}{bl:ah}{Q:dh->ak->Prop}
  (h:∀h4:ay,h4.Ns s.heap.objs.size (λ_=>ae)->(∀b o,s.heap.get? b=aa o->h4.get? b=aa o)->CellsOk h4 (s.heap.objs.size+1) (cellsFrom (s.heap.objs.size+1) sc.names []) ->
   Q (newEnv sc s.heap.objs.size g (cellsFrom (s.heap.objs.size+1) sc.names cl) q f code (aa env) bl) {s with heap:=h4}):
  au M A (newFunctionEnv sc g cl [] q f code (aa env) bl) Q E s:=by
 unfold newFunctionEnv;show aq (wpAny_alloc (aq (wpAny_layCells _ (λx k c=>by cases e:k == ki<;>simp[e]) _ _ _ _ ?_)));have hz:∀o:ax,(s.heap.push o).objs.size=s.heap.objs.size+1:=λo=>km ..;have ok:=λo=>cellsFrom_ok sc.names (s.heap.push o) (s.heap.objs.size+1) [] ⟨λ_ _ z=>(nomatch z),.nil⟩ (by rw[hz];show bg _);simp only[hz] at ok ⊢;rw[vn];show aq (az (az (h _ ((Heap.Ns.new s.heap _).keeps (a0u _ _)) (λb o e=>a0u _ _ b o (cn _ e)) (ok _))))
def blk(X:Cx)(N:Q0g)(sc:fq)(cl:List (aj×ah))(C:ah)(pn:Q0b)(ex:List ah)(s₀:ak)(H₀:Hp):Cx :=
 {X with N:=N,s₀:=s₀,H₀:=H₀,env:=compEnvC sc cl C X.env,Γ:=X.stack,stack:=X.stack,ex:=ex,fn:=λx=>sc.names.lookup x == aa ki,pn:=pn,xe:=λ_ _=>False}
def HQ(nl:Nat)(fr:List Nat)(σ:L2.St):L2.St:=bu nl ae++fr.map λj=>(σ[j]?).join
structure HR (X:Cx) (ls fs:Q0g) (fr:List Nat) (sc:fq):Prop where
 kind:sc.kind=.function
 nd:(ls++fs).Nodup
 uniq:∀x∈sc.names,sc.names.lookup x.1=aa x.2
 free:∀x∈sc.names,x.2=.free->X.env.kindOf x.1=aa .cell\/X.env.kindOf x.1=aa .free
 slot:∀(k:Nat) (x:aj),fs[k]?=aa x ->∃j,fr[k]?=aa j/\X.N[j]?=aa x/\(x,jf)∈sc.names/\sc.names.lookup x=aa .free
 BA:fr.length=fs.length
section
variable{X:Cx}
theorem vT(t:aj->ja->ja)(x:aj):∀l:List (aj×ja),(l.map λp=>(p.1,t p.1 p.2)).lookup x=(l.lookup x).map (t x)
 |[]=>rfl
 | (n,k)::r=>by
  rw[bj,rn,rn];by_cases hx:(x == n)=af
  .rw [hx,eq_of_beq hx];rfl
  .rw [a2x] at hx;rw[hx];show vT t x r
theorem zY{sc:fq}{env:dh}{x:aj}{l:List (aj×ja)}:(l.map λ(n,k)=>if(k == jf&&env.scope.kind == .function&&env.kindOf n == aa .cell) then(n,ki) else(n,k)).lookup x =
  (l.lookup x).map λk=>if(k == jf&&env.scope.kind == .function&&env.kindOf x == aa .cell) then ki else k:=by
 rw[<- vT (λy k=>if(k == jf&&env.scope.kind == .function&&env.kindOf y == aa .cell) then ki else k) x l];show congrArg (List.lookup x) (f_ λp _=>?_);dsimp only;split<;>rfl
def ne_size{b c:ah}{h:ay}{o:ax}(e:h.get? b=aa o)(hc:c=h.objs.size):b≠c:=λz=>jb _ (by have q:=bo e;rw[z,hc] at q;show q)
def HS{b c:ah}{n:Nat}(h:b<n)(hc:n<=c):b≠c:=λz=>jb c (fz (z▸h) hc)
theorem aAw{ls fs:Q0g}{fr:List Nat}{sc:fq}{cl:List (aj×ah)}{C:ah}{π:Q0b}{ex:List ah}{σ:L2.St}{H:Hp}{s s4:ak}(B:HR X ls fs fr sc)(I:Φ X π σ H s)
  (hcl:∀x∈sc.names,x.2=.free->cl.lookup x.1=X.env.cells.lookup x.1) (l6:∀x c,cl.lookup x=aa c->X.env.cells.lookup x=aa c\/(C<c/\s4.heap.IsCell c ae)) (Ce:∀x∈sc.names,x.2=.cell ->∃c,cl.lookup x.1=aa c/\C<c)
  (hinj:∀x y c,cl.lookup x=aa c->cl.lookup y=aa c->x=y) (hex:∀b∈ex,qU X π H b/\b<s.heap.objs.size)
  (hC:C=s.heap.objs.size) {m:Q0d} (hn:s4.heap.Ns C m) (hk:∀b o,s.heap.get? b=aa o->s4.heap.get? b=aa o) (ho:s4.os=s.os) (hg:s4.gens=s.gens):
  Φ (blk X (ls++fs) sc cl C (X.pn++π) ex s H) [] (HQ ls.length fr σ) H s4:=by
 have ltC:∀{b:ah} {o:ax},s.heap.get? b=aa o->b≠C:=λe=>ne_size e hC;have aNc:∀x c,cl.lookup x=aa c->c≠C:=λx c e=>by
  rcases l6 x c e with e|⟨e,_⟩
  .obtain ⟨v,o,ho,_⟩:=I.cell x c e;show ltC ho
  .exact ko e
 have Be:∀x,(compEnvC sc cl C X.env).kindOf x=(sc.names.lookup x).map λk=>if(k == jf&&X.env.scope.kind == .function&&X.env.kindOf x == aa .cell) then ki else k:=λx=>zY (sc:=sc)
 have okX:(blk X (ls++fs) sc cl C (X.pn++π) ex s H).Ok:=by
  show⟨I.ok.mod,B.kind,I.ok.glob,I.ok.blt,(by show s.heap.objs.size<=C;rw[hC];show bg _),hinj,λx hx=>?_,λx c hf hl=>?_,I.ok.hd,I.ok.frames,.inl rfl,λb hb=>?_,λb o e=>I.bs b o e,gx I.ok.TJ I.sz,λb o e hb=>?_,λb hb=>?_,I.stack,I.xH,I.tab⟩
  ·-- a cell or free name of the block
   have hx':∃k,sc.names.lookup x=aa k/\((if(k == jf&&X.env.scope.kind == .function&&X.env.kindOf x == aa .cell) then ki else k)=.cell\/(if(k == jf&&X.env.scope.kind == .function&&X.env.kindOf x == aa .cell) then ki else k)=.free):=by
    have hx:(compEnvC sc cl C X.env).kindOf x=aa .cell\/(compEnvC sc cl C X.env).kindOf x=aa .free:=hx;rw[Be] at hx
    cases e:sc.names.lookup x with
    |none=>rw[e] at hx;rcases hx with hx|hx<;>cases hx
    |some k=>rw[e] at hx;show⟨k,rfl,hx.imp (λz=>cj z) λz=>cj z⟩
   obtain⟨k,e,hk'⟩:=hx';have hm:=ju e;by_cases kf:k=.free
   .subst kf;have q:=hcl _ hm rfl;obtain⟨c,hc⟩:=I.ok.has x (B.free _ hm rfl);show⟨c,q.trans hc⟩
   .have e2:(k == jf)=ag:=by simpa using kf
    rw[e2] at hk';simp only[sr,oo,if_false] at hk';rcases hk' with z|z
    .obtain ⟨c,hc,_⟩:=Ce _ hm z;show⟨c,hc⟩
    .exact Zw z kf
  ·-- an own cell is new
   obtain⟨c',hc',hlt⟩:=Ce _ (ju (eq_of_beq hf)) rfl;have hc':cl.lookup x=aa c':=hc';have hl:cl.lookup x=aa c:=hl;rw[hl] at hc';cases hc';rw[hC] at hlt;show kq hlt
  .refine ⟨HS (hex b hb).2 (nh hC.symm),λx c e=>?_⟩;rcases l6 x c e with e|⟨e,_⟩
   .exact (hex b hb).1.2.2.2.2.1 x c e
   .exact d_ (HS (hex b hb).2 (by rw[<- hC];show kq e))
  .obtain ⟨⟨_,_,_,f3,_,_⟩,_⟩:=hex b hb;rcases f3 with f3|f3
   .exact I.ok.KN b o e f3
   .exact Zw (fz (bo e) (gx I.ok.TJ f3)) (jb _)
  .intro z;obtain⟨⟨_,f1,f2,_,_,_⟩,_⟩:=hex b hb;rcases bh.mp (I.qS b z) with z|z
   .exact f1 z
   .exact f2 z
 show⟨okX,ho,by rw[hg];show I.bare,Un.kept hk,⟨m,hn,λi x v h1 h2 h3=>?_⟩,λx c e=>?_,?_,λx c e=>?_,λp hp=>?_,I.hok.kept hk,?_⟩
 ·-- a name with a value is one from around
  have hi:¬ i<ls.length:=λhi=>by unfold HQ at h2;rw[jz (by simpa using hi),jj,Z_ hi] at h2;cases h2
  have e1:fs[i-ls.length]?=aa x:=by have h1:(ls++fs)[i]?=aa x:=h1;rw[jy ∅] at h1;show h1
  obtain⟨j,ej,eN,hm,hlk⟩:=B.slot _ _ e1;have e2:(σ[j]?).join=aa v:=by unfold HQ at h2;rw[jy (by simpa using hi),cf,ie,ej] at h2;show cj h2
  have e3:σ[j]?=aa (aa v):=by
   cases q:σ[j]? with
   |none=>rw[q] at e2;cases e2
   |some o=>rw[q] at e2;rw[show o=aa v from e2]
  have hfr:=B.free _ hm rfl;have vis:AX X.env.scope x:=.inr hfr;obtain⟨mm,hnm,hl⟩:=I.loc;obtain⟨u,r,l⟩:=hl j x v eN e3 vis;show⟨u,r,?_⟩;rcases l with⟨k1,_⟩|⟨k1,c,ec,zc⟩
  .have k1:X.env.kindOf x=aa .local:=k1;rcases hfr with z|z<;>rw[k1] at z<;>cases z
  .refine .inr ⟨?_,c,(hcl _ hm rfl).trans ec,?_⟩
   .show (compEnvC sc cl C X.env).kindOf x=aa .cell\/(compEnvC sc cl C X.env).kindOf x=aa .free;rw[Be,hlk];dsimp only[Option.map];split
    .exact .inl rfl
    .exact .inr rfl
   .obtain ⟨oc,hoc,hd⟩:=zc;show⟨oc,hk _ _ hoc,hd⟩
 .rcases l6 x c e with e|⟨_,e⟩
  .obtain ⟨v,oc,hoc,hd⟩:=I.cell x c e;show⟨v,oc,hk _ _ hoc,hd⟩
  .exact ⟨ae,e⟩
 .show H C=ae;rw[hC];show I.hok.fresh (bg _)
 .rcases l6 x c e with e|⟨e,_⟩
  .exact I.iA x c e
  .exact I.hok.fresh (by rw[<- hC];show kq e)
 .have hp:p∈(X.pn++π)++[]:=hp;rw[ij] at hp;obtain⟨e,n,ne,nf,d⟩:=I.pin p hp;show⟨hk _ _ e,n,ltC e,λz=>?_,d⟩;rcases bh.mp (I.qS _ z) with z|z
  .exact ne z
  .exact nf z
 .show (HQ ls.length fr σ).length=(ls++fs).length;unfold HQ;rw[di,di,ie,a_,B.BA]
theorem XJ{ls fs:Q0g}{sc:fq}{cl:List (aj×ah)}{C:ah}{π VW:Q0b}{ex:List ah}{σ σ':L2.St}{H H':Hp}{s s':ak}{h':ay}(I:Φ X π σ H s)
  (J:Φ (blk X (ls++fs) sc cl C (X.pn++π) ex s H) VW σ' H' s') (hex:∀b∈ex,qU X π H b) (hC:C=s.heap.objs.size) (hs:m_ C s'.heap h'):Φ X π σ H' {s' with heap:=h' }:=by
 have ltC:∀{b:ah} {o:ax},s.heap.get? b=aa o->b≠C:=λe=>ne_size e hC;have fr:H' C=ae:=J.free;have un:Un (frs X.stack) ex H H' s.heap s'.heap:=J.ω;show I.call' (s':={s' with heap:=h' }) (ch:=ex) J.os ⟨λb o e n hb hx=>(hs.2 b (ltC e)).trans (un.keep b o e n hb hx),λb o e n hb hx=>?_,un.free,λb o e hx=>?_,un.tups,un.wF,un.uJ⟩ ?_ J.bare λb hb=>?_
 .obtain ⟨sl,q⟩:=un.slot b o e n hb hx;show⟨sl,(hs.2 b (ltC e)).trans q⟩
 .obtain ⟨o',q⟩:=un.there b o e hx;show⟨o',(hs.2 b (ltC e)).trans q⟩
 .intro b ob e;show(J.hok b ob e).stay (λc u hc q=>(hs.2 c ?_).trans q) (λ_ q=>q) λ_ _ q=>q;intro z;rcases hc with hc|hc
  .rw [z] at hc;rw[<- hc,fr] at e;cases e
  .rw [z,fr] at hc;cases hc
 .obtain ⟨_,f1,_,f3,f4,f5⟩:=hex b hb;show⟨f3,f1,f4,f5⟩
abbrev aER(ifs:List aw)(env:dh):Sem Bool:=forIn ifs af λc r=>if r=af then(do let b <- isTrue c env (eval c env);pure (mh b)) else pure (mh r)
abbrev Calm(Ω:bc)(w:ba)(A:bq){α:Type}(t:Sem α)(Q:α->ak->Prop)(s:ak):Prop:=au (av Ω w) A t Q (λ_ _=>False) s
theorem oJ(Iv:Nat->ak->Prop)
  (turn:∀n s,Iv n s->Calm Ω w A (pyNext it) (λgot s1=>match got with
   |none=>R (.ok .next) s1
   |some v=>Calm Ω w A (letOwnedTupleGo tg it v) (λ_ s2=>Calm Ω w A (assign tg env v) (λ_ s3=>Calm Ω w A (aER ifs env) (λok s4 =>
     if ok=af then Calm Ω w A (eval el env) (λx s5=>Calm Ω w A (call (.builtin "list.append") [ψ,x]) (λ_ s6=>∃m,m<n/\Iv m s6) s5) s4 else ∃m,m<n/\Iv m s4) s3) s2) s1) s)
  (n:Nat) (h:Iv n s):mx (av Ω w) A (.compLoop (.ListComp el [⟨tg,src,ifs,0⟩] bs at_) 0 it ψ env) R s:=by
 have no:∀{α:Type} {E:Q0c} {t:Sem α} {Q Q':α->ak->Prop} {s:ak},Calm Ω w A t Q s->(∀a s,Q a s->Q' a s)->au (av Ω w) A t Q' E s:=λh f=>ik h f λ_ _ z=>z.elim;show codeAny_loop rfl Iv (λn s hI=>?_) n h;show wpAny_noted (m:=compTurn (.ListComp el [⟨tg,src,ifs,0⟩] bs at_) 0 it ψ env) ?_;rw[compTurn_list];show aq (Fm (aq (no (turn n s hI) λgot s1 h1=>?_)))
 match got,h1 with
 |none,h1=>show az h1
 |some v,h1 =>
  show aq (no h1 λ_ _ h2=>aq (no h2 λ_ _ h3=>aq (no h3 λok s4 h4=>?_)))
  match ok,h4 with
  |false,h4=>show az (vz rfl h4)
  |true,h4=>show aq (aq (no h4 λ_ _ h5=>aq (no h5 λ_ _ h6=>az (az (vz rfl h6)))))
abbrev TFk:=L2.St->Hp->(Bool->Hp->Prop)->Prop
def PIf(X:Cx)(ifs:List aw)(t:TFk):Prop :=
 ∀(π:Q0b) (s:ak) (σ:L2.St) (H:Hp) (Q:Bool->Hp->Prop),Φ X π σ H s->t σ H Q ->
  au (av X.Ω X.w) X.A (forIn ifs af λc r=>if r=af then do let ok <- isTrue c X.env (eval c X.env);pure (mh ok) else pure (mh r)) (TP X π σ Q) X.xe s
def aAx:PIf X [] (λ_ H Q=>Q af H):=λπ s σ H Q I h=>by rw[vn];show az ⟨H,I,h⟩
def aES(h:PT X c t):PIf X [c] t:=λπ s σ H Q I hw=>by rw[lh];show aq ?_;rw[Z_ rfl];show aq (eI (h π s σ H Q I hw) λb s1 q=>az ?_);dsimp only;rw[vn];show az q
def OW(nl:Nat)(fr:List Nat)(wi:TI)(g:TG)(tf:TFk)(te:TE):TE:=λσ H Q=>wi σ H λJ H1=>∀ψ,H1 ψ=ae ->∃W:Nat->Nat->Hp->List V->Prop,(∃m,W 0 m (upd H1 ψ (.lst [])) []) /\
 ∀i m H ys,W i m H ys->H ψ=aa (.lst ys)/\((J.stop i H/\Q (.ref ψ) H)\/(J.go i H /\∀x H',J.yld i H x H'->g x (HQ nl fr σ) H' λσ2 H2=>(σ2.drop nl=fr.map λj=>(σ[j]?).join)/\tf σ2 H2 λb H3 =>
  if b=af then te σ2 H3 λy H4=>H4 ψ=aa (.lst ys)/\ys.length<bb /\∃m',m'<m/\W (i+1) m' (upd H4 ψ (.lst (ys++[y]))) (ys++[y]) else ∃m',m'<m/\W (i+1) m' H3 ys))
theorem HU{ls fs:Q0g}{fr:List Nat}{sc:fq}{tg iter elt:aw}{ifs:List aw}{ν p2:bf}{wi:TI}{g:TG}{tf:TFk}{te:TE}{π:Q0b}{σ:L2.St}{H:Hp}{s:ak}{Qe:VK}{use:Option (ai->Sem Unit)}{Qv:Q0c}
  (hc:X.calm=af) (B:HR X ls fs fr sc) (hi:PI X tg iter wi) (hg:∀cl C pn ex s H,PG (blk X (ls++fs) sc cl C pn ex s H) tg g) (hf:∀cl C pn ex s H,PIf (blk X (ls++fs) sc cl C pn ex s H) ifs tf) (he:∀cl C pn ex s H,PE (blk X (ls++fs) sc cl C pn ex s H) elt te)
  (hs:Zp X iter) (I:Φ X π σ H s) (h:OW ls.length fr wi g tf te σ H Qe)
  (fin:∀ψ C s' H',Φ X π σ H' s'->(∃m,s'.heap.Ns C m)->qU X π H' C->Qe (.ref ψ) H'->compPost (av X.Ω X.w) X.A X.xe use Qv (.ref ψ) C (.ok .next) s'):
  au (av X.Ω X.w) X.A (comprehension (.ListComp elt [⟨tg,iter,ifs,0⟩] sc ν) sc X.env p2 (newList []) ag (eval iter X.env) use) Qv X.xe s:=by
 obtain⟨cl,ecl,hcl,l6⟩:=zX (scope:=sc) (env:=X.env) λx hx hf=>I.ok.has x.1 (B.free x hx hf);show wpAny_comprehension_free (g:=⟨tg,iter,ifs,0⟩) (gs:=[]) rfl hs ecl B.kind (λx hx e=>(B.uniq x hx).trans (congrArg aa e)) ?_;show eI (hi π s σ H _ I h) λv s1 h1=>eI h1 λitv s2 h2=>?_;obtain⟨it,fp,tn,J,H2,e,I2,T,st2,f2,h2⟩:=h2;subst e;show uo ?_ (by show([]:Q0f).toArray.size<=bb;simp);have hacc:H2 s2.heap.objs.size=ae:=I2.hok.fresh (bg _);have I3:Φ X π σ (upd H2 s2.heap.objs.size (.lst [])) {s2 with heap:=s2.heap.push {cls:=.type "list",data:=.seq ([]:Q0f).toArray} } :=
  I2.laid (t':=s2.toks) (λb o e=>cn _ e) (bg _) ⟨by simp,[],0,.nil,dm _ rfl⟩
 have hfp:∀b∈fp,b<s2.heap.objs.size:=λb hb=>by obtain⟨o,e,_⟩:=T.obj _ _ st2 b hb;show bo e
 obtain⟨W,⟨m0,w0⟩,turn⟩:=h2 _ hacc;generalize HV:s2.heap.objs.size=ψ at hacc I3 w0 turn ⊢;have Ob:∀b∈fp,b≠ψ:=λb hb=>HS (hfp b hb) (nh HV);have f3:∀b∈fp,qU X π (upd H2 ψ (.lst [])) b:=λb hb=>⟨by rw[aV (Ob b hb)];show(f2 b hb).1,(f2 b hb).2⟩;generalize hs3:({s2 with heap:=s2.heap.push {cls:=.type "list",data:=.seq ([]:Q0f).toArray} }:ak)=s3 at I3;have hsz3:s3.heap.objs.size=ψ+1:=by rw[<- hs3];show(s2.heap.push _).objs.size=_;rw[km,HV]
 have st3:tn 0 s3.heap:=T.keep _ _ _ st2 λb hb o e=>by rw[<- hs3];show cn _ e
 show RC λh4 hn4 hk4 co=>?_;generalize hC:s3.heap.objs.size=C at hn4 co ⊢;have eC:cellsFrom (C+1) sc.names cl=cellsFrom (C+1) sc.names []++cl:=i9 sc.names (C+1) [] cl;generalize hcs:cellsFrom (C+1) sc.names []=cs at co eC;have own:∀x c,cs.lookup x=aa c->(x,ki)∈sc.names/\C<c/\h4.IsCell c ae:=λx c e=>by
  have m:=ju e;show⟨?_,(co.empty x c m).2,(co.empty x c m).1⟩;rw[<- hcs] at m;rcases kU _ _ _ _ m with z|z
  .cases z
  .exact z
 generalize hdl:cellsFrom (C+1) sc.names cl=dl at eC ⊢;have two:∀x c,dl.lookup x=aa c->cs.lookup x=aa c\/(cs.lookup x=ae/\cl.lookup x=aa c):=λx c e=>by
  rw[eC,Hz] at e
  cases q:cs.lookup x with
  |none=>rw[q] at e;show .inr ⟨rfl,e⟩
  |some d=>rw[q] at e;show .inl e
 have Oa:∀x∈sc.names,x.2=.free->dl.lookup x.1=X.env.cells.lookup x.1:=λx hx e=>by
  rw[<- hcl x hx e,eC,Hz]
  cases q:cs.lookup x.1 with
  |none=>rfl
  |some d =>
   have z:=B.uniq _ (own _ _ q).1;rw[B.uniq x hx,e] at z;cases z
 have Cd:∀x c,dl.lookup x=aa c->X.env.cells.lookup x=aa c\/(C<c/\h4.IsCell c ae):=λx c e=>by
  rcases two x c e with e|⟨_,e⟩
  .exact .inr (own x c e).2
  .exact .inl (l6 x c e)
 have N_:∀x∈sc.names,x.2=.cell ->∃c,dl.lookup x.1=aa c/\C<c:=λx hx e=>by obtain⟨c,hc⟩:=lJ sc.names (C+1) [] x.1 (.inr (by rw[<- e];show hx));rw[hcs] at hc;show⟨c,by rw[eC,Hz,hc];rfl,(own _ _ hc).2.1⟩
 have low:∀x c,cl.lookup x=aa c->c<C:=λx c e=>by obtain⟨v,o,ho,_⟩:=I3.cell x c (l6 x c e);rw[<- hC];show bo ho
 have Nz:∀x y c,dl.lookup x=aa c->dl.lookup y=aa c->x=y:=λx y c e e'=>by
  rcases two x c e with e|⟨_,e⟩<;>rcases two y c e' with e' | ⟨_,e'⟩
  .exact a0v co.apart (ju e) (ju e')
  .exact Zw (own _ _ e).2.1 (a1P (low _ _ e'))
  .exact Zw (own _ _ e').2.1 (a1P (low _ _ e))
  .exact I3.ok.inj x y c (l6 x c e) (l6 y c e')
 have I4:Φ (blk X (ls++fs) sc dl C (X.pn++π) fp s3 (upd H2 ψ (.lst []))) [] (HQ ls.length fr σ) (upd H2 ψ (.lst [])) {s3 with heap:=h4} :=
  aAw B I3 Oa Cd N_ Nz (λb hb=>⟨f3 b hb,by rw[hsz3,<- HV];show p0 (hfp b hb)⟩) hC.symm hn4 hk4 rfl rfl
 generalize hX:blk X (ls++fs) sc dl C (X.pn++π) fp s3 (upd H2 ψ (.lst []))=Y at I4;have pY:Y.Ω=X.Ω:=by rw[<- hX];rfl
 have wY:Y.w=X.w:=by rw[<- hX];rfl
 have kY:Y.K=X.K:=by rw[<- hX];rfl
 have AY:Y.A=X.A:=by rw[<- hX];rfl
 have cY:Y.calm=af:=by rw[<- hX];show hc
 have eY:Y.env=compEnvC sc dl C X.env:=by rw[<- hX];rfl
 have xY:Y.xe=λ_ _=>False:=by rw[<- hX];rfl
 have XM:∀{H':Hp},(∀b∈fp,H' b=ae) ->∀b∈fp,qU Y [] H' b:=λhn b hb=>by
  rw[<- hX];obtain⟨_,f1,f2',_,f4,f5⟩:=f3 b hb;show⟨hn b hb,λz=>?_,λz=>?_,.inl hb,λx c e=>?_,λp hp=>f5 p ?_⟩
  .exact Zw z (HS (hfp b hb) (by rw[<- hC,hsz3,HV];show p_ _))
  .rcases bh.mp (I3.qS b z) with z|z
   .exact f1 z
   .exact f2' z
  .rcases Cd x c e with e|⟨e,_⟩
   .exact f4 x c e
   .exact d_ (HS (hfp b hb) (by rw[HV];show kq (a1M (by rw[<- hC,hsz3];show vh _) e)))
  .have hp:p∈(X.pn++π)++[]:=hp;rw[ij] at hp;show hp
 have st4:tn 0 h4:=T.keep _ _ _ st3 λb hb o e=>hk4 b o e;have loop:∀s5:ak,(∃i H',Φ Y [] (HQ ls.length fr σ) H' s5/\tn i s5.heap/\(∀b∈fp,H' b=ae) /\∃m ys,W i m H' ys)->mx (av X.Ω X.w) X.A (.compLoop (.ListComp elt [⟨tg,iter,ifs,0⟩] sc ν) 0 (.ref it) (.ref ψ) (compEnvC sc dl C X.env)) (compPost (av X.Ω X.w) X.A X.xe use Qv (.ref ψ) C) s5:=by
  rintro s5 ⟨i,H',I5,st5,fr5,m,ys,w5⟩;show oJ (λn s'=>∃i H' ys,Φ Y [] (HQ ls.length fr σ) H' s'/\tn i s'.heap/\(∀b∈fp,H' b=ae)/\W i n H' ys) ?_ m ⟨i,H',ys,I5,st5,fr5,w5⟩;rintro n s6 ⟨i,H6,ys,I6,st6,fr6,w6⟩;obtain⟨ha6,alt⟩:=turn i n H6 ys w6;rcases alt with⟨stop,qn⟩|⟨go,step⟩
  .have q:=T.done Y pY wY kY cY i [] s6 _ H6 (λ_ _=>False) I6 (XM fr6) st6 stop;rw[AY] at q;show eI q λr s7 Ny=>?_;obtain⟨hr,I7⟩:=Ny;subst hr;have fr7:H6 C=ae:=by have:=I7.free;rw[eY] at this;show this
   show fin ψ C s7 H6 ?_ ?_ (I3.EU (nh hC) fr7) qn
   .rw [<- hX] at I7;show XJ I3 I7 (λb hb=>f3 b hb) hC.symm (.refl ..)
   .obtain ⟨m,hm,_⟩:=I7.loc;rw[eY] at hm;show⟨m,hm⟩
  .have q:=T.item Y pY wY kY cY i [] s6 _ H6 (λ_ _=>False) I6 (XM fr6) st6 go;rw[AY] at q;show eI q λr s7 Nw=>?_;obtain⟨u,hr,h7⟩:=Nw;subst hr;show eI h7 λ_ s8 Nv=>?_;obtain⟨x,H8,I8,r8,y8,st8,fr8⟩:=Nv;have I8':=I8.pinned (XM fr8) (T.obj _ _ st8);have hgY:=hg dl C (X.pn++π) fp s3 (upd H2 ψ (.lst []));have hfY:=hf dl C (X.pn++π) fp s3 (upd H2 ψ (.lst []));have heY:=he dl C (X.pn++π) fp s3 (upd H2 ψ (.lst []));rw[hX] at hgY hfY heY;have q8:=hgY _ s8 _ H8 x u _ I8' r8 (step x H8 y8);rw[pY,wY,AY,eY,xY] at q8;show eI q8 λ_ s9 Nu=>?_;obtain⟨σ9,H9,I9,hσ9,q9⟩:=Nu;have mn:=hfY _ s9 σ9 H9 _ I9 q9;rw[pY,wY,AY,eY,xY] at mn;show eI mn λok Jh Nt=>?_;obtain⟨H10,I10,mn⟩:=Nt;have bl:∀{H7:Hp} {s7:ak},Φ Y ([]++zK fp s8.heap) σ9 H7 s7->(∃m',m'<n /\∃ys',W (i+1) m' H7 ys') ->∃m,m<n /\∃i H' ys,Φ Y [] (HQ ls.length fr σ) H' s7/\tn i s7.heap/\(∀b∈fp,H' b=ae)/\W i m H' ys:=λ{H7 s7} I7 ⟨m',hm,ys',w7⟩=>by
    show⟨m',hm,i+1,H7,ys',?_,T.keep _ _ _ st8 λb hb o e=>(I7.pin (b,o) (gq _ (gq _ (m6 hb e)))).1,λb hb=>?_,w7⟩
    .refine I7.jH.weak ?_ λk v e=>?_
     .rw [I7.len,<- I6.len]
     .by_cases hk:k<ls.length
      .unfold HQ at e;rw[jz (by simpa using hk),jj,Z_ hk] at e;cases e
      .have e2:(σ9.drop ls.length)[k-ls.length]?=aa (aa v):=by rw[hσ9];unfold HQ at e;rw[jy (by simpa using hk),ie] at e;show e
       rw[Ib] at e2;rw[show ls.length+(k-ls.length)=k by lia] at e2;show e2
    .obtain ⟨o,e,d⟩:=T.obj _ _ st8 b hb;show(I7.pin (b,o) (gq _ (gq _ (m6 hb e)))).2.1
   cases ok with
   |false =>
    rw[Zz bp] at mn ⊢;obtain⟨m',hm,w'⟩:=mn;show bl I10 ⟨m',hm,ys,w'⟩
   |true =>
    rw[Z_ rfl] at mn ⊢;have Ay:=heY _ Jh σ9 H10 _ I10 mn;rw[pY,wY,AY,eY,xY] at Ay;show eI Ay λyv Jg Nr=>?_;obtain⟨y,H11,I11,Ji,aEU,Nq,m',hm,w'⟩:=Nr;have Ax:=(CK (X:=Y)) _ Jg σ9 H11 (.ref ψ) [y] (.ref ψ) [yv] (λ_ H'=>H'=upd H11 ψ (.lst (ys++[y]))) I11 rfl (.cons Ji .nil) ⟨ψ,ys,y,rfl,rfl,aEU,Nq,rfl⟩;rw[pY,wY,AY,xY] at Ax;show eI Ax λ_ s12 Pa=>?_;obtain⟨_,H12,I12,_,Ko⟩:=Pa;subst Ko;show bl I12 ⟨m',hm,_,w'⟩
 have L0:=loop _ ⟨0,_,I4,st4,λb hb=>(f3 b hb).1,m0,[],w0⟩;show codeAny_compStart_list L0 (T.self _ 0 _ _ _ st4 L0)
theorem aAy
  (hc:X.calm=af) (B:HR X ls fs fr sc) (hi:PI X tg iter wi) (hg:∀cl C pn ex s H,PG (blk X (ls++fs) sc cl C pn ex s H) tg g) (hf:∀cl C pn ex s H,PIf (blk X (ls++fs) sc cl C pn ex s H) ifs tf) (he:∀cl C pn ex s H,PE (blk X (ls++fs) sc cl C pn ex s H) elt te)
  (hs:Zp X iter:=by intro _;rfl):PE X (.ListComp elt [⟨tg,iter,ifs,0⟩] sc ν) (OW ls.length fr wi g tf te):=by
 intro π s σ H Q I h;rw[eval_ListComp];show HU (use:=ae) hc B hi hg hf he hs I h λψ C s' H' I' hm fp q=>?_;obtain⟨m,hm⟩:=hm;obtain⟨f0,f1,_,f3,f4,f5⟩:=fp;show⟨m,hm,λh' hsb=>⟨.ref ψ,H',I'.turned (t':=s'.toks) (λb o hb e=>(hsb.2 b hb).trans e) f0 f1 f3 f4 f5,rfl,q⟩⟩
theorem zZ(hN:X.N.Nodup)(hx0:X.N[i]?=aa x)(hx:X.env.scope.names.lookup x=aa .local)
  (hc:X.calm=af) (B:HR X ls fs fr sc) (hi:PI X tg iter wi) (hg:∀cl C pn ex s H,PG (blk X (ls++fs) sc cl C pn ex s H) tg g) (hf:∀cl C pn ex s H,PIf (blk X (ls++fs) sc cl C pn ex s H) ifs tf) (he:∀cl C pn ex s H,PE (blk X (ls++fs) sc cl C pn ex s H) elt te)
  (hsw:Rv X elt tg iter ifs sc ν x pos' spos)
  (hs:Zp X iter:=by intro _;rfl):PS X (.Assign [.Name x pos'] (.ListComp elt [⟨tg,iter,ifs,0⟩] sc ν) spos) (xx (OW ls.length fr wi g tf te) (VY i)):=by
 intro π s σ H D I h;rw[exec_Assign_Name_used _ _ _ _ hsw];show aq (Fm (aq ?_));show au _ X.A (do let _ <- comprehension (.ListComp elt [⟨tg,iter,ifs,0⟩] sc ν) sc X.env _ (newList []) ag (eval iter X.env) (aa (assign (.Name x pos') X.env))) _ _ s;show aq (ik (HU (use:=aa (assign (.Name x pos') X.env)) (Qv:=λ_ s'=>SP X π D .next s') hc B hi hg hf he hs I h λψ C s' H' I' hm fp q=>?_) (λ_ s' hq=>az (az hq)) λ_ _ e=>e);obtain⟨m,hm⟩:=hm;obtain⟨f0,f1,_,f3,f4,f5⟩:=fp;show a0o (CC I' hN hx0 (.inl hx) (v:=.ref ψ) rfl (λs'' I'' hsb=>?_) (.inr hx));obtain⟨a,hsb,ha⟩:=hsb;have haC:a≠C:=by
  rcases ha with rfl|ha
  .exact d_ f1
  .exact f4 x a ha
 show⟨m,hm.sameBut hsb (d_ haC),λh' hs'=>⟨_,H',I''.turned (t':=s''.toks) (λb o hb e=>(hs'.2 b hb).trans e) f0 f1 f3 f4 f5,q⟩⟩
end
def chk(Γ:List (aj×ja))(sc:fq)(N ls fs:Q0g)(fr:List Nat):Bool :=
 (sc.kind == .function)&&Zv (ls++fs).Nodup&&sc.names.all (λx=>Zv (sc.names.lookup x.1=aa x.2)) &&
 sc.names.all (λx=>Zv (x.2=.free->(Γ.lookup x.1=aa .cell\/Γ.lookup x.1=aa .free)))&&Zv (fr.length=fs.length) &&
 (fs.zip fr).all (λx=>Zv (N[x.2]?=aa x.1)&&sc.names.contains (x.1,jf)&&Zv (sc.names.lookup x.1=aa .free))
def nA(h:chk X.env.scope.names sc X.N ls fs fr=af):HR X ls fs fr sc:=by
 unfold chk at h;simp only[iu,gp,decide_eq_true_eq] at h;obtain⟨⟨⟨⟨⟨h1,h2⟩,h3⟩,h5⟩,h6⟩,h7⟩:=h;show⟨eq_of_beq h1,h2,h3,h5,λk x e=>?_,h6⟩;have hk:k<fs.length:=(cb.mp e).1;have hm:(x,fr[k]'∅)∈fs.zip fr:=by
  have:(fs.zip fr)[k]?=aa (x,fr[k]'∅):=by rw[Ah];show⟨e,by simp⟩
  show l_ this
 obtain⟨⟨a,b⟩,c⟩:=h7 _ hm;show⟨fr[k]'∅,by simp,a,by simpa using b,c⟩
abbrev GE:=D->dW->(dW->Prop)->Prop
def z4(K:ao)(nl n:Nat)(g:GE):TG:=λv σ H Q=>∃(S:ah->Prop) (ρ:dW) (d:D) (Q3:dW->Prop),σ.length=n/\(∀a,H a=ae->S a)/\Sl K S H ρ σ/\Dn K S H d v/\g d ρ Q3 /\
 ∀σ' ρ',Sl K S H ρ' σ'->σ'.drop nl=σ.drop nl->Q3 ρ'->Q σ' H
def PG4(X:Cx)(nl:Nat)(tg:aw)(g:GE):Prop:=PG X tg (z4 X.K nl X.N.length g)
theorem Sl.set{K:ao}{S:ah->Prop}{H:Hp}{ρ:dW}{σ:L2.St}{i:Nat}{d:D}{v:V}(h:Sl K S H ρ σ)(hi:i<σ.length)(q:Dn K S H d v):Sl K S H (ρ.set i (aa d)) (σ.set i (aa v)):=λj e he=>by
 rcases get_set he with⟨hj,z,_⟩|⟨hj,z⟩
 .cases z;subst hj;show⟨v,md hi,q⟩
 .obtain ⟨u,a,b⟩:=h j e z;show⟨u,by rw[jo (d_ hj)];show a,b⟩
def hN(i:Nat):GE:=λd ρ Q=>Q (ρ.set i (aa d))
noncomputable def h2(i j:Nat):GE:=λd ρ Q=>match d with
 |.tup [d1,d2]=>Q ((ρ.set i (aa d1)).set j (aa d2))
 |_=>False
def drop_set{α:Type}{l:List α}{i n:Nat}{x:α}(h:i<n):(l.set i x).drop n=l.drop n:=by rw[List.drop_set,Z_ h]
section
variable{X:Cx}
def Ws{nl i:Nat}{x:aj}{ν:bf}(nd:X.N.Nodup)(hil:i<nl)(hi:X.N[i]?=aa x:=by rfl)(hx:Loc X.env.scope x:=by walk_at "0")(hfx:Zr X x:=by walk_at "2"):PG4 X nl (.Name x ν) (hN i) :=
 RB (pL nd hi hx hfx) λv σ H Q O_=>by obtain⟨S,ρ,d,Q3,hl,fc,sl,dn,hg,k⟩:=O_;show k _ _ (sl.set (by rw[hl];show jT hi) dn) (drop_set hil) hg
def Wq{nl i j:Nat}{x y:aj}{kk:Nat}{ν px py:bf}(hc:X.calm=af)(nd:X.N.Nodup)(hil:i<nl)(hjl:j<nl)(hi:X.N[i]?=aa x:=by rfl)(hj:X.N[j]?=aa y:=by rfl)(hx:Loc X.env.scope x:=by walk_at "0")(hfx:Zr X x:=by walk_at "2")(hy:Loc X.env.scope y:=by walk_at "0")(hfy:Zr X y:=by walk_at "2")
  (hn:Q0j X x y px py:=by rfl) (hst:Q0i X x y px py:=by rfl)
  (hs1:gV X x y px py:=by rfl) (hs2:Q0h X y py:=by rfl):
  PG4 X nl (.Tuple [.Name x px,.Name y py] kk ν) (h2 i j) :=
 RB (VZ (n:=2) hc (sI (pL nd hi hx hfx) (sI (pL nd hj hy hfy) OE hs2) hs1) hn hst) λv σ H Q Oz=>by
  obtain⟨S,ρ,d,Q3,hl,fc,sl,dn,hg,k⟩:=Oz;unfold h2 at hg;split at hg
  .rename_i d1 d2;symm at dn;obtain⟨a,xs,rfl,ha,da⟩:=dn;obtain⟨v1,r1,rfl,h1,h2⟩:=da.bO;obtain⟨v2,r2,rfl,h3,h4⟩:=h2.bO;simp only[aW] at h4;subst h4;show⟨a,_,rfl,(fF.of ha),rfl,v1,[v2],rfl,v2,[],rfl,rfl,?_⟩;show k _ _ ((sl.set (by rw[hl];show jT hi) h1).set (by rw[gn,hl];show jT hj) h3) (by rw[drop_set hjl,drop_set hil]) hg
  .exact hg.elim
def RD(X:Cx)(ifs:List aw)(t:WT):Prop:=PIf X ifs (liftT X.K t)
def Wo:WT:=λ_ Q=>Q af
def Oy:RD X [] Wo:=λπ s σ H Q I Ox=>by obtain⟨S,ρ,Q3,fc,sl,ht,k⟩:=Ox;show aAx π s σ H Q I (k af H (ξ.refl H) ht)
theorem We(h:xM X c t):RD X [c] t:=aES h
noncomputable def sR(g:GE)(tf:WT)(te:WE)(ρ:dW):List D->List D->(D->Prop)->Prop
 |[],ψ,Q=>Q (.lst ψ)
 |d::r,ψ,Q=>g d ρ λρ2=>tf ρ2 λb=>if b=af then te ρ2 λy=>ψ.length<bb/\sR g tf te ρ r (ψ++[y]) Q else sR g tf te ρ r ψ Q
def benv(nl:Nat)(fr:List Nat)(ρ:dW):dW:=bu nl ae++fr.map λj=>(ρ[j]?).join
def HW(nl:Nat)(fr:List Nat)(ti:WI)(g:GE)(tf:WT)(te:WE):WE:=λρ Q=>ti ρ λds=>sR g tf te (benv nl fr ρ) ds [] Q
def aAz{K:ao}{S:ah->Prop}{H:Hp}{ρ:dW}{σ:L2.St}{nl:Nat}{fr:List Nat}(h:Sl K S H ρ σ):Sl K S H (benv nl fr ρ) (HQ nl fr σ):=λi d e=>by
 unfold benv at e;unfold HQ;by_cases hi:i<nl
 .rw [jz (by simpa using hi),jj,Z_ hi] at e;cases e
 .rw [jy (by simpa using hi),cf,ie] at e ⊢
  cases q:fr[i-nl]? with
  |none=>rw[q] at e;cases e
  |some j =>
   rw[q] at e;have e1:(ρ[j]?).join=aa d:=cj e;have e2:ρ[j]?=aa (aa d):=by
    cases z:ρ[j]? with
    |none=>rw[z] at e1;cases e1
    |some o=>rw[z] at e1;rw[show o=aa d from e1]
   obtain⟨v,ev,dv⟩:=h j d e2;show⟨v,by show aa ((σ[j]?).join)=_;rw[ev];rfl,dv⟩
def uN{K:ao}{nl n:Nat}{fr:List Nat}{ti:WI}{g:GE}{tf:WT}{te:WE}{σ:L2.St}{H:Hp}{Q:VK}(hn:nl+fr.length=n)(h:W2 K (HW nl fr ti g tf te) σ H Q):OW nl fr (Dw K ti) (z4 K nl n g) (liftT K tf) (lift K te) σ H Q:=by
 obtain⟨S,ρ,Q3,fc,sl,ht,k⟩:=h;show⟨S,ρ,_,fc,sl,ht,λJ H1 ds G s1 hG wk q1=>?_⟩;intro ψ hacc;have h0:H ψ=ae:=s1.free hacc;have fc1:=bJ fc s1;have ok:∀{H2:Hp},ξ H1 H2->(∃ys,H2 ψ=aa (.lst ys))->(∀a,H2 a=ae->S a/\a≠ψ)/\Sl K (λa=>S a/\a≠ψ) H2 (benv nl fr ρ) (HQ nl fr σ) /\∀g∈G,Dn K (λa=>S a/\a≠ψ) H2 g.1 g.2:=λ{H2} s2 hy=>by
  show⟨λa e=>⟨bJ fc1 s2 a e,λz=>?_⟩,?_,λg hg=>Dn.fits ((Fits.fresh hacc).trans (.same s2)) _ _ (hG g hg)⟩
  .subst z;obtain⟨ys,hy⟩:=hy;rw[e] at hy;cases hy
  .exact aAz (Sl.fits ((Fits.fresh h0).trans (.same (s1.trans s2))) sl)
 show⟨λi m H2 ys=>m=ds.length-i/\i<=ds.length/\ξ H1 H2/\H2 ψ=aa (.lst ys) /\∃aD,aW K (λa=>S a/\a≠ψ) H2 aD ys/\sR g tf te (benv nl fr ρ) (ds.drop i) aD Q3,
  ⟨_,rfl,jm _,aY hacc,bA,[],aW.nil,q1⟩,?_⟩
 rintro i m H2 ys ⟨rfl,hi,s2,hy,aD,dn,cw⟩;obtain⟨fc2,sl2,gh2⟩:=ok s2 ⟨ys,hy⟩;show⟨hy,?_⟩;by_cases hlt:i<ds.length
 .refine .inr ?_;obtain⟨g1,g2⟩:=wk.go _ H2 fc2 gh2 i ds[i] (by simp[hlt]);show⟨g1,λx H' y=>?_⟩;obtain⟨s3,dx⟩:=g2 x H' y;rw[r_ hlt,sR] at cw;show⟨λa=>S a/\a≠ψ,benv nl fr ρ,ds[i],_,?_,bJ fc2 s3,Sl.fits (.same s3) sl2,dx,cw,λσ' ρ' sl' hd q'=>?_⟩
  .unfold HQ;rw[di,ie,a_];show hn
  .refine ⟨by rw[hd];unfold HQ;rw[List.drop_append_of_le_length (by simp),List.drop_replicate];simp,λa=>S a/\a≠ψ,ρ',_,bJ fc2 s3,sl',q',λb H3 s4 q4=>?_⟩
   cases b with
   |false =>
    rw[Zz bp] at q4 ⊢;show⟨_,by lia,rfl,hlt,(s2.trans s3).trans s4,(s3.trans s4) _ _ hy,aD,aW.fits (.same (s3.trans s4)) _ _ dn,q4⟩
   |true =>
    rw[Z_ rfl] at q4 ⊢;show⟨λa=>S a/\a≠ψ,ρ',_,bJ fc2 (s3.trans s4),Sl.fits (.same s4) sl',q4,λv H4 d s5 d5 q5=>?_⟩;have hy4:H4 ψ=aa (.lst ys):=((s3.trans s4).trans s5) _ _ hy;have F:Fits K (λa=>S a/\a≠ψ) (λa=>S a/\a≠ψ) H4 (upd H4 ψ (.lst (ys++[v]))):=.upd (.inl ⟨_,hy4⟩) λz=>z.2 rfl;show⟨hy4,by rw[<- dn.len];show q5.1,_,by lia,rfl,hlt,λb u hb=>?_,bA,aD++[d],aW.fits F _ _ ((aW.fits (.same ((s3.trans s4).trans s5)) _ _ dn).append (aW.one d5)),q5.2⟩;rw[aV (bN hb hacc)];show(((s2.trans s3).trans s4).trans s5) _ _ hb
 .have e:i=ds.length:=by lia
  subst e;rw[Ik,sR] at cw;show .inl ⟨wk.stop _ H2 gh2 _ rfl,k ψ ys H2 aD h0 hy (s1.trans s2) dn cw⟩
theorem Wd{ls fs:Q0g}{fr:List Nat}{sc:fq}{tg iter elt:aw}{ifs:List aw}{ν:bf}{ti:WI}{g:GE}{tf:WT}{te:WE}(hc:X.calm=af)(hi:XG X tg iter ti)
  (hg:∀cl C pn ex s H,(blk X (ls++fs) sc cl C pn ex s H).N.Nodup->PG4 (blk X (ls++fs) sc cl C pn ex s H) ls.length tg g) (hf:∀cl C pn ex s H,RD (blk X (ls++fs) sc cl C pn ex s H) ifs tf) (he:∀cl C pn ex s H,cV (blk X (ls++fs) sc cl C pn ex s H) elt te)
  (B:chk X.env.scope.names sc X.N ls fs fr=af:=by rfl) (hs:Zp X iter:=by intro _;rfl):K8 X (.ListComp elt [⟨tg,iter,ifs,0⟩] sc ν) (HW ls.length fr ti g tf te) :=
 imp (aAy (g:=z4 X.K ls.length (ls++fs).length g) (tf:=liftT X.K tf) (te:=lift X.K te) hc (nA B) hi (λcl C pn ex s H=>hg cl C pn ex s H (nA B).nd) hf he hs) λσ H Q h=>uN (n:=(ls++fs).length) (by rw[di,(nA B).BA]) h
theorem RE{i:Nat}{x:aj}{ls fs:Q0g}{fr:List Nat}{sc:fq}{tg iter elt:aw}{ifs:List aw}{ν spos pos':bf}{ti:WI}{g:GE}{tf:WT}{te:WE}(nd:X.N.Nodup)(hc:X.calm=af)(hi:XG X tg iter ti)
  (hg:∀cl C pn ex s H,(blk X (ls++fs) sc cl C pn ex s H).N.Nodup->PG4 (blk X (ls++fs) sc cl C pn ex s H) ls.length tg g) (hf:∀cl C pn ex s H,RD (blk X (ls++fs) sc cl C pn ex s H) ifs tf) (he:∀cl C pn ex s H,cV (blk X (ls++fs) sc cl C pn ex s H) elt te)
  (hx0:X.N[i]?=aa x:=by rfl) (hx:X.env.scope.names.lookup x=aa .local:=by rfl) (hsw:Rv X elt tg iter ifs sc ν x pos' spos:=by rfl)
  (B:chk X.env.scope.names sc X.N ls fs fr=af:=by rfl) (hs:Zp X iter:=by intro _;rfl):FD X (.Assign [.Name x pos'] (.ListComp elt [⟨tg,iter,ifs,0⟩] sc ν) spos) (xg i (HW ls.length fr ti g tf te)) :=
 jN (zZ (g:=z4 X.K ls.length (ls++fs).length g) (tf:=liftT X.K tf) (te:=lift X.K te) nd hx0 hx hc (nA B) hi (λcl C pn ex s H=>hg cl C pn ex s H (nA B).nd) hf he hsw hs) λBd σ H Ow=>by
 obtain⟨H₀,S,w,ρ,G,E,hl,st,ht,ok⟩:=Ow;show uN (n:=(ls++fs).length) (by rw[di,(nA B).BA]) ⟨_,jL ρ,_,st.OR,st.rd,ht,λp xs H' ds hp hp' s' d' q'=>ok.nx w _ H' _ (by rw[gn];show hl) ((st.same s').lH (d:=.lst ds) (by rw[hl];show jT hx0) (by symm;show⟨p,xs,rfl,hp',st.OR p hp,aW.fits (.mono λ_ z=>z.1) _ _ d'⟩)) q'⟩
noncomputable def tyD:D->String
 |.non => "NoneType"
 |.bl _ => "bool"
 |.int _ => "int"
 |.str _ => "str"
 |.tup _ => "tuple"
 |.lst _ => "list"
 |.j6 _ => "list"
 |.kZ _ _ => "dict"
 |.c8 _ _ _ => "dict"
 |.exc _ _ => "NoneType"
 |.rws _ => "NoneType"
inductive CQ:String->Prop
 |t:CQ "tuple"
 |b:CQ "bool"
 |i:CQ "int"
 |s:CQ "str"
def isT(T:String)(d:D):Bool:=tyD d == T||(T == "int"&&tyD d == "bool")
def Ov(K:ao)(T:String):List V->Hp->VK->Prop:=λxs H Q=>∃x t b,xs=[x,.ty T]/\(sJ K H x t\/(t=.type "tuple" /\∃a ys,x=.ref a/\fF K H a ys)\/(t=.type "list" /\∃a ys,x=.ref a/\eW K H a ys))/\qo K t (.type T)=aa b/\Q (.bl b) H
theorem XN:gX X (.builtin "isinstance") (Ov X.K T):=by
 intro π s σ H xs us Q I r h;obtain⟨x,t,b,rfl,ty,e,q⟩:=h;obtain⟨u,w',rfl,r1,r2⟩:=vals2 r;obtain rfl:w'=ph T:=r2;rcases ty with ty|⟨rfl,a,ys,rfl,hq⟩|⟨rfl,a,ys,rfl,hq⟩
 .exact QV I r1 ty e λtk=>⟨.bl b,H,I.tok tk,rfl,q⟩
 .cases r1;obtain⟨ι,_,p,_⟩:=I.tuple hq;obtain⟨o,h1,h2,_⟩:=p;show jc a0K I.xG ⟨o,h1,h2⟩ e (λz=>nomatch z) λtk=>⟨.bl b,H,I.tok tk,rfl,q⟩
 .cases r1;obtain⟨ι,_,p,_⟩:=I.list hq;obtain⟨o,n,h1,h2,_⟩:=p;show jc Gm I.xG ⟨o,h1,h2⟩ e (λz=>nomatch z) λtk=>⟨.bl b,H,I.tok tk,rfl,q⟩
noncomputable def Eu:D->Prop
 |.exc _ _=>False
 |.c8 _ _ _=>False
 |.rws _=>False
 |_=>True
def Ou(T:String)(t:WE):WE:=λρ Q=>t ρ λd=>Eu d/\Q (.bl (isT T d))
def Ot{K:ao}{T:String}(h:CQ T)(d:D):qo K (.type (tyD d)) (.type T)=aa (isT T d):=by cases h<;>cases d<;>with_unfolding_all rfl
def Wc{K:ao}{S:ah->Prop}{H:Hp}{d:D}{v:V}(hne:Eu d)(h:Dn K S H d v):∃t,t=ph (tyD d)/\(sJ K H v t\/(t=.type "tuple" /\∃a ys,v=.ref a/\fF K H a ys)\/(t=.type "list" /\∃a ys,v=.ref a/\eW K H a ys)):=by
 show⟨_,rfl,?_⟩;cases d<;>symm at h
 .subst h;show .inl .non
 .subst h;show .inl (.bl _)
 .subst h;show .inl (.int _)
 .subst h;show .inl (.str _)
 .obtain ⟨a,xs,rfl,hq,_⟩:=h;show .inr (.inl ⟨rfl,a,xs,rfl,(fF.of hq)⟩)
 .obtain ⟨a,xs,rfl,hq,_⟩:=h;show .inl (.lst hq)
 .obtain ⟨a,rfl,hq⟩:=h;show .inr (.inr ⟨rfl,a,_,rfl,hq.sq⟩)
 .obtain ⟨a,xs,rfl,hq,_⟩:=h;show .inl (.dK hq)
 .exact hne.elim
 .exact hne.elim
 .exact hne.elim
theorem Np{T:String}{x:aj}{e:aw}{t:WE}{p p2 ν:bf}(hT:CQ T)(hm:X.mg "isinstance"=ae)(hmT:X.mg x=ae)(hv:bootBuiltins x=aa (.type T))(he:cV X e t)(hg:Gl X "isinstance":=by rfl)(hgT:Gl X x:=by rfl)(hn:x ≠ "__name__":=by decide)(hdb:Zu x:=by decide)
  (hs:ar [e,.Name x p2] X.env=(ag,eval e X.env)::ar [.Name x p2] X.env:=by rfl) (hs2:ar [.Name x p2] X.env=(ag,eval (.Name x p2) X.env)::ar [] X.env:=by rfl) (hpl:(cu ν (ar [.Name x p2] X.env)).any (·.1)=ag:=by rfl):
  cV X (.Call (.Name "isinstance" p) [e,.Name x p2] [] ν) (Ou T t) :=
 imp (lZ (XN (T:=T)) hg hm Hj (eK he (eK (OA (v:=.ty T) hgT hmT hv rfl hn hdb) kT hs2) hs) (by decide) (by decide) hs hpl) λσ H Q Nn=>by obtain⟨S,ρ,Q3,fc,sl,ht,k⟩:=Nn;show⟨S,ρ,_,fc,sl,ht,λv H1 d s1 d1 q1=>?_⟩;obtain⟨tt,e1,e2⟩:=Wc q1.1 d1;show⟨v,tt,isT T d,rfl,e2,?_,k _ H1 (.bl _) s1 (by symm) q1.2⟩;rw[e1];show Ot hT d
def vG:List D->Option (List Bool)
 |[]=>aa []
 |.bl b::r=>(vG r).map (b :: ·)
 |_::_=>ae
theorem range_all(bs:List Bool):(bz bs.length).all (λi=>bs.getD i af)=bs.all id:=by
 induction bs with
 |nil=>rfl
 |cons b bs ih=>rw[cx,Ht,oh,qf,oh,<- ih];rfl
def blF(f:List Bool->Bool):F1
 |[.lst ds],Q=>(match vG ds with|some bs=>Q (.bl (f bs))|none=>False)
 |_,_=>False
def OX:List V->Hp->VK->Prop:=λxs H Q=>∃a ns,xs=[.ref a]/\H a=aa (.lst (ns.map V.int))/\ns.length<64 /\∀ns':Q0e,ns'.Perm ns->ns'.Pairwise (· <= ·) ->∀p,H p=ae->Q (.ref p) (upd H p (.lst (ns'.map V.int)))
theorem sS:gX X (.builtin "sorted") OX:=by
 intro π s σ H xs us Q I r h;obtain⟨a,ns,rfl,ha,fu,q⟩:=h;obtain⟨u,rfl,ru⟩:=vals1 r;cases ru;obtain⟨ι,rv,p,hz⟩:=I.list (eW.of ha);have hi:=intsAre_of rv;have hlen:ι.length=ns.length:=by have:=rv.length;rw[a_] at this;show this.symm
 show sorted_ints p.isList hi ∅ λout ns' a1 a2 a3=>?_;have hfr:H (s.heap.objs.size+1)=ae:=I.hok.fresh (p_ _);obtain⟨e1,hat⟩:=a1A s.heap ι out;have hz2:ns'.length<=bb:=by rw[a2.length_eq,fm];lia
 have I1:Φ X π σ (upd H (s.heap.objs.size+1) (.lst (ns'.map V.int))) {s with heap:=sortedAll s.heap ι out} :=
  I.laid (t':=s.toks) (λb o e=>a1z e) (p_ _) ⟨by rw[a_];show hz2,out.toList,e1,iB a1,by simpa[seqObj] using hat⟩
 show⟨.ref _,_,I1,rfl,q ns' a2 a3 _ hfr⟩
def intsOf:List D->Option (List Int)
 |[]=>aa []
 |.int b::r=>(intsOf r).map (b :: ·)
 |_::_=>ae
theorem b7:∀bs:Q0e,intsOf (bs.map D.int)=aa bs
 |[]=>rfl
 |b::bs=>by rw[bj,intsOf,b7 bs];rfl
theorem uO:∀{ds:List D} {bs:Q0e},intsOf ds=aa bs->ds=bs.map D.int
 |[],bs,h=>by cases h;rfl
 |.int b::r,bs,h=>by
  rw[intsOf] at h
  cases q:intsOf r with
  |none=>rw[q] at h;cases h
  |some cs=>rw[q] at h;cases h;rw[bj,uO q]
 |.non::r,bs,h=>by cases h
 |.bl _::r,bs,h=>by cases h
 |.str _::r,bs,h=>by cases h
 |.tup _::r,bs,h=>by cases h
 |.lst _::r,bs,h=>by cases h
 |.j6 _::r,bs,h=>by cases h
 |.kZ _ _::r,bs,h=>by cases h
 |.c8 _ _ _::r,bs,h=>by cases h
def XO:F1
 |[.lst ds],Q=>(match intsOf ds with|some ns=>ns.length<64 /\∀ns':Q0e,ns'.Perm ns->ns'.Pairwise (· <= ·)->Q (.lst (ns'.map D.int))|none=>False)
 |_,_=>False
theorem aBA{K:ao}:C3F K OX XO:=by
 intro S H xs ds Q3 Q fc hd hf k
 match ds,hf with
 |[.lst es],hf =>
  obtain⟨v,r,rfl,h1,h2⟩:=hd.bO;simp only[aW] at h2;subst h2;symm at h1;obtain⟨a,ys,rfl,ha,sa,da⟩:=h1;have hf2:(match intsOf es with|some ns=>ns.length<64 /\∀ns':Q0e,ns'.Perm ns->ns'.Pairwise (· <= ·)->Q3 (.lst (ns'.map D.int))|none=>False):=hf
  clear hf
  cases q:intsOf es with
  |none=>rw[q] at hf2;show hf2.elim
  |some ns =>
   rw[q] at hf2;have e:=uO q;subst e;have e2:=aW.ints.mp da;subst e2;show⟨a,ns,rfl,ha,hf2.1,λns' h1 h2 p hp=>k p _ _ _ hp bA (aY hp) (aW.ints.mpr rfl) (hf2.2 ns' h1 h2)⟩
def aBB(hm:X.mg "sorted"=ae)(ha:CM X [e] t)(hg:Gl X "sorted":=by rfl)
  (he:Zs X e []:=by rfl):K8 X (.Call (.Name "sorted" p) [e] [] ν) (W9 XO t):=OU sS aBA zw hg hm ha (by decide) (by decide) he (by rfl)
end
section
variable{X:Cx}
def CS(hg:Gl X "range")(hm:X.mg "range"=ae)(ha:PA X [a] ta)(hs:ar [a] X.env=[(ag,eval a X.env)]:=by rfl):
  PE X (.Call (.Name "range" p) [a] [] ν) (λσ H Q=>ta σ H λvs H1=>∃j:Int,vs=[.int j] /\∀p,H1 p=ae->Q (.ref p) (upd H1 p (.rng 0 j))):=by
 intro π s σ H Q I h;show vg (mY I hg hm a1E (q_ (eI (ha ν π s σ H _ I h) λus s1 ⟨vs,H1,I1,r1,q1⟩=>?_) hs rfl));obtain⟨j,e,q⟩:=q1;subst e;obtain⟨u,rfl,ru⟩:=vals1 r1;obtain⟨t,rfl⟩:=ru;show a0C ?_;show⟨.ref s1.heap.objs.size,_,I1.laid (o:=.rng 0 j) (λb o e=>cn _ e) (bg _) ⟨_,_,_,dm _ rfl⟩,rfl,q _ (I1.hok.fresh (bg _))⟩
def HX{lo:Int}{n:Nat}{ψ:Array ai}(h:ItemsOf (λi v=>∃t,v=.int (lo+(i:Nat)*1) t) ψ n):θ ((m9 lo n).map V.int) ψ.toList:=by
 obtain⟨hz,hv⟩:=h;have key:∀(l:Q0f) (k:Nat) (m:Nat),l.length=m->(∀(j:Nat) (v:ai),l[j]?=aa v ->∃t,v=jv (lo+((k+j:Nat):Int)) t)->θ (((List.range' k m).map λi:Nat=>lo+(i:Int)).map V.int) l:=by
  intro l
  induction l with
  |nil=>intro k m hm _;subst hm;show .nil
  |cons v l ih =>
   intro k m hm hh;subst hm;rw[cx,List.range'_succ,bj,bj];show .cons ?_ (ih (k+1) l.length rfl λj w e=>?_)
   .obtain ⟨t,e⟩:=hh 0 v (by simp);show⟨t,by simpa using e⟩
   .obtain ⟨t,e2⟩:=hh (j+1) w (by simpa using e);show⟨t,by rw[e2];congr 1;congr 1;congr 1;lia⟩
 have:=key ψ.toList 0 n (by simpa using hz) λj v e=>by obtain⟨t,e2⟩:=hv j v (by simpa using e);show⟨t,by rw[e2];simp⟩
 unfold m9;rw[List.range_eq_range'];show this
theorem BB(hc:X.calm=af):gX X (.type "list") (λxs H Q=>∃p j,xs=[.ref p]/\H p=aa (.rng 0 j) /\ -(2^62)<=j/\j<=16777216 /\∀l,H l=ae->Q (.ref l) (upd H l (.lst ((m9 0 j.toNat).map V.int)))):=by
 intro π s σ H xs us Q I r h;obtain⟨p,j,rfl,hp,h0,h1,q⟩:=h;obtain⟨u,rfl,ru⟩:=vals1 r;cases ru;obtain⟨t,u,v,e⟩:=I.hok p _ hp;have hsz:zr 0 j 1=(j.toNat:Int):=by rw[Ga];split<;>lia
 show call_list_range (a:=0) (b:=j) (c:=1) (n:=j.toNat) (I.ok.hd hc) e (Fx ∅ ∅ ∅ ∅) hsz ∅ λh' tk acc' c' kp hn hit=>?_;have hfr:H s.heap.objs.size=ae:=I.hok.fresh (bg _);have hv:θ ((m9 0 j.toNat).map V.int) acc'.toList:=HX hit;show⟨.ref s.heap.objs.size,_,I.laid (o:=.lst ((m9 0 j.toNat).map V.int)) kp (bg _) ⟨?_,acc'.toList,c',hv,by simpa using hn⟩,rfl,q _ hfr⟩;rw[a_,oI,fm];lia
noncomputable def aEV(t:WA):WE:=λρ Q=>t ρ λds=>match ds with
 |[.int j]=>(-(2^62)<=j/\j<=16777216)/\Q (.lst ((m9 0 j.toNat).map D.int))
 |_=>False
def LA(hc:X.calm=af)(hm:X.mg "list"=ae)(hmr:X.mg "range"=ae)(ha:CM X [a] t)(hg:Gl X "list":=by rfl)(hgr:Gl X "range":=by rfl)(hs:ar [a] X.env=[(ag,eval a X.env)]:=by rfl)
  (he:ar [.Call (.Name "range" p2) [a] [] pos2] X.env=(ag,eval (.Call (.Name "range" p2) [a] [] pos2) X.env)::ar [] X.env:=by rfl):
  K8 X (.Call (.Name "list" p) [.Call (.Name "range" p2) [a] [] pos2] [] ν) (aEV t) :=
 imp (CI (BB hc) hg hm a3B (eK (CS hgr hmr ha hs) kT he) (by decide) (by decide) he (by rfl)) λσ H Q Nm=>by
  obtain⟨S,ρ,Q3,fc,sl,ht,k⟩:=Nm;show⟨S,ρ,_,fc,sl,ht,λvs H1 ds s1 d1 q1=>?_⟩;split at q1
  .rename_i j;obtain⟨v,r,rfl,h1,h2⟩:=d1.bO;simp only[aW] at h2;subst h2;symm at h1;subst h1;show⟨j,rfl,λp hp=>⟨p,j,rfl,bA,q1.1.1,q1.1.2,λl hl=>?_⟩⟩;have hl1:H1 l=ae:=(aY hp).free hl;show k l _ _ _ (s1.free hl1) bA ((s1.trans (aY hp)).trans (aY hl)) (aW.ints.mpr rfl) q1.2
  .exact q1.elim
def lC(ks:List Key)(ds:List D)(k:Key):Option D:=((ks.zip ds).find? λkv=>Zv (kv.1=k)).map (·.2)
theorem z5{K:ao}{S:ah->Prop}{H:Hp}{k:Key}:∀{ks:List Key} {ds:List D} {xs:List V},ks.length=xs.length->aW K S H ds xs ->
  (∀d,lC ks ds k=aa d ->∃v,nO (ks.zip xs) k=aa v/\Dn K S H d v)/\(lC ks ds k=ae->nO (ks.zip xs) k=ae)
 |[],ds,xs,_,_=>by
  show⟨λd e=>?_,λ_=>?_⟩
  .simp [lC] at e
  .simp [nO]
 |q::ks,ds,xs,hl,dn=>by
  cases ds with
  |nil=>simp only[aW] at dn;subst dn;simp at hl
  |cons d0 ds =>
   obtain⟨v,r,rfl,h1,h2⟩:=dn.bO;have ih:=z5 (k:=k) (ks:=ks) (ds:=ds) (xs:=r) (by simpa using hl) h2;by_cases e:q=k
   .refine ⟨λd ed=>?_,λed=>?_⟩
    .simp only[lC,a1T,ig,e,decide_true,ng] at ed;cases ed;show⟨v,by simp[nO,e],h1⟩
    .simp [lC,e] at ed
   .refine ⟨λd ed=>?_,λed=>?_⟩
    .have ed':lC ks ds k=aa d:=by simpa[lC,e] using ed
     obtain⟨u,eu,du⟩:=ih.1 d ed';show⟨u,by simpa[nO,e] using eu,du⟩
    .have ed':lC ks ds k=ae:=by simpa[lC,e] using ed
     simpa[nO,e] using ih.2 ed'
theorem XQ(hN:X.N.Nodup)(hi:X.N[i]?=aa x:=by rfl)(hx:Loc X.env.scope x:=by walk_at "0")(hs:dq (.Dict [] [] p) (aa (.Name x pos')) ν.line X.env=pure ag:=by rfl)(hf:Zr X x:=by walk_at "0"):
  FD X (.Assign [.Name x pos'] (.Dict [] [] p) ν) (λE ρ=>E.nx (ρ.set i (.ow (.kZ [] [])))):=jN (oG hN hi hx WZ hs hf) λB σ H ⟨H₀,S,w,ρ,G,E,hl,st,ht,ok⟩=>λp hp =>
 ok.nx _ _ _ _ (by rw[gn];show hl) (st.K7 (d:=.kZ [] []) (by rw[hl];show jT hi) (aY hp) hp ⟨[],bA,rfl,aW.nil⟩) ht
noncomputable def HY:D->Option Key
 |.int i=>aa (.inl i)
 |.str x=>aa (.inr x)
 |_=>ae
theorem XR{K:ao}{S:ah->Prop}{H:Hp}{d:D}{v:V}{k:Key}(h:Dn K S H d v)(e:HY d=aa k):v=kV k:=by cases d<;>simp only[HY] at e<;>cases e<;>symm at h<;>show h
def w_:F2:=λx y Q=>match x,HY y with
 |.kZ ks ds,aa k=>(match lC ks ds k with|some d=>Q d|none=>False)
 |_,_=>False
theorem Nl{o i:aw}{ν:bf}{to ti:WE}(hu:X.A.units+1<cz)(ho:cV X o to)(hi:cV X i ti)(hs:K5 i:=by intro _ _;rfl):cV X (.Subscript o i ν) (g7 w_ to ti):=imp (aAk hu ho hi hs) λσ H Q Nk=>by
 obtain⟨S,ρ,Q3,fc,sl,ht,k⟩:=Nk;show⟨S,ρ,_,fc,sl,ht,λv H1 d s1 d1 q1=>?_⟩;show⟨S,ρ,_,bJ fc s1,Sl.fits (.same s1) sl,q1,λu H2 d2 s2 sQ q2=>?_⟩;unfold w_ at q2;split at q2
 .rename_i ks ds kk ek;have d1':=Dn.fits (.same s2) _ _ d1;symm at d1';obtain⟨a,xs,rfl,ha,sa,hl,da⟩:=d1';split at q2
  .rename_i d3 e3;obtain⟨v3,ev,dv⟩:=(z5 hl da).1 d3 e3;have eu:=XR sQ ek;subst eu;show⟨a,v3,rfl,?_,k v3 H2 d3 (s1.trans s2) dv q2⟩;have g:=Q4.k (k:=kk) ha;rw[ev] at g;show g
  .exact q2.elim
 .exact q2.elim
def Wb(i:Nat)(t:WX)(tk:WE):WS:=λE ρ=>t ρ λρ' d=>(match ρ'[i]? with|some (.ow (.kZ _ _))=>True|_=>False)/\tk (bR ρ') λkd=>match ρ'[i]?,HY kd with
 |some (.ow (.kZ ks ds)),aa k=>(lC ks ds k=ae/\ds.length<bb)/\E.nx (ρ'.set i (.ow (.kZ (ks++[k]) (ds++[d]))))
 |_,_=>False
theorem Wa{i:Nat}{x:aj}{e k:aw}{t:WX}{tk:WE}{ν pos' p:bf}(hu:X.A.units+1<cz)(he:HP X e t)(hk:cV X k tk)
  (hN:X.N[i]?=aa x:=by rfl) (hv:AX X.env.scope x:=by walk_at "1") (hd:Zu x:=by decide) (hcd:Zt x:=by decide)
  (hs:dq e (aa (.Subscript (.Name x p) k pos')) ν.line X.env=pure ag:=by rfl):
  FD X (.Assign [.Subscript (.Name x p) k pos'] e ν) (Wb i t tk):=jN (aAl hu (qT hN hv hd hcd) hk he hs) λB σ H Nj=>by
 obtain⟨H₀,S,w,ρ,G,E,hl,st,ht,ok⟩:=Nj;show⟨H₀,S,w,ρ,G,_,hl,st,ht,λw' v H' ρ' d st' d' q'=>?_⟩;obtain⟨q0,q'⟩:=q';split at q0
 .rename_i ks0 ds0 e0;obtain⟨a0,_,_⟩:=st'.own i _ e0;show⟨_,a0,S,bR ρ',_,st'.K6,st'.all,q',λkv H2 dk s2 dk2 q2=>?_⟩;split at q2
  .rename_i ks ds kk e1 ek;have st2:=st'.same s2;obtain⟨a,b,c⟩:=st2.own i _ e1;obtain⟨xs,hp,hlen,dn⟩:=c;have eu:=XR dk2 ek;subst eu;have hno:=(z5 (k:=kk) hlen dn).2 q2.1.1;have nS:¬ SO S w' ρ' (w' i):=λ⟨_,z⟩=>z i _ e1 rfl;have hz:(ks.zip xs).length<bb:=by rw[a17,hlen,Nat.min_self,<- dn.len];show q2.1.2
   have Ni:putK (ks.zip xs) kk v=(ks++[kk]).zip (xs++[v]):=by rw[WR v hno,a1U hlen];rfl
   have F:Fits X.K (SO S w' ρ') (SO S w' ρ') H2 (upd H2 (w' i) (.dK (putK (ks.zip xs) kk v))):=.upd (.inr (.inl ⟨_,hp⟩)) nS;show⟨w' i,_,rfl,WW.k hp hz,ok.nx w' σ _ _ hl (st2.write (d':=.kZ (ks++[kk]) (ds++[d])) e1 ⟨xs++[v],?_,by simp[hlen],aW.fits F _ _ (dn.append (aW.one (Dn.fits (.same s2) _ _ d')))⟩) q2.2⟩;rw[bA,Ni]
  .exact q2.elim
 .exact q0.elim
def Et(i:Nat)(t:WE):WS:=λE ρ=>t (bR ρ) λd=>(match d with | .lst ds=>rH ds=af|_=>False)/\E.nx (ρ.set i (.ro d))
def V_(hN:X.N.Nodup)(he:K8 X e t)(hi:X.N[i]?=aa x:=by rfl)(hx:Loc X.env.scope x:=by walk_at "0")(hs:Si X e x pos' ν:=by rfl)(hf:Zr X x:=by walk_at "0"):
  FD X (.Assign [.Name x pos'] e ν) (Et i t):=jN (oG hN hi hx he hs hf) λB σ H Nh=>by
 obtain⟨H₀,S,w,ρ,G,E,hl,st,ht,ok⟩:=Nh;show⟨_,bR ρ,_,st.K6,st.all,ht,λp xs H' ds hp hp' s' d' q'=>ok.nx w _ H' _ (by rw[gn];show hl) ((st.same s').lH (d:=.lst ds) (by rw[hl];show jT hi) (by symm;show⟨p,xs,rfl,hp',st.OR p hp,aW.A2 q'.1 d'⟩)) q'.2⟩
def aEX(c:WT)(tb:WS):WS:=λE ρ=>∃(Φ:bU->Prop) (μ:bU->Nat),Φ ρ /\∀ρ',Φ ρ'->c (bR ρ') λb=>if b=af then tb {E with nx:=λρ2=>Φ ρ2/\μ ρ2<μ ρ',ct:=λρ2=>Φ ρ2/\μ ρ2<μ ρ',bk:=E.nx} ρ' else E.nx ρ'
theorem aEY(hp:qr (av X.Ω X.w) X.A X.env X.xe)(hc:xM X c tc)(hb:wK X body tb):FD X (.While c body [] ν) (aEX tc tb):=jN (V1 hp hc hb) λB σ H Ng=>by
 obtain⟨H₀,S,w,ρ,G,E,hl,st,⟨Iv,μ,h0,turn⟩,ok⟩:=Ng;show⟨λm σ H=>∃w ρ,σ.length=X.N.length/\ST X.K H₀ S w σ H ρ G/\Iv ρ/\m=μ ρ,⟨_,w,ρ,hl,st,h0,rfl⟩,?_⟩;rintro m σ2 H2 ⟨w2,ρ2,hl2,st2,iv,rfl⟩;show⟨S,bR ρ2,_,st2.K6,st2.all,turn ρ2 iv,λb H3 s3 q3=>?_⟩
 cases b with
 |false=>rw[Zz bp] at q3 ⊢;show ok.nx w2 σ2 H3 ρ2 hl2 (st2.same s3) q3
 |true =>
  rw[Z_ rfl] at q3 ⊢;show⟨λσ' H'=>∃w ρ,σ'.length=X.N.length/\ST X.K H₀ S w σ' H' ρ G/\Iv ρ/\μ ρ<μ ρ2,λσ' H' ⟨w',ρ',hl',st',iv',hm⟩=>⟨_,hm,w',ρ',hl',st',iv',rfl⟩,?_⟩;show⟨H₀,S,w2,ρ2,G,_,hl2,st2.same s3,q3,⟨λw' σ' H' ρ' hl' st' q=>⟨w',ρ',hl',st',q.1,q.2⟩,λv H' d s' d' q=>ok.rt v H' d s' d' q,λw' σ' H' ρ' hl' st' q=>ok.nx w' σ' H' ρ' hl' st' q,λw' σ' H' ρ' hl' st' q=>⟨w',ρ',hl',st',q.1,q.2⟩,ok.ex⟩⟩
noncomputable def wz:List D->D->(List D->D->Prop)->Prop
 |ds,.lst es,Q=>ds.length+es.length<=bb/\Q (ds++es) .non
 |_,_,_=>False
theorem aE0{K:ao}:M3 K OO wz:=by
 intro S H p xs ds y d Q3 Q hp dn dy hf k
 cases d with
 |lst es =>
  symm at dy;obtain⟨b,zs,rfl,hb,sb,db⟩:=dy;show⟨p,b,xs,zs,rfl,rfl,hp,hb,by rw[<- dn.len,<- db.len];show hf.1,k _ _ _ _ (dn.append db) (by symm) hf.2⟩
 |_=>show hf.elim
section
variable{i:Nat}{x:aj}{e:aw}{p apos cpos:bf}{t:WX}
def aBC(he:HP X e t)(hN:X.N[i]?=aa x:=by rfl)(hv:AX X.env.scope x:=by walk_at "1")(hd:Zu x:=by decide)(hcd:Zt x:=by decide)
  (hbase:attributeBase (.Name x p) "extend" X.env (eval (.Name x p) X.env)=eval (.Name x p) X.env:=by rfl)
  (hfew:Zq X cpos e:=by rfl)
  (hline:Q0k apos cpos:=by rfl) (hs:Zs X e []:=by rfl):
  HP X (.Call (.Attribute (.Name x p) "extend" apos) [e] [] cpos) (oq i wz t):=m1 a1c PySem.F.type_list_extend QZ aE0 he hN hv hd hcd hbase hfew hline hs
end
end
section
variable{X:Cx}{π:Q0b}{σ:L2.St}{H:Hp}{s:ak}{h':ay}
theorem turnT{t':Nat}{ch:List ah}{T:ah}{xs:List V}{ι:Q0f}(I:Φ X π σ H s)(k:∀b o,b∉ch->s.heap.get? b=aa o->h'.get? b=aa o)(hf:∀b∈ch,qU X π H b)
  (hT:s.heap.objs.size<=T) (hv:θ xs ι) (hz:xs.length<=bb) (ht:gy h' T ι.toArray) (nd:F7 h' T):Φ X π σ (upd H T (.tup xs)) {s with heap:=h',toks:=t' }:=by
 have fr:H T=ae:=I.hok.fresh hT;have nT:∀{b:ah} {o:ax},s.heap.get? b=aa o->b≠T:=λ{b} {o} e z=>jb _ (fz (bo e) (z▸hT));have live:∀{b:ah} {u:HO},H b=aa u->b∉ch:=λ{b} {u} e z=>by rw[(hf _ z).1] at e;cases e
 show I.call' (s':={s with heap:=h',toks:=t' }) (ch:=ch) rfl ⟨λb o e _ _ hx=>k b o hx e,λb o e _ _ hx=>⟨o.slots,k b o hx e⟩,λb o e n _=>by rw[aV (nT e)];show n,λb o e hx=>⟨o,k b o hx e⟩,
  λb ys e=>by rw[aV (bN e fr)];show e,λb o u e=>by rw[aV (bN e fr)];show e,λb ps e=>by rw[aV (bN e fr),e]⟩ ?_ I.bare λb hb=>?_
 .intro b u e;by_cases hb:b=T
  .subst hb;rw[bA] at e;cases e;show⟨hz,ι,hv,ht,nd⟩
  .rw [aV hb] at e;show(I.hok b u e).stay (λc v hc q=>k c v ?_ q) (λc q=>by rw[aV (bN q fr)];show q) (λc ys q=>by rw[aV (bN q fr)];show q) λc o u q=>by rw[aV (bN q fr)];show q
   rcases hc with rfl|hc
   .exact live e
   .exact live hc
 .obtain ⟨_,f1,_,f3,f4,f5⟩:=hf b hb;show⟨f3,f1,f4,f5⟩
def XS{t':Nat}{ch:List ah}(I:Φ X π σ H s)(k:∀b o,b∉ch->s.heap.get? b=aa o->h'.get? b=aa o)(hf:∀b∈ch,qU X π H b):Φ X π σ H {s with heap:=h',toks:=t' }:=by
 have live:∀{b:ah} {u:HO},H b=aa u->b∉ch:=λ{b} {u} e z=>by rw[(hf _ z).1] at e;cases e
 show I.call' (s':={s with heap:=h',toks:=t' }) (ch:=ch) rfl ⟨λb o e _ _ hx=>k b o hx e,λb o e _ _ hx=>⟨o.slots,k b o hx e⟩,λb o e n _=>n,λb o e hx=>⟨o,k b o hx e⟩,
  λb ys e=>e,λb o u e=>e,λb ps e=>e⟩ ?_ I.bare λb hb=>?_
 .intro b u e;show(I.hok b u e).stay (λc v hc q=>k c v ?_ q) (λc q=>q) λc ys q=>q;rcases hc with rfl|hc
  .exact live e
  .exact live hc
 .obtain ⟨_,f1,_,f3,f4,f5⟩:=hf b hb;show⟨f3,f1,f4,f5⟩
end
def Itp(go:Nat->Hp->Prop)(Y:Nat->Hp->List V->Prop)(stop:Nat->Hp->Prop):It:=⟨go,λi H x H'=>∃T vs,x=.ref T/\H T=ae/\H'=upd H T (.tup vs)/\Y i H vs,stop⟩
def HZ(P:bc)(w:ba)(A:bq)(it:ah)(wr:List ah)(n:Nat)(Pt:Nat->Array ai->Prop)(St:Nat->ay->Prop)(Mid:Nat->ah->ay->Prop):Prop :=
 ∀i (s:ak) (Q:Option ai->ak->Prop) (E:Q0c),i<n->St i s.heap ->
  (∀T vals h' tk,Pt i vals->s.heap.objs.size<=T->h'.IsTuple T vals->F7 h' T->Mid i T h'->(∀b o,b∉wr->s.heap.get? b=aa o->h'.get? b=aa o)->Q (aa (.ref T)) {s with heap:=h',toks:=tk}) ->
  au (av P w) A (pyNext (.ref it)) Q E s
theorem nB{P:bc}{w:ba}{K:ao}{es:List aw}{kk:Nat}{tp:bf}{go:Nat->Hp->Prop}{Y:Nat->Hp->List V->Prop}{stop:Nat->Hp->Prop}{fp:List ah}{it:ah}{tn:Nat->ay->Prop}(mem:it∈fp)
  (obj:∀i h,tn i h ->∀b∈fp,∃o,h.get? b=aa o /\∀v,o.data≠.cell v) (keep:∀i h h',tn i h->(∀b∈fp,∀o,h.get? b=aa o->h'.get? b=aa o)->tn i h')
  (wk:∀(X:Cx),X.Ω=P->X.w=w->X.K=K->X.calm=af ->∀(i:Nat) (π:Q0b) (s:ak) (σ:L2.St) (H:Hp),Φ X π σ H s->tn i s.heap->go i H\/stop i H ->
   ∃fp2 wr n Pt St Mid,(WalksT P w X.A it fp2 wr n Pt St Mid/\HZ P w X.A it wr n Pt St Mid)/\St i s.heap/\(∀b∈wr,b∈fp)/\(∀h,St (i+1) h->tn (i+1) h) /\
    (go i H->i<n /\∀vals,Pt i vals ->∃vs,vs.length<=bb/\θ vs vals.toList/\Y i H vs)/\(stop i H->i=n))
  (self:∀(A:bq) (i:Nat) (s:ak) (Q:Q0c) (E:Q0c),tn i s.heap->Q (.ref it) s->au (av P w) A (pyIter (.ref it)) Q E s):
  Turn P w K (.Tuple es kk tp) (Itp go Y stop) fp it tn where
 mem:=mem
 obj:=obj
 keep:=keep
 self:=self
 item:=by intro X hP hw hK hc i π s σ H E I hf st hg;obtain⟨fp2,wr,n,Pt,St,Mid,⟨W,J2⟩,hs,sub,nx,ok,_⟩:=wk X hP hw hK hc i π s σ H I st (.inl hg);obtain⟨hi,ok⟩:=ok hg;show J2 i s _ _ hi hs λT vals h1 tk hp hT ht nd hm k1=>⟨.ref T,rfl,W.go es kk tp i T _ _ _ hm λh2 s2 k2=>?_⟩;obtain⟨vs,hz,hv,hy⟩:=ok vals hp;obtain⟨o,eo,c,d⟩:=ht;have ht2:gy h2 T vals.toList.toArray:=⟨o,k2 T o (W.apart i T _ hm) eo,c,by simpa using d⟩;have I2:Φ X π σ (upd H T (.tup vs)) {s with heap:=h2,toks:=tk}:=turnT (t':=tk) (ch:=wr) I (λb o hb e=>k2 b o hb (k1 b o hb e)) (λb hb=>hf b (sub b hb)) hT hv hz ht2 (nd.at eo (k2 T o (W.apart i T _ hm) eo));show⟨.ref T,upd H T (.tup vs),I2,rfl,⟨T,vs,rfl,I.hok.fresh hT,rfl,hy⟩,nx h2 s2,λb hb=>?_⟩;obtain⟨ob,eb,_⟩:=obj _ _ st b hb;have nb:b≠T:=λz=>jb _ (fz (bo eb) (z▸hT));rw[aV nb];show(hf b hb).1
 done:=by intro X hP hw hK hc i π s σ H E I hf st hg;obtain⟨fp2,wr,n,Pt,St,Mid,⟨W,_⟩,hs,sub,nx,_,ok⟩:=wk X hP hw hK hc i π s σ H I st (.inr hg);obtain rfl:=ok hg;show W.done s _ _ hs λh2 tk k2=>⟨rfl,XS (t':=tk) (ch:=wr) I k2 λb hb=>hf b (sub b hb)⟩
def Iel(K:ao)(l:ah):It:=Itp (λi H=>∃xs v,eW K H l xs/\xs[i]?=aa v) (λi H vs=>∃v,vs=[.int i,v] /\∀xs,eW K H l xs->xs[i]?=aa v) (λi H=>∃xs,eW K H l xs/\xs.length=i)
def Iet(K:ao)(l:ah):It:=Itp (λi H=>∃xs v,fF K H l xs/\xs[i]?=aa v) (λi H vs=>∃v,vs=[.int i,v] /\∀xs,fF K H l xs->xs[i]?=aa v) (λi H=>∃xs,fF K H l xs/\xs.length=i)
def sU:[V.int 0,V.int 0].length<=bb:=by rw[fm];decide
theorem IA(e it l:ah)(hei:e≠it)(hle:l≠e)(hli:l≠it)(items:Array ai):HZ Ω w A e [e,it] items.size (λi vals=>∃t x,items[i]?=aa x/\vals=#[.int i t,x])
  (λi h=>(∃old,vb h e it i old)/\h.IsListIter it l i/\h.IsList l items) (λi T h=>(∃x,IsEnumOut h e it ((i:Int)+1) x T)/\h.IsListIter it l (i+1)/\h.IsList l items/\T≠e/\T≠it):=by
 intro i s Q E hi ⟨⟨old,a1⟩,a2,a3⟩ q;have ix:items[i]?=aa items[i]:=qh hi;show wpAny_pyNext_enum_item a1 a2 a3 ix hei λg b1 b2 b3 _ kp=>?_;have l1:e<s.heap.objs.size:=bo a1;have l2:it<s.heap.objs.size:=by obtain⟨_,y,_⟩:=a2;show bo y
 show q s.heap.objs.size #[.int i s.toks,items[i]] g (s.toks+1) ⟨_,_,ix,rfl⟩ (bg _) ⟨_,b3,rfl,_,rfl⟩ (F7.is b3 rfl) ⟨⟨_,b1⟩,b2,a3.at λo y=>kp l o hle hli y,ko l1,ko l2⟩ λb o hb y=>?_;simp only[bh,ib,or_false,not_or] at hb;show kp b o hb.1 hb.2 y
theorem IB{Ω:bc}{w:ba}{A:bq}{it:ah}{fp:List ah}{n:Nat}{P:Nat->ai->Prop}{St:Nat->ay->Prop}(D:jg Ω w A.in1 it fp n P St)(e:ah)(hei:e≠it)(hef:e∉fp):
  HZ Ω w A e [e,it] n (λi vals=>∃t x,P i x/\vals=#[.int i t,x]) (λi h=>(∃old,vb h e it i old)/\St i h) (λi T h=>(∃x,IsEnumOut h e it ((i:Int)+1) x T)/\St (i+1) h/\T≠e/\T≠it):=by
 intro i s Q E hi ⟨⟨old,a1⟩,a2⟩ q;show wpAny_pyNext_enum_itemD D a1 a2 hi hei hef λx g tk px b1 b2 b3 _ kp=>?_;have l1:e<s.heap.objs.size:=bo a1;have l2:it<s.heap.objs.size:=by obtain⟨_,y⟩:=D.live _ _ a2;show bo y
 show q s.heap.objs.size #[.int i tk,x] g (tk+1) ⟨_,_,px,rfl⟩ (bg _) ⟨_,b3,rfl,_,rfl⟩ (F7.is b3 rfl) ⟨⟨_,b1⟩,b2,ko l1,ko l2⟩ λb o hb y=>?_;simp only[bh,ib,or_false,not_or] at hb;show kp b o hb.1 hb.2 y
theorem LB(z TI TO i1 i2 l1 l2:ah)(D:ZipApart z TI TO i1 i2 l1 l2)(xs ys:Array ai):
  HZ Ω w A z [z,TO,i1,i2] (min xs.size ys.size) (λi vals=>∃x y,xs[i]?=aa x/\ys[i]?=aa y/\vals=#[x,y])
   (λi h=>gu h z TI TO .none/\dj h TI (.ref i1) (.ref i2)/\(∃a b,dj h TO a b)/\h.IsListIter i1 l1 i/\h.IsListIter i2 l2 i/\h.IsList l1 xs/\h.IsList l2 ys)
   (λi T h=>gu h z TI TO (rawInt T)/\dj h TI (.ref i1) (.ref i2)/\(∃a b,dj h TO a b)/\h.IsListIter i1 l1 (i+1)/\h.IsListIter i2 l2 (i+1)/\h.IsList l1 xs/\h.IsList l2 ys/\T≠z/\T≠TO/\T≠i1/\T≠i2):=by
 intro i s Q E hi ⟨a1,a2,⟨x,y,a3⟩,a4,a5,a6,a7⟩ q;have n1:i<xs.size:=by lia
 have n2:i<ys.size:=by lia
 show wpAny_pyNext_zip_item D a1 a2 a3 a4 a5 a6 a7 (qh n1) (qh n2) λg b1 b2 b3 b4 b5 _ kp=>?_;have fresh:∀{c:ah} {o:ax},s.heap.get? c=aa o->s.heap.objs.size≠c:=λe=>ko (bo e);show q s.heap.objs.size #[xs[i],ys[i]] g s.toks ⟨_,_,qh n1,qh n2,rfl⟩ (bg _) ⟨_,b5,rfl,_,rfl⟩ (F7.is b5 rfl)
  ⟨b1,kp _ _ D.TIz D.TITO D.TIi1 D.TIi2 a2,⟨_,_,b2⟩,b3,b4,a6.at λo e=>kp _ o D.l1z D.l1TO D.l1i1 D.l1i2 e,a7.at λo e=>kp _ o D.l2z D.l2TO D.l2i1 D.l2i2 e,fresh a1,fresh a3,(by obtain⟨_,e,_⟩:=a4;show fresh e),(by obtain⟨_,e,_⟩:=a5;show fresh e)⟩ λb o hb e=>?_
 simp only[bh,ib,or_false,not_or] at hb;show kp b o hb.1 hb.2.1 hb.2.2.1 hb.2.2.2 e
theorem LC{P:bc}{w:ba}{K:ao}{es:List aw}{kk:Nat}{tp:bf}{e it l:ah}(hei:e≠it)(hle:l≠e)(hli:l≠it):
  Turn P w K (.Tuple es kk tp) (Iel K l) [e,it] e (λi h=>(∃old,vb h e it i old)/\h.IsListIter it l i):=by
 show nB (by simp) (λi h st b hb=>?_) (λi h h2 st k=>?_) (λX hP hw hK hc i π s σ H I st hg=>?_) (λA i s Q E st q=>?_)
 .obtain ⟨⟨old,a⟩,o,c,d1,d2⟩:=st;rcases bh.mp hb with rfl|hq
  .exact ⟨_,a,λv z=>by cases z⟩
  .rw [cc.mp hq];show⟨o,c,λv z=>by rw[d2] at z;cases z⟩
 .obtain ⟨⟨old,a⟩,b⟩:=st;show⟨⟨old,k e (by simp) _ a⟩,b.at λo q=>k it (by simp) o q⟩
 .subst hP hw hK;have hq:∃xs,eW X.K H l xs:=by rcases hg with⟨xs,_,a,_⟩|⟨xs,a,_⟩<;>show⟨xs,a⟩
  obtain⟨xs,hq⟩:=hq;obtain⟨ι,rv,p,hz⟩:=I.list hq;have hl:=rv.length;show⟨_,_,_,_,_,_,⟨WalksT.enumerate (I.ok.hd hc) e it l hei hle hli ι.toArray,IA e it l hei hle hli ι.toArray⟩,⟨st.1,st.2,p.isList⟩,λb hb=>hb,λh q=>⟨q.1,q.2.1⟩,λg=>?_,λg=>?_⟩
  .obtain ⟨ys,v,hy,hv⟩:=g;obtain rfl:=I.gW hy hq;obtain⟨u,hu,ru⟩:=rv.get hv;have hlt:i<ys.length:=(cb.mp hv).1;show⟨by rw[bt,<- hl];show hlt,λvals q=>?_⟩;obtain⟨t,x,hx,rfl⟩:=q;have ex:x=u:=by
    have:ι[i]?=aa x:=by simpa using hx
    rw[hu] at this;show(cj this).symm
   subst ex;show⟨[.int i,v],sU,.cons ⟨t,rfl⟩ (.cons ru .nil),v,rfl,λzs hzs=>by rw[I.gW hzs hq];show hv⟩
  .obtain ⟨ys,hy,e2⟩:=g;obtain rfl:=I.gW hy hq;rw[bt,<- hl,e2]
 .obtain ⟨⟨old,a⟩,b⟩:=st;show yg a q
def Izl(K:ao)(l m:ah):It:=Itp (λi H=>∃xs ys v u,eW K H l xs/\eW K H m ys/\xs[i]?=aa v/\ys[i]?=aa u) (λi H vs=>∃v u,vs=[v,u]/\(∀xs,eW K H l xs->xs[i]?=aa v) /\∀ys,eW K H m ys->ys[i]?=aa u)
 (λi H=>∃xs ys,eW K H l xs/\eW K H m ys/\min xs.length ys.length=i)
theorem XT{P:bc}{w:ba}{K:ao}{es:List aw}{kk:Nat}{tp:bf}{z TI TO i1 i2 l m:ah}(D:ZipApart z TI TO i1 i2 l m):
  Turn P w K (.Tuple es kk tp) (Izl K l m) [z,TI,TO,i1,i2] z (λi h=>gu h z TI TO .none/\dj h TI (.ref i1) (.ref i2)/\(∃a b,dj h TO a b)/\h.IsListIter i1 l i/\h.IsListIter i2 m i):=by
 show nB (by simp) (λi h st b hb=>?_) (λi h h2 st k=>?_) (λX hP hw hK hc i π s σ H I st hg=>?_) (λA i s Q E st q=>?_)
 .obtain ⟨a1,a2,⟨x,y,a3⟩,⟨o4,c4,_,d4⟩,o5,c5,_,d5⟩:=st;simp only[bh,or_false,ib] at hb;rcases hb with rfl|rfl|rfl|rfl|rfl
  .exact ⟨_,a1,λv z=>by cases z⟩
  .exact ⟨_,a2,λv z=>by cases z⟩
  .exact ⟨_,a3,λv z=>by cases z⟩
  .exact ⟨o4,c4,λv z=>by rw[d4] at z;cases z⟩
  .exact ⟨o5,c5,λv z=>by rw[d5] at z;cases z⟩
 .obtain ⟨a1,a2,⟨x,y,a3⟩,a4,a5⟩:=st;show⟨k z (by simp) _ a1,k TI (by simp) _ a2,⟨x,y,k TO (by simp) _ a3⟩,a4.at λo q=>k i1 (by simp) o q,a5.at λo q=>k i2 (by simp) o q⟩
 .subst hP hw hK;have hq:∃xs ys,eW X.K H l xs/\eW X.K H m ys:=by rcases hg with⟨xs,ys,_,_,a,b,_⟩|⟨xs,ys,a,b,_⟩<;>show⟨xs,ys,a,b⟩
  obtain⟨xs,ys,hq,hq2⟩:=hq;obtain⟨ι,rv,p,hz⟩:=I.list hq;obtain⟨its2,rv2,p2,hz2⟩:=I.list hq2;have hl:=rv.length;have hl2:=rv2.length;show⟨_,_,_,_,_,_,⟨WalksT.zip2 (I.ok.hd hc) z TI TO i1 i2 l m D ι.toArray its2.toArray,LB z TI TO i1 i2 l m D ι.toArray its2.toArray⟩,⟨st.1,st.2.1,st.2.2.1,st.2.2.2.1,st.2.2.2.2,p.isList,p2.isList⟩,λb hb=>?_,λh q=>⟨q.1,q.2.1,q.2.2.1,q.2.2.2.1,q.2.2.2.2.1⟩,λg=>?_,λg=>?_⟩
  .simp only[bh,ib,or_false] at hb ⊢;rcases hb with rfl|rfl|rfl|rfl<;>simp
  .obtain ⟨x',y',v,u,hy,hy2,hv,hu⟩:=g;obtain rfl:=I.gW hy hq;obtain rfl:=I.gW hy2 hq2;obtain⟨r,er,rr⟩:=rv.get hv;obtain⟨r2,er2,rr2⟩:=rv2.get hu;have hlt:i<x'.length:=(cb.mp hv).1;have hlt2:i<y'.length:=(cb.mp hu).1;show⟨by rw[bt,bt,<- hl,<- hl2];lia,λvals q=>?_⟩;obtain⟨x,y,hx,hy',rfl⟩:=q;have ex:x=r:=by
    have:ι[i]?=aa x:=by simpa using hx
    rw[er] at this;show(cj this).symm
   have ey:y=r2:=by
    have:its2[i]?=aa y:=by simpa using hy'
    rw[er2] at this;show(cj this).symm
   subst ex ey;show⟨[v,u],sU,.cons rr (.cons rr2 .nil),v,u,rfl,λzs hzs=>by rw[I.gW hzs hq];show hv,λzs hzs=>by rw[I.gW hzs hq2];show hu⟩
  .obtain ⟨x',y',hy,hy2,e2⟩:=g;obtain rfl:=I.gW hy hq;obtain rfl:=I.gW hy2 hq2;rw[bt,bt,<- hl,<- hl2,e2]
 .exact um st.1 q
section
variable{Ω:bc}{w:ba}{A:bq}{E:Q0c}{s:ak}
theorem XU(hit:s.heap.IsTupleIter it t i)(ht:s.heap.IsTuple t items)(hx:items[i]?=aa x)
  (hQ:∀h',h'.IsTupleIter it t (i+1)->m_ it s.heap h'->Q x {s with heap:=h' }):au (av Ω w) A (qw (.ref it)) Q E s:=by
 obtain⟨⟨ol,hol,_,nl,hdl⟩,o,ho,hc,hd⟩:=vz ht hit;show aq (m:=callSpecial? _ _) (oy hit.typeIs zj (kc zj hit.typeIs a1j ?_ (a1n _)));show aq (m:=field _ 0) (il ho hd (x:=.ref t) rfl ?_);show au _ _ (if ag=af then _ else _) _ _ s;rw[Zz bp];show aq (m:=field _ 1) (il ho hd (x:=.int i 0) rfl (aq (m:=seqItems? _) (lr hol hdl ?_)));simp only[hx,jr];show aq (a0g ho hd (by simp) (az ⟨x,rfl,az (hQ _ ⟨_,y_ _ ho (Obj.isFreed_of_fields (a04 hd _)),(Obj.cls_mapFields ..).trans hc,?_⟩ (qu ..))⟩));rw[a04 hd];simp[rawInt]
theorem RG(hh:A.handled=ae)(hit:s.heap.IsTupleIter it t i)(ht:s.heap.IsTuple t items)(hx:items[i]?=ae)
  (hE:∀h' e,a08 it s.heap h'->(∃o,h'.get? e=aa o/\o.cls=.type "StopIteration")->E (.ref e) {s with heap:=h' }):au (av Ω w) A (qw (.ref it)) Q E s:=by
 obtain⟨⟨ol,hol,_,nl,hdl⟩,o,ho,hc,hd⟩:=vz ht hit;show aq (m:=callSpecial? _ _) (oy hit.typeIs zj (kc zj hit.typeIs a1j ?_ (a1n _)));show aq (m:=field _ 0) (il ho hd (x:=.ref t) rfl ?_);show au _ _ (if ag=af then _ else _) _ _ s;rw[Zz bp];show aq (m:=field _ 1) (il ho hd (x:=.int i 0) rfl (aq (m:=seqItems? _) (lr hol hdl ?_)));simp only[hx,jr];show aq (mw (aq (m:=setField _ _ _) (a0g ho hd (by simp) ?_)));have hh2:A.in1.handled=ae:=hh
 wp_walk
 unfold raiseNew;apply aq;apply wpAny_handled;rw[hh2];show aq (az (wpAny_throw (hE _ _ (((qu ..).extBut.push _).push _) ⟨_,dm _ rfl,rfl⟩)))
theorem LD(hh:A.handled=ae)(it t:ah)(hne:t≠it)(items:Array ai):jg Ω w A it [it,t] items.size (λi v=>items[i]?=aa v) (λi h=>h.IsTupleIter it t i/\h.IsTuple t items) where
 live:=λi h st=>by obtain⟨⟨o,ho,_⟩,_⟩:=st;show⟨o,ho⟩
 frame:=λi h h' st k=>by obtain⟨⟨o,ho,r⟩,o2,ho2,r2⟩:=st;show⟨⟨o,k it (by simp) o ho,r⟩,o2,k t (by simp) o2 ho2,r2⟩
 item:=λi s Q E hi st q=>XU st.1 st.2 (x:=items[i]) (qh hi) λh' a b=>q _ h' s.toks (qh hi) ⟨a,st.2.extBut b.extBut hne⟩ b
 done:=λs Q E st q=>RG hh st.1 st.2 (Array.getElem?_eq_none (bg _)) q
theorem RH(l:ah)(items:Array ai):u_ (Builtin.«enumerate.__new__» ⟨[.type "enumerate",.ref l],[]⟩) (λ_ R s=>s.heap.IsTuple l items /\
  R (.ok (.ret (.ref (s.heap.push {cls:=.type "tuple_iterator",data:=.fields #[.ref l,.int 0 0]}).objs.size))) {s with heap:=(s.heap.push {cls:=.type "tuple_iterator",data:=.fields #[.ref l,.int 0 0]}).push {cls:=.type "enumerate",data:=.fields #[.none,.bool ag,.ref s.heap.objs.size,rawInt 0,.none,.none]} }):=by
 show .of_wp λp0 w0 A0 R0 s h=>?_;obtain⟨hl,h⟩:=h;obtain⟨hp0,g0,d,tk,os⟩:=s;have hsub:=sub_enumerate
 wp_walk using ou hl
 show wpAny_stack_any λ_=>az ?_;split<;>first
  | (rename_i c _ _ _ _ _;cases (c == ph "enumerate")<;>(wp_walk using ou hl;show⟨_,rfl,h⟩))
  | (wp_walk using ou hl;show⟨_,rfl,h⟩)
theorem LF(hT:s.heap.IsTuple l items)
  (h:∀h',vb h' (s.heap.objs.size+1) s.heap.objs.size 0 .none->h'.IsTupleIter s.heap.objs.size l 0->(∀b o,s.heap.get? b=aa o->h'.get? b=aa o)->Q (.ref (s.heap.objs.size+1)) {s with heap:=h' }):au (av Ω w) A (call (.type "enumerate") [.ref l]) Q E s:=by
 show a0E F.called_enumerate (by decide) (F.typeCall_enumerate_1 _) (F.newCall_enumerate_1 _) (λobj=>F.args_object_init_2 obj _) F.entry_enumerate_new (RH l items) ⟨hT,?_⟩;generalize hh1:s.heap.push {cls:=.type "tuple_iterator",data:=.fields #[.ref l,.int 0 0]}=h1;have e1:h1.objs.size=s.heap.objs.size+1:=by rw[<- hh1,km]
 have g1:h1.get? s.heap.objs.size=aa {cls:=.type "tuple_iterator",data:=.fields #[.ref l,.int 0 0]}:=by rw[<- hh1];show dm _ rfl
 have k1:∀b o,s.heap.get? b=aa o->h1.get? b=aa o:=λb o e=>by rw[<- hh1];show cn _ e
 generalize hh2:h1.push {cls:=.type "enumerate",data:=.fields #[.none,.bool ag,.ref s.heap.objs.size,rawInt 0,.none,.none]}=h2;have g2:h2.get? h1.objs.size=aa {cls:=.type "enumerate",data:=.fields #[.none,.bool ag,.ref s.heap.objs.size,rawInt 0,.none,.none]}:=by rw[<- hh2];show dm _ rfl
 have k2:∀b o,h1.get? b=aa o->h2.get? b=aa o:=λb o e=>by rw[<- hh2];show cn _ e
 show⟨⟨_,g2,rfl⟩,?_⟩;rw[e1] at g2 ⊢;show h h2 g2 ⟨_,k2 _ _ g1,rfl,rfl⟩ λb o e=>k2 b o (k1 b o e)
end
theorem LG{P:bc}{w:ba}{K:ao}{es:List aw}{kk:Nat}{tp:bf}{e it l:ah}(hei:e≠it)(hle:l≠e)(hli:l≠it):
  Turn P w K (.Tuple es kk tp) (Iet K l) [e,it] e (λi h=>(∃old,vb h e it i old)/\h.IsTupleIter it l i):=by
 show nB (by simp) (λi h st b hb=>?_) (λi h h2 st k=>?_) (λX hP hw hK hc i π s σ H I st hg=>?_) (λA i s Q E st q=>?_)
 .obtain ⟨⟨old,a⟩,o,c,d1,d2⟩:=st;rcases bh.mp hb with rfl|hq
  .exact ⟨_,a,λv z=>by cases z⟩
  .rw [cc.mp hq];show⟨o,c,λv z=>by rw[d2] at z;cases z⟩
 .obtain ⟨⟨old,a⟩,o,b,r⟩:=st;show⟨⟨old,k e (by simp) _ a⟩,o,k it (by simp) o b,r⟩
 .subst hP hw hK;have hq:∃xs,fF X.K H l xs:=by rcases hg with⟨xs,_,a,_⟩|⟨xs,a,_⟩<;>show⟨xs,a⟩
  obtain⟨xs,hq⟩:=hq;obtain⟨ι,rv,p,hz⟩:=I.tuple hq;have hl:=rv.length;have D:jg X.Ω X.w X.A.in1 it [it,l] ι.toArray.size (λi v=>ι.toArray[i]?=aa v) (λi h=>h.IsTupleIter it l i/\h.IsTuple l ι.toArray):=LD (show X.A.in1.handled=ae from I.ok.hd hc) it l hli ι.toArray;have hef:e∉[it,l]:=λz=>by
   rcases bh.mp z with z1|z1
   .exact hei z1
   .exact hle (cc.mp z1).symm
  show⟨_,_,_,_,_,_,⟨WalksT.enumerateD D e hei hef (by simp),IB D e hei hef⟩,⟨st.1,st.2,p⟩,λb hb=>hb,λh q=>⟨q.1,q.2.1⟩,λg=>?_,λg=>?_⟩
  .obtain ⟨ys,v,hy,hv⟩:=g;obtain rfl:=I.fW hy hq;obtain⟨u,hu,ru⟩:=rv.get hv;have hlt:i<ys.length:=(cb.mp hv).1;show⟨by rw[bt,<- hl];show hlt,λvals q=>?_⟩;obtain⟨t,x,hx,rfl⟩:=q;have ex:x=u:=by
    have:ι[i]?=aa x:=by simpa using hx
    rw[hu] at this;show(cj this).symm
   subst ex;show⟨[.int i,v],sU,.cons ⟨t,rfl⟩ (.cons ru .nil),v,rfl,λzs hzs=>by rw[I.fW hzs hq];show hv⟩
  .obtain ⟨ys,hy,e2⟩:=g;obtain rfl:=I.fW hy hq;rw[bt,<- hl,e2]
 .obtain ⟨⟨old,a⟩,b⟩:=st;show yg a q
section
variable{X:Cx}{es:List aw}{kk:Nat}{tp:bf}
def aBD{a:aw}{ta:TA}{p ν:bf}(hg:Gl X "enumerate")(hm:X.mg "enumerate"=ae)(ha:PA X [a] ta)(hs:ar [a] X.env=[(ag,eval a X.env)]:=by rfl):
  PI X (.Tuple es kk tp) (.Call (.Name "enumerate" p) [a] [] ν) (λσ H R=>ta σ H λvs H1=>∃l,vs=[.ref l]/\(((∃xs,eW X.K H1 l xs)/\R (Iel X.K l) H1)\/((∃xs,fF X.K H1 l xs)/\R (Iet X.K l) H1))):=by
 intro π s σ H R I h;show vg (mY I hg hm boot_enumerate (q_ (eI (ha ν π s σ H _ I h) λus s1 ⟨vs,H1,I1,r1,q1⟩=>?_) hs rfl));obtain⟨l,e,q⟩:=q1;subst e;obtain⟨u,rfl,ru⟩:=vals1 r1;cases ru;have fo:∀b∈[s1.heap.objs.size+1,s1.heap.objs.size],qU X π H1 b:=λb hb=>by
  have hle:s1.heap.objs.size<=b:=by
   simp only[bh,or_false,ib] at hb;rcases hb with rfl|rfl
   .exact p_ _
   .exact bg _
  show I1.EU hle (I1.hok.fresh hle)
 rcases q with⟨⟨xs,hq⟩,q⟩|⟨⟨xs,hq⟩,q⟩
 .obtain ⟨ι,rv,pl,hz⟩:=I1.list hq;have hlt:l<s1.heap.objs.size:=by obtain⟨o,n,e,_⟩:=pl;show bo e
  show call_enumerate_list pl.isList λh' he hi hsz hk=>yg he ?_;show⟨s1.heap.objs.size+1,_,_,_,H1,rfl,I1.kept (t':=s1.toks) hk,LC (a1L _) (e_ (p0 hlt)) (e_ hlt),⟨⟨_,he⟩,hi⟩,fo,q⟩
 .obtain ⟨ι,rv,pl,hz⟩:=I1.tuple hq;have hlt:l<s1.heap.objs.size:=pl.lt;show LF (items:=ι.toArray) pl λh' he hi hk=>yg he ?_;show⟨s1.heap.objs.size+1,_,_,_,H1,rfl,I1.kept (t':=s1.toks) hk,LG (a1L _) (e_ (p0 hlt)) (e_ hlt),⟨⟨_,he⟩,hi⟩,fo,q⟩
def aE2{a b:aw}{ta:TA}{p ν:bf}(hg:Gl X "zip")(hm:X.mg "zip"=ae)(ha:PA X [a,b] ta)(hs:ar [a,b] X.env=[(ag,eval a X.env),(ag,eval b X.env)]:=by rfl)(hs2:ar [b] X.env=[(ag,eval b X.env)]:=by rfl):
  PI X (.Tuple es kk tp) (.Call (.Name "zip" p) [a,b] [] ν) (λσ H R=>ta σ H λvs H1=>∃l m xs ys,vs=[.ref l,.ref m]/\eW X.K H1 l xs/\eW X.K H1 m ys/\R (Izl X.K l m) H1):=by
 intro π s σ H R I h;show vg (mY I hg hm boot_zip (q_ (eI (ha ν π s σ H _ I h) λus s1 ⟨vs,H1,I1,r1,q1⟩=>?_) (by rw[hs,hs2]) (by rw[hs2];rfl)));obtain⟨l,m,xs,ys,e,hq,hq2,q⟩:=q1;subst e;obtain⟨u,u2,rfl,ru,ru2⟩:=vals2 r1;cases ru;cases ru2;obtain⟨ι,rv,pl,hz⟩:=I1.list hq;obtain⟨its2,rv2,pl2,hz2⟩:=I1.list hq2;have hlt:l<s1.heap.objs.size:=by obtain⟨o,n,e,_⟩:=pl;show bo e
 have hlt2:m<s1.heap.objs.size:=by obtain⟨o,n,e,_⟩:=pl2;show bo e
 show call_zip_2 pl.isList pl2.isList λh' hZ Kj Ki hi1 hi2 hsz hk=>um hZ ?_;show⟨s1.heap.objs.size+4,_,_,_,H1,rfl,I1.kept (t':=s1.toks) hk,XT (zipApart_new hlt hlt2),⟨hZ,Kj,⟨_,_,Ki⟩,hi1,hi2⟩,λb hb=>?_,q⟩;have hle:s1.heap.objs.size<=b:=by
  simp only[bh,or_false,ib] at hb;rcases hb with rfl|rfl|rfl|rfl|rfl
  .exact jn _ 4
  .exact jn _ 2
  .exact jn _ 3
  .exact bg _
  .exact jn _ 1
 show I1.EU hle (I1.hok.fresh hle)
def vU(ds:List D):List D:=ds.zipIdx.map λp=>.tup [.int (p.2:Int),p.1]
def LH(a b:List D):List D:=(a.zip b).map λp=>.tup [p.1,p.2]
theorem CT{ds:List D}{i:Nat}{d:D}(h:(vU ds)[i]?=aa d):∃d0,ds[i]?=aa d0/\d=.tup [.int (i:Int),d0]:=by
 unfold vU at h;rw[cf,Ai] at h
 cases q:ds[i]? with
 |none=>rw[q] at h;cases h
 |some d0 =>
  rw[q] at h;simp at h;show⟨d0,rfl,h.symm⟩
theorem IC{a b:List D}{i:Nat}{d:D}(h:(LH a b)[i]?=aa d):∃x y,a[i]?=aa x/\b[i]?=aa y/\d=.tup [x,y]:=by
 unfold LH at h;rw[cf] at h
 cases q:(a.zip b)[i]? with
 |none=>rw[q] at h;cases h
 |some xy =>
  rw[q] at h;obtain⟨h1,h2⟩:=Ah.mp q;show⟨xy.1,xy.2,h1,h2,(cj h).symm⟩
def xN{K:ao}{S:ah->Prop}{H:Hp}{T:ah}{x y:V}{dx dy:D}(fr:H T=ae)(hx:Dn K S H dx x)(hy:Dn K S H dy y):Dn K S (upd H T (.tup [x,y])) (.tup [dx,dy]) (.ref T):=by symm;show⟨T,[x,y],rfl,bA,aW.fits (.same (aY fr)) _ _ (aW.cons hx (aW.one hy))⟩
theorem RI{K:ao}{a:ah}{ds:List D}:Wlk K (Iel K a) (vU ds) [(.lst ds,.ref a)] where
 go:=λS H fc hg i d e=>by have h:=hg _ (cc.mpr rfl);symm at h;obtain⟨b,xs,eb,hb,sb,dn⟩:=h;injection eb with eb;subst eb;obtain⟨d0,e0,rfl⟩:=CT e;obtain⟨v,ev,dv⟩:=dn.get e0;show⟨⟨xs,v,eW.of hb,ev⟩,λx H' y=>?_⟩;obtain⟨T,vs,rfl,fr,rfl,v',rfl,hy⟩:=y;have ex:=hy xs (eW.of hb);rw[ev] at ex;cases ex;show⟨aY fr,xN fr (by symm) dv⟩
 stop:=λS H hg i hi=>by have h:=hg _ (cc.mpr rfl);symm at h;obtain⟨b,xs,eb,hb,sb,dn⟩:=h;injection eb with eb;subst eb;show⟨xs,eW.of hb,by rw[<- dn.len,<- hi];simp[vU]⟩
theorem RJ{K:ao}{a:ah}{ds:List D}:Wlk K (Iet K a) (vU ds) [(.tup ds,.ref a)] where
 go:=λS H fc hg i d e=>by have h:=hg _ (cc.mpr rfl);symm at h;obtain⟨b,xs,eb,hb,dn⟩:=h;injection eb with eb;subst eb;obtain⟨d0,e0,rfl⟩:=CT e;obtain⟨v,ev,dv⟩:=dn.get e0;show⟨⟨xs,v,(fF.of hb),ev⟩,λx H' y=>?_⟩;obtain⟨T,vs,rfl,fr,rfl,v',rfl,hy⟩:=y;have ex:=hy xs (fF.of hb);rw[ev] at ex;cases ex;show⟨aY fr,xN fr (by symm) dv⟩
 stop:=λS H hg i hi=>by have h:=hg _ (cc.mpr rfl);symm at h;obtain⟨b,xs,eb,hb,dn⟩:=h;injection eb with eb;subst eb;show⟨xs,(fF.of hb),by rw[<- dn.len,<- hi];simp[vU]⟩
theorem aBE{K:ao}{a c:ah}{ds es:List D}:Wlk K (Izl K a c) (LH ds es) [(.lst ds,.ref a),(.lst es,.ref c)] where
 go:=λS H fc hg i d e=>by have h:=hg (.lst ds,.ref a) (by simp);have h2:=hg (.lst es,.ref c) (by simp);symm at h h2;obtain⟨b,xs,eb,hb,sb,dn⟩:=h;obtain⟨b2,ys,LI,hb2,sb2,sQ⟩:=h2;injection eb with eb;injection LI with LI;subst eb LI;obtain⟨x0,y0,e0,e1,rfl⟩:=IC e;obtain⟨v,ev,dv⟩:=dn.get e0;obtain⟨u,eu,du⟩:=sQ.get e1;show⟨⟨xs,ys,v,u,eW.of hb,eW.of hb2,ev,eu⟩,λx H' y=>?_⟩;obtain⟨T,vs,rfl,fr,rfl,v',u',rfl,hy,hy2⟩:=y;have ex:=hy xs (eW.of hb);have ex2:=hy2 ys (eW.of hb2);rw[ev] at ex;rw[eu] at ex2;cases ex;cases ex2;show⟨aY fr,xN fr dv du⟩
 stop:=λS H hg i hi=>by have h:=hg (.lst ds,.ref a) (by simp);have h2:=hg (.lst es,.ref c) (by simp);symm at h h2;obtain⟨b,xs,eb,hb,sb,dn⟩:=h;obtain⟨b2,ys,LI,hb2,sb2,sQ⟩:=h2;injection eb with eb;injection LI with LI;subst eb LI;show⟨xs,ys,eW.of hb,eW.of hb2,by rw[<- dn.len,<- sQ.len,<- hi];simp[LH]⟩
noncomputable def Vz(t:WA):WI:=λρ Q=>t ρ λds=>match ds with
 |[.lst es]=>Q (vU es)
 |[.tup es]=>Q (vU es)
 |_=>False
noncomputable def Nf(t:WA):WI:=λρ Q=>t ρ λds=>match ds with
 |[.lst a,.lst b]=>Q (LH a b)
 |_=>False
def LJ(hm:X.mg "enumerate"=ae)(ha:CM X [a] t)(hg:Gl X "enumerate":=by rfl)(hs:ar [a] X.env=[(ag,eval a X.env)]:=by rfl):XG X (.Tuple es kk tp) (.Call (.Name "enumerate" p) [a] [] ν) (Vz t) :=
 Q9 (aBD hg hm ha hs) λσ H R Nd=>by
  obtain⟨S,ρ,Q3,fc,sl,ht,k⟩:=Nd;show⟨S,ρ,_,fc,sl,ht,λvs H1 ds s1 d1 q1=>?_⟩;split at q1
  .obtain ⟨v,r,rfl,h1,h2⟩:=d1.bO;simp only[aW] at h2;subst h2;have h1':=h1;symm at h1;obtain⟨l,xs,rfl,hl,sl',da⟩:=h1;show⟨l,rfl,.inl ⟨⟨xs,eW.of hl⟩,k _ H1 _ [(_,.ref l)] s1 (λg hg=>by cases cc.mp hg;show h1') RI q1⟩⟩
  .obtain ⟨v,r,rfl,h1,h2⟩:=d1.bO;simp only[aW] at h2;subst h2;have h1':=h1;symm at h1;obtain⟨l,xs,rfl,hl,da⟩:=h1;show⟨l,rfl,.inr ⟨⟨xs,(fF.of hl)⟩,k _ H1 _ [(_,.ref l)] s1 (λg hg=>by cases cc.mp hg;show h1') RJ q1⟩⟩
  .exact q1.elim
def Nc{a b:aw}{t:WA}{p ν:bf}(hm:X.mg "zip"=ae)(ha:CM X [a,b] t)(hg:Gl X "zip":=by rfl)(hs:ar [a,b] X.env=[(ag,eval a X.env),(ag,eval b X.env)]:=by rfl)(hs2:ar [b] X.env=[(ag,eval b X.env)]:=by rfl):
  XG X (.Tuple es kk tp) (.Call (.Name "zip" p) [a,b] [] ν) (Nf t) :=
 Q9 (aE2 hg hm ha hs hs2) λσ H R Nb=>by
  obtain⟨S,ρ,Q3,fc,sl,ht,k⟩:=Nb;show⟨S,ρ,_,fc,sl,ht,λvs H1 ds s1 d1 q1=>?_⟩;split at q1
  .obtain ⟨v,r,rfl,h1,h2⟩:=d1.bO;obtain⟨v2,r2,rfl,h3,h4⟩:=h2.bO;simp only[aW] at h4;subst h4;have h1':=h1;have h3':=h3;symm at h1 h3;obtain⟨l,xs,rfl,hl,sl',da⟩:=h1;obtain⟨m,ys,rfl,hl2,sl2,da2⟩:=h3;show⟨l,m,xs,ys,rfl,eW.of hl,eW.of hl2,k _ H1 _ [(_,.ref l),(_,.ref m)] s1 (λg hg=>?_) aBE q1⟩;rcases bh.mp hg with rfl|hg
   .exact h1'
   .cases cc.mp hg;show h3'
  .exact q1.elim
variable{a b:aw}{ν:bf}{ta tb:WE}
def aBG:jS X (binaryOp .Mult) (rI vc λi j=>.int (i*j)):=opI λ_ _ _ _ _ _ _ hc q=>mul_int q hc
def Vy:F2:=E8 vc λi j=>.int (i*j)
def Vx(ha:cV X a ta)(hb:cV X b tb):cV X (.BinOp a .Mult b ν) (g7 Vy ta tb):=op3 aBG E9 ha hb
end
theorem aBH(hi:i.natAbs<2^m)(hj:j.natAbs<2^n)(h:m+n<=134217728):vc i j:=by show mulOk_of_bits (intBits_le hi) (intBits_le hj) h
section
variable{X:Cx}
noncomputable def aNs(t:WE):WT:=λρ Q=>t ρ λd=>match d with
 |.lst ds=>Q (!ds.isEmpty)
 |.tup ds=>Q (!ds.isEmpty)
 |_=>False
def aW.empty{K:ao}{S:ah->Prop}{H:Hp}{ds:List D}{xs:List V}(h:aW K S H ds xs):ds.isEmpty=xs.isEmpty:=by have:=h.len;cases ds<;>cases xs<;>simp at this ⊢
def Ca:List V->Hp->VK->Prop:=λxs H Q=>∃(a:ah) (ns:Q0e),xs=[.ref a]/\H a=aa (.lst (ns.map V.int))/\Q (.int ns.sum) H
theorem RK(hc:X.calm=af):gX X (.builtin "sum") Ca:=by
 intro π s σ H xs us Q I r h;obtain⟨a,ns,rfl,ha,q⟩:=h;obtain⟨u,rfl,ru⟩:=vals1 r;cases ru;obtain⟨ι,rv,p,hz⟩:=I.list (eW.of ha);have hi:=intsAre_of rv;obtain⟨zs,ez⟩:=hi.allInts.items;have en:zs.toList.map (·.1)=ns:=by rw[<- Gb,<- ez];show hi.numsOf
 have ev:preSum (numAt zs) zs.size=ns.sum:=by rw[preSum_eq,rf (by simp),en]
 show sum_intListG (I.ok.hd hc) (ez▸p.isList) λh' tk t' hk=>⟨.int ns.sum,H,I.kept hk,⟨t',by rw[ev]⟩,q⟩
def sumF:F1
 |[.lst ds],Q=>(match intsOf ds with|some ns=>Q (.int ns.sum)|none=>False)
 |_,_=>False
def RL{ns:Q0e}{Q:D->Prop}:sumF [.lst (ns.map D.int)] Q=Q (.int ns.sum):=by show(match intsOf (ns.map D.int) with|some ns=>Q (.int ns.sum)|none=>False)=_;rw[b7]
theorem aE3{K:ao}:C3 K Ca sumF:=by
 intro S H xs ds Q3 Q fc hd hf k
 match ds,hf with
 |[.lst es],hf =>
  obtain⟨v,r,rfl,h1,h2⟩:=hd.bO;simp only[aW] at h2;subst h2;symm at h1;obtain⟨a,ys,rfl,ha,sa,da⟩:=h1;have hf2:(match intsOf es with|some ns=>Q3 (.int ns.sum)|none=>False):=hf
  clear hf
  cases q:intsOf es with
  |none=>rw[q] at hf2;show hf2.elim
  |some ns =>
   rw[q] at hf2;have e:=uO q;subst e;have e2:=aW.ints.mp da;subst e2;show⟨a,ns,rfl,ha,k _ H _ (ξ.refl H) (by symm) hf2⟩
theorem Na(hc:X.calm=af)(hm:X.mg "sum"=ae)(ha:CM X [e] t)(hg:Gl X "sum":=by rfl)
  (he:Zs X e []:=by rfl):cV X (.Call (.Name "sum" p) [e] [] ν) (W9 sumF t):=uM (RK hc) aE3 a3z hg hm ha (by decide) (by decide) he (by rfl)
abbrev WO:=dW->(Option Int->Prop)->Prop
def Vw(K:ao)(t:WO):TO:=λσ H Q=>∃(S:ah->Prop) (ρ:dW) (Q3:Option Int->Prop),(∀a,H a=ae->S a)/\Sl K S H ρ σ/\t ρ Q3 /\∀o H',ξ H H'->Q3 o->Q o H'
def PO3(X:Cx)(e:Option aw)(t:WO):Prop:=PO X e (Vw X.K t)
def aBI:WO:=λ_ Q=>Q ae
noncomputable def Vv(t:WE):WO:=λρ Q=>t ρ λd=>match d with
 |.int i=>Q (aa i)
 |_=>False
def M_:PO3 X ae aBI:=λπ s σ H Q I Mz=>by obtain⟨S,ρ,Q3,fc,sl,ht,k⟩:=Mz;show aAe π s σ H Q I (k ae H (ξ.refl H) ht)
theorem po3(h:cV X e t):PO3 X (aa e) (Vv t):=λπ s σ H Q I My=>by
 obtain⟨S,ρ,Q3,fc,sl,ht,k⟩:=My;show aAf h π s σ H Q I ⟨S,ρ,_,fc,sl,ht,λv H1 d s1 d1 q1=>?_⟩
 cases d with
 |int i=>symm at d1;show⟨i,d1,k _ H1 s1 q1⟩
 |_=>show q1.elim
def cutD(xs:List D)(lo hi:Option Int):List D:=(xs.drop (HT.iD xs.length 0 lo)).take (HT.iD xs.length xs.length hi-HT.iD xs.length 0 lo)
def aW.cut{K:ao}{S:ah->Prop}{H:Hp}{ds:List D}{xs:List V}{lo hi:Option Int}(h:aW K S H ds xs):aW K S H (cutD ds lo hi) (HG xs lo hi):=by unfold cutD HG;rw[h.len];show(h.drop _).take _
theorem XW{Ω:bc}{w:ba}{A:bq}{E:Q0c}{s:ak}{t sl:ah}{items:Array ai}{vl vu:ai}{lo hi:Option Int}{Q:Q0c}(ht:gy s.heap t items)(hs:s.heap.IsSliceOf sl vl vu .none)(pl:kl vl lo)(pu:kl vu hi)
  (h0:HT.iD items.size 0 lo=0) (h1:HT.iD items.size items.size hi=items.size) (h:Q (.ref t) s):au (av Ω w) A (getItem (.ref t) (.ref sl)) Q E s:=by
 have hT:s.TypeIs (.ref sl) "slice":=by obtain⟨o,a,b,_⟩:=hs;show⟨o,a,b⟩
 unfold getItem
 try with_reducible show iw ?_
 first|show aq (az ?_)|skip
 apply aq;show a0h ht.typeIs (by decide) (aq (oy ht.typeIs pw (kc pw ht.typeIs a1C ?_ (a1F _ _))));show aq (m:=a1s _) (a1w ht (aq (Fl hT ?_)));rw[Z_ (by decide)];show aq (HT.l5 (n:=items.size) hs pl pu ?_);rw[h0,h1];show au _ _ (if((((0:Nat):Int) == 0)&&((1:Int) == 1)&&((items.size-0) == items.size))=af then _ else _) _ _ s;rw[Z_ (by simp)];show aq (m:=a3m _) (aq (Fl ht.typeIs (az ?_)));show au _ _ (if af=af then _ else _) _ _ s;rw[Z_ rfl];show aq (mw (az ⟨_,rfl,az h⟩))
def Mn(K:ao):V->Option Int->Option Int->Hp->VK->Prop:=λx lo hi H Q=>∃a xs,x=.ref a/\fF K H a xs/\(HT.iD xs.length 0 lo=0/\HT.iD xs.length xs.length hi=xs.length)/\Q (.ref a) H
theorem aBJ:SlR X (Mn X.K):=by
 intro π s σ H x v vl vu lo hi sl Q I rx hs pl pu h;obtain⟨a,xs,rfl,hx,hw,q⟩:=h;cases rx;obtain⟨ι,r,ht,hz⟩:=I.tuple hx;have hlen:ι.toArray.size=xs.length:=by rw[bt];show r.length.symm
 show⟨"tuple",_,pw.lookup,ht.typeIs,XW ht hs pl pu (by rw[hlen];show hw.1) (by rw[hlen];show hw.2) ⟨.ref a,H,I,rfl,q⟩⟩
def Ja(te:WE)(tl th:WO):WE:=λρ Q=>te ρ λd=>tl ρ λlo=>th ρ λhi=>match d with
 |.lst ds=>Q (.lst (cutD ds lo hi))
 |.tup ds=>Q (.tup (cutD ds lo hi))
 |_=>False
def sl3{e:aw}{lo hi:Option aw}{p2 ν:bf}{te:WE}{tl th:WO}(he:cV X e te)(hl:PO3 X lo tl)(hh:PO3 X hi th):cV X (.Subscript e (.Slice lo hi ae p2) ν) (Ja te tl th) :=
 imp (WC (aAi.or (aDl.or aBJ)) he hl hh) λσ H Q Mm=>by
  obtain⟨S,ρ,Q3,fc,sl,ht,k⟩:=Mm;show⟨S,ρ,_,fc,sl,ht,λv H1 d s1 d1 q1=>?_⟩;show⟨S,ρ,_,bJ fc s1,Sl.fits (.same s1) sl,q1,λo H2 s2 q2=>?_⟩;show⟨S,ρ,_,bJ fc (s1.trans s2),Sl.fits (.same (s1.trans s2)) sl,q2,λo2 H3 s3 q3=>?_⟩;have d3:=Dn.fits (.same (s2.trans s3)) _ _ d1;have sa:=(s1.trans s2).trans s3
  cases d with
  |lst ds =>
   symm at d3;obtain⟨a,xs,rfl,ha,sa',da⟩:=d3;show .inl ⟨a,xs,rfl,eW.of ha,λp hp=>k _ _ _ (sa.trans (aY hp)) ?_ q3⟩;symm;show⟨p,_,rfl,bA,bJ fc sa p hp,aW.fits (.same (aY hp)) _ _ da.cut⟩
  |tup ds =>
   symm at d3;obtain⟨a,xs,rfl,ha,da⟩:=d3;have hl:=da.len;by_cases hw:HT.iD xs.length 0 o=0/\HT.iD xs.length xs.length o2=xs.length
   .refine .inr (.inr ⟨a,xs,rfl,(fF.of ha),hw,k _ _ _ sa ?_ q3⟩);have e:cutD ds o o2=ds:=by unfold cutD;rw[hl,hw.1,hw.2,nz,pz,rf (nh hl)]
    rw[e];symm;show⟨a,xs,rfl,ha,da⟩
   .refine .inr (.inl ⟨a,xs,rfl,(fF.of ha),hw,λp hp=>k _ _ _ (sa.trans (aY hp)) ?_ q3⟩);symm;show⟨p,_,rfl,bA,aW.fits (.same (aY hp)) _ _ da.cut⟩
  |_=>show q3.elim
end
end L3
namespace L4
open PySem.Spec PyProof.Rows L2 L3
def wE(f:EF):WE:=λρ Q=>∃d,f ρ=aa d/\Q d
def wT(f:TF):WT:=λρ Q=>∃d,f ρ=aa d/\Q d
def wA(f:AF):WA:=λρ Q=>∃d,f ρ=aa d/\Q d
def wI(f:AF):WI:=λρ Q=>∃d,f ρ=aa d/\Q d
def wO(f:OF):WO:=λρ Q=>∃d,f ρ=aa d/\Q d
def wX(f:XF):WX:=λρ Q=>∃p,f ρ=aa p/\Q p.1 p.2
noncomputable def wS(f:SF):WS:=λE ρ=>match f ρ with
 |.nx ρ'=>E.nx ρ'
 |.rt d=>E.rt d
 |.ex c=>E.ex c
 |.no=>False
def wG(g:GSF):WG:=λd ρ Q=>∃ρ',g d ρ=aa ρ'/\Q ρ'
def v_(g:GEF):GE:=λd ρ Q=>∃ρ',g d ρ=aa ρ'/\Q ρ'
abbrev bY(X:Cx)(e:aw)(f:EF):Prop:=cV X e (wE f)
abbrev jB(X:Cx)(e:aw)(f:EF):Prop:=K8 X e (wE f)
abbrev A1(X:Cx)(e:aw)(f:TF):Prop:=xM X e (wT f)
abbrev F8(X:Cx)(e:aw)(f:TF):Prop:=TK X e (wT f)
abbrev wL(X:Cx)(es:List aw)(f:AF):Prop:=CM X es (wA f)
abbrev PI4(X:Cx)(tg e:aw)(f:AF):Prop:=XG X tg e (wI f)
abbrev PO4(X:Cx)(e:Option aw)(f:OF):Prop:=PO3 X e (wO f)
abbrev OY(X:Cx)(e:aw)(f:XF):Prop:=HP X e (wX f)
abbrev qB(X:Cx)(st:bx)(f:SF):Prop:=FD X st (wS f)
abbrev nQ(X:Cx)(st:List bx)(f:SF):Prop:=wK X st (wS f)
section
variable{X:Cx}
def cE{e:aw}{t t':WE}(h:cV X e t)(c:∀ρ Q,t' ρ Q->t ρ Q):cV X e t':=imp h λ_ _ _ Ml=>by obtain⟨S,ρ,Q3,fc,sl,ht,k⟩:=Ml;show⟨S,ρ,Q3,fc,sl,c ρ Q3 ht,k⟩
def cF(h:K8 X e t)(c:∀ρ Q,t' ρ Q->t ρ Q):K8 X e t':=imp h λ_ _ _ Mk=>by obtain⟨S,ρ,Q3,fc,sl,ht,k⟩:=Mk;show⟨S,ρ,Q3,fc,sl,c ρ Q3 ht,k⟩
def cT{e:aw}{t t':WT}(h:xM X e t)(c:∀ρ Q,t' ρ Q->t ρ Q):xM X e t':=Q8 h λ_ _ _ Mj=>by obtain⟨S,ρ,Q3,fc,sl,ht,k⟩:=Mj;show⟨S,ρ,Q3,fc,sl,c ρ Q3 ht,k⟩
def cW{e:aw}{t t':WT}(h:TK X e t)(c:∀ρ Q,t' ρ Q->t ρ Q):TK X e t':=xi h λ_ _ _ Mi=>by obtain⟨S,ρ,Q3,fc,sl,ht,k⟩:=Mi;show⟨S,ρ,Q3,fc,sl,c ρ Q3 ht,k⟩
def cA(h:CM X e t)(c:∀ρ Q,t' ρ Q->t ρ Q):CM X e t':=HL h λ_ _ _ Mh=>by obtain⟨S,ρ,Q3,fc,sl,ht,k⟩:=Mh;show⟨S,ρ,Q3,fc,sl,c ρ Q3 ht,k⟩
def cI(h:XG X tg e t)(c:∀ρ Q,t' ρ Q->t ρ Q):XG X tg e t':=Q9 h λ_ _ _ Mg=>by obtain⟨S,ρ,Q3,fc,sl,ht,k⟩:=Mg;show⟨S,ρ,Q3,fc,sl,c ρ Q3 ht,k⟩
def cX(h:HP X e t)(c:∀ρ Q,t' ρ Q->t ρ Q):HP X e t':=imp h λ_ _ _ Mf=>by obtain⟨H₀,S,w,ρ,G,Q3,hl,st,ht,k⟩:=Mf;show⟨H₀,S,w,ρ,G,Q3,hl,st,c ρ Q3 ht,k⟩
def cS(h:FD X e t)(c:∀E ρ,t' E ρ->t E ρ):FD X e t':=jN h λ_ _ _ Me=>by obtain⟨H₀,S,w,ρ,G,E,hl,st,ht,ok⟩:=Me;show⟨H₀,S,w,ρ,G,E,hl,st,c E ρ ht,ok⟩
def Bn(h:wK X e t)(c:∀E ρ,t' E ρ->t E ρ):wK X e t':=HN h λ_ _ _ Md=>by obtain⟨H₀,S,w,ρ,G,E,hl,st,ht,ok⟩:=Md;show⟨H₀,S,w,ρ,G,E,hl,st,c E ρ ht,ok⟩
def F8.pt(h:F8 X e f):A1 X e f:=TK.pt h
def jB.pe(h:jB X e f):bY X e f:=K8.pe h
theorem bnd{α β:Type}{o:Option α}{f:α->Option β}{b:β}(h:o.bind f=aa b):∃a,o=aa a/\f a=aa b:=by
 cases o with
 |none=>cases h
 |some a=>show⟨a,rfl,h⟩
theorem wM{α β:Type}{o:Option α}{f:α->β}{b:β}(h:o.map f=aa b):∃a,o=aa a/\f a=b:=by
 cases o with
 |none=>cases h
 |some a=>show⟨a,rfl,cj h⟩
theorem x4(i:Nat)(hN:X.N[i]?=aa x:=by rfl)(hv:AX X.env.scope x:=by walk_at "1")(hd:Zu x:=by decide)
  (hcd:Zt x:=by decide):bY X (.Name x ν) (aB i):=cE (x3 i hN hv hd hcd) λρ Q Mc=>by
 obtain⟨d,e,q⟩:=Mc;unfold aB at e;unfold ud
 cases h:ρ[i]? with
 |none=>rw[h] at e;cases e
 |some o =>
  rw[h] at e
  cases o with
  |none=>cases e
  |some d'=>cases e;show q
def i4{j ν}:bY X (.Constant (.int i) j ν) (eC (.int i)):=cE i3 λ_ _ Mb=>by obtain⟨_,e,q⟩:=Mb;cases e;show q
def b4{j ν}:bY X (.Constant (.bool b) j ν) (eC (.bl b)):=cE b3 λ_ _ Ma=>by obtain⟨_,e,q⟩:=Ma;cases e;show q
def n4{j ν}:bY X (.Constant .none j ν) (eC .non):=cE n3 λ_ _ L_=>by obtain⟨_,e,q⟩:=L_;cases e;show q
def s4{j ν}:bY X (.Constant (.str x) j ν) (eC (.str x)):=cE s3 λ_ _ Lz=>by obtain⟨_,e,q⟩:=Lz;cases e;show q
def Tells(f:F2)(g:D->D->Option D):Prop:=∀(x y d:D) (Q:D->Prop),g x y=aa d->Q d->f x y Q
def iR{f:F2}{g:D->D->Option D}(h:Tells f g){fa fb:EF}(ρ:dW)(Q:D->Prop)(w:wE (aE g fa fb) ρ Q):g7 f (wE fa) (wE fb) ρ Q:=by obtain⟨d,e,q⟩:=w;obtain⟨x,ex,e⟩:=bnd e;obtain⟨y,ey,e⟩:=bnd e;show⟨x,ex,y,ey,h x y d Q e q⟩
def fC:Tells (vQ g) (JK g):=λx y d Q e q=>by
 cases x<;>first|(cases e;done)|skip
 all_goals (cases y<;>first|(cases e;done)|skip)
 cases e;show q
def nE(h:∀i j,c i j=af->C i j):Tells (E8 C g) (p6 c g):=λx y d Q e q=>by
 cases x<;>first|(cases e;done)|skip
 all_goals (cases y<;>first|(cases e;done)|skip)
 rename_i i j;have e:(if c i j=af then aa (g i j) else ae)=aa d:=e;by_cases hc:c i j=af
 .rw [Z_ hc] at e;cases e;show⟨h i j hc,q⟩
 .rw [Zz hc] at e;cases e
def szl{n:Nat}{α:Type}{x d:α}{Q:α->Prop}(e:(if n<=nU then aa x else ae)=aa d)(q:Q d):n<=bb/\Q x:=by
 by_cases h:n<=nU
 .rw [Z_ h] at e;cases e;show⟨by rw[fm];show h,q⟩
 .rw [Zz h] at e;cases e
def RM:Tells xm cD:=λx y d Q e q=>by
 cases x<;>first|(cases e;done)|skip
 all_goals (cases y<;>first|(cases e;done)|skip)
 .cases e;show q
 .exact szl (x:=D.str _) e q
 .exact szl (x:=D.tup _) e q
 .exact szl (x:=D.lst _) e q
def RN:Tells Cu PN:=λx y d Q e q=>by
 cases x<;>first|(cases e;done)|skip
 all_goals (cases y<;>first|(cases e;done)|skip)
 show szl (x:=D.lst _) e q
def aE5(h:xV i j=af):vc i j:=by
 unfold xV at h;simp only[Bool.or_eq_true,decide_eq_true_eq] at h;rcases h with(h|h)|h
 .exact uh.ok (.inl ⟨by lia,by lia⟩)
 .exact uh.ok (.inr ⟨by lia,by lia⟩)
 .refine aBH (m:=i.natAbs.log2+1) (n:=j.natAbs.log2+1) ?_ ?_ ∅
  .exact a1O
  .exact a1O
section
variable{a b:aw}{ν:bf}{fa fb:EF}
def fG(ha:bY X a fa)(hb:bY X b fb):bY X (.BinOp a .Add b ν) (aE cD fa fb):=cE (Ra ha hb) (iR RM)
def jP(ha:bY X a fa)(hb:bY X b fb):bY X (.BinOp a .Sub b ν) (aE gP fa fb):=cE (Rr ha hb) (iR fC)
def wN(ha:bY X a fa)(hb:bY X b fb):bY X (.BinOp a .Mult b ν) (aE mulM fa fb):=cE (Vx ha hb) (iR (nE λ_ _ h=>aE5 h))
def pV(ha:bY X a fa)(hb:bY X b fb):bY X (.BinOp a .Mod b ν) (aE iU fa fb):=cE (Rq ha hb) (iR (nE λ_ _ h=>by simpa using h))
def LK(ha:bY X a fa)(hb:bY X b fb):bY X (.BinOp a .FloorDiv b ν) (aE pR fa fb):=cE (Rc ha hb) (iR (nE λi j h=>by simp only[iu,decide_eq_true_eq] at h;show⟨h.1,by lia⟩))
def xk(ha:bY X a fa)(hb:bY X b fb):bY X (.BinOp a .Pow b ν) (aE F9 fa fb):=cE (Rb ha hb) (iR (nE λi j h=>by simp only[iu,decide_eq_true_eq] at h;show⟨h.1.1,by lia,h.2⟩))
def Vu(ha:bY X a fa)(hb:bY X b fb):jB X (.BinOp a .Add b ν) (aE PN fa fb):=cF (X_ ha hb) (iR RN)
def tells_eq:Tells uc rG:=λx y d Q e q=>by
 cases x<;>first|(cases e;done)|skip
 all_goals (cases y<;>first|(cases e;done)|skip)
 all_goals (cases e;show⟨rfl,q⟩)
def XX:Tells xl Y8:=λx y d Q e q=>by
 cases x<;>first|(cases e;done)|skip
 all_goals (cases y<;>first|(cases e;done)|skip)
 all_goals (cases e;show⟨rfl,q⟩)
theorem ints_of:∀{ds:List D} {ns:Q0e},intsOf ds=aa ns->ds=ns.map D.int
 |[],ns,h=>by cases h;rfl
 |d::ds,ns,h=>by
  cases d<;>first|cases h;done|skip
  obtain⟨m,e,rfl⟩:=wM h;rw[ints_of e];rfl
def ID{neg:Bool}:Tells (inF neg) (xX neg):=λx y d Q e q=>by
 cases x<;>first|(cases e;done)|skip
 all_goals (cases y<;>first|(cases e;done)|skip)
 all_goals
  obtain⟨ns,e1,rfl⟩:=wM e;have:=ints_of e1;subst this;show⟨CO ns,by rw[CP];show q⟩
def IE:Tells ub ZD:=λx y d Q e q=>by
 unfold ZD at e;split at e
 .rename_i h;cases e;show⟨(by cases y<;>first|rfl|cases h),?_⟩;have:isD x=xW x:=by cases x<;>rfl
  rw[this];show q
 .cases e
def lt4(ha:bY X a fa)(hb:bY X b fb):bY X (.Compare a [.Lt] [b] ν) (aE GA fa fb):=cE (lt3 ha hb) (iR fC)
def le4(ha:bY X a fa)(hb:bY X b fb):bY X (.Compare a [.LtE] [b] ν) (aE DI fa fb):=cE (le3 ha hb) (iR fC)
def gt4(ha:bY X a fa)(hb:bY X b fb):bY X (.Compare a [.Gt] [b] ν) (aE pS fa fb):=cE (gt3 ha hb) (iR fC)
def ge4(ha:bY X a fa)(hb:bY X b fb):bY X (.Compare a [.GtE] [b] ν) (aE geM fa fb):=cE (ge3 ha hb) (iR fC)
def eq4(ha:bY X a fa)(hb:bY X b fb):bY X (.Compare a [.Eq] [b] ν) (aE rG fa fb):=cE (Qq ha hb) (iR tells_eq)
def in4(ha:bY X a fa)(hb:bY X b fb)(hm:behindInMarks .In b=ag:=by with_unfolding_all rfl):bY X (.Compare a [.In] [b] ν) (aE (xX ag) fa fb):=cE (in3 ha hb hm) (iR ID)
def is4(ha:bY X a fa)(hb:bY X b fb):bY X (.Compare a [.Is] [b] ν) (aE ZD fa fb):=cE (Ql ha hb) (iR IE)
def vV{f:F2}{g:D->D->Option D}(h:Tells f g)(hb:∀x y d,g x y=aa d ->∃b,d=.bl b){fa fb:EF}(ρ:dW)(Q:Bool->Prop)(w:wT (tV (aE g fa fb)) ρ Q):nL (g7 f (wE fa) (wE fb)) ρ Q:=by obtain⟨b,e,q⟩:=w;obtain⟨d,e1,e2⟩:=bnd e;obtain⟨x,ex,e1⟩:=bnd e1;obtain⟨y,ey,e1⟩:=bnd e1;obtain⟨c,rfl⟩:=hb x y d e1;cases e2;show⟨x,ex,y,ey,h x y _ _ e1 q⟩
def uP{g:Int->Int->Bool}(x y d:D)(e:JK (λi j=>.bl (g i j)) x y=aa d):∃b,d=.bl b:=by
 cases x<;>first|(cases e;done)|skip
 all_goals (cases y<;>first|(cases e;done)|skip)
 cases e;show⟨_,rfl⟩
def Vt(x y d:D)(e:rG x y=aa d):∃b,d=.bl b:=by obtain⟨b,_,rfl⟩:=wM e;show⟨_,rfl⟩
def Vs(x y d:D)(e:Y8 x y=aa d):∃b,d=.bl b:=by obtain⟨b,_,rfl⟩:=wM e;show⟨_,rfl⟩
def Vr{neg:Bool}(x y d:D)(e:xX neg x y=aa d):∃b,d=.bl b:=by
 cases x<;>first|(cases e;done)|skip
 all_goals (cases y<;>first|(cases e;done)|skip)
 all_goals (obtain⟨b,_,rfl⟩:=wM e;show⟨_,rfl⟩)
def Vq(x y d:D)(e:ZD x y=aa d):∃b,d=.bl b:=by
 unfold ZD at e;split at e
 .cases e;show⟨_,rfl⟩
 .cases e
def LM(ha:bY X a fa)(hb:bY X b fb):A1 X (.Compare a [.Lt] [b] ν) (tV (aE GA fa fb)):=cT (Qp ha hb) (vV fC uP)
def B_(ha:bY X a fa)(hb:bY X b fb):A1 X (.Compare a [.LtE] [b] ν) (tV (aE DI fa fb)):=cT (Qo ha hb) (vV fC uP)
def BC(ha:bY X a fa)(hb:bY X b fb):A1 X (.Compare a [.Gt] [b] ν) (tV (aE pS fa fb)):=cT (Qn ha hb) (vV fC uP)
def Bz(ha:bY X a fa)(hb:bY X b fb):A1 X (.Compare a [.GtE] [b] ν) (tV (aE geM fa fb)):=cT (Qm ha hb) (vV fC uP)
def LN(ha:bY X a fa)(hb:bY X b fb):A1 X (.Compare a [.Eq] [b] ν) (tV (aE rG fa fb)):=cT (Xx ha hb) (vV tells_eq Vt)
def XY(ha:bY X a fa)(hb:bY X b fb):A1 X (.Compare a [.NotEq] [b] ν) (tV (aE Y8 fa fb)):=cT (Xn ha hb) (vV XX Vs)
def XZ(ha:bY X a fa)(hb:bY X b fb)(hm:behindInMarks .NotIn b=ag:=by with_unfolding_all rfl):A1 X (.Compare a [.NotIn] [b] ν) (tV (aE (xX af) fa fb)):=cT (Xm ha hb hm) (vV ID Vr)
def Ly(ha:bY X a fa)(hb:bY X b fb):A1 X (.Compare a [.Is] [b] ν) (tV (aE ZD fa fb)):=cT (Xl ha hb) (vV IE Vq)
end
def O4(K:ao)(r:R2)(g:D->D->Option D):Prop:=∃f,O3 K r f/\Tells f g /\∀x y d,g x y=aa d ->∃b,d=.bl b
def Es{K:ao}:O4 K (QS λi j=>.bl (Zv (i<j))) GA:=⟨_,lI,fC,uP⟩
def CU{K:ao}:O4 K (QS λi j=>.bl (Zv (i<=j))) DI:=⟨_,lI,fC,uP⟩
theorem OZ{f g:F2}{p q:D->D->Option D}(hf:Tells f p)(hg:Tells g q){fa fb fc:EF}(ρ:dW)(Q:D->Prop)(w:wE (f7 p q fa fb fc) ρ Q):FC f g (wE fa) (wE fb) (wE fc) ρ Q:=by
 obtain⟨d,e,k⟩:=w;obtain⟨x,ex,e⟩:=bnd e;obtain⟨y,ey,e⟩:=bnd e;obtain⟨z,ez,e⟩:=bnd e;obtain⟨b,eb,e5⟩:=bnd e;show⟨x,ex,y,ey,hf x y z _ ez ?_⟩
 clear e
 cases z<;>first|cases eb;done|skip
 cases eb
 cases b with
 |true =>
  rw[Z_ rfl] at e5;obtain⟨u,eu,e⟩:=bnd e5;show⟨u,eu,hg y u d Q e k⟩
 |false =>
  rw[Zz bp] at e5;cases e5;show k
theorem X0(ho:jS X (compareOp op) r)(ho':jS X (compareOp op') r')(h1:O4 X.K r p)(h2:O4 X.K r' q)(ha:bY X a fa)(hb:bY X b fb)(hc:bY X c fc)
  (hm:lastMarks [op,op'] [b,c]=ag:=by with_unfolding_all rfl):bY X (.Compare a [op,op'] [b,c] ν) (f7 p q fa fb fc):=by
 obtain⟨f,o1,t1,_⟩:=h1;obtain⟨g,o2,t2,_⟩:=h2;show cE (aEC ho ho' o1 o2 ha hb hc hm) (OZ t1 t2)
theorem O0{a b c:aw}{op op':CmpOp}{ν:bf}{r r':R2}{p q:D->D->Option D}{fa fb fc:EF}(ho:jS X (compareOp op) r)(ho':jS X (compareOp op') r')(h1:O4 X.K r p)(h2:O4 X.K r' q)(ha:bY X a fa)(hb:bY X b fb)(hc:bY X c fc)
  (hm:lastMarks [op,op'] [b,c]=ag:=by with_unfolding_all rfl):A1 X (.Compare a [op,op'] [b,c] ν) (tV (f7 p q fa fb fc)):=by
 obtain⟨f,o1,t1,_⟩:=h1;obtain⟨g,o2,t2,b2⟩:=h2;show cT (aAr ho ho' o1 o2 ha hb hc hm) λρ Q w=>?_;obtain⟨b,e,q⟩:=w;obtain⟨d,e1,e2⟩:=bnd e;show OZ t1 t2 ρ _ ⟨d,e1,?_⟩;have hd:∃c,d=.bl c:=by
  obtain⟨x,ex,e1⟩:=bnd e1;obtain⟨y,ey,e1⟩:=bnd e1;obtain⟨z,ez,e1⟩:=bnd e1;obtain⟨k,ek,e1⟩:=bnd e1
  cases k with
  |true =>
   rw[Z_ rfl] at e1;obtain⟨u,eu,e1⟩:=bnd e1;show b2 _ _ _ e1
  |false =>
   rw[Zz bp] at e1;cases e1;show⟨_,rfl⟩
 obtain⟨c,rfl⟩:=hd;cases e2;show q
section
variable{a b c:aw}{Θ:List aw}{ν:bf}{fa fb:EF}{ta tb tc:TF}
def nM(ha:A1 X a ta):A1 X (.UnaryOp .Not a ν) (lO ta):=cT (Xi ha) λρ Q Lv=>by obtain⟨b,e,q⟩:=Lv;obtain⟨c,ec,rfl⟩:=wM e;show⟨c,ec,q⟩
def Er(ha:A1 X a ta):F8 X (.BoolOp .And [a] ν) ta:=Qi ha
def IF(ha:A1 X a ta):F8 X (.BoolOp .Or [a] ν) ta:=or1 ha
theorem Ep(ha:A1 X a ta)(hb:F8 X (.BoolOp .And (b::Θ) ν) tb):F8 X (.BoolOp .And (a::b::Θ) ν) (pQ ta tb):=cW (Xh ha hb) λρ Q Lu=>by
 obtain⟨d,e,q⟩:=Lu;obtain⟨c,ec,e⟩:=bnd e;show⟨c,ec,?_⟩
 cases c with
 |true=>rw[Z_ rfl] at e ⊢;show⟨d,e,q⟩
 |false=>rw[Zz bp] at e ⊢;cases e;show q
theorem z6(ha:A1 X a ta)(hb:F8 X (.BoolOp .Or (b::Θ) ν) tb):F8 X (.BoolOp .Or (a::b::Θ) ν) (wU ta tb):=cW (Qg ha hb) λρ Q Ls=>by
 obtain⟨d,e,q⟩:=Ls;obtain⟨c,ec,e⟩:=bnd e;show⟨c,ec,?_⟩
 cases c with
 |true=>rw[Z_ rfl] at e ⊢;cases e;show q
 |false=>rw[Zz bp] at e ⊢;show⟨d,e,q⟩
def LO{op}(ha:bY X a fa):bY X (.BoolOp op [a] ν) fa:=Rm ha
theorem FE(ha:bY X a fa)(hb:bY X (.BoolOp .And (b::Θ) ν) fb):bY X (.BoolOp .And (a::b::Θ) ν) (lP fa fb):=cE (Rl ha hb) λρ Q Lq=>by
 obtain⟨d,e,q⟩:=Lq;obtain⟨x,ex,e1⟩:=bnd e;obtain⟨c,ec,e⟩:=bnd e1
 clear e1
 show⟨x,ex,?_⟩;cases x<;>first|cases ec;done|skip
 cases ec
 cases c with
 |true=>rw[Z_ rfl] at e;show⟨d,e,q⟩
 |false=>rw[Zz bp] at e;cases e;show q
def Lp(ha:bY X a fa):bY X (.UnaryOp .Not a ν) (DH fa):=cE (Rj ha) λρ Q Lo=>by
 obtain⟨d,e,q⟩:=Lo;obtain⟨x,ex,e⟩:=bnd e;obtain⟨c,ec,rfl⟩:=wM e;show⟨x,ex,?_⟩;cases x<;>first|cases ec;done|skip
 cases ec;show q
theorem if4(hc:A1 X c tc)(ha:bY X a fa)(hb:bY X b fb):bY X (.IfExp c a b ν) (TN tc fa fb):=cE (if3 hc ha hb) λρ Q Ln=>by
 obtain⟨d,e,q⟩:=Ln;obtain⟨c,ec,e⟩:=bnd e;show⟨c,ec,?_⟩
 cases c with
 |true=>rw[Z_ rfl] at e ⊢;show⟨d,e,q⟩
 |false=>rw[Zz bp] at e ⊢;show⟨d,e,q⟩
def By(ha:bY X a fa):bY X (.UnaryOp .USub a ν) (PM fa):=cE (Qf ha) λρ Q Lm=>by
 obtain⟨d,e,q⟩:=Lm;obtain⟨x,ex,e⟩:=bnd e;show⟨x,ex,?_⟩;cases x<;>first|cases e;done|skip
 cases e;show q
def nF{e:aw}{f:EF}(h:bY X e f)(he:∀whole,isTrue e X.env whole=(do let v <- whole;standAt e.pos;holding [v] (truthy v)):=by intro _;rfl):A1 X e (tV f) :=
 Q8 (V8 h he) λσ H Q Mx=>by
  obtain⟨S,ρ,Q3,fc,sl,⟨b,hb,q3⟩,k⟩:=Mx;obtain⟨d0,ed,et⟩:=bnd hb;show⟨S,ρ,λd=>d=d0,fc,sl,⟨d0,ed,rfl⟩,λv H1 d s1 d1 q1=>?_⟩;subst q1
  cases d with
  |bl c=>cases et;symm at d1;subst d1;show⟨_,rfl,k _ H1 s1 q3⟩
  |lst ds =>
   cases et;symm at d1;obtain⟨a,xs,rfl,ha,sa,da⟩:=d1;show⟨_,.inl ⟨xs,eW.of ha,by rw[<- da.empty]⟩,k _ H1 s1 q3⟩
  |tup ds =>
   cases et;symm at d1;obtain⟨a,xs,rfl,ha,da⟩:=d1;show⟨_,.inr (.inl ⟨xs,(fF.of ha),by rw[<- da.empty]⟩),k _ H1 s1 q3⟩
  |_=>cases et
end
end
section
variable{X:Cx}
def aH:wL X [] aF:=cA Qz λ_ _ Mw=>by obtain⟨_,e,q⟩:=Mw;cases e;show q
def aC(ha:bY X e fe)(hr:wL X es t)(hs:Zs X e es:=by rfl):wL X (e::es) (aA fe t):=cA (Xy ha hr hs) λρ Q Mv=>by obtain⟨ds,e,q⟩:=Mv;obtain⟨d,ed,e⟩:=bnd e;obtain⟨r,er,e⟩:=bnd e;cases e;show⟨d,ed,r,er,q⟩
def pW{x1}(h:wL X es t):bY X (.Tuple es x1 ν) (iP t):=cE (Qu h) λρ Q Mu=>by obtain⟨d,e,q⟩:=Mu;obtain⟨ds,ed,e⟩:=bnd e;show⟨ds,ed,szl (x:=D.tup ds) e q⟩
def qX(h:wL X es t):jB X (.List es ν) (iV t):=cF (Qs h) λρ Q Mt=>by obtain⟨d,e,q⟩:=Mt;obtain⟨ds,ed,e⟩:=bnd e;show⟨ds,ed,szl (x:=D.lst ds) e q⟩
def X1:Tells ixF dQ:=λx y d Q e q=>by
 cases x<;>first|(cases e;done)|skip
 all_goals (cases y<;>first|(cases e;done)|skip)
 .have e:wH _ _=aa d:=e;show(match wH _ _ with|some d=>Q d|none=>False);rw[e];show q
 .have e:wH _ _=aa d:=e;show(match wH _ _ with|some d=>Q d|none=>False);rw[e];show q
 .obtain ⟨n,e1,rfl⟩:=wM e;have e1:wH _ _=aa n:=e1;show(match wH _ _ with|some n=>Q (.int n)|none=>False);rw[e1];show q
def mF(ha:bY X a fa)(hb:bY X b fb)(hs:EZ b:=by intro _ _;rfl):bY X (.Subscript a b ν) (aE dQ fa fb):=cE (ix3 ha hb hs) (iR X1)
def RO:Tells w_ x6:=λx y d Q e q=>by
 cases x<;>first|cases e;done|skip
 rename_i ks ds;obtain⟨k,ek,e⟩:=bnd e;have ek:HY y=aa k:=by cases y<;>first|show ek|cases ek
 have e:lC ks ds k=aa d:=e
 show(match D.kZ ks ds,HY y with
  |.kZ ks ds,aa k=>(match lC ks ds k with|some d=>Q d|none=>False)
  |_,_=>False)
 rw[ek];dsimp only;rw[e];show q
def Bx(hu:X.A.units+1<cz)(ho:bY X o fo)(hi:bY X i fi)(hs:K5 i:=by intro _ _;rfl):bY X (.Subscript o i ν) (aE x6 fo fi):=cE (Nl hu ho hi hs) (iR RO)
def lK(f:F1)(g:List D->Option D):Prop:=∀(ds:List D) (d:D) (Q:D->Prop),g ds=aa d->Q d->f ds Q
def BD(h:lK f g)(ρ:dW)(Q:D->Prop)(w:wE (cZ g t) ρ Q):W9 f (wA t) ρ Q:=by obtain⟨d,e,q⟩:=w;obtain⟨ds,ed,e⟩:=bnd e;show⟨ds,ed,h ds d Q e q⟩
theorem RP:lK BA b9:=λds d Q e q=>by
 cases ds with
 |nil=>cases e
 |cons a ds =>
  cases a<;>first|(cases e;done)|skip
  all_goals (cases ds<;>first|(cases e;show q)|(cases e;done))
theorem IG:lK K9 eX:=λds d Q e q=>by
 cases ds with
 |nil=>cases e
 |cons a ds =>
  cases a<;>first|(cases e;done)|skip
  all_goals (cases ds<;>first|(cases e;show q)|(cases e;done))
def fH(hm:X.mg "len"=ae)(ha:wL X [e] t)(hg:Gl X "len":=by rfl)(he:Zs X e []:=by rfl):bY X (.Call (.Name "len" p) [e] [] ν) (cZ b9 t):=cE (Qb hm ha hg he) (BD RP)
def jQ(hm:X.mg "tuple"=ae)(ha:wL X [e] t)(hg:Gl X "tuple":=by rfl)(he:Zs X e []:=by rfl):bY X (.Call (.Name "tuple" p) [e] [] ν) (cZ eX t):=cE (aEE hm zv ha hg he) (BD IG)
theorem CV:∀ds:List D,L3.intsOf ds=L4.intsOf ds
 |[]=>rfl
 |d::ds=>by
  cases d<;>first|rfl|skip
  show(L3.intsOf ds).map _=(L4.intsOf ds).map _;rw[CV ds]
theorem qY(a:Int):∀l:Q0e,(insI a l).Perm (a::l)
 |[]=>.refl _
 |b::l=>by
  unfold insI;split
  .exact .refl _
  .exact ((qY a l).cons b).trans (.swap a b l)
theorem oK:∀l:Q0e,(sortI l).Perm l
 |[]=>.refl _
 |a::l=>(qY a (sortI l)).trans ((oK l).cons a)
theorem sV(a:Int):∀l:Q0e,l.Pairwise (· <= ·)->(insI a l).Pairwise (· <= ·)
 |[],_=>by simp[insI]
 |b::l,h=>by
  unfold insI;split
  .rename_i hab;show ft.mpr ⟨λc hc=>?_,h⟩;rcases bh.mp hc with e|e
   .subst e;show hab
   .exact Iq hab ((ft.mp h).1 c e)
  .rename_i hab;show ft.mpr ⟨λc hc=>?_,sV a l (ft.mp h).2⟩;rcases bh.mp ((qY a l).mem_iff.mp hc) with e|e
   .subst e;lia
   .exact (ft.mp h).1 c e
theorem lL:∀l:Q0e,(sortI l).Pairwise (· <= ·)
 |[]=>Im
 |a::l=>sV a _ (lL l)
theorem qZ:∀{l m:Q0e},l.Perm m->l.Pairwise (· <= ·)->m.Pairwise (· <= ·)->l=m
 |[],m,p,_,_=>by rw[p.nil_eq]
 |a::l,[],p,_,_=>by have:=p.length_eq;simp at this
 |a::l,b::m,p,h1,h2=>by
  have e:a=b:=by
   have m1:=p.mem_iff.mp (b_ (a:=a) (l:=l));have m2:=p.mem_iff.mpr (b_ (a:=b) (l:=m));rcases bh.mp m1 with e|e
   .exact e
   .rcases bh.mp m2 with e2|e2
    .exact e2.symm
    .have:=(ft.mp h2).1 a e;have:=(ft.mp h1).1 b e2;lia
  subst e;rw[qZ p.cons_inv (ft.mp h1).2 (ft.mp h2).2]
def FF:lK XO k8:=λds d Q e q=>by
 unfold k8 at e;split at e
 .rename_i a;obtain⟨ns,e1,e⟩:=bnd e;by_cases hl:ns.length<64
  .rw [Z_ hl] at e;cases e;show(match L3.intsOf a with|some ns=>ns.length<64 /\∀ns':Q0e,ns'.Perm ns->ns'.Pairwise (· <= ·)->Q (.lst (ns'.map D.int))|none=>False);rw[CV,e1];show⟨hl,λns' p s=>?_⟩;rw[qZ (p.trans (oK ns).symm) s (lL ns)];show q
  .rw [Zz hl] at e;cases e
 .cases e
def aBL(hm:X.mg "sorted"=ae)(ha:wL X [e] t)(hg:Gl X "sorted":=by rfl)(he:Zs X e []:=by rfl):jB X (.Call (.Name "sorted" p) [e] [] ν) (cZ k8 t):=cF (aBB hm ha hg he) (BD FF)
def RQ:lK sumF JL:=λds d Q e q=>by
 unfold JL at e;split at e
 .rename_i a;obtain⟨ns,e1,rfl⟩:=wM e;have:=ints_of e1;subst this;rw[RL];show q
 .cases e
def Bw(hc:X.calm=af)(hm:X.mg "sum"=ae)(ha:wL X [e] t)(hg:Gl X "sum":=by rfl)(he:Zs X e []:=by rfl):bY X (.Call (.Name "sum" p) [e] [] ν) (cZ JL t):=cE (Na hc hm ha hg he) (BD RQ)
def aE7(T:String)(d:D):JM T d=isT T d:=by cases d<;>rfl
theorem uQ(hT:CQ T)(hm:X.mg "isinstance"=ae)(hmT:X.mg x=ae)(hv:bootBuiltins x=aa (.type T))(he:bY X e f)(hg:Gl X "isinstance":=by rfl)(hgT:Gl X x:=by rfl)(hn:x ≠ "__name__":=by decide)(hdb:Zu x:=by decide)
  (hs:ar [e,.Name x p2] X.env=(ag,eval e X.env)::ar [.Name x p2] X.env:=by rfl) (hs2:ar [.Name x p2] X.env=(ag,eval (.Name x p2) X.env)::ar [] X.env:=by rfl) (hpl:(cu ν (ar [.Name x p2] X.env)).any (·.1)=ag:=by rfl):
  bY X (.Call (.Name "isinstance" p) [e,.Name x p2] [] ν) (kE T f):=cE (Np hT hm hmT hv he hg hgT hn hdb hs hs2 hpl) λρ Q Ms=>by
 obtain⟨d,e,q⟩:=Ms;obtain⟨x,ex,e⟩:=bnd e;by_cases hx:JN x=af
 .rw [Z_ hx] at e;cases e;show⟨x,ex,(by cases x<;>first|trivial|cases hx),by show Q (.bl (isT T x));rw[<- aE7];show q⟩
 .rw [Zz hx] at e;cases e
def dB(K:ao)(R:jM):Sp:=sp3 K λds Q=>∃d,R ds=.ok d/\Q d
inductive Cl (P:bc) (w:ba) (K:ao) (mg:Q0d) (ω:ay) (CX:KY) (k:Nat) (x:aj) (ps:Q0g) (sp:Sp):Prop
 |mk {f:ah} {fd:fv} (F:lG P w K mg ω CX k f fd ps sp) (m:mg x=aa (.ref f)) (kp:keepIn K (.ref f)=af) (b:Binds K fd ps []):Cl P w K mg ω CX k x ps sp
theorem Cl.up{P:bc}{w:ba}{K:ao}{mg:Q0d}{ω:ay}{CX:KY}{j k:Nat}{x:aj}{ps:Q0g}{sp:Sp}(c:Cl P w K mg ω CX j x ps sp)(h:j<=k:=by decide):Cl P w K mg ω CX k x ps sp:=by obtain⟨F,m,q,b⟩:=c;show⟨F.mono h,m,q,b⟩
inductive Df (K:ao) (mg:Q0d) (x:aj) (st:bx) (ps:Q0g):Prop
 |mk {f:ah} {fd:fv} (a:h_ K df x=aa (aa (.ref f))) (F:Y9 K x x st f fd) (m:mg x=aa (.ref f)) (b:Binds K fd ps []):Df K mg x st ps
theorem aHY{K:ao}{mg:Q0d}{h:ay}{x:aj}{st:bx}{ps:Q0g}{f:ah}{oc:ai}{od an:Option ah}{osl:Array (Option ai)}{kV doc pm cdv ct:ai}(X:K.In h)(G:h.Ns df mg)
  (b:∀us:Q0f,us.length=ps.length->bindArgs (fnOf x x (sO st) (fL st) (bB st) .none kV doc pm an cdv ct) ⟨us,[]⟩=pure (ps.zip us)) (a:h_ K df x=aa (aa (.ref f)))
  (l:K.lookup f=aa ⟨oc,od,.func (fnOf x x (sO st) (fL st) (bB st) .none kV doc pm an cdv ct),osl⟩) (c:codeIn K cdv x=af) (k:keepIn K (.ref f)=af):Df K mg x st ps:=⟨a,aDu l c k,iy X G a,.all b⟩
def u1(r:fS k A):A.units+1<cz:=by have:=r.units;lia
def u2(r:fS k A):A.units+2<cz:=by have:=r.units;lia
def u9(r:fS k A):A.units+9<cz:=by have:=r.units;lia
theorem bC(C:Cl X.Ω X.w X.K X.mg X.ω cC k x ps (dB X.K R))(hr:fS k X.A)
  (ha:wL X (e::es) t) (hg:Gl X x:=by rfl) (hdb:Zu x:=by decide) (he:Zs X e es:=by rfl) (hpl:Q0l X ν es:=by rfl):
  bY X (.Call (.Name x p) (e::es) [] ν) (aL R t):=by
 obtain⟨F,hm,hk,hb⟩:=C;show cE (Xf F hr hm hk hb ha hg hdb he hpl) λρ Q Mr=>?_;obtain⟨d,e,q⟩:=Mr;obtain⟨ds,ed,e⟩:=bnd e;show⟨ds,ed,d,?_,q⟩
 cases h:R ds with
 |ok d'=>rw[h] at e;cases e;rfl
 |no=>rw[h] at e;cases e
 |ex c=>rw[h] at e;cases e
def LP(hc:X.calm=af)(hm:X.mg "list"=ae)(hmr:X.mg "range"=ae)(ha:wL X [a] t)(hg:Gl X "list":=by rfl)(hgr:Gl X "range":=by rfl)(hs:ar [a] X.env=[(ag,eval a X.env)]:=by rfl)
  (he:ar [.Call (.Name "range" p2) [a] [] pos2] X.env=(ag,eval (.Call (.Name "range" p2) [a] [] pos2) X.env)::ar [] X.env:=by rfl):
  jB X (.Call (.Name "list" p) [.Call (.Name "range" p2) [a] [] pos2] [] ν) (JO t):=cF (LA hc hm hmr ha hg hgr hs he) λρ Q Mq=>by
 obtain⟨d,e,q⟩:=Mq;obtain⟨ds,ed,e⟩:=bnd e;show⟨ds,ed,?_⟩;split at e
 .rename_i j;by_cases h:j.natAbs<=16777216
  .rw [Z_ h] at e;cases e;show⟨⟨by lia,by lia⟩,q⟩
  .rw [Zz h] at e;cases e
 .cases e
section
variable{tg:aw}
def iS(h:bY X l f):PI4 X tg l (cB f):=cI (Wx h) λρ Q Mp=>by
 obtain⟨ds,e,q⟩:=Mp;obtain⟨d,ed,e⟩:=bnd e;show⟨d,ed,?_⟩;cases d<;>first|cases e;done|skip
 all_goals (cases e;show q)
def aE8(h:aA fa aF ρ=aa as):∃a,fa ρ=aa a/\as=[a]:=by obtain⟨a,ea,e⟩:=bnd h;cases e;show⟨a,ea,rfl⟩
def eG(hm:X.mg "range"=ae)(ha:bY X a fa)(hg:Gl X "range":=by rfl)(hs:ar [a] X.env=[(ag,eval a X.env)]:=by rfl):PI4 X tg (.Call (.Name "range" p) [a] [] ν) (bX (aA fa aF)):=cI (aEQ hm (aC ha aH hs) hg hs) λρ Q Mo=>by
 obtain⟨ds,e,q⟩:=Mo;obtain⟨as,ea,e⟩:=bnd e;show⟨as,ea,?_⟩;obtain⟨a,ha',rfl⟩:=aE8 ea
 clear ea ha'
 cases a<;>first|cases e;done|skip
 rename_i j;by_cases h:j.natAbs<4611686018427387904
 .have e:(if j.natAbs<4611686018427387904 then aa ((bD 0 j.toNat).map D.int) else ae)=aa ds:=e;rw[Z_ h] at e;cases e;show⟨⟨by lia,by lia⟩,q⟩
 .have e:(if j.natAbs<4611686018427387904 then aa ((bD 0 j.toNat).map D.int) else ae)=aa ds:=e;rw[Zz h] at e;cases e
end
def nG(hm:X.mg "enumerate"=ae)(ha:wL X [a] t)(hg:Gl X "enumerate":=by rfl)(hs:ar [a] X.env=[(ag,eval a X.env)]:=by rfl):PI4 X (.Tuple es kk tp) (.Call (.Name "enumerate" p) [a] [] ν) (nW t):=cI (LJ hm ha hg hs) λρ Q Lj=>by obtain⟨ds,e,q⟩:=Lj;obtain⟨as,ea,e⟩:=bnd e;show⟨as,ea,?_⟩;unfold M4 at e;split at e<;>first|(cases e;show q)|cases e
theorem z7:∀(ds ψ ys:List D) (Q:D->Prop),kF g t e ρ ds=aa ys->ψ.length+ds.length<=bb->Q (.lst (ψ++ys))->sR (v_ g) (wT t) (wE e) ρ ds ψ Q
 |[],ψ,ys,Q,h,_,q=>by cases h;rw[sR];simpa using q
 |d::ds,ψ,ys,Q,h,hl,q=>by
  rw[sR];obtain⟨ρ1,e1,h⟩:=bnd h;obtain⟨b,e2,h⟩:=bnd h;simp only[cx] at hl;show⟨ρ1,e1,b,e2,?_⟩
  cases b with
  |true =>
   rw[Z_ rfl] at h ⊢;obtain⟨y,e3,h⟩:=bnd h;obtain⟨zs,e4,rfl⟩:=wM h;show⟨y,e3,by lia,z7 ds (ψ++[y]) zs Q e4 (by simp;lia) (by simpa using q)⟩
  |false =>
   rw[Zz bp] at h ⊢;show z7 ds ψ ys Q h ∅ q
def LQ(ρ:dW)(Q:D->Prop)(w:wE (cJ nl fr it g t e) ρ Q):HW nl fr (wI it) (v_ g) (wT t) (wE e) ρ Q:=by
 obtain⟨d,h,q⟩:=w;obtain⟨ds,e1,h⟩:=bnd h;show⟨ds,e1,?_⟩;by_cases hl:ds.length<=nU
 .rw [Z_ hl] at h;obtain⟨ys,e2,rfl⟩:=wM h;show z7 ds [] ys Q e2 (by rw[fm,iq,kj];show hl) (by simpa using q)
 .rw [Zz hl] at h;cases h
abbrev X2(X:Cx)(nl:Nat)(tg:aw)(g:GEF):Prop:=PG4 X nl tg (v_ g)
abbrev X3(X:Cx)(ifs:List aw)(t:TF):Prop:=RD X ifs (wT t)
def cG(h:PG4 X nl tg g)(c:∀d ρ Q,g' d ρ Q->g d ρ Q):PG4 X nl tg g':=RB h λ_ _ _ _ Li=>by obtain⟨S,ρ,d,Q3,hl,fc,sl,dn,hg,k⟩:=Li;show⟨S,ρ,d,Q3,hl,fc,sl,dn,c d ρ Q3 hg,k⟩
def fM(nd:X.N.Nodup)(hil:i<nl)(hi:X.N[i]?=aa x:=by rfl)(hx:Loc X.env.scope x:=by walk_at "0")(hfx:Zr X x:=by walk_at "2"):X2 X nl (.Name x ν) (g1 i):=cG (Ws nd hil hi hx hfx) λd ρ Q Lh=>by obtain⟨ρ',e,q⟩:=Lh;cases e;show q
theorem O1(h:BJ d=aa p):d=.tup [p.1,p.2]:=by
 cases d<;>first|(cases h;done)|skip
 rename_i l
 cases l with
 |nil=>cases h
 |cons a l =>
  cases l with
  |nil=>cases h
  |cons b l =>
   cases l with
   |nil=>cases h;rfl
   |cons c l=>cases h
def z8(hc:X.calm=af)(nd:X.N.Nodup)(hil:i<nl)(hjl:j<nl)(hi:X.N[i]?=aa x:=by rfl)(hj:X.N[j]?=aa y:=by rfl)(hx:Loc X.env.scope x:=by walk_at "0")(hfx:Zr X x:=by walk_at "2")(hy:Loc X.env.scope y:=by walk_at "0")(hfy:Zr X y:=by walk_at "2")
  (hn:Q0j X x y px py:=by rfl) (hst:Q0i X x y px py:=by rfl)
  (hs1:gV X x y px py:=by rfl) (hs2:Q0h X y py:=by rfl):
  X2 X nl (.Tuple [.Name x px,.Name y py] kk ν) (g2 i j):=cG (Wq hc nd hil hjl hi hj hx hfx hy hfy hn hst hs1 hs2) λd ρ Q Lg=>by
 obtain⟨ρ',e,q⟩:=Lg;obtain⟨p,ep,rfl⟩:=wM e;rw[O1 ep];show q
def jU:X3 X [] dO:=λπ s σ H Q I Lf=>by obtain⟨S,ρ,Q3,fc,sl,⟨_,e,q⟩,k⟩:=Lf;cases e;show Oy π s σ H Q I ⟨S,ρ,Q3,fc,sl,q,k⟩
def oM(h:A1 X c t):X3 X [c] t:=We h
section
variable{ls fs:Q0g}{fr:List Nat}{sc:fq}{tg iter elt:aw}{ifs:List aw}{ν:bf}{it:AF}{g:GEF}{t:TF}{e:EF}
theorem gY(hc:X.calm=af)(hi:PI4 X tg iter it)
  (hg:∀cl C pn ex s H,(blk X (ls++fs) sc cl C pn ex s H).N.Nodup->X2 (blk X (ls++fs) sc cl C pn ex s H) ls.length tg g) (hf:∀cl C pn ex s H,X3 (blk X (ls++fs) sc cl C pn ex s H) ifs t) (he:∀cl C pn ex s H,bY (blk X (ls++fs) sc cl C pn ex s H) elt e)
  (B:chk X.env.scope.names sc X.N ls fs fr=af:=by rfl) (hs:Zp X iter:=by intro _;rfl):jB X (.ListComp elt [⟨tg,iter,ifs,0⟩] sc ν) (cJ ls.length fr it g t e):=cF (Wd hc hi hg hf he B hs) LQ
variable{i:Nat}{x:aj}{spos pos':bf}
theorem CW(nd:X.N.Nodup)(hc:X.calm=af)(hi:PI4 X tg iter it)
  (hg:∀cl C pn ex s H,(blk X (ls++fs) sc cl C pn ex s H).N.Nodup->X2 (blk X (ls++fs) sc cl C pn ex s H) ls.length tg g) (hf:∀cl C pn ex s H,X3 (blk X (ls++fs) sc cl C pn ex s H) ifs t) (he:∀cl C pn ex s H,bY (blk X (ls++fs) sc cl C pn ex s H) elt e)
  (hx0:X.N[i]?=aa x:=by rfl) (hx:X.env.scope.names.lookup x=aa .local:=by rfl) (hsw:Rv X elt tg iter ifs sc ν x pos' spos:=by rfl)
  (B:chk X.env.scope.names sc X.N ls fs fr=af:=by rfl) (hs:Zp X iter:=by intro _;rfl):qB X (.Assign [.Name x pos'] (.ListComp elt [⟨tg,iter,ifs,0⟩] sc ν) spos) (bG i (cJ ls.length fr it g t e)) :=
 cS (RE nd hc hi hg hf he hx0 hx hsw B hs) λE ρ w=>by
  unfold wS bG at w;unfold xg
  cases h:cJ ls.length fr it g t e (jL ρ) with
  |none=>rw[h] at w;show w.elim
  |some d=>rw[h] at w;show LQ _ _ ⟨d,h,w⟩
end
end
section
variable{X:Cx}
def cO(h:PO3 X e t)(c:∀ρ Q,t' ρ Q->t ρ Q):PO3 X e t':=λπ s σ H Q I Le=>by obtain⟨S,ρ,Q3,fc,sl,ht,k⟩:=Le;show h π s σ H Q I ⟨S,ρ,Q3,fc,sl,c ρ Q3 ht,k⟩
def no4:PO4 X ae ll:=cO M_ λ_ _ Ld=>by obtain⟨_,e,q⟩:=Ld;cases e;show q
def po4(h:bY X e f):PO4 X (aa e) (oE f):=cO (po3 h) λρ Q Lc=>by
 obtain⟨o,e,q⟩:=Lc;obtain⟨d,ed,e⟩:=bnd e;obtain⟨i,ei,rfl⟩:=wM e;show⟨d,ed,?_⟩;cases d<;>first|cases ei;done|skip
 cases ei;show q
def sl4{e:aw}{lo hi:Option aw}{p2 ν:bf}{f:EF}{fl fh:OF}(he:bY X e f)(hl:PO4 X lo fl)(hh:PO4 X hi fh):bY X (.Subscript e (.Slice lo hi ae p2) ν) (ZE f fl fh):=cE (sl3 he hl hh) λρ Q Lb=>by
 obtain⟨r,e,q⟩:=Lb;obtain⟨d,ed,e⟩:=bnd e;obtain⟨l,el,e⟩:=bnd e;obtain⟨h,eh,e⟩:=bnd e;show⟨d,ed,l,el,h,eh,?_⟩;cases d<;>first|cases e;done|skip
 all_goals (cases e;show q)
def px4(h:bY X e f):OY X e (BK f):=cX (px3 h) λρ Q Vp=>by
 obtain⟨p,e,q⟩:=Vp;obtain⟨d,ed,e⟩:=bnd e;show⟨d,ed,?_⟩;by_cases hi:d.A2=af
 .rw [Z_ hi] at e;cases e;show⟨hi,q⟩
 .rw [Zz hi] at e;cases e
def sW(h:bY X e f):OY X e (bF f):=cX (Pe h) λρ Q Wn=>by obtain⟨p,e,q⟩:=Wn;obtain⟨d,ed,e⟩:=bnd e;cases e;show⟨d,ed,q⟩
def LR(h:pU o=aa ds):o=aa (.ow (.lst ds)):=by
 unfold pU at h;split at h
 .cases h;rfl
 .cases h
def FG(f:List D->D->(List D->D->Prop)->Prop)(m:List D->D->Option (List D×D)):Prop:=∀ds d q (Q:List D->D->Prop),m ds d=aa q->Q q.1 q.2->f ds d Q
def xj(h:FG f m)(ρ:bU)(Q:bU->D->Prop)(w:wX (vZ i m x) ρ Q):oq i f (wX x) ρ Q:=by obtain⟨r,e,q⟩:=w;obtain⟨ds0,e0,e⟩:=bnd e;obtain⟨p,ep,e⟩:=bnd e;obtain⟨ds,e1,e⟩:=bnd e;obtain⟨z,ez,rfl⟩:=wM e;have o0:=LR e0;have o1:=LR e1;show⟨by rw[o0];trivial,p,ep,?_⟩;show(match p.1[i]? with|some (.ow (.lst ds))=>f ds p.2 λds' r=>Q (p.1.set i (.ow (.lst ds'))) r|_=>False);rw[o1];show h ds p.2 z _ ez q
def RR:FG xf nX:=λds d q Q e k=>by
 unfold nX at e;by_cases h:ds.length<nU
 .rw [Z_ h] at e;cases e;show⟨by rw[fm];show h,k⟩
 .rw [Zz h] at e;cases e
def RS:FG xb ZF:=λds d q Q e k=>by
 cases d<;>first|cases e;done|skip
 rename_i i;have e:(if i.natAbs<9223372036854775808 then(M1 ds.length i).bind λj=>(ds[j]?).map λd=>(ds.eraseIdx j,d) else ae)=aa q:=e;by_cases h:i.natAbs<9223372036854775808
 .rw [Z_ h] at e;obtain⟨j,ej,e⟩:=bnd e;obtain⟨d,ed,rfl⟩:=wM e;have ej:QX ds.length i=aa j:=ej;show⟨⟨by lia,by lia⟩,?_⟩;show(match QX ds.length i with|some j=>(match ds[j]? with|some d=>Q (ds.eraseIdx j) d|none=>False)|none=>False);rw[ej];dsimp only;rw[ed];show k
 .rw [Zz h] at e;cases e
def RT:FG wz PU:=λds d q Q e k=>by
 cases d<;>first|cases e;done|skip
 rename_i es;have e:(if ds.length+es.length<=nU then aa (ds++es,D.non) else ae)=aa q:=e;by_cases h:ds.length+es.length<=nU
 .rw [Z_ h] at e;cases e;show⟨by rw[fm];show h,k⟩
 .rw [Zz h] at e;cases e
section
variable{i:Nat}{x:aj}{e:aw}{p apos cpos:bf}{f:XF}
def X4(he:OY X e f)(hN:X.N[i]?=aa x:=by rfl)(hv:AX X.env.scope x:=by walk_at "1")(hd:Zu x:=by decide)(hcd:Zt x:=by decide)
  (hbase:attributeBase (.Name x p) "append" X.env (eval (.Name x p) X.env)=eval (.Name x p) X.env:=by rfl)
  (hfew:Zq X cpos e:=by rfl)
  (hline:Q0k apos cpos:=by rfl) (hs:Zs X e []:=by rfl):
  OY X (.Call (.Attribute (.Name x p) "append" apos) [e] [] cpos) (vZ i nX f):=cX (Oq he hN hv hd hcd hbase hfew hline hs) (xj RR)
def La(he:OY X e f)(hN:X.N[i]?=aa x:=by rfl)(hv:AX X.env.scope x:=by walk_at "1")(hd:Zu x:=by decide)(hcd:Zt x:=by decide)
  (hbase:attributeBase (.Name x p) "pop" X.env (eval (.Name x p) X.env)=eval (.Name x p) X.env:=by rfl)
  (hfew:Zq X cpos e:=by rfl)
  (hline:Q0k apos cpos:=by rfl) (hs:Zs X e []:=by rfl):
  OY X (.Call (.Attribute (.Name x p) "pop" apos) [e] [] cpos) (vZ i ZF f):=cX (Oo he hN hv hd hcd hbase hfew hline hs) (xj RS)
def aBM(he:OY X e f)(hN:X.N[i]?=aa x:=by rfl)(hv:AX X.env.scope x:=by walk_at "1")(hd:Zu x:=by decide)(hcd:Zt x:=by decide)
  (hbase:attributeBase (.Name x p) "extend" X.env (eval (.Name x p) X.env)=eval (.Name x p) X.env:=by rfl)
  (hfew:Zq X cpos e:=by rfl)
  (hline:Q0k apos cpos:=by rfl) (hs:Zs X e []:=by rfl):
  OY X (.Call (.Attribute (.Name x p) "extend" apos) [e] [] cpos) (vZ i PU f):=cX (aBC he hN hv hd hcd hbase hfew hline hs) (xj RT)
end
def gR:nQ X [] d7:=Bn P_ λ_ _ w=>w
theorem Wm(E:DE)(ρ:bU)(w:wS (aM f g) E ρ):xh (wS f) (wS g) E ρ:=by
 unfold wS aM at w;unfold xh wS
 cases h:f ρ with
 |nx ρ'=>rw[h] at w;show w
 |rt d=>rw[h] at w;show w
 |no=>rw[h] at w;show w
 |ex c=>rw[h] at w;show w
def aX{st:bx}{Θ:List bx}{f g:SF}(h1:qB X st f)(h2:nQ X Θ g):nQ X (st::Θ) (aM f g):=Bn (Py h1 h2) Wm
def aN{st:bx}{f:SF}(h1:qB X st f):nQ X [st] f:=Xd h1
def aEa{st:bx}:qB X st (λ_=>.no):=λπ s σ H D I Wl=>by obtain⟨_,_,_,_,_,_,_,_,ht,_⟩:=Wl;show ht.elim
theorem cH(h:bY X e f):qB X (.Return (aa e) ν) (bL f):=cS (Pu h) λE ρ w=>by
 unfold wS bL at w
 cases h:f (bR ρ) with
 |none=>rw[h] at w;show w.elim
 |some d=>rw[h] at w;show⟨d,h,w⟩
theorem gI(hc:A1 X c t)(ha:nQ X a f)(hb:nQ X b g):qB X (.If c a b ν) (iO t f g):=cS (Pp hc ha hb) λE ρ w=>by
 unfold wS iO at w
 cases h:t (bR ρ) with
 |none=>rw[h] at w;show w.elim
 |some c =>
  rw[h] at w;show⟨c,h,?_⟩
  cases c with
  |true=>rw[Z_ rfl];show w
  |false=>rw[Zz bp];show w
section
variable{i:Nat}{x:aj}{e:aw}{f:EF}{ν pos':bf}
theorem cU(hN:X.N.Nodup)(he:bY X e f)(hi:X.N[i]?=aa x:=by rfl)(hx:Loc X.env.scope x:=by walk_at "0")(hs:Si X e x pos' ν:=by rfl)(hf:Zr X x:=by walk_at "0"):
  qB X (.Assign [.Name x pos'] e ν) (bG i f):=cS (Pm hN he hi hx hs hf) λE ρ w=>by
 unfold wS bG at w
 cases h:f (jL ρ) with
 |none=>rw[h] at w;show w.elim
 |some d=>rw[h] at w;show⟨d,h,w⟩
theorem FH(hN:X.N.Nodup)(he:jB X e f)(hi:X.N[i]?=aa x:=by rfl)(hx:Loc X.env.scope x:=by walk_at "0")(hs:Si X e x pos' ν:=by rfl)(hf:Zr X x:=by walk_at "0"):
  qB X (.Assign [.Name x pos'] e ν) (lQ i f):=cS (Pk hN he hi hx hs hf) λE ρ w=>by
 unfold wS lQ at w
 cases h:f (jL ρ) with
 |none=>rw[h] at w;show w.elim
 |some d=>rw[h] at w;show⟨d,h,w⟩
theorem Wk(hN:X.N.Nodup)(he:jB X e f)(hi:X.N[i]?=aa x:=by rfl)(hx:Loc X.env.scope x:=by walk_at "0")(hs:Si X e x pos' ν:=by rfl)(hf:Zr X x:=by walk_at "0"):
  qB X (.Assign [.Name x pos'] e ν) (nK i f):=cS (V_ hN he hi hx hs hf) λE ρ w=>by
 unfold wS nK at w
 cases h:f (bR ρ) with
 |none=>rw[h] at w;show w.elim
 |some d =>
  rw[h] at w;dsimp only at w;by_cases hl:qC d=af
  .rw [Z_ hl] at w;show⟨d,h,?_,w⟩;cases d<;>first|show hl|cases hl
  .rw [Zz hl] at w;show w.elim
theorem Wj{f:XF}(hN:X.N.Nodup)(he:OY X e f)(hi:X.N[i]?=aa x:=by rfl)(hx:Loc X.env.scope x:=by walk_at "0")(hs:Si X e x pos' ν:=by rfl)(hf:Zr X x:=by walk_at "0"):
  qB X (.Assign [.Name x pos'] e ν) (vH i f):=cS (Xa hN he hi hx hs hf) λE ρ w=>by
 unfold wS vH at w
 cases h:f ρ with
 |none=>rw[h] at w;show w.elim
 |some d=>rw[h] at w;show⟨d,h,w⟩
def X5(hN:X.N.Nodup)(hi:X.N[i]?=aa x:=by rfl)(hx:Loc X.env.scope x:=by walk_at "0")(hs:dq (.Dict [] [] p) (aa (.Name x pos')) ν.line X.env=pure ag:=by rfl)(hf:Zr X x:=by walk_at "0"):
  qB X (.Assign [.Name x pos'] (.Dict [] [] p) ν) (GD i):=cS (XQ hN hi hx hs hf) λE ρ w=>w
end
theorem vW(he:OY X e f)(hs:dq e ae ν.line X.env=pure ag:=by rfl):qB X (.Expr e ν) (sX f):=cS (Wz he hs) λE ρ w=>by
 unfold wS sX at w
 cases h:f ρ with
 |none=>rw[h] at w;show w.elim
 |some d=>rw[h] at w;show⟨d,h,w⟩
theorem wy(he:OY X e f)(hk:bY X k fk)
  (hN:X.N[i]?=aa x:=by rfl) (hv:AX X.env.scope x:=by walk_at "1") (hd:Zu x:=by decide) (hcd:Zt x:=by decide)
  (ha:∀v,assign (.Subscript (.Name x p) k pos') X.env v=(do
   let ov <- holding [v] (eval (.Name x p) X.env)
   let iv <- holding [v,ov] (eval k X.env)
   standAt pos'
   holding [v,ov,iv] (setItem ov iv v)
   release [v,ov,iv] []):=by intro _;rfl)
  (hs:swapsWithSole [.Subscript (.Name x p) k pos'] e ν.line X.env=pure ag:=by rfl) (hw:swappedStores [.Subscript (.Name x p) k pos'] e X.env=pure ae:=by rfl)
  (h1:(dg [.Subscript (.Name x p) k pos'] X.env).map (·.2)=[assign (.Subscript (.Name x p) k pos') X.env]:=by rfl):
  qB X (.Assign [.Subscript (.Name x p) k pos'] e ν) (qD i f fk):=cS (put3 he hk hN hv hd hcd ha hs hw h1) λE ρ w=>by
 unfold wS qD at w
 cases h:((f ρ).bind λp=>(pU p.1[i]?).bind λds=>(fk (bR p.1)).bind λkd=>(asInt kd).bind λkk=>(M1 ds.length kk).map λj=>p.1.set i (.ow (.lst (ds.set j p.2)))) with
 |none=>rw[h] at w;show w.elim
 |some ρ' =>
  rw[h] at w;obtain⟨q,eq,h⟩:=bnd h;obtain⟨ds,ed,h⟩:=bnd h;obtain⟨kd,ek,h⟩:=bnd h;obtain⟨kk,e2,h⟩:=bnd h;obtain⟨j,ej,rfl⟩:=wM h;have o:=LR ed;show⟨q,eq,by unfold xa;rw[o];trivial,kd,ek,?_⟩;cases kd<;>first|cases e2;done|skip
  cases e2;have ej:QX ds.length kk=aa j:=ej
  show(match q.1[i]?,D.int kk with
   |some (.ow (.lst ds)),.int k=>(match QX ds.length k with|some j=>E.nx (q.1.set i (.ow (.lst (ds.set j q.2))))|none=>False)
   |_,_=>False)
  rw[o];dsimp only;rw[ej];show w
def RU(h:x9 o=aa p):o=aa (.ow (.kZ p.1 p.2)):=by
 unfold x9 at h;split at h
 .cases h;rfl
 .cases h
theorem Wi(hu:X.A.units+1<cz)(he:OY X e f)(hk:bY X k fk)
  (hN:X.N[i]?=aa x:=by rfl) (hv:AX X.env.scope x:=by walk_at "1") (hd:Zu x:=by decide) (hcd:Zt x:=by decide)
  (hs:dq e (aa (.Subscript (.Name x p) k pos')) ν.line X.env=pure ag:=by rfl):
  qB X (.Assign [.Subscript (.Name x p) k pos'] e ν) (M5 i f fk):=cS (Wa hu he hk hN hv hd hcd hs) λE ρ w=>by
 unfold wS M5 at w;cases h:((f ρ).bind λp=>(x9 p.1[i]?).bind λkd=>(fk (bR p.1)).bind λkv=>(x5 kv).bind λkk =>
  if(k7 kd.1 kd.2 kk).isNone=af/\kd.2.length<nU then aa (p.1.set i (.ow (.kZ (kd.1++[kk]) (kd.2++[p.2])))) else ae) with
 |none=>rw[h] at w;show w.elim
 |some ρ' =>
  rw[h] at w;obtain⟨q,eq,h⟩:=bnd h;obtain⟨kd,ed,h⟩:=bnd h;obtain⟨kv,ek,h⟩:=bnd h;obtain⟨kk,e2,h⟩:=bnd h;have o:=RU ed;by_cases hc:(k7 kd.1 kd.2 kk).isNone=af/\kd.2.length<nU
  .rw [Z_ hc] at h;cases h;show⟨q,eq,by rw[o];trivial,kv,ek,?_⟩;have e3:HY kv=aa kk:=by cases kv<;>first|show e2|cases e2
   show(match q.1[i]?,HY kv with
    |some (.ow (.kZ ks ds)),aa k=>(lC ks ds k=ae/\ds.length<bb)/\E.nx (q.1.set i (.ow (.kZ (ks++[k]) (ds++[q.2]))))
    |_,_=>False)
   rw[o,e3];show⟨⟨?_,by rw[fm];show hc.2⟩,w⟩;have:=hc.1
   cases hl:k7 kd.1 kd.2 kk with
   |none=>show hl
   |some d=>rw[hl] at this;cases this
  .rw [Zz hc] at h;cases h
def Bo(h:PG3 X tg g)(c:∀d ρ Q,g' d ρ Q->g d ρ Q):PG3 X tg g':=RB h λ_ _ _ _ Wh=>by obtain⟨H₀,S,w,ρ,G,d,Q3,hl,st,dn,hg,k⟩:=Wh;show⟨H₀,S,w,ρ,G,d,Q3,hl,st,dn,c d ρ Q3 hg,k⟩
def lD(hN:X.N.Nodup)(hi:X.N[i]?=aa x:=by rfl)(hx:Loc X.env.scope x:=by walk_at "0")(hf:Zr X x:=by walk_at "0"):PG3 X (.Name x ν) (wG (qE i)) :=
 Bo (Wv hN hi hx hf) λd ρ Q Wg=>by obtain⟨ρ',e,q⟩:=Wg;cases e;show q
def CY(hc:X.calm=af)(hN:X.N.Nodup)(hi:X.N[i]?=aa x:=by rfl)(hj:X.N[j]?=aa y:=by rfl)(hx:Loc X.env.scope x:=by walk_at "0")(hy:Loc X.env.scope y:=by walk_at "0")
  (hf:Zr X x:=by walk_at "0") (hf2:Zr X y:=by walk_at "0")
  (hn:Q0j X x y px py:=by rfl) (hst:Q0i X x y px py:=by rfl)
  (hs1:gV X x y px py:=by rfl) (hs2:Q0h X y py:=by rfl):
  PG3 X (.Tuple [.Name x px,.Name y py] k ν) (wG (JQ i j)):=Bo (Wu hc hN hi hj hx hy hf hf2 hn hst hs1 hs2) λd ρ Q Wf=>by
 obtain⟨ρ',e,q⟩:=Wf;obtain⟨p,ep,rfl⟩:=wM e;rw[O1 ep];show q
theorem nR(hc:X.calm=af)(hp:qr (av X.Ω X.w) X.A X.env X.xe)(hi:PI4 X tg iter it)(hg:PG3 X tg (wG g))(hb:nQ X body b)
  (hs:Zp X iter:=by intro _;rfl):qB X (.For tg iter body [] ν) (fQ it g b):=cS (Od hc hp hi hg hb hs) λE ρ w=>by
 unfold wS fQ at w
 cases h:it (jL ρ) with
 |none=>rw[h] at w;show w.elim
 |some ds =>
  rw[h] at w;show⟨ds,h,λi ρ'=>wS (gA g b (ds.drop i)) E ρ',(by show wS (gA g b (ds.drop 0)) E ρ;rw[nz];show w),λi d ρ' hd iv=>?_,λρ' iv=>?_⟩
  .have hi:i<ds.length:=(cb.mp hd).1;have e1:ds[i]=d:=(cb.mp hd).2;have iv:wS (gA g b (ds.drop i)) E ρ':=iv;rw[r_ hi,e1] at iv;unfold wS gA at iv
   cases hg:g d ρ' with
   |none=>rw[hg] at iv;show iv.elim
   |some ρ1 =>
    rw[hg] at iv;dsimp only at iv;show⟨ρ1,hg,?_⟩;unfold wS
    cases hb:b ρ1 with
    |nx ρ2=>rw[hb] at iv;dsimp only;rw[hb];show iv
    |rt d=>rw[hb] at iv;dsimp only;rw[hb];show iv
    |no=>rw[hb] at iv;dsimp only;rw[hb];show iv
    |ex c=>rw[hb] at iv;dsimp only;rw[hb];show iv
  .have iv:wS (gA g b (ds.drop ds.length)) E ρ':=iv;rw[Ik] at iv;show iv
theorem aEc(hp:qr (av X.Ω X.w) X.A X.env X.xe)(hc:A1 X c t)(hb:nQ X body b):qB X (.While c body [] ν) (TU n t b):=cS (aEY hp hc hb) λE ρ w=>by
 have least:∀{p:Nat->Prop},(∃n,p n) ->∃n,p n /\∀m,p m->n<=m:=λ{p} ⟨n,hn⟩=>by
  induction n using Nat.strongRecOn with
  |ind n ih =>
   by_cases h:∃m,m<n/\p m
   .obtain ⟨m,hm,pm⟩:=h;show ih m hm pm
   .exact ⟨n,hn,λm pm=>by apply mi;intro z;show h ⟨m,by lia,pm⟩⟩
 show⟨λρ'=>∃m,wS (fJ t b m) E ρ',λρ'=>(a2w λm=>wS (fJ t b m) E ρ' /\∀k,wS (fJ t b k) E ρ'->m<=k),⟨n,w⟩,λρ' iv=>?_⟩;obtain⟨m0,hm0⟩:=least iv;have hm:=a2v (p:=λm=>wS (fJ t b m) E ρ' /\∀k,wS (fJ t b k) E ρ'->m<=k) ⟨m0,hm0⟩;dsimp only;generalize (a2w λm=>wS (fJ t b m) E ρ' /\∀k,wS (fJ t b k) E ρ'->m<=k)=m at hm ⊢
 cases m with
 |zero=>show hm.1.elim
 |succ m =>
  have h1:=hm.1;unfold wS fJ at h1
  cases ht:t (bR ρ') with
  |none=>rw[ht] at h1;show h1.elim
  |some c =>
   rw[ht] at h1;show⟨c,ht,?_⟩
   cases c with
   |false=>rw[Zz bp];show h1
   |true =>
    rw[Z_ rfl];dsimp only at h1;unfold wS
    cases hb:b ρ' with
    |nx ρ2 =>
     rw[hb] at h1;have h2:wS (fJ t b m) E ρ2:=h1;show⟨⟨m,h2⟩,?_⟩;obtain⟨k0,hk0⟩:=least (p:=λm=>wS (fJ t b m) E ρ2) ⟨m,h2⟩;have hk:=a2v (p:=λm=>wS (fJ t b m) E ρ2 /\∀k,wS (fJ t b k) E ρ2->m<=k) ⟨k0,hk0⟩;show Nat.lt_succ_of_le (hk.2 m h2)
    |rt d=>rw[hb] at h1;show h1
    |no=>rw[hb] at h1;show h1
    |ex c=>rw[hb] at h1;show h1
end
theorem Cc{P:bc}{w:ba}{K:ao}{mg:Q0d}{ω:ay}{x qual:aj}{st:bx}{f:ah}{fd:fv}{N ps:Q0g}{k n np:Nat}{b:SF}(F:Y9 K x qual st f fd)(S:gO N ps (bB st))(hn:N.length=n)(hp:ps.length=np)
  (hbody:∀(cdv:ai) (A:bq) (Γ:List dh) (s:ak) (H:Hp) (E:XK),fS k (A.deeper (envOfC qual (bB st) s.heap.objs.size f cdv)) ->
   nQ (m8 cC P w K mg ω N qual (bB st) f cdv A Γ s H E).OB (fL st) b):lG P w K mg ω cC (k+1) f fd ps (dB K (bZ n np b)):=by
 subst hn hp;show Ph F S (λds Q ⟨d,e,q⟩=>?_) λcdv A Γ s H E hr=>⟨_,hbody cdv A Γ s H E hr,λds Q ⟨d,e,q⟩=>?_⟩
 .unfold bZ at e;by_cases h:ds.length=ps.length
  .exact h
  .rw [Zz h] at e;cases e
 .unfold bZ at e;by_cases h:ds.length=ps.length
  .rw [Z_ h] at e;have e2:jO N ds=c9 N.length ds:=rfl;unfold wS;rw[e2]
   cases hb:b (c9 N.length ds) with
   |rt d'=>rw[hb] at e;cases e;show q
   |nx ρ=>rw[hb] at e;cases e;show q
   |no=>rw[hb] at e;cases e
   |ex c=>rw[hb] at e;cases e
  .rw [Zz h] at e;cases e
theorem nN{P:bc}{w:ba}{K:ao}{mg:Q0d}{ω:ay}{x:aj}{st:bx}{N ps:Q0g}{k n np:Nat}{b:SF}(D:Df K mg x st ps)
  (h:∀{f:ah} {cdv:ai} {A:bq} {Γ:List dh} {s:ak} {H:Hp} {E:XK},fS k (A.deeper (envOfC x (bB st) s.heap.objs.size f cdv))->N.Nodup->nQ (m8 cC P w K mg ω N x (bB st) f cdv A Γ s H E).OB (fL st) b)
  (S:gO N ps (bB st):=by show⟨rfl,rfl,rfl,by decide+kernel,rfl,by decide+kernel,by decide+kernel⟩) (hn:N.length=n:=by rfl) (hp:ps.length=np:=by rfl):Cl P w K mg ω cC (k+1) x ps (dB K (bZ n np b)):=by
 obtain⟨_,F,m,q⟩:=D;show⟨Cc F S hn hp λ_ _ _ _ _ _ hr=>h hr S.nd,m,F.kp,q⟩
def Vo{P:bc}{w:ba}{K:ao}{mg:Q0d}{ω:ay}{k:Nat}{f:ah}{fd:fv}{ps:Q0g}:lG P w K mg ω cC k f fd ps (dB K λ_=>.no) :=
 ⟨λ_ _ _ _ h=>(by obtain⟨_,_,_,_,_,⟨_,e,_⟩,_⟩:=h;cases e),λ_ _ _ _ _ _ _ _ _ _ _ _ _ h=>(by obtain⟨_,_,_,_,_,⟨_,e,_⟩,_⟩:=h;cases e)⟩
def nn4{P:bc}{w:ba}{K:ao}{mg:Q0d}{ω:ay}{k:Nat}{x:aj}{st:bx}{ps:Q0g}(D:Df K mg x st ps):Cl P w K mg ω cC k x ps (dB K λ_=>.no):=by obtain⟨_,F,m,q⟩:=D;show⟨Vo,m,F.kp,q⟩
section
variable{X:Cx}{π:Q0b}{σ:L2.St}{H:Hp}
theorem IH(I:Φ X π σ H s)(rx:Ψ x v)(e:x=.bl k\/(∃p xs,x=.ref p/\(eW X.K H p xs\/fF X.K H p xs)/\k=!xs.isEmpty))
  (q:∀tk,Q k {s with toks:=tk}):au (av X.Ω X.w) A (truthy v) Q E s:=by
 have hs:bb=16777216:=fm;rcases e with rfl|⟨p,xs,rfl,hx,rfl⟩
 .cases rx;show kb (q s.toks)
 .cases rx;rcases hx with hx|hx
  .obtain ⟨ι,r,pl,hz⟩:=I.list hx;have hlen:=r.length;show a0c pl.isList (by simp only[bt];lia) (by rw[m7 r];show q _)
  .obtain ⟨ι,r,pl,hz⟩:=I.tuple hx;have hlen:=r.length;show a1x pl (by simp only[bt];lia) (by rw[m7 r];show q _)
def TrV(K:ao)(H:Hp)(x:V)(k:Bool):Prop:=x=.bl k\/(∃p xs,x=.ref p/\(eW K H p xs\/fF K H p xs)/\k=!xs.isEmpty)
def RV(h:j<n):(bz n).drop j=j::(bz n).drop (j+1):=by
 have hl:j<(bz n).length:=by rw[nu];show h
 rw[r_ hl,List.getElem_range]
section
variable{it:ah}{fp wr:List ah}{n:Nat}{P:Nat->ai->Prop}{St:Nat->ay->Prop}{R:yx->ak->Prop}{tr:Nat->Bool}
theorem CZ(W:Walks X.Ω X.w X.A.in1 it fp wr n P St)(hf:∀b∈wr,qU X π H b)(ht:∀j v,P j v ->∃x,Ψ x v/\TrV X.K H x (tr j)):
  ∀(m j:Nat) (st:ak),m+j=n->Φ X π σ H st->St j st.heap->(∀st',Φ X π σ H st'->R (.ok (.ret (.bool (((bz n).drop j).all tr)))) st')->mx (av X.Ω X.w) X.A (.builtin "all.loop" ⟨[.ref it],[]⟩) R st
 |0,j,st,hj,I,hS,k=>by
  obtain rfl:j=n:=by lia
  show ly (a1m) ?_;rw[nc zm];show aq (W.done st _ _ hS λh2 t2 kp=>aq (mw (az ?_)));have:=k _ (XS (t':=t2) I kp hf)
  rwa [a2g (by simp)] at this
 |m+1,j,st,hj,I,hS,k=>by
  have hjn:j<n:=by lia
  show ly (a1m) ?_;rw[nc zm];show aq (W.item j st _ _ hjn hS λv h2 t2 pv Kk kp=>?_);have I2:Φ X π σ H {st with heap:=h2,toks:=t2}:=XS (t':=t2) I kp hf;obtain⟨x,rx,hx⟩:=ht j v pv;rw[RV hjn,oh] at k;show aq (iw (IH I2 rx hx λt3=>aq (ur ?_)));have I3:Φ X π σ H {st with heap:=h2,toks:=t3}:=I2.tok t3
  cases hb:tr j with
  |true =>
   rw[hb,vy] at k;rw[Z_ rfl];show az ⟨ql zm _,CZ W hf ht m (j+1) _ ∅ I3 Kk k⟩
  |false =>
   rw[hb,sr] at k;rw[Zz bp];show aq (mw (az (k _ I3)))
end
def Bv(f:List Bool->Bool)(K:ao):List V->Hp->VK->Prop:=λxs H Q=>∃a ys bs,xs=[.ref a]/\H a=aa (.lst ys)/\bs.length=ys.length/\(∀(j:Nat) (y:V) (b:Bool),ys[j]?=aa y->bs[j]?=aa b->TrV K H y b)/\Q (.bl (f bs)) H
def RW(hc:X.calm=af):gX X (.builtin "all") (Bv (λbs=>bs.all id) X.K):=by
 intro π s σ H xs us Q I r h;obtain⟨a,ys,bs,rfl,ha,hl,ht,q⟩:=h;obtain⟨u,rfl,ru⟩:=vals1 r;cases ru;obtain⟨ι,rv,p,hz⟩:=I.list (eW.of ha);have hlt:a<s.heap.objs.size:=by obtain⟨o,n,e,_⟩:=p;show bo e
 have hn:ι.length=ys.length:=rv.length.symm;have ht2:∀j v,ι.toArray[j]?=aa v ->∃x,Ψ x v/\TrV X.K H x (bs.getD j af):=λj v e=>by
  have e1:ι[j]?=aa v:=by simpa using e
  have hj:j<ys.length:=by have:=(cb.mp e1).1;lia
  obtain⟨u,e2,ru⟩:=rv.get (bw hj);rw[e1] at e2;cases e2;show⟨_,ru,ht j _ _ (bw hj) ?_⟩;rw[j7,bw ∅];rfl
 show call_function_tree (F.kind_all) F.plain_all F.entry_all (F.args_all1 _) ?_;unfold Builtin.«all»;show aq (m:=oneArg "all" _) (az (aq (Fo p.isList (az ⟨ql zm _,?_⟩))));have hfr:H s.heap.objs.size=ae:=I.hok.fresh (bg _);have I1:Φ X π σ H {s with heap:=s.heap.push {cls:=.type "list_iterator",data:=.fields #[.ref a,rawInt 0]} }:=I.kept (t':=s.toks) λb o e=>cn _ e;show CZ (X:=X) (π:=π) (σ:=σ) (H:=H) (tr:=λj=>bs.getD j af) (a0G (A:=X.A.in1) (show X.A.in1.handled=ae from I.ok.hd hc) s.heap.objs.size a (e_ hlt) ι.toArray) (λb hb=>?_) ht2 ι.toArray.size 0 _ rfl I1
  ⟨⟨_,dm _ rfl,rfl,rfl⟩,p.isList.at λo e=>cn _ e⟩ λst' I'=>?_
 .cases cc.mp hb;show I.EU (bg _) hfr
 .refine ⟨.bl _,H,I',rfl,?_⟩;rw[nz,show ι.toArray.size=bs.length by simp[hn,hl],range_all];show q
theorem Eo{K:ao}{S:ah->Prop}{H:Hp}:∀{es:List D} {ys:List V} {bs:List Bool},aW K S H es ys->tS es=aa bs->bs.length=ys.length /\∀(j:Nat) (y:V) (b:Bool),ys[j]?=aa y->bs[j]?=aa b->TrV K H y b
 |[],ys,bs,dn,h=>by simp only[aW] at dn;subst dn;cases h;show⟨rfl,λj y b e=>by simp at e⟩
 |d::es,ys,bs,dn,h=>by
  obtain⟨v,r,rfl,h1,h2⟩:=dn.bO;obtain⟨b,eb,h⟩:=bnd h;obtain⟨bs',e2,rfl⟩:=wM h;obtain⟨hl,ih⟩:=Eo h2 e2;show⟨by simp[hl],λj y c ey ec=>?_⟩
  cases j with
  |zero =>
   simp at ey ec;subst ey ec;cases d<;>first|cases eb;done|skip
   .cases eb;symm at h1;show .inl h1
   .cases eb;symm at h1;obtain⟨a,xs,rfl,ha,da⟩:=h1;show .inr ⟨a,xs,rfl,.inr (fF.of ha),by rw[<- da.empty]⟩
   .cases eb;symm at h1;obtain⟨a,xs,rfl,ha,_,da⟩:=h1;show .inr ⟨a,xs,rfl,.inl (eW.of ha),by rw[<- da.empty]⟩
  |succ j=>show ih j y c (by simpa using ey) (by simpa using ec)
def trF(f:List Bool->Bool):F1
 |[.lst es],Q=>∃bs,tS es=aa bs/\Q (.bl (f bs))
 |_,_=>False
theorem aEd{K:ao}{f:List Bool->Bool}:C3 K (Bv f K) (trF f):=by
 intro S H xs ds Q3 Q fc hd hf k
 match ds,hf with
 |[.lst es],⟨bs,eb,q⟩ =>
  obtain⟨v,r,rfl,h1,h2⟩:=hd.bO;simp only[aW] at h2;subst h2;symm at h1;obtain⟨a,ys,rfl,ha,sa,da⟩:=h1;obtain⟨hl,ht⟩:=Eo da eb;show⟨a,ys,bs,rfl,ha,hl,ht,k _ H _ (ξ.refl H) (by symm) q⟩
def LS{p ν:bf}{e:aw}{t:AF}(hc:X.calm=af)(hm:X.mg "all"=ae)(ha:wL X [e] t)(hg:Gl X "all":=by rfl)(he:Zs X e []:=by rfl):bY X (.Call (.Name "all" p) [e] [] ν) (cZ allM t) :=
 cE (uM (RW hc) aEd a3C hg hm ha (by decide) (by decide) he (by rfl)) (BD λds d Q e q=>by
  unfold allM at e;split at e
  .obtain ⟨bs,eb,rfl⟩:=wM e;show⟨bs,eb,q⟩
  .cases e)
end
end L4
namespace L3
open PySem.Spec PyProof.Rows L2
noncomputable def aP3(t:WA):WI:=λρ Q=>t ρ λds=>match ds with
 |[.lst ds]=>Q ds.reverse
 |[.tup ds]=>Q ds.reverse
 |_=>False
section
variable{Ω:bc}{w:ba}{A:bq}{E:Q0c}{s:ak}
theorem II{Q:List ai->ak->Prop}{r:ah}{a b c:Int}{t u v:gk}{n:Nat}(hh:A.handled=ae)(hr:IsRange s.heap r a b c t u v)(hsmall:a3q a b c=af)(hn:zr a b c=n)
  (hlen:n<=2^24) (hQ:∀h' tk ψ,s.heap.objs.size<=h'.objs.size->(∀b o,s.heap.get? b=aa o->h'.get? b=aa o)->ItemsOf (λi v=>∃t,v=.int (a+i*c) t) ψ n->Q ψ.toList {s with heap:=h',toks:=tk}):au (av Ω w) A (collect (.ref r)) Q E s:=by
 unfold collect;apply aq;apply a0i;show ly a1k ?_;rw[nc a1h]
 wp_walk
 show⟨ql zk _,ly a1l ?_⟩;rw[nc zk];show wpAny_extend_range (R:=wants _ _) (s:={s with heap:=s.heap.push {cls:=.type "list",data:=.seq #[]} }) hh (cn _ hr) hsmall hn hlen s.heap.objs.size (.ref s.heap.objs.size) _ (dm _ rfl) λh' tk acc' c' hk hS' hacc=>?_;apply aq;apply Fs hS';show az (hQ h' tk acc' (kq (bo hS')) (λb o e=>hk b o (e_ (bo e)) (cn _ e)) hacc)
end
end L3
namespace L4
open PySem.Spec PyProof.Rows L2 L3
section
variable{X:Cx}{tg:aw}
noncomputable def E8:F1
 |[.int i],Q=>Q (.int i)
 |[.bl b],Q=>Q (.int (if b=af then 1 else 0))
 |_,_=>False
theorem aEe{K:ao}:C3 K (λxs H Q=>(∃i,xs=[.int i]/\Q (.int i) H) \/∃k,xs=[.bl k]/\Q (.int (if k then 1 else 0)) H) E8:=by
 intro S H xs ds Q3 Q fc hd hf k
 match ds,hf with
 |[.int i],hf =>
  obtain⟨v,r,rfl,h1,h2⟩:=hd.bO;simp only[aW] at h2;subst h2;symm at h1;subst h1;show .inl ⟨i,rfl,k _ H _ (ξ.refl H) (by symm) hf⟩
 |[.bl b],hf =>
  obtain⟨v,r,rfl,h1,h2⟩:=hd.bO;simp only[aW] at h2;subst h2;symm at h1;subst h1;show .inr ⟨b,rfl,k _ H _ (ξ.refl H) (by symm) hf⟩
theorem IJ:lK E8 DJ:=λds d Q e q=>by
 cases ds with
 |nil=>cases e
 |cons a ds =>
  cases a<;>first|(cases e;done)|skip
  all_goals (cases ds<;>first|(cases e;show q)|(cases e;done))
def K_(hc:X.calm=af)(hm:X.mg "int"=ae)(ha:wL X [e] t)(hg:Gl X "int":=by rfl)(he:Zs X e []:=by rfl):bY X (.Call (.Name "int" p) [e] [] ν) (cZ DJ t):=cE (OV QT aEe ve hg hm ha (by decide) (by decide) he (by rfl)) (BD IJ)
end
open PySem.W
noncomputable def told(lt:Nat->Nat->Bool){α:Type}:pf α->α
 |.ret a=>a
 |.ask i j k=>told lt (k (lt i j))
theorem kC{α β:Type}(f:α->pf β):∀t:pf α,told lt (t.bind f)=told lt (f (told lt t))
 |.ret _=>rfl
 |.ask i j k=>kC f (k (lt i j))
section
variable{lt:Nat->Nat->Bool}
def Up(lt:Nat->Nat->Bool)(p:Array Nat)(k:Nat):Prop:=∀i j,i<j->j<k->lt (p.getD j 0) (p.getD i 0)=ag
def TL(lt:Nat->Nat->Bool)(p:Array Nat)(k:Nat):Prop:=∀i j,i<j->j<k->lt (p.getD i 0) (p.getD j 0)=ag
structure oN (lt:Nat->Nat->Bool):Prop where
 as:∀a b,lt a b=af->lt b a=ag
 tr:∀a b c,lt b a=ag->lt c b=ag->lt c a=ag
theorem oN.ZK(O:oN lt)(x:Nat):lt x x=ag:=by
 cases hb:lt x x with
 |false=>rfl
 |true=>have:=O.as _ _ hb;rw[hb] at this;show this
def iJ{p:Array Nat}{i:Nat}:p.getD i 0=(p[i]?).getD 0:=by rw[Array.getD_eq_getD_getElem?]
def jC{p:Array Nat}{i j:Nat}(hj:j<=p.size)(k:Nat):(iz p i j).getD k 0=if i<=k/\k<j then p.getD (i+j-1-k) 0 else p.getD k 0:=by unfold iz;rw[iJ,getElem?_mirror_all hj];split<;>rw[iJ]
def z9(p:Array Nat)(i j:Nat):(iz p i j).size=p.size:=mirror_size _ _ _ _
def iK(p:Array Nat)(i j:Nat):(iz p i j).Perm p:=mirror_perm _ _ _ _
theorem LU(O:oN lt)(p:Array Nat):∀f n,1<=n->Up lt p n->n<=told lt (jd p f n)/\told lt (jd p f n)<=n+f/\Up lt p (told lt (jd p f n))/\(told lt (jd p f n)<n+f->lt (p.getD (told lt (jd p f n)) 0) (p.getD (told lt (jd p f n)-1) 0)=af)
 |0,n,h1,hu=>⟨bg _,bg _,hu,λh=>Zw h (jb _)⟩
 |f+1,n,h1,hu=>by
  show n<=told lt (if lt (p.getD n 0) (p.getD (n-1) 0)=af then mz n else jd p f (n+1))/\told lt (if lt (p.getD n 0) (p.getD (n-1) 0)=af then mz n else jd p f (n+1))<=n+(f+1)/\Up lt p (told lt (if lt (p.getD n 0) (p.getD (n-1) 0)=af then mz n else jd p f (n+1)))/\(told lt (if lt (p.getD n 0) (p.getD (n-1) 0)=af then mz n else jd p f (n+1))<n+(f+1)->lt (p.getD (told lt (if lt (p.getD n 0) (p.getD (n-1) 0)=af then mz n else jd p f (n+1))) 0) (p.getD (told lt (if lt (p.getD n 0) (p.getD (n-1) 0)=af then mz n else jd p f (n+1))-1) 0)=af)
  cases hc:lt (p.getD n 0) (p.getD (n-1) 0) with
  |true=>show⟨bg _,by show n<=n+(f+1);lia,hu,λ_=>hc⟩
  |false =>
   rw[Zz bp];have hu2:Up lt p (n+1):=λi j hij hj=>by
    by_cases hj2:j<n
    .exact hu i j hij hj2
    .have:j=n:=by lia
     subst this;by_cases hi:i=j-1
     .subst hi;show hc
     .exact O.tr _ _ _ (hu i (j-1) ∅ ∅) hc
   obtain⟨a,b,c,d⟩:=LU O p f (n+1) ∅ hu2;show⟨by lia,by lia,c,λh=>d ∅⟩
def aEf(hn:n<=p.size)(h:TL lt p n):Up lt (iz p 0 n) n:=λi j hij hj=>by rw[jC hn,jC hn,Z_ ⟨by lia,hj⟩,Z_ ⟨by lia,by lia⟩];show h _ _ ∅ ∅
def Last(lt:Nat->Nat->Bool)(p:Array Nat)(n q:Nat):Prop:=q+1<=n /\∀i j,n-(q+1)<=i->i<n->n-(q+1)<=j->j<n->lt (p.getD i 0) (p.getD j 0)=ag
def rev_last(hn:n<=p.size)(h:TL lt p n)(l:Last lt p n q):TL lt (iz p (n-(q+1)) n) n:=λi j hij hj=>by
 have:=l.1;rw[jC hn,jC hn];by_cases h1:n-(q+1)<=i
 .rw [Z_ ⟨h1,by lia⟩,Z_ ⟨by lia,hj⟩];show l.2 _ _ ∅ ∅ ∅ ∅
 .rw [Zz ∅];by_cases h2:n-(q+1)<=j
  .rw [Z_ ⟨h2,hj⟩];show h _ _ ∅ ∅
  .rw [Zz ∅];show h i j hij hj
def l7(O:oN lt)(h1:1<=n)(h:TL lt p n)(hc:lt (p.getD (n-1) 0) (p.getD n 0)=ag):TL lt p (n+1):=λi j hij hj=>by
 by_cases hj2:j<n
 .exact h i j hij hj2
 .have:j=n:=by lia
  subst this;by_cases hi:i=j-1
  .subst hi;show hc
  .exact O.tr _ _ _ hc (h i (j-1) ∅ ∅)
def X6(hn:n<p.size):(iz p (n-(q+1)) n).getD n 0=p.getD n 0:=by rw[jC (kq hn),Zz ∅]
theorem jY(O:oN lt):∀f (p:Array Nat) n q,1<=n->n+f<=p.size->TL lt p n->Last lt p n q ->∀r,r=told lt (o_ f p n q)->r.1.Perm p/\r.2.1<=n+f/\n<=r.2.1/\TL lt r.1 r.2.1/\Last lt r.1 r.2.1 r.2.2
 |0,p,n,q,_,_,h,l,r,er=>by subst er;show⟨sy _,bg _,bg _,h,l⟩
 |f+1,p,n,q,h1,hs,h,l,r,er=>by
  have er:r=told lt (if lt (p.getD n 0) (p.getD (n-1) 0)=af then(if q>0 then o_ f (iz p (n-(q+1)) n) (n+1) 0 else o_ f p (n+1) 0) else .ask (p.getD (n-1) 0) (p.getD n 0) λd=>if d=af then .ret (p,n,q) else o_ f p (n+1) (q+1)):=er;have one:∀p:Array Nat,Last lt p (n+1) 0:=λp=>⟨by lia,λi j a b c d=>by
   have e1:i=n:=by lia
   have e2:j=n:=by lia
   rw[e1,e2];show O.ZK _⟩
  cases hc:lt (p.getD n 0) (p.getD (n-1) 0) with
  |true =>
   rw[hc,Z_ rfl] at er;have hc2:=O.as _ _ hc;by_cases hq:q>0
   .rw [Z_ hq] at er;have d1:=rev_last ∅ h l;have lq:=l.1;have d2:TL lt (iz p (n-(q+1)) n) (n+1):=by show l7 O h1 d1 ?_;rw[X6 ∅,jC ∅,Z_ ⟨by lia,by lia⟩];show O.tr _ (p.getD (n-1) 0) _ hc2 (l.2 _ _ ∅ ∅ ∅ ∅)
    obtain⟨a,b,c,d,e⟩:=jY O f (iz p (n-(q+1)) n) (n+1) 0 ∅ (by rw[z9];lia) d2 (one _) r er;show⟨a.trans (iK _ _ _),by lia,by lia,d,e⟩
   .rw [Zz hq] at er;obtain⟨a,b,c,d,e⟩:=jY O f p (n+1) 0 ∅ ∅ (l7 O h1 h hc2) (one _) r er;show⟨a,by lia,by lia,d,e⟩
  |false =>
   rw[hc,Zz bp] at er;have er:r=told lt (if lt (p.getD (n-1) 0) (p.getD n 0)=af then mz (p,n,q) else o_ f p (n+1) (q+1)):=er
   cases hd:lt (p.getD (n-1) 0) (p.getD n 0) with
   |true =>
    rw[hd,Z_ rfl] at er;subst er;show⟨sy _,by show n<=n+(f+1);lia,bg _,h,l⟩
   |false =>
    rw[hd,Zz bp] at er;have lq:=l.1;have l2:Last lt p (n+1) (q+1):=⟨by lia,λi j a b c d=>by
     by_cases hi:i<n
     .by_cases hj:j<n
      .exact l.2 i j ∅ hi ∅ hj
      .have:j=n:=by lia
       subst this;show O.tr _ (p.getD (j-1) 0) _ hd (l.2 i (j-1) ∅ hi ∅ ∅)
     .have:i=n:=by lia
      subst this;by_cases hj:j<i
      .exact O.tr _ (p.getD (i-1) 0) _ (l.2 (i-1) j ∅ ∅ ∅ hj) hc
      .have:j=i:=by lia
       subst this;show(one p).2 j j ∅ ∅ ∅ ∅⟩
    obtain⟨a,b,c,d,e⟩:=jY O f p (n+1) (q+1) ∅ ∅ (l7 O h1 h hd) l2 r er;show⟨a,by lia,by lia,d,e⟩
def C4{p q:Array Nat}(h:p.Perm q):p.size=q.size:=h.size_eq
def O2(O:oN lt)(h1:1<=n)(hn:n<=nrem)(hs:nrem<=p.size)(h:TL lt p n)(r:Nat×Array Nat)(er:r=told lt (Gp n nrem p)):r.2.Perm p/\1<=r.1/\r.1<=nrem/\Up lt r.2 r.1:=by unfold Gp at er;rw[kC] at er;obtain⟨a,b,c,_⟩:=LU O (iz p 0 n) (nrem-n) n h1 (aEf ∅ h);subst er;show⟨iK _ _ _,gx h1 a,(by show told lt _<=nrem;lia),c⟩
def vX(O:oN lt){n nrem:Nat}{p:Array Nat}(h1:1<=n)(hn:n+1<=nrem)(hs:nrem<=p.size)(h:TL lt p (n+1))(r:Nat×Array Nat)(er:r=told lt (yq n nrem p)):r.2.Perm p/\1<=r.1/\r.1<=nrem/\Up lt r.2 r.1:=by
 unfold yq at er;rw[kC] at er;have one:Last lt p (n+1) 0:=⟨by lia,λi j a b c d=>by
  have e1:i=n:=by lia
  have e2:j=n:=by lia
  rw[e1,e2];show O.ZK _⟩
 obtain⟨a,b,c,d,e⟩:=jY O (nrem-(n+1)) p (n+1) 0 ∅ ∅ h one _ rfl;generalize told lt (o_ (nrem-(n+1)) p (n+1) 0)=z at a b c d e er;have hz:=C4 a;by_cases hq:z.2.2>0
 .rw [Z_ hq] at er;obtain⟨a2,b2,c2,d2⟩:=O2 O (n:=z.2.1) (nrem:=nrem) (p:=iz z.1 (z.2.1-(z.2.2+1)) z.2.1) ∅ ∅ (by rw[z9];lia) (rev_last ∅ d e) r er;show⟨a2.trans ((iK _ _ _).trans a),b2,c2,d2⟩
 .rw [Zz hq] at er;obtain⟨a2,b2,c2,d2⟩:=O2 O (n:=z.2.1) (nrem:=nrem) (p:=z.1) ∅ ∅ ∅ d r er;show⟨a2.trans a,b2,c2,d2⟩
def X7(O:oN lt)(h1:1<=n)(hs:n<=p.size)(r:Nat×Array Nat)(er:r=told lt (yr n p)):r.2.Perm p/\1<=r.1/\r.1<=n/\Up lt r.2 r.1:=by
 unfold yr at er;rw[kC] at er;obtain⟨a,b,c,d⟩:=LU O p (n-1) 1 (bg _) (λi j hij hj=>by lia);generalize told lt (jd p (n-1) 1)=m at a b c d er;by_cases hm:(m == n)=af
 .rw [Z_ hm] at er;subst er;show⟨sy _,a,by show m<=n;lia,c⟩
 .rw [Zz hm] at er;have hm:m≠n:=λe=>hm (by rw[e];simp);have hlt:=d ∅;by_cases h2:m>1
  .rw [Z_ h2] at er;have er:r=told lt (if lt (p.getD 0 0) (p.getD (m-1) 0)=af then mz (m,p) else yq m n (iz p 0 m)):=er
   cases hc:lt (p.getD 0 0) (p.getD (m-1) 0) with
   |true =>
    rw[hc,Z_ rfl] at er;subst er;show⟨sy _,a,by show m<=n;lia,c⟩
   |false =>
    rw[hc,Zz bp] at er;have all:∀i j,i<m->j<m->lt (p.getD i 0) (p.getD j 0)=ag:=λi j hi hj=>by
     have i0:∀i,i<m->lt (p.getD 0 0) (p.getD i 0)=ag:=λi hi=>by
      by_cases he:i=m-1
      .subst he;show hc
      .exact O.tr _ _ _ (c i (m-1) ∅ ∅) hc
     have ZK:∀x,lt x x=ag:=λx=>by
      cases hb:lt x x with
      |false=>rfl
      |true=>have:=O.as _ _ hb;rw[hb] at this;show this
     have z0:lt (p.getD i 0) (p.getD 0 0)=ag:=by
      by_cases hi0:i=0
      .subst hi0;show ZK _
      ·-- a later one is not less than the first one
       show c 0 i ∅ hi
     show O.tr _ _ _ (i0 j hj) z0
    have dn:TL lt (iz p 0 m) (m+1):=by
     show l7 O a (λi j hij hj=>?_) ?_
     .rw [jC ∅,jC ∅,Z_ ⟨by lia,by lia⟩,Z_ ⟨by lia,by lia⟩];show all _ _ ∅ ∅
     .rw [jC ∅,jC ∅,Z_ ⟨by lia,by lia⟩,Zz ∅];show O.tr _ (p.getD (m-1) 0) _ (O.as _ _ hlt) (all _ _ ∅ ∅)
    obtain⟨a2,b2,c2,d2⟩:=vX O a ∅ (by rw[z9];show hs) dn r er;show⟨a2.trans (iK _ _ _),b2,c2,d2⟩
  .rw [Zz h2] at er;have:m=1:=by lia
   subst this;have dn:TL lt p (1+1):=l7 O (bg _) (λi j hij hj=>by lia) (O.as _ _ hlt);show vX O (bg _) ∅ hs dn r er
theorem AA(O:oN lt)(p:Array Nat)(k:Nat):∀f l r,l<=r->r<=k->r-l<=f->Up lt p k->(∀i,i<l->lt (p.getD k 0) (p.getD i 0)=ag)->(∀i,r<=i->i<k->lt (p.getD i 0) (p.getD k 0)=ag) ->
  told lt (jl p k f l r)<=k/\(∀i,i<told lt (jl p k f l r)->lt (p.getD k 0) (p.getD i 0)=ag) /\∀i,told lt (jl p k f l r)<=i->i<k->lt (p.getD i 0) (p.getD k 0)=ag
 |0,l,r,hlr,hr,hf,_,h1,h2=>by
  have:l=r:=by lia
  subst this;show⟨hr,h1,h2⟩
 |f+1,l,r,hlr,hr,hf,hu,h1,h2=>by
  unfold jl;by_cases hge:l >= r
  .rw [Z_ hge];have:l=r:=by lia
   subst this;show⟨hr,h1,h2⟩
  .rw [Zz hge];show told lt (if lt (p.getD k 0) (p.getD ((l+r)/2) 0)=af then jl p k f l ((l+r)/2) else jl p k f ((l+r)/2+1) r)<=k/\(∀i,i<told lt (if lt (p.getD k 0) (p.getD ((l+r)/2) 0)=af then jl p k f l ((l+r)/2) else jl p k f ((l+r)/2+1) r)->lt (p.getD k 0) (p.getD i 0)=ag) /\∀i,told lt (if lt (p.getD k 0) (p.getD ((l+r)/2) 0)=af then jl p k f l ((l+r)/2) else jl p k f ((l+r)/2+1) r)<=i->i<k->lt (p.getD i 0) (p.getD k 0)=ag
   cases hc:lt (p.getD k 0) (p.getD ((l+r)/2) 0) with
   |true =>
    rw[Z_ rfl];show AA O p k f l ((l+r)/2) ∅ ∅ ∅ hu h1 λi hi hik=>?_;by_cases he:i=(l+r)/2
    .subst he;show O.as _ _ hc
    .exact O.tr _ _ _ (O.as _ _ hc) (hu _ i ∅ hik)
   |false =>
    rw[Zz bp];show AA O p k f ((l+r)/2+1) r ∅ hr ∅ hu (λi hi=>?_) h2;by_cases he:i=(l+r)/2
    .subst he;show hc
    .exact O.tr _ _ _ (hu i ((l+r)/2) ∅ ∅) hc
def O5{p:Array Nat}{k l:Nat}(hk:k<p.size)(hl:l<=k)(i:Nat):(bubble p k (k-l)).getD i 0=if i=l then p.getD k 0 else if l<i/\i<=k then p.getD (i-1) 0 else p.getD i 0:=by
 rw[iJ,getElem?_bubble hk _ ∅,show k-(k-l)=l by lia];by_cases h1:i=l
 .rw [Z_ h1,Z_ h1,iJ]
 .rw [Zz h1,Zz h1];by_cases h2:l<i/\i<=k
  .rw [Z_ h2,Z_ h2,iJ]
  .rw [Zz h2,Zz h2,iJ]
theorem X8(O:oN lt):∀f (p:Array Nat) k,k+f<=p.size->Up lt p k->(told lt (yt f p k)).Perm p/\Up lt (told lt (yt f p k)) (k+f)
 |0,p,k,_,h=>⟨sy _,h⟩
 |f+1,p,k,hs,h=>by
  unfold yt;rw[kC];obtain⟨a,b,c⟩:=AA O p k k 0 k ∅ (bg _) ∅ h (λi hi=>by lia) (λi hi hik=>by lia);generalize told lt (jl p k k 0 k)=l at a b c;have hk:k<p.size:=by lia
  have h2:Up lt (bubble p k (k-l)) (k+1):=λi j hij hj=>by
   rw[O5 hk a,O5 hk a];by_cases hjl:j=l
   .rw [Z_ hjl,Zz ∅,Zz ∅];show b i ∅
   .rw [Zz hjl];by_cases hj2:l<j/\j<=k
    .rw [Z_ hj2];by_cases hil:i=l
     .rw [Z_ hil];show c (j-1) ∅ ∅
     .rw [Zz hil];by_cases hi2:l<i/\i<=k
      .rw [Z_ hi2];show h _ _ ∅ ∅
      .rw [Zz hi2];show h _ _ ∅ ∅
    .rw [Zz hj2,Zz ∅,Zz ∅];show h _ _ hij ∅
  obtain⟨e,g⟩:=X8 O f (bubble p k (k-l)) (k+1) (by rw[bubble_size];lia) h2;show⟨e.trans (a1D _ _ _),by rw[show k+(f+1)=k+1+f by lia];show g⟩
def O6(O:oN lt){n:Nat}(h1:1<=n):(told lt (my n)).Perm (Aa (bz n))/\Up lt (told lt (my n)) n:=by
 unfold my;rw[kC];obtain⟨a,b,c,d⟩:=X7 O (n:=n) (p:=Aa (bz n)) h1 (by simp) _ rfl;generalize told lt (yr n (Aa (bz n)))=r at a b c d;have hs:r.2.size=n:=by rw[C4 a];simp
 by_cases hr:r.1<n
 .rw [Z_ hr,show max r.1 1=r.1 by lia];obtain⟨e,g⟩:=X8 O (n-r.1) r.2 r.1 ∅ d;show⟨e.trans a,by rw[show r.1+(n-r.1)=n by lia] at g;show g⟩
 .rw [Zz hr];have:r.1=n:=by lia
  show⟨a,by rw[<- this];show d⟩
end
def t_(lt:Nat->Nat->Bool)(n:Nat):List Nat:=if n<2 then bz n else(told lt (my n)).toList
open Att
section
variable{Ω:bc}{w:ba}{A:bq}{s:ak}{Q:Bool->ak->Prop}
theorem X9:∀(us:Q0f) (vs:Q0f) (as bs:Q0e) (i:Nat) (fin:Bool),(fin=Zv (us.length<vs.length))->jw us as->jw vs bs->Q (dC as bs) s->KatLex Ω w A af fin Q (us.zip vs) i s:=by
 intro us
 induction us with
 |nil =>
  intro vs as bs i fin hf ha hb q;cases ha
  cases hb with
  |nil=>subst hf;show q
  |cons b t' hb=>subst hf;simpa[KatLex,dC] using q
 |cons u us ih =>
  intro vs as bs i fin hf ha hb q
  cases ha with
  |cons a t ha =>
   cases hb with
   |nil=>subst hf;simpa[KatLex,dC] using q
   |cons b t' hb =>
    rename_i as vs bs;show kat_cons (a0n (kat_go (λe=>?_) (λe=>?_)))
    .have e:a=b:=by simpa using e
     show kat_yes (ih _ _ _ (i+1) fin (by rw[hf];simp) ha hb ?_);simpa[dC,e] using q
    .have e:a≠b:=by simpa using e
     have q:Q (Zv (a<b)) s:=by simpa[dC,e] using q
     show kat_no ?_
     cases hc:(af&&i == 0) with
     |true=>show oneLt_int q
     |false=>show kat_one _ _ (lt_int q)
end
noncomputable def O7(n:Nat){α:Type}:pf α->(α->Prop)->Prop
 |.ret a,Q=>Q a
 |.ask i j k,Q=>i<n/\j<n /\∀b,O7 n (k b) Q
theorem l8{n:Nat}{α β:Type}{f:α->pf β}{Q:β->Prop}:∀(t:pf α),O7 n t (λa=>O7 n (f a) Q)->O7 n (t.bind f) Q
 |.ret a,h=>h
 |.ask i j k,h=>⟨h.1,h.2.1,λb=>l8 (k b) (h.2.2 b)⟩
def Rg(n:Nat)(p:Array Nat):Prop:=p.Perm (Aa (bz n))
theorem Rg.lt(h:Rg n p)(h1:1<=n)(k:Nat):p.getD k 0<n:=by
 rw[iJ]
 cases q:p[k]? with
 |none=>show h1
 |some x =>
  have:x∈p:=Array.mem_of_getElem? q;have:=h.mem_iff.mp this;simpa using this
section
variable{n:Nat}
theorem FI(h1:1<=n)(h:Rg n p)(q:∀m,Q m):∀f m,O7 n (jd p f m) Q
 |0,m=>q m
 |f+1,m=>⟨h.lt h1 _,h.lt h1 _,λb=>by
  cases b with
  |true=>show q m
  |false=>show FI h1 h q f (m+1)⟩
theorem sY(h1:1<=n)(q:∀r,Rg n r.1->Q r):∀f p m k,Rg n p->O7 n (o_ f p m k) Q
 |0,p,m,k,h=>q _ h
 |f+1,p,m,k,h=>⟨h.lt h1 _,h.lt h1 _,λb=>by
  cases b with
  |true =>
   show O7 n (if k>0 then _ else _) Q;by_cases hk:k>0
   .rw [Z_ hk];show sY h1 q f _ _ _ ((iK _ _ _).trans h)
   .rw [Zz hk];show sY h1 q f _ _ _ h
  |false=>show⟨h.lt h1 _,h.lt h1 _,λd=>by
    cases d with
    |true=>show q _ h
    |false=>show sY h1 q f _ _ _ h⟩⟩
def IK(h1:1<=n){Q:Nat×Array Nat->Prop}(q:∀r,Rg n r.2->Q r){m k:Nat}{p:Array Nat}(h:Rg n p):O7 n (Gp m k p) Q :=
 l8 _ (FI h1 ((iK _ _ _).trans h) (λm'=>q (m',iz p 0 m) ((iK _ _ _).trans h)) _ _)
def sZ(h1:1<=n){Q:Nat×Array Nat->Prop}(q:∀r,Rg n r.2->Q r){m k:Nat}{p:Array Nat}(h:Rg n p):O7 n (yq m k p) Q :=
 l8 _ (sY h1 (λr hr=>by
  by_cases hk:r.2.2>0
  .rw [Z_ hk];show IK h1 q ((iK _ _ _).trans hr)
  .rw [Zz hk];show IK h1 q hr) _ _ _ _ h)
def RX(h1:1<=n){Q:Nat×Array Nat->Prop}(q:∀r,Rg n r.2->Q r){k:Nat}{p:Array Nat}(h:Rg n p):O7 n (yr k p) Q :=
 l8 _ (FI h1 h (λm=>by
  by_cases e:(m == k)=af
  .rw [Z_ e];show q _ h
  .rw [Zz e];by_cases e2:m>1
   .rw [Z_ e2];show⟨h.lt h1 _,h.lt h1 _,λc=>by
     cases c with
     |true=>show q _ h
     |false=>show sZ h1 q ((iK _ _ _).trans h)⟩
   .rw [Zz e2];show sZ h1 q h) _ _)
theorem uR(h1:1<=n)(h:Rg n p)(q:∀m,Q m)(k:Nat):∀f l r,O7 n (jl p k f l r) Q
 |0,l,r=>q l
 |f+1,l,r=>by
  unfold jl;by_cases e:l >= r
  .rw [Z_ e];show q l
  .rw [Zz e];show⟨h.lt h1 _,h.lt h1 _,λc=>by
    cases c with
    |true=>show uR h1 h q k f _ _
    |false=>show uR h1 h q k f _ _⟩
theorem O8(h1:1<=n){Q:Array Nat->Prop}(q:∀p,Q p):∀f p k,Rg n p->O7 n (yt f p k) Q
 |0,p,k,h=>q p
 |f+1,p,k,h=>l8 _ (uR h1 h (λl=>O8 h1 q f _ _ ((a1D _ _ _).trans h)) k _ _ _)
def IL(h1:1<=n){Q:Array Nat->Prop}(q:∀p,Q p):O7 n (my n) Q :=
 l8 _ (RX h1 (λr hr=>by
  by_cases e:r.1<n
  .rw [Z_ e];show O8 h1 q _ _ _ hr
  .rw [Zz e];show q _) (sy _))
variable{X:Cx}
def fT(ts:Q0a)(i:Nat):List Int:=(ts[i]?).getD []
theorem FJ(h:∀i j (C:Bool->ak->Prop),i<n->j<n->C (lt i j) s->uv Ω w A κ vs i j C s){α:Type}:∀(t:pf α) (Q:α->ak->Prop),O7 n t (λ_=>True)->Q (told lt t) s->t.kasWp (uv Ω w A κ vs) Q s
 |.ret a,Q,_,q=>q
 |.ask i j k,Q,sf,q=>h i j _ sf.1 sf.2.1 (FJ h (k (lt i j)) Q (sf.2.2 _) q)
def LV(K:ao):List V->Hp->VK->Prop:=λxs H Q=>∃(a:ah) (ps:List ah) (ts:Q0a),xs=[.ref a]/\H a=aa (.lst (ps.map V.ref))/\ps.length=ts.length/\2<=ts.length/\ts.length<64 /\
 (∀(j:Nat) (p:ah) (t:Q0e),ps[j]?=aa p->ts[j]?=aa t->fF K H p (t.map V.int)/\t≠[]) /\
 ∀ix:List Nat,ix.Perm (bz ts.length)->(∀i j:Nat,i<j->j<ts.length->dC (fT ts (ix.getD j 0)) (fT ts (ix.getD i 0))=ag) ->∀q,H q=ae->Q (.ref q) (upd H q (.lst (ix.map λi=>V.ref (ps.getD i 0))))
theorem uS:∀{ps:List ah} {us:Q0f},θ (ps.map V.ref) us->us=ps.map cp
 |[],_,.nil=>rfl
 |p::ps,_,.cons r t=>by rw[uS t];rw[show _=cp p from r];rfl
theorem dG.live(x:L2.dG P w H h a o):∃u,h.get? a=aa u:=by
 cases o with
 |lst xs=>obtain⟨_,_,_,_,e⟩:=x;show⟨_,e⟩
 |tup xs=>obtain⟨_,_,_,⟨_,e,_⟩,_⟩:=x;show⟨_,e⟩
 |dK χ=>obtain⟨_,_,_,_,o,_,_,e,_⟩:=x;show⟨_,e⟩
 |dT χ=>obtain⟨_,_,_,_,o,_,_,e,_⟩:=x;show⟨_,e⟩
 |dX ob χ=>obtain⟨_,_,e,_⟩:=x;show⟨_,e⟩
 |set S n=>obtain⟨o,_,_,_,e,_⟩:=x;show⟨_,e⟩
 |ins C dx fs=>obtain⟨_,_,_,e,_⟩:=x;show⟨_,e⟩
 |own y=>obtain⟨_,e⟩:=x;show⟨_,e⟩
 |xd fs=>obtain⟨_,⟨_,_,_,e,_⟩,_⟩:=x;show⟨_,e⟩
 |rng lo hi=>obtain⟨_,_,_,e⟩:=x;show⟨_,e⟩
 |xF ob u=>obtain⟨e,_⟩:=x;show⟨_,e⟩
 |N8 q=>obtain⟨_,e,_⟩:=x;show⟨_,e⟩
 |met f y=>show⟨_,(show h.get? a=aa _ from x)⟩
 |ext φ=>obtain⟨_,⟨_,e⟩,_⟩:=x;show⟨_,e⟩
def FK:gX X (.builtin "sorted") (LV X.K):=by
 intro π s σ H xs us Q I r h;obtain⟨a,ps,ts,rfl,ha,hl,h2,fu,ht,q⟩:=h;obtain⟨u,rfl,ru⟩:=vals1 r;cases ru;obtain⟨ι,rv,pl,hz⟩:=I.list (eW.of ha);have Kz:=uS rv;subst Kz;obtain⟨m,hns,_⟩:=id I.loc;have hL:=I.lt;have hn:(ps.map cp).length=ts.length:=by rw[a_];show hl
 have tup:∀(j:Nat),j<ts.length ->∃(p:ah) (us:Q0f),ps[j]?=aa p/\gy s.heap p us.toArray/\jw us (fT ts j)/\fT ts j≠[]/\(ps.map cp).getD j je=.ref p:=λj hj=>by
  obtain⟨q1,q2⟩:=ht j ps[j] ts[j] (by simp[hl,hj]) (by simp[hj]);obtain⟨us,ru,pt,_⟩:=I.tuple q1;show⟨ps[j],us,by simp[hl,hj],pt,?_,?_,by simp[hl,hj]⟩
  .unfold fT;rw[bw hj];show intsAre_of ru
  .unfold fT;rw[bw hj];show q2
 show kat_sorted (h₀:=zN s.heap) (L:=X.env.locals) (m:=m) (news:=ledger s.heap X.env.locals s.heap.objs.size) (vs:=ps.map cp) (WM hns) (λp hp=>?_) pl.isList ∅ ∅ λD e1 h' F' N' hD=>?_
 .obtain ⟨x,o⟩:=p;obtain⟨n1,_,e⟩:=i8.mp hp;show⟨e,n1,qV _ _⟩
 have keep':∀b o,b≠X.env.locals->s.heap.get? b=aa o->h'.get? b=aa o:=λb o hb e =>
  (N' (b,o) (fj _ (i8.mpr ⟨hb,e_ (bo e),e⟩))).1
 have FL:∀{p:ah} {us:Array ai},gy s.heap p us->p≠X.env.locals:=λ{p us} ⟨o,e,c,n,d⟩ z=>by subst z;obtain⟨o2,es,ep,e2,d2,_⟩:=hns;rw[e] at e2;cases e2;rw[d] at d2;cases d2
 -- the kind: tuples that begin with ints
 have kt:∀(ps':List ah) (fs:Q0f),ps'.length=fs.length->(∀(j:Nat) (p:ah) (f:ai),ps'[j]?=aa p->fs[j]?=aa f ->∃us:Array ai,gy h' p us/\us[0]?=aa f)->yu h' (ps'.map cp) fs:=by
  intro ps'
  induction ps' with
  |nil=>intro fs hf _;cases fs;show trivial;simp at hf
  |cons p ps' ih =>
   intro fs hf h
   cases fs with
   |nil=>simp at hf
   |cons f fs =>
    obtain⟨us,⟨o,e,c,n,d⟩,u0⟩:=h 0 p f rfl rfl;show a0U e c d u0 (ih fs (by simpa using hf) λj p' f' h1 h2=>h (j+1) p' f' (by simpa using h1) (by simpa using h2))
 have heads:∃fs:Q0f,fs.length=ps.length/\(∀v∈fs,∃i t,v=jv i t) /\∀(j:Nat) (p:ah) (f:ai),ps[j]?=aa p->fs[j]?=aa f ->∃us:Array ai,gy h' p us/\us[0]?=aa f:=by
  have:∀k,k<=ps.length ->∃fs:Q0f,fs.length=k/\(∀v∈fs,∃i t,v=jv i t) /\∀(j:Nat) (p:ah) (f:ai),ps[j]?=aa p->fs[j]?=aa f ->∃us:Array ai,gy h' p us/\us[0]?=aa f:=by
   intro k
   induction k with
   |zero=>intro _;show⟨[],rfl,λv hv=>(nomatch hv),λj p f _ e=>by simp at e⟩
   |succ k ih =>
    intro hk;obtain⟨fs,f1,f2,f3⟩:=ih ∅;obtain⟨p,us,hp,pt,hi,ne,_⟩:=tup k ∅;obtain⟨i,t,us',rfl⟩:∃i t us',us=jv i t::us':=by
     generalize fT ts k=w at hi ne
     cases hi with
     |nil=>show Zw rfl ne
     |cons n t r=>show⟨n,t,_,rfl⟩
    show⟨fs++[jv i t],by simp[f1],λv hv=>?_,λj p' f' h1 h2=>?_⟩
    .rcases gm.mp hv with h|h
     .exact f2 v h
     .exact ⟨i,t,cc.mp h⟩
    .by_cases hj:j<k
     .rw [jz ∅] at h2;show f3 j p' f' h1 h2
     .have:j=k:=by have:=(cb.mp h2).1;simp[f1] at this;lia
      subst this;rw[jy ∅,f1,Hq] at h2;rw[hp] at h1;cases h1;have h2:jv i t=f':=by simpa using h2
      subst h2;obtain⟨o,e,c⟩:=id pt;show⟨_,⟨o,keep' p o (FL pt) e,c⟩,by simp⟩
  show this ps.length (bg _)
 obtain⟨fs,f1,f2,f3⟩:=heads;show kat_kind (T:=.type "int") (kt ps fs f1.symm f3) ∅ (λv hv=>?_) (by decide) ?_
 .obtain ⟨i,t,rfl⟩:=f2 v hv;show a0T rfl
 have O:oN λi j=>dC (fT ts i) (fT ts j):=⟨λx y a=>DK _ _ a,λx y z a b=>DL _ _ _ a b⟩;rw[hn];show FJ (n:=ts.length) (lt:=λi j=>dC (fT ts i) (fT ts j)) (λi j C hi hj hC=>?_) _ _ (IL ∅ λ_=>trivial) ?_
 .obtain ⟨p,us,hp,pt,hi',_,ep⟩:=tup i hi;obtain⟨p2,us2,hp2,pt2,hi2,_,ep2⟩:=tup j hj;unfold uv;rw[ep,ep2,show(ph "int" !=ph "tuple")=af from by decide];obtain⟨o,e,c,n,d⟩:=id pt;obtain⟨o2,e2,c2,n2,d2⟩:=id pt2;show kat_lt (s:={s with heap:=h' }) (keep' p o (FL pt) e) d (keep' p2 o2 (FL pt2) e2) d2 (X9 us us2 _ _ 0 _ rfl hi' hi2 hC)
 obtain⟨sp,su⟩:=O6 O (n:=ts.length) ∅;generalize told (λi j=>dC (fT ts i) (fT ts j)) (my ts.length)=pp at sp su;show KasFin.intro F' N' (UpdF.head λp hp z=>jb _ (z▸hD p hp)) λh'' c F'' N''=>?_;have nD:D≠X.env.locals:=(N' _ (b_ ..)).2.1;have dead:s.heap.get? D=ae:=by
  cases e:s.heap.get? D with
  |none=>rfl
  |some o=>show Zw (hD (D,o) (i8.mpr ⟨nD,e_ (bo e),e⟩)) (jb _)
 have tD:∀b o,b≠X.env.locals->s.heap.get? b=aa o->h''.get? b=aa o:=λb o hb e =>
  (N'' (b,o) (fj _ (i8.mpr ⟨hb,e_ (bo e),e⟩))).1
 have Kn:=(N'' (D,_) (b_ ..)).1;have hfr:H D=ae:=by
  cases e:H D with
  |none=>rfl
  |some u =>
   obtain⟨o,eo⟩:=dG.live (I.hok D u e);rw[dead] at eo;cases eo
 have neD:∀{b:ah} {o:ax},s.heap.get? b=aa o->b≠D:=λ{b o} e z=>by rw[z,dead] at e;cases e
 have RY:∀{b:ah} {u:HO},H b=aa u->b≠D:=λ{b u} e z=>by rw[z,hfr] at e;cases e
 have hlp:pp.toList.Perm (bz ts.length):=by simpa using sp.toList
 show⟨.ref D,upd H D (.lst (pp.toList.map λi=>V.ref (ps.getD i 0))),?_,rfl,q pp.toList hlp (λi j hij hj=>?_) D hfr⟩
 .show L2.Φ X π σ _ {s with heap:=h'' };show I.step (s:=s) (h':=h'') (g':=s.gens) (t':=s.toks) (d':=s.drawn) (ch:=[]) (λb hb=>nomatch hb) (λb o hb _ _ e _=>tD b o hb e) (λb o hb _ _ e _=>⟨o.slots,tD b o hb e⟩) (λb o _ e n=>by rw[aV (neD e)];show n) (λb o _ e=>?_)
   (λb xs e=>by rw[aV (RY e)];show e) (λb o u e=>by rw[aV (RY e)];show e) (λb ps e=>by rw[aV (RY e),e]) (λm2 hm2=>?_) ?_ I.bare
  .by_cases hb:b=X.env.locals
   .subst hb;obtain⟨o2,_,_,e2,_⟩:=F''.ns;show⟨o2,e2⟩
   .exact ⟨o,tD b o hb e⟩
  .have:m2=m:=by
    obtain⟨oa,ea,pa,h1,h2,_,h3⟩:=hm2;obtain⟨ob,eb,pb,k1,k2,_,k3⟩:=hns;rw[h1] at k1;cases k1;rw[h2] at k2;cases k2
    funext x
    rw[<- h3,<- k3]
   subst this;show F''.ns
  .intro b u e;by_cases hb:b=D
   .subst hb;rw[bA] at e;cases e;show⟨?_,pp.toList.map λi=>cp (ps.getD i 0),c,?_,Kn.trans ?_⟩
    .rw [a_,hlp.length_eq,nu,fm];lia
    .have:∀l:List Nat,θ (l.map λi=>V.ref (ps.getD i 0)) (l.map λi=>cp (ps.getD i 0)):=λl=>by
      induction l with
      |nil=>show .nil
      |cons a l ih=>show .cons rfl ih
     show this _
    .have:(pp.toList.map λi=>(ps.map cp).getD i je)=pp.toList.map λi=>cp (ps.getD i 0):=f_ λi hi=>by
      have:i<ts.length:=by simpa using hlp.mem_iff.mp hi
      simp[hl,this]
     rw[this]
   .rw [aV hb] at e;show(I.hok b u e).stay (λc v hc ev=>tD c v (λz=>?_) ev) (λc ec=>by rw[aV (RY ec)];show ec) (λc ys ec=>by rw[aV (RY ec)];show ec) λc o u ec=>by rw[aV (RY ec)];show ec
    subst z;rcases hc with hc|hc
    .rw [<- hc,I.free] at e;cases e
    .rw [I.free] at hc;cases hc
 .have:=su i j hij hj;rw[iJ,iJ] at this;simpa using this
theorem YA(ho:s.heap.get? a=aa (seqObj "list" #[v] n))
  (h:P (.done (.ret .none)) {s with heap:=sortedHeap s.heap a [v] #[v]}):au (av Ω w) A (Builtin.«list.sort» ⟨[.ref a],[]⟩) P E s:=by
 rw[list_sort_plain];have hlt:=bo ho;show aq (He ho rfl (aq (qz ho rfl ?_)));have ho1:=vd ho (λ_=>(#[]:Array ai));show aq (zu ho1 rfl (aq (Fq (aq (uq (iw ?_))))));have ho2:(((s.heap.update a (fg λ_=>(#[]:Array ai))).push (seqObj "tuple" #[v] 0)).push (seqObj "list" #[] 0)).get? a=_:=cn _ (cn _ ho1);show au (av Ω w) A _ P E {s with heap:=((s.heap.update a (fg λ_=>(#[]:Array ai))).push (seqObj "tuple" #[v] 0)).push (seqObj "list" #[] 0)};dsimp only;rw[Z_ (show(#[v]:Array ai).size<2 from vh 1),Z_ (show(#[v]:Array ai).size<2 from vh 1)];show aq (az ?_);rw[StateT.run_pure];show aq (az (aq (zu ho2 rfl (aq (qz ho2 rfl ?_ (hsz2:=?_))))))
 .simp only[bne_self_eq_false,oo,if_false];have e:(arrOf (a1I general' ((#[v]:Array ai).zip #[v]) #[] 7 ae)).map (·.2)=#[v]:=by show((#[v]:Array ai).zip #[v]).map (·.2)=#[v];simp
  rw[e];show az h
 .show (((#[v]:Array ai).zip #[v]).map (·.2)).size<=bb+1;simp
def LW:List V->Hp->VK->Prop:=λxs H Q=>∃(a:ah) (x:V),xs=[.ref a]/\H a=aa (.lst [x]) /\∀q,H q=ae->Q (.ref q) (upd H q (.lst [x]))
def FN:gX X (.builtin "sorted") LW:=by
 intro π s σ H xs us Q I r h;obtain⟨a,x,rfl,ha,q⟩:=h;obtain⟨u,rfl,ru⟩:=vals1 r;cases ru;obtain⟨ι,rv,pl,hz⟩:=I.list (eW.of ha);obtain⟨v,rfl,rx⟩:=vals1 rv;show a1q Hf Hd Hg (a1G (.ref a)) (show au _ _ (Builtin.«sorted» _) _ _ _ from ?_);unfold Builtin.«sorted»;show aq (m:=checkCount "sorted" 1 1 _) (az (aq (collect_list pl.isList (aq (uq ?_)))));have hsz:((s.heap.push (seqObj "list" #[] 0)).update s.heap.objs.size (fg (· ++ [v].toArray))).objs.size=s.heap.objs.size+1:=by rw[Heap.size_update,size_push']
 have hoL:(((s.heap.push (seqObj "list" #[] 0)).update s.heap.objs.size (fg (· ++ [v].toArray))).push (seqObj "list" [v].toArray 0)).get? (s.heap.objs.size+1)=aa (seqObj "list" #[v] 0):=by rw[<- hsz];show dm _ rfl
 show au _ _ _ _ _ {s with heap:=((s.heap.push (seqObj "list" #[] 0)).update s.heap.objs.size (fg (· ++ [v].toArray))).push (seqObj "list" [v].toArray 0)};rw[hsz];show aq (iw (kc Hc ⟨_,hoL,rfl⟩ Hh (YA hoL ⟨_,rfl,?_⟩) (a1H _)));show az ⟨.ref (s.heap.objs.size+1),rfl,?_⟩;obtain⟨e1,hat⟩:=a1A s.heap [v] #[v];have I1:L2.Φ X π σ (upd H (s.heap.objs.size+1) (.lst [x])) {s with heap:=sortedAll s.heap [v] #[v]} :=
  I.laid (t':=s.toks) (λb o e=>a1z e) (p_ _) ⟨by rw[fm];simp,[v],e1,.cons rx .nil,by simpa[seqObj] using hat⟩
 show⟨.ref _,_,I1,rfl,q _ (I.hok.fresh (p_ _))⟩
theorem FO:gX X (.builtin "sorted") (λxs H Q=>OX xs H Q\/LW xs H Q\/LV X.K xs H Q):=by
 intro π s σ H xs us Q I r h;rcases h with h|h|h
 .exact sS π s σ H xs us Q I r h
 .exact FN π s σ H xs us Q I r h
 .exact FK π s σ H xs us Q I r h
def YB:F1
 |[.lst ds],Q=>∃ts,kH ds=aa ts/\ts.length<64/\(∀t∈ts,t≠[])/\Q (.lst ((kG ts).map rK))
 |_,_=>False
def YC(h:TV d=aa t):d=rK t:=by
 cases d<;>first|cases h;done|skip
 rename_i ds;unfold rK;rw[<- ints_of h]
theorem uT:∀{ds:List D} {ts:Q0a},kH ds=aa ts->ds=ts.map rK
 |[],ts,h=>by cases h;rfl
 |d::ds,ts,h=>by unfold kH at h;obtain⟨t,e1,h⟩:=bnd h;obtain⟨us,e2,rfl⟩:=wM h;rw[bj,YC e1,uT e2]
def aEg{K:ao}{S:ah->Prop}{H:Hp}{t:Q0e}{v:V}(h:Dn K S H (rK t) v):∃p,v=.ref p/\H p=aa (.tup (t.map V.int)):=by unfold rK at h;symm at h;obtain⟨a,xs,rfl,hl,da⟩:=h;rw[aW.ints.mp da] at hl;show⟨a,rfl,hl⟩
theorem AB{K:ao}{S:ah->Prop}{H:Hp}:∀{ts:Q0a} {ys:List V},aW K S H (ts.map rK) ys ->∃ps:List ah,ys=ps.map V.ref/\ps.length=ts.length /\∀(j:Nat) (p:ah) (t:Q0e),ps[j]?=aa p->ts[j]?=aa t->H p=aa (.tup (t.map V.int))
 |[],ys,h=>by simp only[ma,aW] at h;show⟨[],h,rfl,λj p t e=>by simp at e⟩
 |t::ts,ys,h=>by
  obtain⟨v,r,rfl,h1,h2⟩:=aW.bO h;obtain⟨p,rfl,hp⟩:=aEg h1;obtain⟨ps,rfl,hl,hh⟩:=AB h2;show⟨p::ps,rfl,by simp[hl],λj q u e1 e2=>?_⟩
  cases j with
  |zero=>cases e1;cases e2;show hp
  |succ j=>show hh j q u (by simpa using e1) (by simpa using e2)
def IM(ts:Q0a):(bz ts.length).map (fT ts)=ts:=by
 show Ak λi=>?_;rw[cf];by_cases h:i<ts.length
 .rw [r6 h];simp[fT,h]
 .rw [jq (by simpa using h),jq (by simpa using h)];rfl
theorem YD{K:ao}:C3F K (λxs H Q=>OX xs H Q\/LW xs H Q\/LV K xs H Q) YB:=by
 intro S H xs ds Q3 Q fc hd hf k
 match ds,hf with
 |[.lst es],hf =>
  obtain⟨v,r,rfl,h1,h2⟩:=hd.bO;simp only[aW] at h2;subst h2;symm at h1;obtain⟨a,ys,rfl,ha,sa,da⟩:=h1;obtain⟨ts,e,fu,hne,q⟩:=hf;rw[uT e] at da;obtain⟨ps,rfl,hl,hh⟩:=AB da;have one:∀(p:ah) (t:Q0e) (H':Hp) (S':ah->Prop),ξ H H'->H p=aa (.tup (t.map V.int))->Dn K S' H' (rK t) (.ref p):=λp t H' S' sm hp=>by unfold rK;symm;show⟨p,_,rfl,sm _ _ hp,aW.ints.mpr rfl⟩
  match ts,hl,hh,fu,hne,q with
  |[],hl,hh,fu,hne,q =>
   have:ps=[]:=vm.mp hl;subst this;show .inl ⟨a,[],rfl,ha,by decide,λns' hp _ p hf=>?_⟩;have:ns'=[]:=List.perm_nil.mp hp;subst this;show k p [] _ [] hf bA (aY hf) (by simp only[aW]) q
  |[t],hl,hh,fu,hne,q =>
   obtain⟨p,rfl⟩:∃p,ps=[p]:=by
    match ps,hl with
    |[p],_=>show⟨p,rfl⟩
   show .inr (.inl ⟨a,.ref p,rfl,ha,λl hf=>k l [.ref p] _ [rK t] hf bA (aY hf) (aW.one (one p t _ _ (aY hf) (hh 0 p t rfl rfl))) q⟩)
  |t1::t2::ts,hl,hh,fu,hne,q =>
   generalize hT:t1::t2::ts=T at *;show .inr (.inr ⟨a,ps,T,rfl,ha,hl,by rw[<- hT];simp,fu,λj p t e1 e2=>⟨fF.of (hh j p t e1 e2),hne t (l_ e2)⟩,λix hp hu l hf=>?_⟩);have hlen:ix.length=T.length:=by rw[hp.length_eq,nu]
   have es:kG T=ix.map (fT T):=by
    show rL ((eQ T).trans ?_) (lR T) ?_
    .have:=(hp.map (fT T)).symm;rw[IM] at this;show this
    .rw [ZG,nq,vj];intro i j hi hj hij;have:=hu i j hij ∅;simpa[hi,hj] using this
   have dn:∀(H':Hp),ξ H H' ->∀jx:List Nat,(∀i∈jx,i<T.length)->aW K (λx=>S x/\x≠l) H' (jx.map λi=>rK (fT T i)) (jx.map λi=>V.ref (ps.getD i 0)):=by
    intro H' sm jx
    induction jx with
    |nil=>intro _;show aW.nil
    |cons i jx ih =>
     intro hh2;have hi:=hh2 i b_;show aW.cons (one _ _ _ _ sm ?_) (ih λx hx=>hh2 x (fj _ hx));show hh i _ _ (by simp[hl,hi]) (by simp[fT,hi])
   show k l _ _ (ix.map λi=>rK (fT T i)) hf bA (aY hf) (dn _ (aY hf) ix λi hi=>by simpa using hp.mem_iff.mp hi) ?_;rw[es,de] at q;show q
def IP:lK YB mG:=λds d Q e q=>by
 unfold mG at e;split at e
 .rename_i a;obtain⟨ts,e1,e⟩:=bnd e;by_cases h:ts.length<64/\ts.all (λt=>!t.isEmpty)=af
  .rw [Z_ h] at e;cases e;show⟨ts,e1,h.1,λt ht z=>?_,q⟩;have:=gp.mp h.2 t ht;rw[z] at this;cases this
  .rw [Zz h] at e;cases e
 .cases e
def IQ(hm:X.mg "sorted"=ae)(ha:wL X [e] t)(hg:Gl X "sorted":=by rfl)(he:Zs X e []:=by rfl):jB X (.Call (.Name "sorted" p) [e] [] ν) (cZ mG t):=cF (OU FO YD zw hg hm ha (by decide) (by decide) he (by rfl)) (BD IP)
end
open PySem.SeqAt
section
variable{X:Cx}
def Vn(i:Nat){st:bx}{f:SF}(h:qB X st f):qB X st (yb i f) :=
 jN h λB σ H Vm=>by obtain⟨H₀,S,w,ρ,G,E,hl,st,ht,ok⟩:=Vm;show⟨H₀,S,w,freeze ρ i,G,E,hl,st.frozen,ht,ok⟩
end
end L4
namespace L5
open PySem.Spec PyProof.Rows L2 L3 L4
theorem uU(x:dG P w H h a o):∃u,h.get? a=aa u:=by
 cases o with
 |lst xs=>obtain⟨_,_,_,_,e⟩:=x;show⟨_,e⟩
 |tup xs=>obtain⟨_,_,_,⟨u,e,_⟩,_⟩:=x;show⟨_,e⟩
 |dK χ=>obtain⟨_,_,_,_,o,_,_,e,_⟩:=x;show⟨_,e⟩
 |dT χ=>obtain⟨_,_,_,_,o,_,_,e,_⟩:=x;show⟨_,e⟩
 |dX ob χ=>obtain⟨_,_,e,_⟩:=x;show⟨_,e⟩
 |set S n=>obtain⟨o,_,_,_,e,_⟩:=x;show⟨_,e⟩
 |ins C dx fs=>obtain⟨_,_,_,e,_⟩:=x;show⟨_,e⟩
 |own y=>obtain⟨_,e⟩:=x;show⟨_,e⟩
 |xd fs=>obtain⟨_,⟨_,_,_,e,_⟩,_⟩:=x;show⟨_,e⟩
 |rng lo hi=>obtain⟨_,_,_,e⟩:=x;show⟨_,e⟩
 |xF ob u=>obtain⟨e,_⟩:=x;show⟨_,e⟩
 |N8 q=>obtain⟨_,e,_⟩:=x;show⟨_,e⟩
 |met f y=>show⟨_,(show h.get? a=aa _ from x)⟩
 |ext φ=>obtain⟨_,⟨_,e⟩,_⟩:=x;show⟨_,e⟩
section
variable{X:Cx}{π:Q0b}{σ:L2.St}{H:Hp}{s:ak}{h':ay}{e:ah}{cls a0:ai}{P:List ah}
def flown(I:Φ X π σ H s)(T:qW X π H s e cls a0 P)(kp:∀b o,b∉P->b∉frs X.stack->s.heap.get? b=aa o->h'.get? b=aa o)(us:s.heap.UpToSlots h'):Φ X π σ H {s with heap:=h' }:=by
 have frame:∀b∈frs X.stack,∃o,s.heap.get? b=aa o /\∀vs,o.data≠.fields vs:=λb hb=>(I.stack.mem hb).2;have old:∀b o,X.s₀.heap.get? b=aa o->b∉P:=λb o q hb=>by rw[T.new b hb] at q;cases q
 have FL:∀b o,X.s₀.heap.get? b=aa o->b≠X.env.locals:=λb o q=>e_ (fz (bo q) I.ok.above);have cellK:∀c v,s.heap.IsCell c v->h'.IsCell c v:=λc v Vl=>by
  obtain⟨o,ho,hd⟩:=Vl;obtain⟨sl,q⟩:=us c o ho λvs z=>by rw[hd] at z;cases z
  show⟨_,q,hd⟩
 obtain⟨m,hn,hl⟩:=id I.loc;show⟨I.ok,I.os,I.bare,⟨λb o eb n hb hx=>?_,λb o eb n hb hx=>?_,I.ω.free,λb o eb hx=>?_,I.ω.tups,I.ω.wF,I.ω.uJ⟩,⟨m,us.ns hn,λi x v h1 h2 h3=>?_⟩,λx c ec=>?_,I.free,I.iA,λp hp=>?_,λb ob eb=>?_,I.len⟩
 .exact kp b o (old b o eb) (λz=>(bh.mp (I.qS b z)).elim (FL b o eb) hb) (I.ω.keep b o eb n hb hx)
 .obtain ⟨sl,q⟩:=I.ω.slot b o eb n hb hx;obtain⟨_,o2,e2,nf⟩:=I.ok.qR.mem hb;rw[eb] at e2;obtain rfl:=cj e2;obtain⟨sl2,q2⟩:=us b {o with slots:=sl} q nf;show⟨sl2,q2⟩
 .obtain ⟨o',q⟩:=I.ω.there b o eb hx;by_cases hf:b∈frs X.stack
  .obtain ⟨o2,e2,nf⟩:=frame b hf;obtain⟨sl,q2⟩:=us b o2 e2 nf;show⟨_,q2⟩
  .exact ⟨o',kp b o' (old b o eb) hf q⟩
 .obtain ⟨u,r,l⟩:=hl i x v h1 h2 h3;show⟨u,r,l.imp id λ⟨k,c,ec,ic⟩=>⟨k,c,ec,cellK _ _ ic⟩⟩
 .obtain ⟨v,ic⟩:=I.cell x c ec;show⟨v,cellK _ _ ic⟩
 .obtain ⟨q,n,ne,nf,d⟩:=I.pin p hp;show⟨kp _ _ (λz=>T.pin _ z p hp rfl) (λz=>(bh.mp (I.qS _ z)).elim ne nf) q,n,ne,nf,d⟩
 .refine (I.hok b ob eb).stay (λc u hc q=>kp c u (λz=>?_) (λz=>?_) q) (λ_ q=>q) λ_ _ q=>q
  .have fr:=T.free c z;rcases hc with rfl|hc
   .rw [fr] at eb;cases eb
   .rw [fr] at hc;cases hc
  .have fr:=I.xH c z;rcases hc with rfl|hc
   .rw [fr] at eb;cases eb
   .rw [fr] at hc;cases hc
end
def xO(P:bc)(w:ba):KY:=λΓ H s E e s'=>∃(ea T:ah) (cls a0:ai) (H':Hp) (oe oT:ax) (vs ts:Array ai),e=.ref ea/\s'.os=s.os/\kn s'.gens/\Un (frs Γ) [] H H' s.heap s'.heap/\pK P w H' s'.heap /\
 H' ea=ae/\H' T=ae/\s.heap.get? ea=ae/\s.heap.get? T=ae/\T≠ea/\s'.heap.get? ea=aa oe/\(oe.cls=cls/\vs[0]?=aa a0)/\oe.data=.fields vs/\vs[1]?=aa (.ref T)/\s'.heap.get? T=aa oT/\oT.data=.fields ts/\ts[3]?=aa .none/\E cls ae H'
section
variable{P:bc}{w:ba}{K:ao}{mg:Q0d}{ω:ay}{N:Q0g}{qual:aj}{scope:fq}{f:ah}{cd:ai}{A:bq}{Γ:List dh}{s0:ak}{H0:Hp}{E:XK}
theorem YE(I:Φ (m8 (xO P w) P w K mg ω N qual scope f cd A Γ s0 H0 E) π σ H s)
  (T:qW (m8 (xO P w) P w K mg ω N qual scope f cd A Γ s0 H0 E) π H s e cls a0 Q) (hE:E cls ae H):(m8 (xO P w) P w K mg ω N qual scope f cd A Γ s0 H0 E).xe (.ref e) s:=by
 generalize hX:m8 (xO P w) P w K mg ω N qual scope f cd A Γ s0 H0 E=X at I T;have st:X.stack=X.env::Γ:=by rw[<- hX];rfl
 have hin:∀env∈X.stack,∀b,env.frame=aa b->b∈Q++frs X.stack:=λenv he b hb=>gq _ (qa.mpr ⟨env,he,hb⟩);have stay:(hideAll s.heap (Q++frs X.stack)).StaysIn s.heap:=λb o q=>Gj _ q;have fns:s.heap.FunFrames (hideAll s.heap (Q++frs X.stack)) X.stack:=a0N I.stack hin;have hen:(hideAll s.heap (Q++frs X.stack)).get? e=ae:=uw _ (gj _ T.mem);have fin:∀h',Heap.LeftW (hideAll s.heap (Q++frs X.stack)) X.stack e cls a0 s.heap h'->xO P w Γ H0 s0 E (.ref e) {s with heap:=h' }:=λh' Vk=>by
  obtain⟨k1,k2,k3,k4⟩:=Vk;have J:=flown I T (λb o n1 n2 q=>k1 b o (ux _ q λz=>(gm.mp z).elim n1 n2)) k4;obtain⟨oe,vs,T2,oT,ts,he,hc,hd,h1,hnT,mq,hT,hdT,h3⟩:=k3;have hfr:T2∉frs X.stack:=λz=>by obtain⟨_,o,ho,nf⟩:=I.stack.mem z;obtain⟨sl,q⟩:=k4 T2 o ho nf;rw[hT] at q;cases q;show nf ts hdT
  have tm:T2∈Q\/s.heap.get? T2=ae:=by
   by_cases hq:T2∈Q
   .exact .inl hq
   .right
    cases q:s.heap.get? T2 with
    |none=>rfl
    |some o =>
     have:=ux (Q++frs X.stack) q λz=>(gm.mp z).elim hq hfr;rw[hnT] at this;cases this
  have e1:X.fs=frs Γ:=by rw[<- hX];rfl
  have e2:X.ex=[]:=by rw[<- hX];rfl
  have e3:X.H₀=H0:=by rw[<- hX];rfl
  have e4:X.s₀=s0:=by rw[<- hX];rfl
  have e5:X.Ω=P:=by rw[<- hX];rfl
  have e6:X.w=w:=by rw[<- hX];rfl
  have b0:=J.ω;have b1:=J.hok;have b2:=J.os;rw[e1,e2,e3,e4] at b0;rw[e5,e6] at b1;rw[e4] at b2;show⟨e,T2,cls,a0,H,oe,oT,vs,ts,rfl,b2,J.bare,b0,b1,T.free e T.mem,?_,?_,?_,mq,he,hc,hd,h1,hT,hdT,h3,hE⟩
  .rcases tm with z|z
   .exact T.free _ z
   .cases q:H T2 with
    |none=>rfl
    |some o =>
     obtain⟨u,eu⟩:=uU (I.hok _ _ q);rw[z] at eu;cases eu
  .rw [<- e4];show T.new e T.mem
  .rcases tm with z|z
   .rw [<- e4];show T.new _ z
   .cases q:s0.heap.get? T2 with
    |none=>rfl
    |some o =>
     have tb:=I.ω.there T2 o (by rw[e4];show q) (by rw[e2];simp);obtain⟨o',eo⟩:=tb;rw[z] at eo;cases eo
 have go:au (av P w) X.A (leaving X.env (.ref e)) (λ_ s''=>xO P w Γ H0 s0 E (.ref e) s'') (λe' s''=>xO P w Γ H0 s0 E e' s'') s:=by
  have hfr:=I.ok.frames;have hf:X.env.frame=aa X.env.locals:=by rw[<- hX];rfl
  rw[st] at hfr;rw[st] at fns fin hen stay;rcases T.tr with⟨oe,vs,he,hc,hd,h1,h0⟩|⟨oe,vs,T2,oT,ts,he,hc,hd,h1,hm,mq,hT,hdT,h3⟩
  .subst hc;show wpAny_leaving_firstW hfr fns hf he stay hen hd h1 h0 λh' L=>fin h' L
  .refine wpAny_leaving_nextW hfr fns hf ⟨oe,vs,T2,oT,ts,he,hc,hd,h1,uw _ (gj _ hm),mq,hT,hdT,h3⟩ stay hen λh' L=>fin h' L
 rw[<- hX] at go ⊢;show go
end
theorem IS(hx:X.ex=[])(I:Φ X π σ H s)(c:xO X.Ω X.w X.stack H s E e s'):
  ∃ea cls a0 H' Q,e=.ref ea/\Φ X π σ H' s'/\qW X π H' s' ea cls a0 Q/\E cls ae H':=by
 obtain⟨ea,T,cls,a0,H',oe,oT,vs,ts,rfl,os,bare,un,hok,n1,n2,g1,g2,mq,he,hc,hd,h1,hT,hdT,h3,hE⟩:=c;have J:Φ X π σ H' s':=I.call' (ch:=[]) os un hok bare λb z=>Zw z (by simp);have no:∀q,q∈[ea,T]->s.heap.get? q=ae:=λq hq=>by
  rcases bh.1 hq with rfl|hq
  .exact g1
  .rw [cc.mp hq];show g2
 show⟨ea,cls,a0,H',[ea,T],rfl,J,⟨b_,λq hq=>?_,λq hq=>?_,λq hq=>?_,λq hq p hp z=>?_,.inr ⟨oe,vs,T,oT,ts,he,hc,hd,h1,by simp,mq,hT,hdT,h3⟩⟩,hE⟩
 .rcases bh.1 hq with rfl|hq
  .exact n1
  .rw [cc.mp hq];show n2
 .cases k:X.s₀.heap.get? q with
  |none=>rfl
  |some o =>
   obtain⟨o',eo⟩:=I.ω.there q o k (by rw[hx];simp);rw[no q hq] at eo;cases eo
 .rcases bh.1 hq with rfl|hq
  .exact ⟨oe,vs,he,hd⟩
  .rw [cc.mp hq];show⟨oT,ts,hT,hdT⟩
 .have:=(I.pin p hp).1;rw[z,no q hq] at this;cases this
def LX(K:ao)(mg:Q0d)(R:jM):Sp:=λvs H Q E=>∃(S:ah->Prop) (ds:List D),(∀a,H a=ae->S a)/\aW K S H ds vs/\match R ds with
 |.ok d=>∀v H',ξ H H'->Dn K S H' d v->Q v H'
 |.ex c=>∃C:ah,mg c=aa (.ref C) /\∀H',ξ H H'->E (.ref C) ae H'
 |.no=>False
theorem Ky{P:bc}{w:ba}{K:ao}{mg:Q0d}{ω:ay}{x qual:aj}{st:bx}{f:ah}{fd:fv}{N ps:Q0g}{k n np:Nat}{b:SF}(F:Y9 K x qual st f fd)(S:gO N ps (bB st))(hn:N.length=n)(hp:ps.length=np)
  (hbody:∀(cdv:ai) (A:bq) (Γ:List dh) (s:ak) (H:Hp) (E:XK),fS k (A.deeper (envOfC qual (bB st) s.heap.objs.size f cdv)) ->
   nQ (m8 (xO P w) P w K mg ω N qual (bB st) f cdv A Γ s H E) (fL st) b):lG P w K mg ω (xO P w) (k+1) f fd ps (LX K mg (bZ n np b)):=by
 subst hn hp;obtain⟨oc,od,kV,doc,pm,an,cdv,ct,osl,rfl,lk,hcd⟩:=F.ex;have hlen:∀ds:List D,bZ N.length ps.length b ds≠.no->ds.length=ps.length:=λds h=>by
  by_cases e:ds.length=ps.length
  .exact e
  .exact Zw (show bZ N.length ps.length b ds=.no by unfold bZ;rw[Zz e]) h
 show V9 lk hcd S (λvs H Q E h=>?_) λA Γ s H vs Q E hr h=>?_
 .obtain ⟨S',ds,_,dn,hR⟩:=h;rw[<- dn.len];show hlen ds λz=>by rw[z] at hR;show hR
 .obtain ⟨S',ds,fc,dn,hR⟩:=h;have hl:ds.length=ps.length:=hlen ds λz=>by rw[z] at hR;show hR
  have hdn:=dn.len;show⟨_,hbody cdv A Γ s H E hr,H,S',λ_=>0,jO N ds,[],{nx:=λ_=>bZ N.length ps.length b ds=.ok .non,rt:=λd=>bZ N.length ps.length b ds=.ok d,ex:=λc=>bZ N.length ps.length b ds=.ex c},?_,zW fc dn,?_,⟨λw' σ' H' ρ' _ st' q=>?_,λv H' d s' d' q=>?_,λ_ _ _ _ _ _ q=>q,λ_ _ _ _ _ _ q=>q,λc H' sm q=>?_⟩⟩
  .have hp:ps.length<=N.length:=by have:=congrArg ny S.pre;rw[kz] at this;lia
   unfold L2.start;show _=N.length;rw[di,a_,ie];lia
  .have e2:jO N ds=c9 N.length ds:=rfl;have e3:bZ N.length ps.length b ds=(match b (c9 N.length ds) with | .rt d=>.ok d | .nx _=>.ok .non | .ex c=>.ex c | .no=>.no):=by unfold bZ;rw[Z_ hl]<;>cases b (c9 N.length ds)<;>rfl
   rw[e3] at hR;unfold wS;rw[e2]
   cases hb:b (c9 N.length ds) with
   |rt d'=>rw[hb] at e3;show e3
   |nx ρ=>rw[hb] at e3;show e3
   |ex c=>rw[hb] at e3;show e3
   |no=>rw[hb] at hR;show hR
  .rw [q] at hR;show hR .non H' st'.sm (by symm)
  .rw [q] at hR;show hR v H' s' d'
  .rw [q] at hR;obtain⟨C,hm,hE⟩:=hR;show⟨C,hm,λπ σ s' e a0 P I T=>YE I T (hE H' sm)⟩
theorem fd5{P:bc}{w:ba}{K:ao}{mg:Q0d}{ω:ay}{x:aj}{st:bx}{N ps:Q0g}{k n np:Nat}{b:SF}(D:Df K mg x st ps)
  (h:∀{f:ah} {cdv:ai} {A:bq} {Γ:List dh} {s:ak} {H:Hp} {E:XK},fS k (A.deeper (envOfC x (bB st) s.heap.objs.size f cdv))->N.Nodup->nQ (m8 (xO P w) P w K mg ω N x (bB st) f cdv A Γ s H E) (fL st) b)
  (S:gO N ps (bB st):=by show⟨rfl,rfl,rfl,by decide+kernel,rfl,by decide+kernel,by decide+kernel⟩) (hn:N.length=n:=by rfl) (hp:ps.length=np:=by rfl):Cl P w K mg ω (xO P w) (k+1) x ps (LX K mg (bZ n np b)):=by
 obtain⟨_,F,m,q⟩:=D;show⟨Ky F S hn hp λ_ _ _ _ _ _ hr=>h hr S.nd,m,F.kp,q⟩
section
variable{X:Cx}{k:Nat}{f:ah}{fd:fv}{ps:Q0g}{R:jM}{x:aj}{p ν:bf}{e:aw}{es:List aw}{t:AF}
theorem C5(C:Cl X.Ω X.w X.K X.mg X.ω (xO X.Ω X.w) k x ps (LX X.K X.mg R))(hr:fS k X.A)
  (ha:wL X (e::es) t) (hg:Gl X x:=by rfl) (hdb:Zu x:=by decide) (he:Zs X e es:=by rfl) (hpl:Q0l X ν es:=by rfl):
  bY X (.Call (.Name x p) (e::es) [] ν) (aL R t):=by
 obtain⟨F,hm,hk,hb⟩:=C;show imp (pM (E:=E0) F hr hg hm hk hb .nil (λπ σ H s e s' _ c=>by obtain⟨_,_,_,_,_,_,_,_,_,_,_,_,_,_,_,_,_,_,_,_,_,_,_,_,_,_,hE⟩:=c;show hE.elim) ha hdb he hpl) λσ H Q Vj=>?_;obtain⟨S,ρ,Q3,fc,sl,⟨d,ed,q3⟩,k⟩:=Vj;obtain⟨ds,et,ed⟩:=bnd ed;show⟨S,ρ,λz=>z=ds,fc,sl,⟨ds,et,rfl⟩,λvs H1 ds' s1 d1 q1=>?_⟩;subst q1;show LX X.K X.mg R (vs++[]) H1 Q E0;rw[ij];show⟨S,ds',bJ fc s1,d1,?_⟩
 cases h:R ds' with
 |ok d'=>rw[h] at ed;cases ed;show λv H' s' d'=>k v H' _ (s1.trans s') d' q3
 |no=>rw[h] at ed;cases ed
 |ex c=>rw[h] at ed;cases ed
def tR(X:Cx)(r:RF):TE:=λσ H _=>∃(S:ah->Prop) (ρ:dW) (c:aj),(∀a,H a=ae->S a)/\Sl X.K S H ρ σ/\r ρ=aa c /\∀H',ξ H H'->XC X c H'
def PR(X:Cx)(e:aw)(r:RF):Prop:=PE X e (tR X r)
theorem LY(hx:X.ex=[])(C:Cl X.Ω X.w X.K X.mg X.ω (xO X.Ω X.w) k x ps (LX X.K X.mg R))(hr:fS k X.A)
  (ha:wL X (e::es) t) (hg:Gl X x:=by rfl) (hdb:Zu x:=by decide) (he:Zs X e es:=by rfl) (hpl:Q0l X ν es:=by rfl):
  PR X (.Call (.Name x p) (e::es) [] ν) (vJ R t):=by
 obtain⟨F,hm,hk,hb⟩:=C;show imp (pM (E:=λcls _ H'=>∃c C,cls=.ref C/\X.mg c=aa (.ref C)/\XC X c H') F hr hg hm hk hb .nil (λπ σ H s e s' I c=>by obtain⟨ea,cls,a0,H',Q,rfl,J,T,c,C,rfl,hmc,C2,hm2,xc⟩:=IS hx I c;rw[hmc] at hm2;cases hm2;show xc π σ s' ea a0 Q J T) ha hdb he hpl) λσ H Q hV=>?_
 obtain⟨S,ρ,c,fc,sl,ec,k⟩:=hV;obtain⟨ds,et,ed⟩:=bnd ec;show⟨S,ρ,λz=>z=ds,fc,sl,⟨ds,et,rfl⟩,λvs H1 ds' s1 d1 q1=>?_⟩;subst q1;rw[ij];show⟨S,ds',bJ fc s1,d1,?_⟩
 cases h:R ds' with
 |ex c' =>
  rw[h] at ed;cases ed;obtain⟨C,hmC,_⟩:=k H1 s1;show⟨C,hmC,λH' sm=>⟨c,C,rfl,hmC,k H' (s1.trans sm)⟩⟩
 |ok d=>rw[h] at ed;cases ed
 |no=>rw[h] at ed;cases ed
def LZ{e:aw}{t u:TE}(h1:PE X e t)(h2:PE X e u):PE X e (λσ H Q=>t σ H Q\/u σ H Q):=λπ s σ H Q I h=>h.elim (h1 π s σ H Q I) (h2 π s σ H Q I)
theorem Vi{e:aw}{f:EF}{r:RF}{ν:bf}(h:bY X e f)(hr:PR X e r):qB X (.Return (aa e) ν) (tU r (bL f)):=jN (KO (LZ hr h)) λB σ H Vh=>by
 obtain⟨H₀,S,w,ρ,G,E,hl,st,ht,ok⟩:=Vh;unfold wS tU at ht
 cases hc:r (bR ρ) with
 |some c =>
  rw[hc] at ht;show .inl ⟨S,bR ρ,c,st.K6,st.all,hc,λH' sm=>ok.ex c H' (st.sm.trans sm) ht⟩
 |none =>
  rw[hc] at ht;dsimp only at ht;unfold bL at ht
  cases hf:f (bR ρ) with
  |none=>rw[hf] at ht;show ht.elim
  |some d =>
   rw[hf] at ht;show .inr ⟨S,bR ρ,_,st.K6,st.all,⟨d,hf,ht⟩,λv H' d s' d' q'=>ok.rt v H' d (st.sm.trans s') d' q'⟩
theorem Vg{i:Nat}{x:aj}{e:aw}{f:EF}{r:RF}{ν pos':bf}(hN:X.N.Nodup)(h:bY X e f)(hr:PR X e r)(hi:X.N[i]?=aa x:=by rfl)(hx:Loc X.env.scope x:=by walk_at "0")(hs:Si X e x pos' ν:=by rfl)(hf:Zr X x:=by walk_at "0"):
  qB X (.Assign [.Name x pos'] e ν) (tU r (bG i f)):=jN (oG hN hi hx (LZ hr h) hs hf) λB σ H Vf=>by
 obtain⟨H₀,S,w,ρ,G,E,hl,st,ht,ok⟩:=Vf;unfold wS tU at ht
 cases hc:r (bR ρ) with
 |some c =>
  rw[hc] at ht;show .inl ⟨S,bR ρ,c,st.K6,st.all,hc,λH' sm=>ok.ex c H' (st.sm.trans sm) ht⟩
 |none =>
  rw[hc] at ht;dsimp only at ht;unfold bG at ht
  cases hf:f (jL ρ) with
  |none=>rw[hf] at ht;show ht.elim
  |some d =>
   rw[hf] at ht;show .inr ⟨_,jL ρ,_,st.OR,st.rd,⟨d,hf,ht⟩,λv H' d s' d' q'=>ok.nx w _ H' _ (by rw[gn];show hl) ((st.same s').lH (by rw[hl];show jT hi) d') q'⟩
theorem aEh{e:aw}{f:EF}{r:RF}{ν:bf}(h:bY X e f)(hr:PR X e r)(hs:dq e ae ν.line X.env=pure ag:=by rfl):qB X (.Expr e ν) (tU r (sX (bF f))):=jN (ET (LZ hr h) hs) λB σ H Ve=>by
 obtain⟨H₀,S,w,ρ,G,E,hl,st,ht,ok⟩:=Ve;unfold wS tU at ht
 cases hc:r (bR ρ) with
 |some c =>
  rw[hc] at ht;show .inl ⟨S,bR ρ,c,st.K6,st.all,hc,λH' sm=>ok.ex c H' (st.sm.trans sm) ht⟩
 |none =>
  rw[hc] at ht;dsimp only at ht;unfold sX bF at ht
  cases hf:f (jL ρ) with
  |none=>rw[hf] at ht;show ht.elim
  |some d =>
   rw[hf] at ht;show .inr ⟨_,jL ρ,_,st.OR,st.rd,⟨d,hf,ht⟩,λv H' d s' d' q'=>ok.nx w σ H' ρ hl (st.same s') q'⟩
end
abbrev bmV:List ai:=[.type "ValueError",.type "Exception",.type "BaseException",.type "object"]
structure RZ (K:ao) (C:ah):Prop where
 ex:∃nm q N bs bm hdct sn sub ab col dd k0 k1 k2 k3 k5,K.lookup C=aa (excClassObj nm q C N bs bm hdct sn sub ab col dd k0 k1 k2 k3 k5 "ValueError.__new__")/\PySem.W.tailIn K bmV bm=af/\PySem.W.nsOkIn K N=af/\h_ K N "__init__"=aa ae
section
variable{X:Cx}
theorem FP(hx:X.ex=[])(hcalm:X.calm=af)(hm:X.mg c=aa (.ref C))(hC:RZ X.K C)(ha:wL X (e::es) t)(hg:Gl X c:=by rfl)(hd:Zu c:=by decide)
  (he:Zs X e es:=by rfl) (hpl:Q0l X cpos es:=by rfl):
  qB X (.Raise (aa (.Call (.Name c np) (e::es) [] cpos)) ae ν) (mH t c):=by
 intro π s σ H B I ⟨H₀,S,w,ρ,G,E,hl,st,ht,ok⟩;unfold wS mH at ht
 cases et:t (bR ρ) with
 |none=>rw[et] at ht;show ht.elim
 |some ds =>
  rw[et] at ht;dsimp only at ht;by_cases wm:ds.length<=10
  .rw [Z_ wm] at ht;obtain⟨nm,q,N,bs,bm,hdct,sn,sub,ab,col,dd,k0,k1,k2,k3,k5,lk,tl,no,ni⟩:=hC.ex;show wpAny_Raise_call_subT (C:=C) (nm:=nm) (q:=q) (N:=N) (bs:=bs) (bm:=bm) (hdct:=hdct) (sn:=sn) (sub:=sub) (ab:=ab) (col:=col) (dd:=dd) (k0:=k0) (k1:=k1) (k2:=k2) (k3:=k3) (k5:=k5) (mN:=X.ω.nsMap N)
    PySem.F.excBase_ValueError ((a0I I.xG tl).hasType rfl) (I.ok.hd hcalm) (by rw[he];show(ag||(cu cpos (ar es X.env)).any (·.1))=ag;rw[hpl];rfl) (PySem.W.nsMap_none_of_in I.ok.mod.kin no ni) (xI I hg hm ⟨rfl,?_⟩ hd)
   have hN:X.ω.Ns N (X.ω.nsMap N):=.of_isNs (PySem.W.isNs_of_in I.ok.mod.kin no);have args:=ha cpos π s σ H (λvs H1=>vs.length=ds.length/\ξ H H1) I ⟨S,bR ρ,λz=>z=ds,st.K6,st.all,⟨ds,et,rfl⟩,λvs H1 ds' s1 d1 q1=>⟨by rw[<- d1.len,q1],s1⟩⟩;rw[he] at args ⊢;show a1p (ik args (λus s1 ⟨vs,H1,I1,r,hlen,sm⟩=>?_) λ_ _ z=>z);show⟨rfl,?_,I1.xG _ _ lk,hN.keeps I1.bk,a0I I1.xG tl,λh' ea mk=>?_⟩
   .show us.length<=bb;rw[<- r.length,hlen];show gx wm (by decide)
   .obtain ⟨C',hm',xc⟩:=ok.ex c H1 (st.sm.trans sm) ht;rw[hm] at hm';cases hm';obtain⟨tt,oe,_,_⟩:=mk.there;have I2:Φ X π σ H1 {s1 with heap:=h' }:=I1.kept (t':=s1.toks) mk.keeps;show xc π σ _ ea (.ref tt) [ea] I2 ⟨b_,λq hq=>?_,λq hq=>?_,λq hq=>?_,λq hq p hp z=>?_,.inl ⟨_,_,oe,rfl,rfl,rfl,rfl⟩⟩
    .rw [cc.1 hq]
     cases k:H1 ea with
     |none=>rfl
     |some o =>
      obtain⟨u,eu⟩:=uU (I1.hok _ _ k);rw[mk.new] at eu;cases eu
    .rw [cc.1 hq]
     cases k:X.s₀.heap.get? ea with
     |none=>rfl
     |some o =>
      obtain⟨o',eo⟩:=I1.ω.there ea o k (by rw[hx];simp);rw[mk.new] at eo;cases eo
    .rw [cc.1 hq];show⟨_,_,oe,rfl⟩
    .have:=(I1.pin p hp).1;rw[z,cc.mp hq,mk.new] at this;cases this
  .rw [Zz wm] at ht;show ht.elim
end
open PySem.W Builtin.ObjectAttr Builtin.Getset_descriptor
structure AD (K:ao) (C:ah):Prop where
 hc:isClsIn K C=af
 hm:mroIn K C (.type "object")=aa af
 hs:subIn K (.ref C) (.type "BaseException")=aa af
 hga:findIn K (.ref C) "__getattribute__"=aa (aa (.builtin "BaseException.__getattribute__"))
 hgg:findIn K (.ref C) "__getattr__"=aa ae
 ha:findIn K (.ref C) "__class__"=aa (aa (.builtin "object.__class__"))
 hn:specialIn K (.builtin "object.__class__") "__get__"=aa (aa (.builtin "getset_descriptor.__get__"))
 ht:takesIn K (.builtin "object.__class__")=aa af
def Is(a C:ah)(h:ay):Prop:=∃o,h.get? a=aa o/\o.cls=.ref C
section
variable{Ω:bc}{w:ba}{A:bq}{E:Q0c}{s:ak}{K:ao}{a C:ah}
def pO{M:uz}{h:ay}(i:Is a C h):uy M h (typeOf (.ref a)) (.ref C):=by obtain⟨o,h1,h2⟩:=i;show h2▸Looks.andThen (Looks.ld h1) .now
theorem aBO{tp:ai}{R:yx->ak->Prop}(X:K.In s.heap)(i:Is a C s.heap)(q:AD K C)(h:R (.ok (.ret (.ref C))) s):
  mx (av Ω w) A (.call (.builtin "getset_descriptor.__get__") ⟨[.builtin "object.__class__",.ref a,tp],[]⟩) R s:=by
 obtain⟨hp0,g0,dr0,t0,os0⟩:=s;have L0:=pO (M:=av Ω w) i;have L1:=looks_mroIn (M:=av Ω w) X q.hm;show a0B a0V.plain KF.entry_gs ?_;show a0V.check _ _ _ _ _ _ _ _ KF.type_class (KF.args_gs _ _ _) ?_;unfold Builtin.«getset_descriptor.__get__» descrGet;rw[dga_obj];show aq (az ?_);unfold descrGetter descrCheckInstance descrNameAndClass isInstance;simp only[KF.owner_class]
 repeat lk
 show vz (Code.quiet_builtin _ (by decide+kernel)) (ly KF.entry_class ?_);unfold Builtin.«object.__class__» shownTypeOf;repeat lk
 show h
def YF{tk:gk}{Q:zi->ak->Prop}(X:K.In s.heap)(i:Is a C s.heap)(q:AD K C)(hq:Q (.done (.ret (.ref C))) s):au (av Ω w) A (Builtin.«object.__getattribute__» ⟨[.ref a,.str "__class__" tk],[]⟩) Q E s:=by
 obtain⟨hh,g,d,t,os⟩:=s;have L0:=pO (M:=av Ω w) i;have L1:uy (av Ω w) hh (a3r (.ref a) (.ref C) "__class__") (.bind (.builtin "getset_descriptor.__get__") (.builtin "object.__class__")) :=
  have L3:uy (av Ω w) hh (a3s (aa (.builtin "object.__class__")) (aa (.builtin "getset_descriptor.__get__"))) (aa (.builtin "getset_descriptor.__get__",.builtin "object.__class__")):=(looks_takesIn X q.ht).andThen Looks.now
  (Gk X q.ha).andThen ((looks_specialIn X q.hn).andThen (L3.andThen (Looks.tag .now)))
 unfold PySem.Builtin.«object.__getattribute__»;show aq (az (aq (az (aq (L0.at (aq (L1.at ?_)))))));show au _ _ (holding [.builtin "object.__class__"] (call (.builtin "getset_descriptor.__get__") [.builtin "object.__class__",.ref a,.ref C]) >>= ret) _ _ _;show aq (iw (yj (aBO (s:=⟨hh,g,d,t,os⟩) X i q (az hq))))
def R1{M:uz}{nv:ai}{Q:Unit->ak->Prop}(X:K.In s.heap)(i:Is a C s.heap)(q:AD K C)(hq:Q () s):au M A (checkBuiltinCall "BaseException.__getattribute__" ⟨[.ref a,nv],[]⟩) Q E s:=by
 obtain⟨hh,g,d,t,os⟩:=s;have L:uy M hh (isInstance (.ref a) (.type "BaseException")) af:=(pO (M:=M) i).andThen (looks_subIn X q.hs);have k1:builtinKind "BaseException.__getattribute__"=aa .slot:=by decide+kernel
 have k2:splitId "BaseException.__getattribute__"=aa ("BaseException","__getattribute__"):=by decide+kernel
 simp only[checkBuiltinCall,k1,k2];show aq (L.at ?_);rw[Zz (by decide)];show a0j (F.args_bexc_ga (.ref a) nv) hq
def aEi{tk:gk}{Q:Q0c}(X:K.In s.heap)(i:Is a C s.heap)(q:AD K C)(hq:Q (.ref C) s):au (av Ω w) A (getAttrBy (.ref a) (.str "__class__" tk) ag) Q E s:=by
 obtain⟨hh,g,d,t,os⟩:=s;have L0:=pO (M:=av Ω w) i;have L1:=Gk (M:=av Ω w) X q.hga;have L2:=Gk (M:=av Ω w) X q.hgg;unfold getAttrBy;show iw (aq (L0.at ?_));show aq (L1.at ?_);dsimp only;have ne:(a0Z "BaseException.__getattribute__" == a0Z "object.__getattribute__")=ag:=by decide+kernel
 rw[ne,a2y,Zz bp];unfold getAttrByItsOwn hookBefore;rw[Z_ (show onTheHeap (cp C)=af from rfl)];show aq (L2.at (aq (qk (iw ?_))));unfold callGetattribute;rw[Zz (by simp)];unfold boundAndCalled;show aq (a0j (a1i.ga.bind (.ref a)) ?_);show yj (a0B a1i.ga.plain F.entry_bexc_ga (R1 (s:=⟨hh,g,d,t,os⟩) X i q (YF (s:=⟨hh,g,d,t,os⟩) X i q ?_)));show handed_on rfl hq
def YG(X:K.In s.heap)(i:Is a C s.heap)(q:AD K C)(hq:Q (aa (.ref C)) {s with toks:=s.toks+1}):au (av Ω w) A (getAttr? (.ref a) "__class__") Q E s:=by obtain⟨hh,g,d,t,os⟩:=s;unfold getAttr? getAttrBy?;show aq (wpAny_mkText (aq (qk ?_)));show aEi (s:=⟨hh,g,d,t+1,os⟩) X i q (az hq)
theorem YH(q:AD K C):KitX K (.ref a) (.ref C) (Is a C) where
 ty:=λ_ _ _ i=>pO i
 it:=λ_ _ X _=>by
  have hc:(clsIn K C).isSome=af:=q.hc;unfold clsIn at hc;split at hc
  .rename_i lk;intro A' Q' E' s' k h;unfold isType loadHead;show aq (wpAny_loadPart (k _ _ (X _ _ lk)) (az h))
  .cases hc
 ne:=λh tp d0 ι n0 sl0 X htp=>by
  have hc:(clsIn K C).isSome=af:=q.hc;show Bool.eq_false_iff.mpr λz=>?_;obtain rfl:C=tp:=a2D (beq_iff_eq.mp z);unfold clsIn at hc;split at hc
  .rename_i lk;cases (X _ _ lk).symm.trans htp
  .cases hc
 ca:=λX i k=>YG X i q k
variable{X:Cx}
def uV(X:Cx)(e C:ah):Prop:=∃oe:ax,(e,oe)∈X.pn/\oe.cls=.ref C
def uV.is(h:uV X e C)(I:Φ X π σ H s):Is e C s.heap:=by obtain⟨oe,hm,hc⟩:=h;show⟨oe,(I.pin _ (gj _ hm)).1,hc⟩
theorem IT(hp:uV X e C)(q:AD X.K C)(hu:∀u',Ψ v u'->u'=u)(hb:qo X.K (.ref C) u=aa b):
  gX X (.builtin "isinstance") (λxs H Q=>xs=[.ref e,v]/\Q (.bl b) H):=by
 intro π s σ H xs us Q I r h;obtain⟨rfl,h⟩:=h;obtain⟨u1,u2,rfl,r1,r2⟩:=vals2 r;cases r1;obtain rfl:=hu u2 r2;show jc (YH q) I.xG (hp.is I) hb (λz=>nomatch z) λtk=>⟨.bl b,H,I.tok tk,rfl,h⟩
theorem uW{i:Nat}{n x c:aj}{e C D:ah}{b:Bool}{p p1 p2 ν:bf}(hp:uV X e C)(q:AD X.K C)(hm:X.mg "isinstance"=ae)(hD:X.mg x=aa (.ref D))(hb:qo X.K (.ref C) (.ref D)=aa b)
  (hN:X.N[i]?=aa n:=by rfl) (hv:AX X.env.scope n:=by walk_at "1") (hd:Zu n:=by decide) (hcd:Zt n:=by decide)
  (hg:Gl X "isinstance":=by rfl) (hgx:Gl X x:=by rfl) (hdx:Zu x:=by decide)
  (hs:ar [.Name n p1,.Name x p2] X.env=(ag,eval (.Name n p1) X.env)::ar [.Name x p2] X.env:=by rfl) (hs2:ar [.Name x p2] X.env=(ag,eval (.Name x p2) X.env)::ar [] X.env:=by rfl) (hpl:(cu ν (ar [.Name x p2] X.env)).any (·.1)=ag:=by rfl):
  bY X (.Call (.Name "isinstance" p) [.Name n p1,.Name x p2] [] ν) (gQ c e b i) :=
 imp (lZ (IT (v:=.ref D) hp q (λu' r=>by cases r;rfl) hb) hg hm Hj (eK (x4 i hN hv hd hcd) (eK (aA3 (v:=.ref D) hgx hD rfl hdx) kT hs2) hs) (by decide) (by decide) hs hpl) λσ H Q Vd=>by obtain⟨S,ρ,Q3,fc,sl,⟨d,ed,q3⟩,k⟩:=Vd;obtain⟨ev,rfl⟩:=M8 ed;show⟨S,ρ,λz=>z=.exc c e,fc,sl,⟨_,ev,rfl⟩,λv H1 d s1 d1 q1=>?_⟩;subst q1;symm at d1;subst d1;show⟨rfl,k _ H1 _ s1 (by symm) q3⟩
theorem Vc(hp:uV X e C)(q:AD X.K C)(hm:X.mg "isinstance"=ae)(hD:X.mg x=ae)(hbt:bootBuiltins x=aa (.type T))(hb:qo X.K (.ref C) (.type T)=aa b)
  (hN:X.N[i]?=aa n:=by rfl) (hv:AX X.env.scope n:=by walk_at "1") (hd:Zu n:=by decide) (hcd:Zt n:=by decide)
  (hg:Gl X "isinstance":=by rfl) (hgx:Gl X x:=by rfl) (hnx:x ≠ "__name__":=by decide) (hdx:Zu x:=by decide)
  (hs:ar [.Name n p1,.Name x p2] X.env=(ag,eval (.Name n p1) X.env)::ar [.Name x p2] X.env:=by rfl) (hs2:ar [.Name x p2] X.env=(ag,eval (.Name x p2) X.env)::ar [] X.env:=by rfl) (hpl:(cu ν (ar [.Name x p2] X.env)).any (·.1)=ag:=by rfl):
  bY X (.Call (.Name "isinstance" p) [.Name n p1,.Name x p2] [] ν) (gQ c e b i) :=
 imp (lZ (IT (v:=.ty T) hp q (λu' r=>r) hb) hg hm Hj (eK (x4 i hN hv hd hcd) (eK (OA (v:=.ty T) hgx hD hbt rfl hnx hdx) kT hs2) hs) (by decide) (by decide) hs hpl) λσ H Q Vb=>by obtain⟨S,ρ,Q3,fc,sl,⟨d,ed,q3⟩,k⟩:=Vb;obtain⟨ev,rfl⟩:=M8 ed;show⟨S,ρ,λz=>z=.exc c e,fc,sl,⟨_,ev,rfl⟩,λv H1 d s1 d1 q1=>?_⟩;subst q1;symm at d1;subst d1;show⟨rfl,k _ H1 _ s1 (by symm) q3⟩
end
def hcx(X:Cx)(hd:Option ai)(pn:Q0b):Cx:={X with A:=X.A.mark hd,calm:=ag,pn:=pn,xe:=λ_ _=>False}
section
variable{X:Cx}{π:Q0b}{σ:L2.St}{H:Hp}{s:ak}
def FQ{n i:Nat}{v:V}(h:(bu n (ae:Option V))[i]?=aa (aa v)):False:=by rw[jj] at h;split at h<;>cases h
theorem Bu{hd:Option ai}{pn:Q0b}(I:Φ X π σ H s)(hp:∀p∈pn,s.heap.get? p.1=aa p.2/\H p.1=ae/\p.1≠X.env.locals/\p.1∉X.fs /\∀v,p.2.data≠.cell v):
  Φ (hcx X hd pn) [] (bu X.N.length ae) H s:=by
 obtain⟨m,hn,_⟩:=id I.loc;show⟨⟨I.ok.mod,I.ok.kind,I.ok.glob,I.ok.blt,I.ok.above,I.ok.inj,I.ok.has,I.ok.cab,λz=>(nomatch z),?_,I.ok.stk,I.ok.exf,I.ok.bs,I.ok.TJ,I.ok.KN,I.ok.QN,I.ok.qR,I.ok.frf,I.ok.tab⟩,I.os,I.bare,I.ω,⟨m,hn,λi x v _ h2 _=>(FQ h2).elim⟩,I.cell,I.free,I.iA,λp h=>?_,I.hok,by show(bu X.N.length ae).length=X.N.length;rw[ie]⟩
 .exact I.ok.frames
 .have h:p∈pn++[]:=h;rw[ij] at h;show hp p h
def Va{X:Cx}{π En pn:Q0b}{hd:Option ai}{σ':L2.St}{H:Hp}{s:ak}(ok:X.Ok)(I:Φ (hcx X hd pn) En σ' H s)(sub:∀p∈X.pn++π,p∈pn):Φ X π (bu X.N.length ae) H s:=by obtain⟨m,hn,_⟩:=id I.loc;show⟨ok,I.os,I.bare,I.ω,⟨m,hn,λi x v _ h2 _=>(FQ h2).elim⟩,I.cell,I.free,I.iA,λp h=>I.pin p (gj _ (sub p h)),I.hok,by rw[ie]⟩
def Em{h':ay}{m':Q0d}{t:Nat}(I:Φ X π σ H s)(hn:h'.Ns X.env.locals m')(hs:m_ X.env.locals s.heap h'):Φ X π (bu X.N.length ae) H {s with heap:=h',toks:=t}:=by
 have FL:∀b o,X.s₀.heap.get? b=aa o->b≠X.env.locals:=λb o q=>e_ (fz (bo q) I.ok.above);show⟨I.ok,I.os,I.bare,⟨λb o e n hb hx=>(hs.2 b (FL b o e)).trans (I.ω.keep b o e n hb hx),λb o e n hb hx=>?_,I.ω.free,λb o e hx=>?_,I.ω.tups,I.ω.wF,I.ω.uJ⟩,⟨m',hn,λi x v _ h2 _=>(FQ h2).elim⟩,λx c e=>?_,I.free,I.iA,λp hp=>?_,λb ob e=>?_,by rw[ie]⟩
 .obtain ⟨sl,q⟩:=I.ω.slot b o e n hb hx;show⟨sl,(hs.2 b (FL b o e)).trans q⟩
 .obtain ⟨o',q⟩:=I.ω.there b o e hx;show⟨o',(hs.2 b (FL b o e)).trans q⟩
 .obtain ⟨v,ic⟩:=I.cell x c e;show⟨v,ic.sameBut hs (I.cne x c e)⟩
 .obtain ⟨q,n,ne,nf,d⟩:=I.pin p hp;show⟨(hs.2 _ ne).trans q,n,ne,nf,d⟩
 .refine (I.hok b ob e).stay (λc u hc q=>(hs.2 c λz=>?_).trans q) (λ_ q=>q) λ_ _ q=>q;rcases hc with rfl|hc
  .rw [z,I.free] at e;cases e
  .rw [z,I.free] at hc;cases hc
theorem looked{π:Q0b}{σ:L2.St}{H:Hp}{s:ak}{e:ah}{cls a0:ai}{P:List ah}{E:Q0c}{Q:ak->Prop}(hst:X.stack=X.env::X.Γ)(hf:X.env.frame=aa X.env.locals)(I:Φ X π σ H s)(T:qW X π H s e cls a0 P)
  (k:∀h',Φ X π σ H {s with heap:=h' }->h'.TracedW (hideAll s.heap (P++frs X.stack)) e cls a0->(hideAll s.heap (P++frs X.stack)).StaysIn h'->h'.FunFrames (hideAll s.heap (P++frs X.stack)) X.stack->s.heap.UpToSlots h'->Q {s with heap:=h' }):
  au (av X.Ω X.w) X.A (noteFrame (.ref e) X.env) (λ_ s2=>au (av X.Ω X.w) X.A (setFlight (.ref e) ae) (λ_ s3=>Q s3) E s2) E s:=by
 have hin:∀env∈X.stack,∀b,env.frame=aa b->b∈P++frs X.stack:=λenv he b hb=>gq _ (qa.mpr ⟨env,he,hb⟩);have stay:(hideAll s.heap (P++frs X.stack)).StaysIn s.heap:=λb o q=>Gj _ q;have fns:s.heap.FunFrames (hideAll s.heap (P++frs X.stack)) X.stack:=a0N I.stack hin;have hen:(hideAll s.heap (P++frs X.stack)).get? e=ae:=uw _ (gj _ T.mem);generalize hB:hideAll s.heap (P++frs X.stack)=B at *;have next:∀h',Heap.NotedW B X.stack e cls a0 (rawInt X.env.locals) s.heap h'->au (av X.Ω X.w) X.A (setFlight (.ref e) ae) (λ_ s3=>Q s3) E {s with heap:=h' }:=λh' U_=>by
  obtain⟨k1,k2,k3,k4⟩:=U_;show a0f (s:={s with heap:=h' }) k1 k2 k3 λh2 j1 j2 j3 j4=>?_;have us:s.heap.UpToSlots h2:=λb o eb nf=>by obtain⟨sl,q⟩:=k4 b o eb nf;show⟨sl,j4 b _ q nf⟩
  show k h2 (flown I T (λb o n1 n2 q=>j1 b o ?_) us) j3 j1 j2 us;rw[<- hB];show ux _ q λz=>(gm.mp z).elim n1 n2
 have hfr:=I.ok.frames;rw[hst] at hfr fns next
 rcases T.tr with⟨oe,vs,he,hc,hd,h1,h0⟩|⟨oe,vs,T2,oT,ts,he,hc,hd,h1,hm,mq,hT,hdT,h3⟩
 .subst hc;unfold noteFrame;simp only[hf];show aq (il (x:=.none) he hd h1 ?_);rw[Zz (by decide)];show wpAny_entryW hfr fns hf he stay hen hd (Array.getElem?_eq_some_iff.mp h1).1 h0 next
 .have tm:B.get? T2=ae:=by rw[<- hB];show uw _ (gj _ hm)
  show wpAny_noteFrame_onW hfr fns hf ⟨oe,vs,T2,oT,ts,he,hc,hd,h1,tm,mq,hT,hdT,h3⟩ stay hen next
theorem R3(hc:X.calm=af):gX X (.builtin "max") (λxs H Q=>∃a b,xs=[.int a,.int b]/\Q (.int (if b>a then b else a)) H):=by
 intro π s σ H xs us Q I r h;obtain⟨a,b,rfl,q⟩:=h;obtain⟨u1,u2,rfl,⟨t1,rfl⟩,⟨t2,rfl⟩⟩:=vals2 r;show max_two_ints (I.ok.hd hc) λh' tk hk=>⟨_,H,I.kept hk,?_,q⟩;by_cases z:b>a
 .rw [Z_ z,Z_ z];show⟨_,rfl⟩
 .rw [Zz z,Zz z];show⟨_,rfl⟩
def El(g:Int->Int->Int):F1
 |[.int a,.int b],Q=>Q (.int (g a b))
 |_,_=>False
theorem aBP{K:ao}{g:Int->Int->Int}:C3 K (λxs H Q=>∃a b,xs=[.int a,.int b]/\Q (.int (g a b)) H) (El g):=by
 intro S H xs ds Q3 Q fc hd hf k
 match ds,hf with
 |[.int a,.int b],hf =>
  obtain⟨v,r,rfl,h1,h2⟩:=hd.bO;obtain⟨v2,r2,rfl,h3,h4⟩:=h2.bO;simp only[aW] at h4;subst h4;symm at h1 h3;subst h1 h3;show⟨a,b,rfl,k _ H _ (ξ.refl H) (by symm) hf⟩
def MA:lK (El λa b=>if b>a then b else a) x8:=λds d Q e q=>by
 unfold x8 at e;split at e
 .cases e;show q
 .cases e
def Ek(hc:X.calm=af)(hm:X.mg "max"=ae)(ha:wL X [a,b] t)(hg:Gl X "max":=by rfl)(he:ar [a,b] X.env=(ag,eval a X.env)::ar [b] X.env:=by rfl)(hpl:(cu ν (ar [b] X.env)).any (·.1)=ag:=by rfl):bY X (.Call (.Name "max" p) [a,b] [] ν) (cZ x8 t) :=
 cE (uM (R3 hc) aBP Hi hg hm ha (by decide) (by decide) he hpl) (BD MA)
def oO{p:Prop}(h:ag=af):p:=nomatch h
def ExI(mro:Q0f)(sl:List (Option ai))(P:ah->List ai->String->Bool):Prop:=∃C1 bm y0 y1 y2 y3 n y5,mro=.ref C1::bm/\sl=[y0,y1,y2,y3,aa (.builtin n),y5]/\P C1 bm n=af
theorem R4(h:excIn.match_1 (λ_ _=>Bool) mro sl (λC1 bm _ _ _ _ n _=>P C1 bm n) (λ_ _=>ag)=af):
  ExI mro sl P:=by
 cases mro with
 |nil=>show oO h
 |cons v bm =>
 cases v with
 |ref C1 =>
  cases sl with
  |nil=>show oO h
  |cons y0 sl =>
  cases sl with
  |nil=>show oO h
  |cons y1 sl =>
  cases sl with
  |nil=>show oO h
  |cons y2 sl =>
  cases sl with
  |nil=>show oO h
  |cons y3 sl =>
  cases sl with
  |nil=>show oO h
  |cons y4 sl =>
  cases y4 with
  |none=>show oO h
  |some w =>
  cases w with
  |builtin n =>
   cases sl with
   |nil=>show oO h
   |cons y5 sl =>
   cases sl with
   |cons z sl=>show oO h
   |nil=>show⟨C1,bm,y0,y1,y2,y3,n,y5,rfl,rfl,h⟩
  |_=>show oO h
 |_=>show oO h
def O9{K:ao}{C:ah}(h:excIn K C bmV "ValueError.__new__"=af):RZ K C:=by
 unfold excIn at h;split at h
 .rename_i dd cd sl lk;obtain⟨C1,bm,y0,y1,y2,y3,n,y5,e1,e2,h⟩:=R4 h;obtain⟨a1,a2,a3,a4,a5,a6,a7,a8,a9,a10,a11⟩:=cd;obtain⟨sl⟩:=sl;dsimp only at e1 e2 h;subst e1 e2;simp only[iu,beq_iff_eq,Iz] at h;obtain⟨⟨⟨⟨⟨g1,g2⟩,g3⟩,g4⟩,g5⟩,g6⟩:=h;subst g1 g2 g3;show⟨⟨a1,a5,a4,a2,bm,a6,a7,a8,a9,a10,dd,y0,y1,y2,y3,y5,lk,g4,g5,g6⟩⟩
 .cases h
end
variable{K:ao}{C D:ah}
structure dH (K:ao) (C D:ah):Prop where
 ne:(cp C == cp D)=ag
 c:isClsIn K D=af
 t:typeIn K (.ref D)=aa (.type "type")
 s:subIn K (.ref C) (.ref D)=aa ag
def C6(c:isClsIn K D=af)(ht:typeIn K (.ref D)=aa (.type "type"))(s:subIn K t (.ref D)=aa b):kitCls K t (.ref D)=aa b:=by have c:(clsIn K D).isSome=af:=c;unfold kitCls;dsimp only;rw[c,ht,Z_ (by decide)];show s
def dH.one(n:dH K C D):kitOne K (.ref C) (.ref D)=aa ag:=by unfold kitOne;rw[n.ne,Zz bp];show C6 n.c n.t n.s
def YI:kitOne K (.ref C) (.ref C)=aa af:=by unfold kitOne;rw[Z_ (by simp)]
def aBQ(k:kitMeta T=af)(s:subIn K (.ref C) (.type T)=aa b):kitOne K (.ref C) (.type T)=aa b:=by unfold kitOne;rw[Zz (show ¬ (cp C == ph T)=af from λz=>by cases beq_iff_eq.mp z)];unfold kitCls;dsimp only;rw[Z_ k];show s
def aEj(e1:subIn K (.ref D) (.type "BaseException")=aa af)(e2:isClsIn K D=af)(e3:typeIn K (.ref D)=aa (.type "type"))(e4:subIn K (.ref C) (.ref D)=aa b):exmOne K (.ref C) (.ref D)=aa b:=by unfold exmOne;rw[e1,Z_ (by decide)];show C6 e2 e3 e4
end L5
namespace L5
open PySem.Spec PyProof.Rows L2 L3 L4
section
variable{X:Cx}
def PRs(X:Cx)(es:List aw)(r:RF):Prop:=PA X es (λσ H _=>tR X r σ H λ_ _=>True)
def HL(h:PA X es t)(f:∀σ H Q,t' σ H Q->t σ H Q):PA X es t':=λν π s σ H Q I q=>h ν π s σ H Q I (f σ H Q q)
def aEk(he:bY X e f)(hr:PRs X es r)(hs:Zs X e es:=by rfl):PRs X (e::es) (TY f r) :=
 HL (eK he hr hs) λσ H Q Uz=>by obtain⟨S,ρ,c,fc,sl,ec,k⟩:=Uz;obtain⟨d,ed,ec⟩:=bnd ec;show⟨S,ρ,λ_=>True,fc,sl,⟨d,ed,trivial⟩,λv H1 d1 s1 _ _=>⟨S,ρ,c,bJ fc s1,Sl.fits (.same s1) sl,ec,λH' sm=>k H' (s1.trans sm)⟩⟩
def aEm(he:PR X e r)(ha:wL X es t)(hs:Zs X e es:=by rfl):PRs X (e::es) r :=
 HL (eK he ha hs) λσ H Q h=>h
end
open Att
section
variable{X:Cx}{π:Q0b}{σ:L2.St}{H:Hp}{s:ak}
theorem aBR{D:ah}{u:HO}{m:Q0d}{h':ay}{t':Nat}(I:Φ X π σ H s)(hns:s.heap.Ns X.env.locals m)(ns':h'.Ns X.env.locals m)(tD:∀b o,b≠X.env.locals->s.heap.get? b=aa o->h'.get? b=aa o)(dead:s.heap.get? D=ae)
  (ok:dG X.Ω X.w (upd H D u) h' D u):H D=ae/\Φ X π σ (upd H D u) {s with heap:=h',toks:=t' }:=by
 have hfr:H D=ae:=by
  cases e:H D with
  |none=>rfl
  |some u =>
   obtain⟨o,eo⟩:=uU (I.hok D u e);rw[dead] at eo;cases eo
 have neD:∀{b:ah} {o:ax},s.heap.get? b=aa o->b≠D:=λ{b o} e z=>by rw[z,dead] at e;cases e
 have RY:∀{b:ah} {u:HO},H b=aa u->b≠D:=λ{b u} e z=>by rw[z,hfr] at e;cases e
 show⟨hfr,?_⟩;show L2.Φ X π σ _ {s with heap:=h',toks:=t' };show I.step (s:=s) (h':=h') (g':=s.gens) (t':=t') (d':=s.drawn) (ch:=[]) (λb hb=>nomatch hb) (λb o hb _ _ e _=>tD b o hb e) (λb o hb _ _ e _=>⟨o.slots,tD b o hb e⟩) (λb o _ e n=>by rw[aV (neD e)];show n) (λb o _ e=>?_)
  (λb xs e=>by rw[aV (RY e)];show e) (λb o u e=>by rw[aV (RY e)];show e) (λb ps e=>by rw[aV (RY e),e]) (λm2 hm2=>?_) ?_ I.bare
 .by_cases hb:b=X.env.locals
  .subst hb;obtain⟨o2,_,_,e2,_⟩:=ns';show⟨o2,e2⟩
  .exact ⟨o,tD b o hb e⟩
 .have:m2=m:=by
   obtain⟨oa,ea,pa,h1,h2,_,h3⟩:=hm2;obtain⟨ob,eb,pb,k1,k2,_,k3⟩:=hns;rw[h1] at k1;cases k1;rw[h2] at k2;cases k2
   funext x
   rw[<- h3,<- k3]
  subst this;show ns'
 .intro b v e;by_cases hb:b=D
  .subst hb;rw[bA] at e;cases e;show ok
  .rw [aV hb] at e;show(I.hok b v e).stay (λc w hc ew=>tD c w (λz=>?_) ew) (λc ec=>by rw[aV (RY ec)];show ec) (λc ys ec=>by rw[aV (RY ec)];show ec) λc o u ec=>by rw[aV (RY ec)];show ec
   subst z;rcases hc with hc|hc
   .rw [<- hc,I.free] at e;cases e
   .rw [I.free] at hc;cases hc
def aEn:V->List V->Hp->VK->Prop:=λx xs H Q=>∃z y,x=.str z/\xs=[.str y]/\z.length+2<=bb/\(y.length == 0)=ag /\∀l,H l=ae->Q (.ref l) (upd H l (.lst ((pj z y).map V.str)))
theorem C7:∀l:List (aj×gk),θ ((l.map (·.1)).map V.str) (strValues l)
 |[]=>.nil
 |p::r=>.cons ⟨p.2,rfl⟩ (C7 r)
def YJ:MtR X "str.split" aEn:=by
 intro π s σ H x xs v us Q I rx r h;obtain⟨z,y,rfl,rfl,hz,hy,q⟩:=h;obtain⟨u,rfl,ty,rfl⟩:=vals1 r;obtain⟨tz,rfl⟩:=rx;obtain⟨m,hns,_⟩:=id I.loc;show splitN1 (h₀:=zN s.heap) (L:=X.env.locals) (m:=m) (news:=ledger s.heap X.env.locals s.heap.objs.size) (WM hns) (λp hp=>?_) hy (λl h' k e F N=>?_) hz
 .obtain ⟨x,o⟩:=p;obtain⟨n1,_,e⟩:=i8.mp hp;show⟨e,n1,qV _ _⟩
 .have dead:s.heap.get? s.heap.objs.size=ae:=a07 (bg _);obtain⟨hf,I'⟩:=aBR (D:=s.heap.objs.size) (u:=.lst ((pj z y).map V.str)) (t':=k) I hns F.ns (λb o hb e=>(N (b,o) (fj _ (i8.mpr ⟨hb,e_ (bo e),e⟩))).1) dead
   ⟨by rw[a_];show gx (a3x z y).2 hz,strValues l,0,by rw[<- e];show C7 l,(N _ (b_ ..)).1⟩
  show⟨.ref s.heap.objs.size,_,I',rfl,q _ hf⟩
theorem IU{K:ao}{S:ah->Prop}{H:Hp}:∀l:Q0g,aW K S H (l.map D.str) (l.map V.str)
 |[]=>aW.nil
 |x::r=>aW.cons (by symm) (IU r)
def R5(h:splitM a b=aa d):∃x y,a=.str x/\b=.str y/\(x.length+2<=nU/\(y.length == 0)=ag)/\d=.lst ((pj x y).map D.str):=by
 unfold splitM at h;split at h
 .split at h
  .rename_i z;cases h;show⟨_,_,rfl,rfl,z,rfl⟩
  .cases h
 .cases h
def Zo(ho:bY X o fo)(he:bY X e fe)(hbase:attributeBase o "split" X.env (eval o X.env)=eval o X.env:=by rfl)
  (hfew:Zq X cpos e:=by rfl)
  (hline:Q0k apos cpos:=by rfl) (hs:Zs X e []:=by rfl) (hplain:(cu cpos (ar [] X.env)).any (·.1)=ag:=by rfl):
  jB X (.Call (.Attribute o "split" apos) [e] [] cpos) (aE splitM fo fe) :=
 imp (OM F.plainAttrs_str F.slot_str_split F.type_str_split YJ ho (eK he kT hs) hbase hfew hline hs hplain) λσ H Q Uy=>by obtain⟨S,ρ,Q3,fc,sl,⟨d,ed,q3⟩,k⟩:=Uy;obtain⟨dx,ex,ed⟩:=bnd ed;obtain⟨dy,ey,ed⟩:=bnd ed;obtain⟨x,y,rfl,rfl,hz,rfl⟩:=R5 ed;show⟨S,ρ,λz=>z=.str x,fc,sl,⟨_,ex,rfl⟩,λv H1 d1 s1 AE q1=>?_⟩;subst q1;symm at AE;subst AE;show⟨rfl,S,ρ,λz=>z=.str y,bJ fc s1,Sl.fits (.same s1) sl,⟨_,ey,rfl⟩,λv2 H2 d2 s2 sQ q2=>?_⟩;subst q2;symm at sQ;subst sQ;show⟨x,y,rfl,rfl,hz.1,hz.2,λl hl=>k l _ _ _ ((s1.trans s2).free hl) bA ((s1.trans s2).trans (aY hl)) (IU _) q3⟩
def Bt:F2
 |.lst a,.int n,Q=>a.length*n.toNat<=bb /\ -(2^63)<=n/\n<2^63/\Q (.lst (bu n.toNat a).flatten)
 |_,_,_=>False
theorem PB{K:ao}{S:ah->Prop}{H:Hp}{ds:List D}{xs:List V}(h:aW K S H ds xs):∀n:Nat,aW K S H (bu n ds).flatten (bu n xs).flatten
 |0=>aW.nil
 |n+1=>by rw[jh,jh,qe,qe];show h.append (PB h n)
def rep3(ha:cV X a ta)(hb:cV X b tb):K8 X (.BinOp a .Mult b ν) (g7 Bt ta tb):=imp (V4 aDs ha hb) λσ H Q h=>by
 obtain⟨S,ρ,Q3,fc,sl,ht,k⟩:=h;show⟨S,ρ,_,fc,sl,ht,λv H1 d s1 d1 q1=>?_⟩;show⟨S,ρ,_,bJ fc s1,Sl.fits (.same s1) sl,q1,λu H2 d2 s2 d2' q2=>?_⟩;cases d<;>cases d2<;>try show q2.elim
 rename_i ds n;symm at d1 d2';obtain⟨a,xs,rfl,ha,sa,da⟩:=d1;subst d2';have da':=aW.fits (.same s2) _ _ da;obtain⟨z1,z2,z3,q3⟩:=q2;show⟨a,n,xs,rfl,rfl,s2 _ _ ha,z2,z3,by rw[<- da.len];show z1,λp hp=>k p _ _ _ ((s1.trans s2).free hp) bA ((s1.trans s2).trans (aY hp)) ?_ q3⟩;show aW.fits ((Fits.fresh hp).trans (.same (aY hp))) _ _ (PB da' _)
def R6:Tells Bt repLM:=λx y d Q e q=>by
 cases x<;>first|(cases e;done)|skip
 cases y<;>first|(cases e;done)|skip
 rename_i a n;have e:(if a.length*n.toNat<=nU/\n.natAbs<9223372036854775808 then aa (D.lst (bu n.toNat a).flatten) else ae)=aa d:=e;by_cases h:a.length*n.toNat<=nU/\n.natAbs<9223372036854775808
 .rw [Z_ h] at e;cases e;show⟨by rw[fm];show h.1,by have:=h.2;lia,by have:=h.2;lia,q⟩
 .rw [Zz h] at e;cases e
def YK(ha:bY X a fa)(hb:bY X b fb):jB X (.BinOp a .Mult b ν) (aE repLM fa fb):=cF (rep3 ha hb) (iR R6)
def Dv(he:OY X e f)(hg:PG3 X tg (wG g))(hs:swapsWithSole [tg] e ν.line X.env=pure ag:=by rfl)(hw:swappedStores [tg] e X.env=pure ae:=by rfl)
  (h1:(dg [tg] X.env).map (·.2)=[assign tg X.env]:=by rfl):qB X (.Assign [tg] e ν) (PX f g) :=
 jN (V0 he hg hs hw h1) λB σ H Ux=>by
  obtain⟨H₀,S,w,ρ,G,E,hl,st,ht,ok⟩:=Ux;unfold wS PX at ht
  cases e1:(f ρ).bind λp=>g p.2 p.1 with
  |none=>rw[e1] at ht;show ht.elim
  |some ρ' =>
   rw[e1] at ht;obtain⟨p,ef,eg⟩:=bnd e1;show⟨H₀,S,w,ρ,G,λρ2 d2=>ρ2=p.1/\d2=p.2,hl,st,⟨p,ef,rfl,rfl⟩,λw' v H' ρ2 d2 st' d' q'=>?_⟩;obtain⟨rfl,rfl⟩:=q';show⟨H₀,S,w',p.1,G,p.2,_,hl,st',d',⟨ρ',eg,ht⟩,λσ' H2 ρ3 hl' st2 q3=>ok.nx w' σ' H2 ρ3 hl' st2 q3⟩
end
section
variable{X:Cx}
section
variable{ls fs:Q0g}{fr:List Nat}{sc:fq}{tg iter elt:aw}{ifs:List aw}{ν:bf}{i:Nat}{x:aj}{spos pos':bf}
theorem MB{ti:WI}{g:GE}{tf:WT}{te:WE}(nd:X.N.Nodup)(hc:X.calm=af)(hi:XG X tg iter ti)
  (hg:∀cl C pn ex s H,(blk X (ls++fs) sc cl C pn ex s H).N.Nodup->PG4 (blk X (ls++fs) sc cl C pn ex s H) ls.length tg g) (hf:∀cl C pn ex s H,RD (blk X (ls++fs) sc cl C pn ex s H) ifs tf) (he:∀cl C pn ex s H,cV (blk X (ls++fs) sc cl C pn ex s H) elt te)
  (hx0:X.N[i]?=aa x:=by rfl) (hx:X.env.scope.names.lookup x=aa .local:=by rfl) (hsw:Rv X elt tg iter ifs sc ν x pos' spos:=by rfl)
  (B:chk X.env.scope.names sc X.N ls fs fr=af:=by rfl) (hs:Zp X iter:=by intro _;rfl):FD X (.Assign [.Name x pos'] (.ListComp elt [⟨tg,iter,ifs,0⟩] sc ν) spos) (Et i (HW ls.length fr ti g tf te)) :=
 jN (zZ (g:=z4 X.K ls.length (ls++fs).length g) (tf:=liftT X.K tf) (te:=lift X.K te) nd hx0 hx hc (nA B) hi (λcl C pn ex s H=>hg cl C pn ex s H (nA B).nd) hf he hsw hs) λBd σ H Uw=>by
 obtain⟨H₀,S,w,ρ,G,E,hl,st,ht,ok⟩:=Uw;show uN (n:=(ls++fs).length) (by rw[di,(nA B).BA]) ⟨_,bR ρ,_,st.K6,st.all,ht,λp xs H' ds hp hp' s' d' q'=>ok.nx w _ H' _ (by rw[gn];show hl) ((st.same s').lH (d:=.lst ds) (by rw[hl];show jT hx0) (by symm;show⟨p,xs,rfl,hp',st.OR p hp,aW.A2 q'.1 d'⟩)) q'.2⟩
variable{it:AF}{g:GEF}{t:TF}{e:EF}
def Uv{f:EF}{ρ:dW}{Q:D->Prop}{o:Out}{d:D}(h:f ρ=aa d)(hl:qC d=af)(q:Q d):wE f ρ λd=>(match d with | .lst ds=>rH ds=af|_=>False)/\Q d:=by show⟨d,h,?_,q⟩;cases d<;>first|show hl|cases hl
theorem MC(nd:X.N.Nodup)(hc:X.calm=af)(hi:PI4 X tg iter it)
  (hg:∀cl C pn ex s H,(blk X (ls++fs) sc cl C pn ex s H).N.Nodup->X2 (blk X (ls++fs) sc cl C pn ex s H) ls.length tg g) (hf:∀cl C pn ex s H,X3 (blk X (ls++fs) sc cl C pn ex s H) ifs t) (he:∀cl C pn ex s H,bY (blk X (ls++fs) sc cl C pn ex s H) elt e)
  (hx0:X.N[i]?=aa x:=by rfl) (hx:X.env.scope.names.lookup x=aa .local:=by rfl) (hsw:Rv X elt tg iter ifs sc ν x pos' spos:=by rfl)
  (B:chk X.env.scope.names sc X.N ls fs fr=af:=by rfl) (hs:Zp X iter:=by intro _;rfl):qB X (.Assign [.Name x pos'] (.ListComp elt [⟨tg,iter,ifs,0⟩] sc ν) spos) (nK i (cJ ls.length fr it g t e)) :=
 cS (MB nd hc hi hg hf he hx0 hx hsw B hs) λE ρ w=>by
  unfold wS nK at w
  cases h:cJ ls.length fr it g t e (bR ρ) with
  |none=>rw[h] at w;show w.elim
  |some d =>
   rw[h] at w;dsimp only at w;by_cases hl:qC d=af
   .rw [Z_ hl] at w;show LQ _ _ (Uv (o:=.no) (Q:=λd=>E.nx (ρ.set i (.ro d))) h hl w)
   .rw [Zz hl] at w;show w.elim
end
theorem xP:∀(l:Q0e) (a M:Int),(M=a\/M∈l)->a<=M->(∀b∈l,b<=M)->l.foldl (λm b=>if m<b then b else m) a=M
 |[],a,M,h,_,_=>by
  rcases h with h|h
  .exact h.symm
  .cases h
 |b::l,a,M,h,ha,hb=>by
  have hbM:=hb b (by simp);rw[me];by_cases hab:a<b
  .rw [Z_ hab];show xP l b M ?_ hbM λc hc=>hb c (by simp[hc]);rcases h with h|h
   .omega
   .rcases bh.mp h with h|h
    .exact .inl h
    .exact .inr h
  .rw [Zz hab];show xP l a M ?_ ha λc hc=>hb c (by simp[hc]);rcases h with h|h
   .exact .inl h
   .rcases bh.mp h with h|h
    .exact .inl ∅
    .exact .inr h
def Du(K:ao):List V->Hp->VK->Prop:=λxs H Q=>∃(a:ah) (ns:Q0e),xs=[.ref a]/\fF K H a (ns.map V.int)/\ns≠[]/\Q (.int (jW ns)) H
theorem R7(hc:X.calm=af):gX X (.builtin "max") (Du X.K):=by
 intro π s σ H xs us Q I r h;obtain⟨a,ns,rfl,ha,hne,q⟩:=h;obtain⟨u,rfl,ru⟩:=vals1 r;cases ru;obtain⟨ι,rv,p,hz⟩:=I.tuple ha;have hi:=intsAre_of rv;obtain⟨zs,ez⟩:=hi.allInts.items;have en:zs.toList.map (·.1)=ns:=by rw[<- Gb,<- ez];show hi.numsOf
 have sz:zs.size=ns.length:=by rw[<- en,a_,sx]
 have hpos:0<zs.size:=by rw[sz];show H_.mpr hne
 have pt:s.heap.IsTuple a (intItems zs):=ez▸(show s.heap.IsTuple a ι.toArray from p);have hlt:a<s.heap.objs.size:=by obtain⟨_,e,_⟩:=pt;show bo e
 show a0D (ou pt ?_);show⟨_,_,_,_,_,_,_,rfl,Walks.tuple (A:=X.A.in1) (I.ok.hd hc) _ a (e_ hlt) (intItems zs),⟨⟨_,dm _ rfl,rfl,rfl⟩,pt.push _⟩,?_,by simpa[intItems] using hpos,a1o (numAt zs) (λ_ _=>ym),λv h' tk hP hk=>?_⟩
 .intro b hb;show a1N ?_ (km _ _).symm;have hb2:b=s.heap.objs.size\/b=a:=by simpa using hb
  rcases hb2 with rfl|rfl
  .exact vh _
  .exact p0 hlt
 .have hP:(intItems zs)[argBest (λi j=>Zv (numAt zs i>numAt zs j)) (zs.size-1)]?=aa v:=by simpa[intItems] using hP
  obtain⟨t,rfl⟩:=ym hP;obtain⟨b1,b2⟩:=argBest_gt (numAt zs) (zs.size-1);generalize argBest (λi j=>Zv (numAt zs i>numAt zs j)) (zs.size-1)=J at b1 b2;have at':∀j,j<ns.length->numAt zs j=ns.getD j 0:=λj hj=>by rw[numAt_eq,en]
  have mem:numAt zs J∈ns:=by rw[at' J ∅,j7,bw ∅];show k_ _
  have top:∀b∈ns,b<=numAt zs J:=λb hb=>by obtain⟨j,hj,ej⟩:=Ag hb;subst ej;have:=b2 j ∅;rw[at' j hj,j7,bw hj] at this;show this
  have key:jW ns=numAt zs J:=by
   cases ns with
   |nil=>show Zw rfl hne
   |cons c l=>show xP l c _ (bh.mp mem) (top c (by simp)) λb hb=>top b (by simp[hb])
  show⟨.int (jW ns),H,I.kept λb o e=>hk b o (λhb=>?_) (cn _ e),⟨t,by rw[key]⟩,q⟩;have:b=s.heap.objs.size:=by simpa using hb
  show jb _ (this▸bo e)
def Dt:F1
 |[.tup ds],Q=>∃ns:Q0e,ds=ns.map D.int/\ns≠[]/\Q (.int (jW ns))
 |_,_=>False
theorem aBS{K:ao}:C3 K (Du K) Dt:=by
 intro S H xs ds Q3 Q fc hd hf k
 match ds,hf with
 |[.tup es],⟨ns,e,ne,q⟩ =>
  subst e;obtain⟨v,r,rfl,h1,h2⟩:=hd.bO;simp only[aW] at h2;subst h2;symm at h1;obtain⟨a,ys,rfl,ha,da⟩:=h1;have e2:=aW.ints.mp da;subst e2;show⟨a,ns,rfl,(fF.of ha),ne,k _ H _ (ξ.refl H) (by symm) q⟩
def MD:lK Dt GF:=λds d Q e q=>by
 unfold GF at e;split at e
 .obtain ⟨ns,e1,e⟩:=bnd e;by_cases ne:ns=[]
  .rw [Z_ ne] at e;cases e
  .rw [Zz ne] at e;cases e;have:=ints_of e1;subst this;show⟨ns,rfl,ne,q⟩
 .cases e
def Uu(hc:X.calm=af)(hm:X.mg "max"=ae)(ha:wL X [e] t)(hg:Gl X "max":=by rfl)(he:Zs X e []:=by rfl):bY X (.Call (.Name "max" p) [e] [] ν) (cZ GF t) :=
 cE (uM (R7 hc) aBS Hi hg hm ha (by decide) (by decide) he (by rfl)) (BD MD)
end
section
variable{X:Cx}
theorem Ut(C:Cl X.Ω X.w X.K X.mg X.ω cC k x ps (dB X.K R))(hr:fS k X.A)
  (ha:PRs X (e::es) r) (hg:Gl X x:=by rfl) (hdb:Zu x:=by decide) (he:Zs X e es:=by rfl) (hpl:Q0l X ν es:=by rfl):
  PR X (.Call (.Name x p) (e::es) [] ν) r:=by
 obtain⟨F,hm,hk,hb⟩:=C;show imp (pM F hr hg hm hk hb .nil OP ha hdb he hpl) λσ H Q h=>h
def Zn{st:bx}{t:TS}(h:PS X.OB st t):PS X st t:=λπ s σ H D I hw=>ik (h π s σ H D (I.wish λ_ _=>False) hw) (λ_ _ q=>SP.mZ q) λ_ _ z=>z.elim
theorem YL{st:bx}{f:SF}(h:qB X.OB st f):qB X st (JR f):=jN (Zn h) λB σ H hq=>by
 obtain⟨H₀,S,w,ρ,G,E,hl,sT,ht,ok⟩:=hq;show⟨H₀,S,w,ρ,G,{E with ex:=λ_=>False},hl,sT,?_,⟨ok.nx,ok.rt,ok.bk,ok.ct,λ_ _ _ q=>q.elim⟩⟩;unfold wS JR at ht;unfold wS
 cases hf:f ρ with
 |nx ρ1=>rw[hf] at ht;show ht
 |rt d=>rw[hf] at ht;show ht
 |no=>rw[hf] at ht;show ht
 |ex c=>rw[hf] at ht;show ht.elim
end
end L5
namespace L6
open PySem.Spec PyProof.Rows
section
variable{Ω:bc}{w:ba}{A:bq}{E:Q0c}{s:ak}
theorem stored(ho:s.heap.get? a=aa o)(hd:o.data=.set es ep t):
  (s.heap.update a (a03 es' t')).get? a=aa {o with data:=.set es' (ep+1) t' }:=by
 have q:=y_ (a03 es' t') ho (by rw[putSet_of es' t' hd];rfl)
 rwa [putSet_of es' t' hd] at q
end
open L2 L3 L4
theorem IV(ht:gy s.heap t ι.toArray)(hz:ι.length<=bb)
  (h:∀h',s.heap.objs.size<=h'.objs.size->(∀b u,s.heap.get? b=aa u->h'.get? b=aa u)->Q ι {s with heap:=h' }):au (av Ω w) A (collect (.ref t)) Q E s:=by
 obtain⟨ot,hot,hct,nt,hdt⟩:=id ht;unfold collect;apply aq;apply a0i;show ly a1k ?_;rw[nc a1h]
 wp_walk
 show⟨ql zk _,ly a1l ?_⟩;rw[nc zk];have g0:(s.heap.push {cls:=.type "list",data:=.seq #[]}).get? s.heap.objs.size=aa {cls:=.type "list",data:=.seq #[] 0}:=dm _ rfl;show wpAny_extend_seq (R:=wants _ _) (s:={s with heap:=s.heap.push {cls:=.type "list",data:=.seq #[]} }) s.heap.objs.size t _ 0 (.inr rfl) g0 (cn _ hot) hct hdt ?_ (by simpa using hz);have g1:=y_ (fg (· ++ ι.toArray)) g0 rfl;apply aq;apply Fs g1;have fin:=h ((s.heap.push {cls:=.type "list",data:=.seq #[]}).update s.heap.objs.size (fg (· ++ ι.toArray))) (kq (bo g1)) λb u e=>(Gu _ _ (ko (bo e))).trans (cn _ e);show az ?_;simpa using fin
theorem ME(ht:gy s.heap t ι.toArray)(hv:jw ι ns)(fu:ns.length<64)
  (h:∀h' tk l out ns' e,(∀b u,s.heap.get? b=aa u->h'.get? b=aa u)->s.heap.objs.size<=l->jw out ns'->ns'.Perm ns->ns'.Pairwise (· <= ·)->h'.get? l=aa (seqObj "list" out.toArray e)->Q (.ref l) {s with heap:=h',toks:=tk}):
  au (av Ω w) A (call (.builtin "sorted") [.ref t]) Q E s:=by
 have lv:ι.length<64:=by rw[IntsAre.length hv];show fu
 apply a1q Hf Hd Hg (a1G _);unfold Builtin.«sorted»;show aq (m:=checkCount "sorted" 1 1 _) (az (aq (IV (A:=A.in1) ht (by rw[fm];lia) λh1 l1 keep=>?_)));apply aq;show uq ?_ (by rw[fm];lia);have g1:(h1.push (seqObj "list" ι.toArray 0)).get? h1.objs.size=aa (seqObj "list" ι.toArray 0):=dm _ rfl;show aq (iw (kc Hc ⟨_,g1,rfl⟩ Hh (list_sort_tree g1 hv lv λout ns' a1 a2 a3=>⟨_,rfl,?_⟩) (a1H _)));obtain⟨e,g2⟩:=sortedHeap_at (out:=out) g1;show az ⟨_,rfl,h _ s.toks _ out.toList ns' e (λb u q=>?_) l1 a1 a2 a3 (by simpa using g2)⟩;have lb:=bo (keep b u q);rw[sortedHeap_old (e_ lb) (by rw[km];show p0 lb)];show cn _ (keep b u q)
section
variable{X:Cx}
def Zm(K:ao):List V->Hp->VK->Prop:=λxs H Q=>∃(a:ah) (ns:Q0e),xs=[.ref a]/\fF K H a (ns.map V.int)/\ns.length<64 /\∀ns':Q0e,ns'.Perm ns->ns'.Pairwise (· <= ·) ->∀p,H p=ae->Q (.ref p) (upd H p (.lst (ns'.map V.int)))
def MF:gX X (.builtin "sorted") (Zm X.K):=by
 intro π s σ H xs us Q I r h;obtain⟨a,ns,rfl,ha,fu,q⟩:=h;obtain⟨u,rfl,ru⟩:=vals1 r;cases ru;obtain⟨ι,rv,pl,hz⟩:=I.tuple ha;show ME pl (intsAre_of rv) fu λh' tk l out ns' e keep hl a1 a2 a3 g=>?_;have hz2:ns'.length<=bb:=by rw[a2.length_eq,fm];lia
 have I1:=I.laid (t':=tk) (a:=l) (o:=.lst (ns'.map V.int)) keep hl ⟨by rw[a_];show hz2,out,e,iB a1,by simpa[seqObj] using g⟩;show⟨.ref l,_,I1,rfl,q ns' a2 a3 l (I.hok.fresh hl)⟩
def AG(hm:X.mg "sorted"=ae)(ha:wL X [e] t)(hg:Gl X "sorted":=by rfl)(he:Zs X e []:=by rfl):
  jB X (.Call (.Name "sorted" p) [e] [] ν) (cZ kJ t) :=
 imp (lZ MF hg hm zw ha (by decide) (by decide) he (by rfl)) λσ H Q Uo=>by
  obtain⟨S,ρ,Q3,fc,sl,⟨d,ed,q3⟩,k⟩:=Uo;obtain⟨ds,eds,ed⟩:=bnd ed;show⟨S,ρ,λes=>es=ds,fc,sl,⟨_,eds,rfl⟩,λvs H1 es s1 d1 q1=>?_⟩;subst q1;unfold kJ at ed;split at ed
  .rename_i a;obtain⟨ns,e1,ed⟩:=bnd ed;by_cases hl:ns.length<64
   .rw [Z_ hl] at ed;cases ed;rw[ints_of e1] at d1;obtain⟨v,r,rfl,h1,h2⟩:=d1.bO;simp only[aW] at h2;subst h2;symm at h1;obtain⟨t1,xs,rfl,ht,dt⟩:=h1;rw[aW.ints.mp dt] at ht;show⟨t1,ns,rfl,fF.of ht,hl,λns' pm so l hl2=>?_⟩;have e3:ns'=sortI ns:=qZ (pm.trans (oK _).symm) so (lL _);subst e3;show k l _ _ _ (s1.free hl2) bA (s1.trans (aY hl2)) (aW.ints.mpr rfl) q3
   .rw [Zz hl] at ed;cases ed
  .cases ed
end
end L6
namespace L7
open PySem.Spec PyProof.Rows L2 L3 L4 LL
def kI(ns:Q0e):List Key:=ns.map cm
def Um(ns:Q0e):(kI ns).map kV=ns.map V.int:=by unfold kI;rw[de];rfl
section
variable(rd:List Int->List (List Int))
abbrev All:ah->Prop:=λ_=>True
end
def At(K:ao)(x:Q0a)(a:Q0e)(p:ah)(σ:L2.St)(H:Hp):Prop :=
 ∃vo va,σ[0]?=aa (aa vo)/\Dn K All H (aS x) vo/\σ[1]?=aa (aa va)/\Dn K All H (τ a) va/\σ[2]?=aa (aa (.ref p))
def At.key{K:ao}{x:Q0a}{a:Q0e}{p:ah}{σ:L2.St}{H:Hp}(h:At K x a p σ H):∃b,σ[1]?=aa (aa (.ref b))/\H b=aa (.tup ((kI a).map kV)):=by obtain⟨vo,va,h1,h2,h3,h4,h5⟩:=h;unfold τ at h4;symm at h4;obtain⟨b,ys,rfl,hb,db⟩:=h4;rw[aW.ints.mp db] at hb;show⟨b,h3,by rw[Um];show hb⟩
section
variable{K:ao}{rd:List Int->List (List Int)}{x:Q0a}{Ok:List Int->Prop}{a:Q0e}{p:ah}{σ:L2.St}{H:Hp}{χ:List (List Key×V)}
structure Parts (K:ao) (rd:List Int->List (List Int)) (x:Q0a) (a:Q0e) (C1:TT) (T1:TE) (T3:TS):Prop where
 c1:∀p σ H Q,At K x a p σ H->(∀H',ξ H H'->Q (Zv (a.length=x.length)) H')->C1 σ H Q
 t1:∀σ H (Q:VK),(∀H',ξ H H'->Q (.int 1) H')->T1 σ H Q
 t3:∀p (D:Ends) σ H,σ.length=4->At K x a p σ H->a.length<x.length->(∀(σ':L2.St) (H':Hp) (l:ah) (ps:List ah),ξ H H'->At K x a p σ' H'->σ'[3]?=aa (aa (.ref l))->H' l=aa (.lst (ps.map V.ref))->ps.length=(rd a).length ->
  (∀(i:Nat) (q:ah) (b:Q0e),ps[i]?=aa q->(rd a)[i]?=aa b->H' q=aa (.tup (b.map V.int)))->D.nx σ' H')->T3 D σ H
def wst(x:Q0a)(a:Q0e)(p:ah):bU:=[.ro (aS x),.ro (τ a),.ro (.exc "" p),.no]
theorem At.st(h:At K x a p σ H):ST K H All (λ_=>0) σ H (wst x a p) []:=by
 have no:∀(i:Nat) (d:D),(wst x a p)[i]?≠aa (Sv.ow d):=λi d e=>by
  match i,e with
  |0,e=>cases e
  |1,e=>cases e
  |2,e=>cases e
  |3,e=>cases e
  |n+4,e=>simp[wst] at e
 obtain⟨vo,va,h1,h2,h3,h4,h5⟩:=h;show⟨λ_ _=>trivial,ξ.refl H,λi d e=>Zw e (no i d),λi j d e h=>Zw h (no i d),λi d e=>?_,λg hg=>(by cases hg),λi _ e=>Zw e (no i _)⟩;have m:∀b,All b->SO All (λ_=>0) (wst x a p) b:=λb _=>⟨trivial,λi d e=>Zw e (no i d)⟩
 match i,e with
 |0,e=>cases e;show⟨vo,h1,Dn.fits (.mono m) _ _ h2⟩
 |1,e=>cases e;show⟨va,h3,Dn.fits (.mono m) _ _ h4⟩
 |2,e=>cases e;show⟨_,h5,by simp only[Dn]⟩
 |3,e=>cases e
 |n+4,e=>simp[wst] at e
end
end L7
namespace L8
open PySem.Spec PyProof.Rows L2
def iL(χ:List (KX×V×V))(k:KX):Option V:=(χ.find? λp=>Zv (p.1=k)).map (·.2.2)
def fX(χ:List (KX×V×V))(k:KX)(y v:V):List (KX×V×V):=if χ.any (λp=>Zv (p.1=k))=af then χ.map (λp=>if p.1=k then(p.1,p.2.1,v) else p) else χ++[(k,y,v)]
def KAt(H:Hp):KX->V->Prop
 |.inl k,y=>y=kV k
 |.inr ks,y=>∃b,y=.ref b/\oD H ks b
def tE(χ:List (KX×V×V))(k:KX):Prop:=∀p∈χ,p.1.isLeft=k.isLeft
def IW(χ:List (KX×V×V))(k:KX)(y v:V):(fX χ k y v).length<=χ.length+1:=by
 unfold fX;split
 .rw [a_];lia
 .simp
abbrev PL:List (KX×V×V)->List (Key×ai)->Prop:=i_ λp q=>p.1=.inl q.1/\p.2.1=kV q.1/\Ψ p.2.2 q.2
abbrev PT(H:Hp):List (KX×V×V)->List (N1×ah×ai)->Prop:=i_ λp q=>p.1=.inr q.1/\p.2.1=.ref q.2.1/\oD H q.1 q.2.1/\Ψ p.2.2 q.2.2
theorem PL.val(r:PL χ vs)(k:Key):qQ (iL χ (.inl k)) (valueAt vs k):=by
 induction r with
 |nil=>show jt
 | @cons p q ps qs h t ih =>
  by_cases e:q.1=k
  .have e1:p.1=.inl k:=by rw[h.1,e]
   have a:iL (p::ps) (.inl k)=aa p.2.2:=by unfold iL;rw[ig,Zx e1];rfl
   have b:valueAt (q::qs) k=aa q.2:=by unfold valueAt;rw[ig];simp[e]
   rw[a,b];show h.2.2
  .have e1:¬ p.1=.inl k:=λz=>e (by rw[h.1] at z;show yf z);have a:iL (p::ps) (.inl k)=iL ps (.inl k):=by unfold iL;rw[ig,Zy e1]
   have b:valueAt (q::qs) k=valueAt qs k:=by unfold valueAt;rw[ig];simp[e]
   rw[a,b];show ih
theorem PT.val(r:PT H χ xs)(k:N1):qQ (iL χ (.inr k)) ((atKey xs k).map (·.2)):=by
 induction r with
 |nil=>show jt
 | @cons p q ps qs h t ih =>
  by_cases e:q.1=k
  .have e1:p.1=.inr k:=by rw[h.1,e]
   have a:iL (p::ps) (.inr k)=aa p.2.2:=by unfold iL;rw[ig,Zx e1];rfl
   have b:atKey (q::qs) k=aa q.2:=by unfold atKey;rw[ig];simp[e]
   rw[a,b];show h.2.2.2
  .have e1:¬ p.1=.inr k:=λz=>e (by rw[h.1] at z;show Fi z);have a:iL (p::ps) (.inr k)=iL ps (.inr k):=by unfold iL;rw[ig,Zy e1]
   have b:atKey (q::qs) k=atKey qs k:=by unfold atKey;rw[ig];simp[e]
   rw[a,b];show ih
theorem YM(χ:List (KX×V×V))(k:KX):χ.any (λp=>Zv (p.1=k))=(iL χ k).isSome:=by
 unfold iL;rw[zz]
 induction χ with
 |nil=>rfl
 |cons p ps ih =>
  rw[mf,ig,ih];cases Zv (p.1=k)<;>rfl
def PL.put(r:PL χ vs)(k:Key)(rv:Ψ v u):PL (fX χ (.inl k) (kV k) v) (stored vs k u):=by
 have e:χ.any (λp=>Zv (p.1=.inl k))=vs.any (λkv=>kv.1=k):=by
  induction r with
  |nil=>rfl
  | @cons p q ps qs h t ih =>
   rw[mf,mf,ih,h.1];congr 1;show decide_eq_decide.2 ⟨λz=>yf z,λz=>by rw[z]⟩
 unfold fX stored;rw[e];split
 .rename_i hc
  clear hc e
  induction r with
  |nil=>show .nil
  | @cons p q ps qs h t ih =>
   rw[bj,bj];show .cons ?_ ih;by_cases z:q.1=k
   .rw [Z_ z,Z_ (by rw[h.1,z])];show⟨h.1,h.2.1,rv⟩
   .rw [Zz z,Zz (λy=>z (by rw[h.1] at y;show yf y))];show h
 .exact yy r ⟨rfl,rfl,rv⟩
def PT.put(r:PT H χ xs)(k:N1)(hb:oD H k b)(rv:Ψ v u):PT H (fX χ (.inr k) (.ref b) v) (storedH xs k b u):=by
 have e:χ.any (λp=>Zv (p.1=.inr k))=(atKey xs k).isSome:=by rw[YM];have:=(PT.val r k).pN;rw[zz] at this;show this
 unfold fX storedH;rw[e];split
 .rename_i hc
  clear hc e
  induction r with
  |nil=>show .nil
  | @cons p q ps qs h t ih =>
   rw[bj,bj];show .cons ?_ ih;unfold putAt;by_cases z:q.1=k
   .rw [Z_ z,Z_ (by rw[h.1,z])];show⟨h.1,h.2.1,h.2.2.1,rv⟩
   .rw [Zz z,Zz (λy=>z (by rw[h.1] at y;show Fi y))];show h
 .exact yy r ⟨rfl,rfl,hb,rv⟩
section
variable{P:bc}{w:ba}{H:Hp}{h:ay}{a:ah}{o:ax}{χ:List (KX×V×V)}
def tF(ok:pK P w H h)(n:oD H ks b):(lY P w).is h ks b:=by
 obtain⟨vs,e,r⟩:=n;obtain⟨_,ι,rv,⟨q,h1,h2,m,h3⟩,_⟩:=(show dG P w H h b (.tup vs) from ok b _ e);have go:∀{ks:N1} {vs:List V} {us:Q0f},i_ (EN H) ks vs->θ vs us->iH (bI P w) h ks us:=by
  intro ks vs us r
  induction r generalizing us with
  |nil=>intro rv;cases rv;show .nil
  | @cons k v ks vs i _ ih =>
   intro rv
   cases rv with
   | @cons _ u _ us ru rt =>
    show .cons ?_ (ih rt)
    cases k with
    |inl k =>
     have i:v=kV k:=i;subst i;show vP ru
    |inr k =>
     obtain⟨c,rfl,hc⟩:=i;have ru:u=.ref c:=ru;show⟨c,ru,E5 ok hc⟩
 show⟨q,ι.toArray,m,h1,h2,h3,by simpa using go r rv⟩
def AH(x:EO P w H o χ)(ho:h.get? a=aa o)(hp:∀p∈χ,p.1.isLeft=af):∃vs,PL χ vs/\h.DictOf (bI P w) a vs:=by
 obtain⟨ex,es,ep,ed,hx⟩:=x;rcases hx with⟨vs,r,h1,h2,h3⟩|⟨xs,r,h1,h2⟩
 .exact ⟨vs,r,o,es,ep,ho,ex,ed,h1,h2,h3⟩
 .cases r with
  |nil =>
   have e0:es.toList=[]:=h1;have e1:es=#[]:=by simpa using e0
   subst e1;show⟨[],.nil,o,#[],ep,ho,ex,ed,(λ_ he=>by simp at he),.nil,rj⟩
  | @cons p q ps qs hq t =>
   have:=hp p b_;rw[hq.1] at this;cases this
def FR(ok:pK P w H h)(x:EO P w H o χ)(ho:h.get? a=aa o)(hp:∀p∈χ,p.1.isLeft=ag):∃xs,PT H χ xs/\h.DictOfH (lY P w) a xs:=by
 obtain⟨ex,es,ep,ed,hx⟩:=x;rcases hx with⟨vs,r,h1,h2,h3⟩|⟨xs,r,h1,h2⟩
 .cases r with
  |nil =>
   have e0:es.toList=[]:=Ij (by rw[h2.length];rfl);show⟨[],.nil,o,es,ep,ho,ex,ed,e0,(λ_ he=>by simp at he),rj⟩
  | @cons p q ps qs hq t =>
   have:=hp p b_;rw[hq.1] at this;cases this
 .refine ⟨xs,r,o,es,ep,ho,ex,ed,h1,?_,h2⟩;have go:∀{χ:List (KX×V×V)} {xs:List (N1×ah×ai)},PT H χ xs ->∀x∈xs,(lY P w).is h x.1 x.2.1:=by
   intro χ xs r
   induction r with
   |nil=>intro x hx;cases hx
   |cons hq _ ih =>
    intro x hx;rcases bh.1 hx with e|hx
    .subst e;show tF ok hq.2.2.1
    .exact ih x hx
  show go r
variable{X:Cx}{π:Q0b}{σ:L2.St}{s:ak}{y v z:V}{u r:ai}{A:bq}{E:Q0c}{k:KX}
def PD(I:Φ X π σ H s)(e:H a=aa (.dX o χ)):χ.length<=bb/\(a == sysModules)=ag/\s.heap.get? a=aa o/\EO X.Ω X.w H o χ:=I.hok a _ e
def wx{k:Key}(kd:tE χ (.inl k)):∀p∈χ,p.1.isLeft=af:=kd
def wu{k:N1}(kd:tE χ (.inr k)):∀p∈χ,p.1.isLeft=ag:=kd
theorem R8(hu:A.units+2<cz)(I:Φ X π σ H s)(e:H a=aa (.dX o χ))(hk:KAt H k y)(kd:tE χ k)(hv:iL χ k=aa v)(ry:Ψ y u)(h:∀w' s',Φ X π σ H s'->Ψ v w'->Q w' s'):
  au (av X.Ω X.w) A (getItem (.ref a) u) Q E s:=by
 obtain⟨z,hs,ho,hx⟩:=PD I e
 cases k with
 |inl k =>
  have hk:y=kV k:=hk;subst hk;obtain⟨vs,rel,dd⟩:=AH hx ho (wx kd);obtain⟨w',hw,HH⟩:=qQ.some_of (v:=v) (o:=valueAt vs k) (by rw[<- hv];show PL.val rel k);show a0l (vP ry) dd.mapOf hw (h w' _ (I.tok _) HH)
 |inr k =>
  obtain⟨b,rfl,hb⟩:=hk;obtain rfl:u=cp b:=ry;obtain⟨xs,rel,dd⟩:=FR I.hok hx ho (wu kd);obtain⟨w',hw,HH⟩:=qQ.some_of (v:=v) (o:=(atKey xs k).map (·.2)) (by rw[<- hv];show PT.val rel k);obtain⟨p,hp,hp2⟩:=ip.mp hw;show a0m (nest_room hu) (tF I.hok hb) dd hp ?_;rw[hp2];show h w' _ (I.tok _) HH
theorem Kx(neg:Bool)(hu:A.units+2<cz)(I:Φ X π σ H s)(e:H a=aa (.dX o χ))(hk:KAt H k y)(kd:tE χ k)(ry:Ψ y u)(h:∀s',Φ X π σ H s'->Q (.bool (if neg then !(iL χ k).isSome else(iL χ k).isSome)) s'):
  au (av X.Ω X.w) A (compareOp (if neg then .NotIn else .In) u (.ref a)) Q E s:=by
 obtain⟨z,hs,ho,hx⟩:=PD I e
 cases k with
 |inl k =>
  have hk:y=kV k:=hk;subst hk;obtain⟨vs,rel,dd⟩:=AH hx ho (wx kd);have ev:(iL χ (.inl k)).isSome=(valueAt vs k).isSome:=(PL.val rel k).pN;rw[ev] at h
  cases neg with
  |false=>show wpAny_in_of (vP ry) hs dd.mapOf (h _ (I.tok _))
  |true=>show wpAny_notIn_of (vP ry) hs dd.mapOf (h _ (I.tok _))
 |inr k =>
  obtain⟨b,rfl,hb⟩:=hk;obtain rfl:u=cp b:=ry;obtain⟨xs,rel,dd⟩:=FR I.hok hx ho (wu kd);have ev:=(PT.val rel k).pN;rw[zz] at ev;rw[ev] at h
  cases neg with
  |false=>show wpAny_in_heap (nest_room hu) (tF I.hok hb) hs dd (h _ (I.tok _))
  |true=>show wpAny_notIn_heap (nest_room hu) (tF I.hok hb) hs dd (h _ (I.tok _))
def YN(I:Φ X π σ H s)(e:H a=aa (.dX o χ)):s.TypeIs (.ref a) "dict":=by obtain⟨z,hs,ho,hx⟩:=PD I e;show⟨o,ho,hx.1.1⟩
def YO{P:bc}{w:ba}{h':ay}{H':Hp}{χ:List (KX×V×V)}{vs:List (Key×ai)}(rel:PL χ vs)(dd:h'.DictOf (bI P w) a vs):∃o',h'.get? a=aa o'/\EO P w H' o' χ:=by obtain⟨o',es,ep,h1,h2,h3,h4,h5,h6⟩:=dd;show⟨o',h1,h2,es,ep,h3,.inl ⟨vs,rel,h4,h5,h6⟩⟩
def aBT{P:bc}{w:ba}{h':ay}{H':Hp}{χ:List (KX×V×V)}{xs:List (N1×ah×ai)}(rel:PT H' χ xs)(dd:h'.DictOfH (lY P w) a xs):∃o',h'.get? a=aa o'/\EO P w H' o' χ:=by obtain⟨o',es,ep,h1,h2,h3,h4,_,h6⟩:=dd;show⟨o',h1,h2,es,ep,h3,.inr ⟨xs,rel,h4,h6⟩⟩
def aBU{H:Hp}{a:ah}{o:ax}{χ:List (KX×V×V)}{u:HO}(e:H a=aa (.dX o χ)):∀b ys,H b=aa (.tup ys)->upd H a u b=aa (.tup ys):=λb ys eb=>by rw[aV (Ee eb e (λz=>nomatch z))];show eb
theorem R9(hu:A.units+2<cz)(I:Φ X π σ H s)(e:H a=aa (.dX o χ))(hk:KAt H k y)(kd:tE χ k)(hl:χ.length<bb)(ry:Ψ y u)(rv:Ψ v r)(h:∀o' s',Φ X π σ (upd H a (.dX o' (fX χ k y v))) s'->Q () s'):
  au (av X.Ω X.w) A (setItem (.ref a) u r) Q E s:=by
 obtain⟨z,hs,ho,hx⟩:=PD I e;have hz:(fX χ k y v).length<=bb:=by have:=IW χ k y v;lia
 have mu:Mut (H a):=by rw[e];show jt
 cases k with
 |inl k =>
  have hk:y=kV k:=hk;subst hk;obtain⟨vs,rel,dd⟩:=AH hx ho (wx kd);have hv:vs.length<=bb:=by rw[<- qt rel];show z
  show a0d (hsz:=hv) (vP ry) dd λh' dd' sb=>?_;obtain⟨o',g1,g2⟩:=YO (H':=upd H a (.dX o (fX χ (.inl k) (kV k) v))) (PL.put rel k rv) dd';show h o' _ (xK I mu sb ⟨o',g1⟩ ⟨hz,hs,g1,g2.stay λb ys eb=>by
   by_cases hb:b=a
   .subst hb;rw[bA] at eb;cases eb
   .rw [aV hb] at eb ⊢;show eb⟩)
 |inr k =>
  obtain⟨b,rfl,hb⟩:=hk;obtain rfl:u=cp b:=ry;obtain⟨xs,rel,dd⟩:=FR I.hok hx ho (wu kd);have hv:xs.length<=bb:=by rw[<- qt rel];show z
  show a0e (hsz:=hv) (nest_room hu) (tF I.hok hb) dd λh' dd' sb=>?_;obtain⟨o',g1,g2⟩:=aBT (PT.put rel k hb rv) dd';show h o' _ (xK I mu sb ⟨o',g1⟩ ⟨hz,hs,g1,g2.stay (aBU e)⟩)
end
open L7
def Ds(td ty:TE):TE:=λσ H Q=>td σ H λx H1=>ty σ H1 λy H2=>∃a o χ k v,x=.ref a/\H2 a=aa (.dX o χ)/\KAt H2 k y/\tE χ k/\iL χ k=aa v/\Q v H2
def wt(neg:Bool)(ty td:TE):TE:=λσ H Q=>ty σ H λy H1=>td σ H1 λx H2=>∃a o χ k,x=.ref a/\H2 a=aa (.dX o χ)/\KAt H2 k y/\tE χ k/\Q (.bl (if neg then !(iL χ k).isSome else(iL χ k).isSome)) H2
def Ul(td ty tv:TE):TS:=λD σ H=>tv σ H λv H1=>td σ H1 λx H2=>ty σ H2 λy H3=>∃a o χ k,x=.ref a/\H3 a=aa (.dX o χ)/\KAt H3 k y/\tE χ k/\χ.length<bb /\∀o',D.nx σ (upd H3 a (.dX o' (fX χ k y v)))
def Uk:TE:=λ_ H Q=>∀p o,H p=ae->Q (.ref p) (upd H p (.dX o []))
section
variable{X:Cx}{o i e f value:aw}{ν pos':bf}{td ty tv tz:TE}
def PF(hu:X.A.units+2<cz)(ho:PE X o td)(hi:PE X i ty)(hs:K5 i):PE X (.Subscript o i ν) (Ds td ty):=by intro π s σ H Q I h;show OQ a1g.lookup hs (eI (ho π s σ H _ I h) λu s1 ⟨x,H1,I1,rx,q1⟩=>?_);show eI (hi π s1 σ H1 _ I1 q1) λiv s2 Uj=>?_;obtain⟨y,H2,I2,ry,a,ob,χ,k,v,ex,e,hk,kd,hv,q2⟩:=Uj;subst ex;obtain rfl:u=cp a:=rx;show⟨YN I2 e,R8 hu I2 e hk kd hv ry λw' s3 I3 r3=>⟨v,H2,I3,r3,q2⟩⟩
def SA(hu:X.A.units+2<cz)(hi:PE X i ty)(ho:PE X o td):PC X .NotIn i o (wt af ty td):=by intro π s σ H Q I h;show eI (hi π s σ H _ I h) λiv s1 Ui=>?_;obtain⟨y,H1,I1,ry,q1⟩:=Ui;show eI (ho π s1 σ H1 _ I1 q1) λu s2 Uh=>?_;obtain⟨x,H2,I2,rx,a,ob,χ,k,ex,e,hk,kd,q2⟩:=Uh;subst ex;obtain rfl:u=cp a:=rx;show Kx af hu I2 e hk kd ry λs3 I3=>⟨.bl _,H2,I3,rfl,q2⟩
def aBV(hu:X.A.units+2<cz)(ho:PE X o td)(hi:PE X i ty)(hv:PE X value tv)(hs:dq value (aa (.Subscript o i pos')) ν.line X.env=pure ag):PS X (.Assign [.Subscript o i pos'] value ν) (Ul td ty tv):=by intro π s σ H D I h;show a0q (eI (hv π s σ H _ I h) λr s1 ⟨v,H1,I1,rv,q1⟩=>?_) hs;show eI (ho π s1 σ H1 _ I1 q1) λu s2 Ug=>?_;obtain⟨x,H2,I2,rx,q2⟩:=Ug;show eI (hi π s2 σ H2 _ I2 q2) λiv s3 Ue=>?_;obtain⟨y,H3,I3,ry,a,ob,χ,k,ex,e,hk,kd,hl,q3⟩:=Ue;subst ex;obtain rfl:u=cp a:=rx;show R9 hu I3 e hk kd hl ry rv λo' s4 I4=>⟨σ,_,I4,q3 o'⟩
def YQ(h:ay)(hb:sysModules<h.objs.size):dG P w H (h.push {cls:=.type "dict",data:=.dict #[]}) h.objs.size (.dX {cls:=.type "dict",data:=.dict #[]} []) :=
 ⟨jm _,beq_eq_false_iff_ne.mpr (d_ (e_ hb)),dm _ rfl,⟨rfl,rfl,rfl⟩,#[],0,rfl,.inl ⟨[],.nil,(λ_ he=>by simp at he),.nil,rj⟩⟩
def aBW:PE X (.Dict [] [] ν) Uk:=λπ s σ H Q I h =>
 a0p ⟨.ref s.heap.objs.size,_,I.laid (t':=s.toks) (λ_ _ q=>cn _ q) (bg _) (YQ s.heap I.big),rfl,h _ _ (I.hok.fresh (bg _))⟩
end
open L3 L4
section
variable{K:ao}{S:ah->Prop}{H:Hp}
def aBX(h:Dn K S H d v)(e:x5 d=aa k):v=kV k:=by cases d<;>simp only[x5] at e<;>cases e<;>symm at h<;>show h
theorem IY:∀{ds:List D} {xs:List V} {ks:List Key},aW K S H ds xs->BM ds=aa ks->xs=ks.map kV
 |[],xs,ks,h,e=>by simp only[aW] at h;cases e;show h
 |d::ds,xs,ks,h,e=>by obtain⟨v,r,rfl,h1,h2⟩:=h.bO;obtain⟨k,ek,e⟩:=bnd e;obtain⟨ks',e2,rfl⟩:=wM e;rw[aBX h1 ek,IY h2 e2];rfl
theorem YR(h:Dn K S H d v)(e:TZ d=aa k):EN H k v:=by
 cases d with
 |tup ds =>
  obtain⟨ks,e2,rfl⟩:=wM e;symm at h;obtain⟨a,xs,rfl,ha,dn⟩:=h;rw[IY dn e2] at ha;show⟨a,rfl,ha⟩
 |int i=>cases e;symm at h;show h
 |str i=>cases e;symm at h;show h
 |_=>cases e
theorem C8:∀{ds:List D} {xs:List V} {ks:N1},aW K S H ds xs->yA ds=aa ks->i_ (EN H) ks xs
 |[],xs,ks,h,e=>by simp only[aW] at h;cases e;subst h;show .nil
 |d::ds,xs,ks,h,e=>by obtain⟨v,r,rfl,h1,h2⟩:=h.bO;obtain⟨k,ek,e⟩:=bnd e;obtain⟨ks',e2,rfl⟩:=wM e;show .cons (YR h1 ek) (C8 h2 e2)
theorem xQ(h:Dn K S H d v)(e:tW d=aa k):KAt H k v:=by
 cases d with
 |tup ds =>
  obtain⟨ks,e2,rfl⟩:=wM e;symm at h;obtain⟨a,xs,rfl,ha,dn⟩:=h;show⟨a,rfl,xs,ha,C8 dn e2⟩
 |int i=>cases e;symm at h;show h
 |str i=>cases e;symm at h;show h
 |_=>cases e
theorem AI:∀{χ:List (KX×V×V)} {ds:List D},aW K S H ds (χ.map (·.2.2))->(∀d,bK (χ.map (·.1)) ds k=aa d ->∃v,iL χ k=aa v/\Dn K S H d v)/\(bK (χ.map (·.1)) ds k=ae->iL χ k=ae)
 |[],ds,h=>⟨λd e=>by simp[bK] at e,λ_=>rfl⟩
 |p::χ,ds,h=>by
  cases ds with
  |nil=>show Zw h.len (by simp)
  |cons d0 ds =>
   obtain⟨v,r,e1,h1,h2⟩:=h.bO;rw[bj] at e1;cases e1;have ih:=AI (k:=k) (χ:=χ) (ds:=ds) h2;by_cases e:p.1=k
   .have a:bK ((p::χ).map (·.1)) (d0::ds) k=aa d0:=by simp[bK,e]
    have b:iL (p::χ) k=aa p.2.2:=by simp[iL,e]
    rw[a,b];show⟨λd ed=>by cases ed;show⟨_,rfl,h1⟩,λz=>nomatch z⟩
   .have a:bK ((p::χ).map (·.1)) (d0::ds) k=bK (χ.map (·.1)) ds k:=by simp[bK,e]
    have b:iL (p::χ) k=iL χ k:=by simp[iL,e]
    rw[a,b];show ih
def FT(h:kindB (χ.map (·.1)) k=af):tE χ k:=λp hp=>by unfold kindB at h;rw[gp] at h;simpa using h p.1 (Hv hp)
theorem Ud(dv:Dn K S H d v):∀{χ:List (KX×V×V)} {ds:List D},aW K S H ds (χ.map (·.2.2)) ->
  (L8.fX χ k y v).map (·.1)=(L4.fX (χ.map (·.1)) ds k d).1/\aW K S H (L4.fX (χ.map (·.1)) ds k d).2 ((L8.fX χ k y v).map (·.2.2)):=by
 intro χ ds h;have e:(χ.map (·.1)).any (λq=>Zv (q=k))=χ.any (λp=>Zv (p.1=k)):=by rw[List.any_map];rfl
 unfold L8.fX L4.fX;rw[e];split
 .refine ⟨?_,?_⟩
  .simp only[de];show f_ λp _=>?_;show(if p.1=k then(p.1,p.2.1,v) else p).1=p.1;split<;>rfl
  .dsimp only;have go:∀{χ:List (KX×V×V)} {ds:List D},aW K S H ds (χ.map (·.2.2))->aW K S H (((χ.map (·.1)).zip ds).map λp=>if p.1=k then d else p.2) ((χ.map λp=>if p.1=k then(p.1,p.2.1,v) else p).map (·.2.2)):=by
    intro χ
    induction χ with
    |nil=>intro ds h;cases ds with
     |nil=>show aW.nil
     |cons d0 ds=>show Zw h.len (by simp)
    |cons p χ ih =>
     intro ds h
     cases ds with
     |nil=>show Zw h.len (by simp)
     |cons d0 ds =>
      obtain⟨u,r,e1,h1,h2⟩:=h.bO;rw[bj] at e1;cases e1;show aW.cons ?_ (ih h2);by_cases z:p.1=k
      .simpa [z] using dv
      .simpa [z] using h1
   show go h
 .refine ⟨by simp,?_⟩;rw[g_];show h.append (aW.one dv)
end
section
variable{X:Cx}
theorem Kw(hu:X.A.units+2<cz)(ho:bY X o fo)(hi:bY X i fi)(hs:K5 i:=by intro _ _;rfl):bY X (.Subscript o i ν) (aE De fo fi):=imp (PF hu ho hi hs) λσ H Q Uc=>by
 obtain⟨S,ρ,Q3,fc,sl,⟨d,e,q⟩,k⟩:=Uc;obtain⟨x,ex,e⟩:=bnd e;obtain⟨y,ey,e⟩:=bnd e;show⟨S,ρ,λd=>d=x,fc,sl,⟨x,ex,rfl⟩,λv H1 d1 s1 AE e1=>?_⟩;subst e1;show⟨S,ρ,λd=>d=y,bJ fc s1,Sl.fits (.same s1) sl,⟨y,ey,rfl⟩,λu H2 d2 s2 sQ e2=>?_⟩;subst e2;have AE:=Dn.fits (.same s2) _ _ AE
 cases d1 with
 |c8 q0 ks ds =>
  obtain⟨kk,ek,e⟩:=bnd e;symm at AE;obtain⟨a,o,χ,rfl,ha,sa,⟨rfl,_⟩,da⟩:=AE;by_cases hk:kindB (χ.map (·.1)) kk=af
  .rw [Z_ hk] at e;obtain⟨v3,ev,dv⟩:=(AI da).1 d e;show⟨a,o,χ,kk,v3,rfl,ha,xQ sQ ek,FT hk,ev,k v3 H2 d (s1.trans s2) dv q⟩
  .rw [Zz hk] at e;cases e
 |_=>cases e
theorem YS(h:lift X.K (wE (aE (PY neg) fi fo)) σ H Q):wt neg (lift X.K (wE fi)) (lift X.K (wE fo)) σ H Q:=by
 obtain⟨S,ρ,Q3,fc,sl,⟨d,e,q⟩,k⟩:=h;obtain⟨x,ex,e⟩:=bnd e;obtain⟨y,ey,e⟩:=bnd e;show⟨S,ρ,λd=>d=x,fc,sl,⟨x,ex,rfl⟩,λv H1 d1 s1 AE e1=>?_⟩;subst e1;show⟨S,ρ,λd=>d=y,bJ fc s1,Sl.fits (.same s1) sl,⟨y,ey,rfl⟩,λu H2 d2 s2 sQ e2=>?_⟩;subst e2;have AE:=Dn.fits (.same s2) _ _ AE
 cases d2 with
 |c8 q0 ks ds =>
  obtain⟨kk,ek,e⟩:=bnd (o:=tW d1) e;symm at sQ;obtain⟨a,o,χ,rfl,ha,sa,⟨rfl,_⟩,da⟩:=sQ;by_cases hk:kindB (χ.map (·.1)) kk=af
  .rw [Z_ hk] at e;cases e;have ev:(iL χ kk).isSome=(bK (χ.map (·.1)) ds kk).isSome:=by
    cases hl:bK (χ.map (·.1)) ds kk with
    |none=>rw[(AI da).2 hl];rfl
    |some d3=>obtain⟨v3,e3,_⟩:=(AI da).1 d3 hl;rw[e3];rfl
   show⟨a,o,χ,kk,rfl,ha,xQ AE ek,FT hk,?_⟩;rw[ev];show k _ H2 _ (s1.trans s2) (by symm) q
  .rw [Zz hk] at e;cases e
 |_=>cases e
section
variable{o i:aw}{ν:bf}{fo fi:EF}
def SD(h:liftT X.K (wT (tV (aE (PY neg) fi fo))) σ H Q):tB (wt neg (lift X.K (wE fi)) (lift X.K (wE fo))) σ H Q:=by
 obtain⟨S,ρ,Q3,fc,sl,⟨b,e,q⟩,k⟩:=h;obtain⟨d,e1,e2⟩:=bnd e;have eb:d=.bl b:=by
  obtain⟨x,ex,e⟩:=bnd e1;obtain⟨y,ey,e⟩:=bnd e
  cases y with
  |c8 q0 ks ds =>
   obtain⟨kk,ek,e⟩:=bnd (o:=tW x) e;by_cases hk:kindB ks kk=af
   .rw [Z_ hk] at e;cases e;cases e2;rfl
   .rw [Zz hk] at e;cases e
  |_=>cases e
 subst eb;show YS ⟨S,ρ,λd=>d=.bl b,fc,sl,⟨_,e1,rfl⟩,λv H1 d s1 dn e3=>?_⟩;subst e3;symm at dn;show⟨b,dn,k b H1 s1 q⟩
def Zl(hu:X.A.units+2<cz)(hi:bY X i fi)(ho:bY X o fo)(hm:behindInMarks .NotIn o=ag:=by with_unfolding_all rfl):A1 X (.Compare i [.NotIn] [o] ν) (tV (aE (PY af) fi fo)):=Q8 (aDW (SA hu hi ho) hm) λ_ _ _=>SD
end
end
section
variable{X:Cx}
def Ub(hN:X.N.Nodup)(hi:X.N[i]?=aa x:=by rfl)(hx:Loc X.env.scope x:=by walk_at "0")(hs:dq (.Dict [] [] p) (aa (.Name x pos')) ν.line X.env=pure ag:=by rfl)(hf:Zr X x:=by walk_at "0"):
  qB X (.Assign [.Name x pos'] (.Dict [] [] p) ν) (Ff i):=jN (oG hN hi hx aBW hs hf) λB σ H ⟨H₀,S,w,ρ,G,E,hl,st,ht,ok⟩=>λp o hp =>
 ok.nx _ _ _ _ (by rw[gn];show hl) (st.K7 (d:=.c8 k6 [] []) (by rw[hl];show jT hi) (aY hp) hp ⟨o,[],bA,⟨rfl,trivial⟩,aW.nil⟩) ht
def xR(h:PZ o=aa p):o=aa (.ow (.c8 p.1 p.2.1 p.2.2)):=by
 unfold PZ at h;split at h
 .cases h;rfl
 .cases h
theorem Ua(hu:X.A.units+2<cz)(he:OY X e f)(hk:bY X k fk)
  (hN:X.N[i]?=aa x:=by rfl) (hv:AX X.env.scope x:=by walk_at "1") (hd:Zu x:=by decide) (hcd:Zt x:=by decide)
  (hs:dq e (aa (.Subscript (.Name x p) k pos')) ν.line X.env=pure ag:=by rfl):
  qB X (.Assign [.Subscript (.Name x p) k pos'] e ν) (BN i f fk):=jN (aBV hu (qT hN hv hd hcd) hk he hs) λB σ H T_=>by
 obtain⟨H₀,S,w,ρ,G,E,hl,st,ht,ok⟩:=T_;unfold wS BN at ht;cases h:((f ρ).bind λp=>(PZ p.1[i]?).bind λkd=>(fk (bR p.1)).bind λkv=>(tW kv).bind λkk =>
  if kindB kd.2.1 kk=af/\kd.2.2.length<nU then aa (p.1.set i (.ow (.c8 (adr kd.1) (L4.fX kd.2.1 kd.2.2 kk p.2).1 (L4.fX kd.2.1 kd.2.2 kk p.2).2))) else ae) with
 |none=>rw[h] at ht;show ht.elim
 |some ρ2 =>
  rw[h] at ht;obtain⟨⟨ρ1,d1⟩,eq,h⟩:=bnd h;obtain⟨⟨q0,ks,ds⟩,ed,h⟩:=bnd h;obtain⟨kv,ek,h⟩:=bnd h;obtain⟨kk,e2,h⟩:=bnd h;have o0:=xR ed;by_cases hc:kindB ks kk=af/\ds.length<nU
  .rw [Z_ hc] at h;cases h;show⟨H₀,S,w,ρ,G,λρ' d=>ρ'=ρ1/\d=d1,hl,st,⟨_,eq,rfl,rfl⟩,λw' v H' ρ' d st' dv q'=>?_⟩;obtain⟨rfl,rfl⟩:=q';obtain⟨a0,_,_⟩:=st'.own i _ o0;show⟨_,a0,S,bR ρ',λy=>y=kv,st'.K6,st'.all,⟨kv,ek,rfl⟩,λy H2 y' s2 dy ey=>?_⟩;subst ey;have st2:=st'.same s2;obtain⟨a,b,c⟩:=st2.own i _ o0;obtain⟨o,χ,hp,⟨e5,hq⟩,dn⟩:=c;subst e5;have nS:¬ SO S w' ρ' (w' i):=λ⟨_,z⟩=>z i _ o0 rfl;show⟨w' i,o,χ,kk,rfl,hp,xQ dy e2,FT hc.1,?_,λo'=>?_⟩
   .have:=dn.len;rw[a_] at this;rw[fm,<- this];show hc.2
   .have F:Fits X.K (SO S w' ρ') (SO S w' ρ') H2 (upd H2 (w' i) (.dX o' (L8.fX χ kk y v))):=.upd (.inr (.inr ⟨_,_,hp⟩)) nS;obtain⟨p1,p2⟩:=Ud (k:=kk) (y:=y) (Dn.fits (.same s2) _ _ dv) dn;show ok.nx w' σ _ _ hl (st2.write (d':=.c8 (adr q0) _ _) o0 ⟨o',_,bA,⟨p1,o,hq⟩,aW.fits F _ _ p2⟩) ht
  .rw [Zz hc] at h;cases h
end
def SE{K:ao}{H₀ H H':Hp}{S:ah->Prop}{w:Nat->ah}{σ:L2.St}{ρ:bU}{G:List (D×V)}{i:Nat}{d d':D}(h:ST K H₀ S w σ H ρ G)(e:ρ[i]?=aa (Sv.ow d))(hb:∀b u,b≠w i->H b=aa u->H' b=aa u)(q:zS K (SO S w ρ) H' d' (w i))(hr:∀xs,d'≠.rws xs:=by intro _ z;cases z):ST K H₀ S w σ H' (ρ.set i (.ow d')) G:=by
 obtain⟨a0,b0,c0⟩:=h.own i d e;have wr:=c0.wr;have so:SO S w (ρ.set i (.ow d'))=SO S w ρ:=by
  funext a
  show propext ⟨λ⟨s,n⟩=>⟨s,λj f hf=>?_⟩,λ⟨s,n⟩=>⟨s,λj f hf=>?_⟩⟩
  .by_cases hj:j=i
   .subst hj;show n j d' (by rw[md (cb.1 e).1])
   .exact n j f (by rw[jo (d_ hj)];show hf)
  .by_cases hj:j=i
   .subst hj;show n j d e
   .exact n j f (by rw[jo (d_ hj)] at hf;show hf)
 have ne:∀a,SO S w ρ a->a≠w i:=λa z=>z.2 i d e;have nt:∀a xs,H a=aa (.tup xs)->a≠w i:=λa xs z y=>by subst y;rcases wr with⟨_,k⟩|⟨_,k⟩|⟨_,_,k⟩<;>rw[z] at k<;>cases k
 have nf:∀a o u,H a=aa (.xF o u)->a≠w i:=λa o u z y=>by subst y;rcases wr with⟨_,k⟩|⟨_,k⟩|⟨_,_,k⟩<;>rw[z] at k<;>cases k
 have F:Fits K (SO S w ρ) (SO S w ρ) H H':=⟨λa xs z=>hb _ _ (nt a xs z) z,λa ns z=>z.elim (λ⟨o,y⟩=>.inl ⟨o,hb _ _ (nf a o _ y) y⟩) .inr,λa xs z s=>⟨hb _ _ (ne a s) z,s⟩,λa xs z s=>⟨hb _ _ (ne a s) z,s⟩,λa o xs z s=>⟨hb _ _ (ne a s) z,s⟩⟩;show⟨h.fc,λb u z=>hb b u (bN z b0) (h.sm b u z),λj f hf=>?_,λj k d1 e1 h1 h2 z=>?_,λj f hf=>?_,λg hg=>by rw[so];show Dn.fits F _ _ (h.gh g hg),λj xs hx=>?_⟩
 rotate_right
 .rcases get_set hx with⟨_,z,_⟩|⟨hj,z⟩
  .exact Zw (Sv.ow.inj z).symm (hr xs)
  .exact h.rwN z λob hob=>hb _ _ (λy=>hj (h.inj _ _ _ _ z e y)) hob
 .rw [so];rcases get_set hf with⟨hj,z,_⟩|⟨hj,z⟩
  .cases z;subst hj;show⟨a0,b0,q⟩
  .obtain ⟨a,b,c⟩:=h.own j f z;show⟨a,b,c.fits F λob hob=>hb _ _ (λy=>hj (h.inj _ _ _ _ z e y)) hob⟩
 .have old:∀{m:Nat} {y:D},(ρ.set i (.ow d'))[m]?=aa (Sv.ow y) ->∃y2,ρ[m]?=aa (Sv.ow y2):=λ{m y} hm=>by
   rcases get_set hm with⟨hj,_,_⟩|⟨_,z⟩
   .subst hj;show⟨d,e⟩
   .exact ⟨_,z⟩
  obtain⟨_,g1⟩:=old h1;obtain⟨_,g2⟩:=old h2;show h.inj j k _ _ g1 g2 z
 .rw [so];rcases get_set hf with⟨_,z,_⟩|⟨hj,z⟩
  .cases z
  .obtain ⟨u,a,b⟩:=h.ro j f z;show⟨u,a,Dn.fits F f u b⟩
def ZA(K:ao)(R:FnM):Sp:=λvs H Q _=>∃(T:ah->Prop) (ds:List D) (us:List V) (p:ah) (o:ax) (χ:List (KX×V×V)) (xs:List D) (r:D×KD),vs=us++[.ref p]/\(∀a,H a=ae->T a)/\¬ T p/\H p=aa (.dX o χ)/\aW K T H ds us/\aW K T H xs (χ.map (·.2.2))/\R ds (χ.map (·.1),xs)=.ok r /\
 ∀v H' o' kvs',(∀b u,b≠p->H b=aa u->H' b=aa u)->H' p=aa (.dX o' kvs')->kvs'.map (·.1)=r.2.1->aW K T H' r.2.2 (kvs'.map (·.2.2))->Dn K T H' r.1 v->Q v H'
def uX(K:ao)(t:AF)(j:Nat):TA:=λσ H Q=>∃(S:ah->Prop) (ρ:dW) (ds:List D) (p:ah),(∀a,H a=ae->S a)/\Sl K S H ρ σ/\t ρ=aa ds/\σ[j]?=aa (aa (.ref p)) /\∀vs H',ξ H H'->aW K S H' ds vs->Q (vs++[.ref p]) H'
section
variable{X:Cx}
def C9(he:bY X e f)(hr:PA X es (uX X.K g j))(hs:Zs X e es:=by rfl):PA X (e::es) (uX X.K (aA f g) j) :=
 HL (eK he hr hs) λσ H Q TM=>by obtain⟨S,ρ,ds,p,fc,sl,et,ej,k⟩:=TM;obtain⟨d,ed,et⟩:=bnd et;obtain⟨r,er,et⟩:=bnd et;cases et;show⟨S,ρ,λy=>y=d,fc,sl,⟨d,ed,rfl⟩,λv H1 d1 s1 AE e1=>?_⟩;subst e1;show⟨S,ρ,r,p,bJ fc s1,Sl.fits (.same s1) sl,er,ej,λvs H2 s2 sQ=>?_⟩;show k (v::vs) H2 (s1.trans s2) (aW.cons (Dn.fits (.same s2) _ _ AE) sQ)
def Dr(hN:X.N[j]?=aa x:=by rfl)(hv:AX X.env.scope x:=by walk_at "1")(hd:Zu x:=by decide)(hcd:Zt x:=by decide):PA X [.Name x ν] (uX X.K aF j) :=
 HL (eK (qT hN hv hd hcd) kT) λσ H Q Tz=>by obtain⟨S,ρ,ds,p,fc,sl,et,ej,k⟩:=Tz;cases et;show⟨_,ej,k [] H (ξ.refl H) aW.nil⟩
theorem DA{R:FnM}{t:AF}{j:Nat}{H₀ H:Hp}{S:ah->Prop}{w:Nat->ah}{σ:L2.St}{ρ:bU}{G:List (D×V)}{r:(Nat->ax->Prop)×D×KD}{Q:VK}(st:ST X.K H₀ S w σ H ρ G)(h:stepM R t j ρ=aa r)
  (k:∀v H',ST X.K H₀ S w σ H' (ρ.set j (.ow (.c8 (adr r.1) r.2.2.1 r.2.2.2))) G->Dn X.K (SO S w ρ) H' r.2.1 v->Q v H'):D_ (ZA X.K R) [] E0 (uX X.K t j) σ H Q:=by
 obtain⟨ds,et,h⟩:=bnd h;obtain⟨⟨q0,ks,xs⟩,eo,h⟩:=bnd h;have o0:=xR eo
 cases hR:R ds (ks,xs) with
 |no=>dsimp only at h;rw[hR] at h;cases h
 |ex c=>dsimp only at h;rw[hR] at h;cases h
 |ok r0 =>
  dsimp only at h;rw[hR] at h;cases h;obtain⟨a0,b0,_⟩:=st.own j _ o0;show⟨SO S w ρ,jL ρ,ds,w j,st.OR,st.rd,et,a0,λvs H1 s1 dn=>?_⟩;have st1:=st.same s1;obtain⟨_,_,⟨o,χ,hp,⟨e5,hq⟩,dk⟩⟩:=st1.own j _ o0;subst e5;show ZA X.K R ((vs++[V.ref (w j)])++[]) H1 Q E0;rw[ij];show⟨SO S w ρ,ds,vs,w j,o,χ,xs,r0,rfl,st1.OR,λz=>z.2 j _ o0 rfl,hp,dn,dk,hR,λv H' o' kvs' hb hp' ek dx dv=>?_⟩;show k v H' (SE st1 o0 hb ⟨o',kvs',hp',⟨ek,o,hq⟩,dx⟩) dv
theorem Zk(C:Cl X.Ω X.w X.K X.mg X.ω cC k y ps (ZA X.K R))(hr:fS k X.A)(hij:i≠j)(hN:X.N.Nodup)
  (ha:PA X (e::es) (uX X.K t j)) (hi:X.N[i]?=aa x:=by rfl) (hx:Loc X.env.scope x:=by walk_at "0") (hg:Gl X y:=by rfl) (hdb:Zu y:=by decide) (he:Zs X e es:=by rfl) (hpl:Q0l X cpos es:=by rfl)
  (hs:dq (.Call (.Name y p) (e::es) [] cpos) (aa (.Name x pos')) ν.line X.env=pure ag:=by rfl) (hf:Zr X x:=by walk_at "0"):
  qB X (.Assign [.Name x pos'] (.Call (.Name y p) (e::es) [] cpos) ν) (tX i R t j):=by
 obtain⟨F,hm,hk,hb⟩:=C;show jN (oG hN hi hx (pM F hr hg hm hk hb .nil OP ha hdb he hpl) hs hf) λB σ H Tx=>?_;obtain⟨H₀,S,w,ρ,G,E,hl,st,ht,ok⟩:=Tx;unfold wS tX at ht
 cases h:stepM R t j ρ with
 |none=>rw[h] at ht;show ht.elim
 |some r =>
  rw[h] at ht;show DA st h λv H' st' dv=>ok.nx w _ H' _ (by rw[gn];show hl) (st'.lH (by rw[hl];show jT hi) (Dn.fits (.mono λa z=>?_) _ _ dv)) ht;show⟨z.1,λm y hm=>?_⟩;rcases get_set hm with⟨hj,_,hlt⟩|⟨_,q⟩
  .subst hj;obtain⟨_,et,h⟩:=bnd h;obtain⟨⟨q0,ks,xs⟩,eo,h⟩:=bnd h;show z.2 m _ (xR eo)
  .exact z.2 m y q
theorem Kv(C:Cl X.Ω X.w X.K X.mg X.ω cC k y ps (ZA X.K R))(hr:fS k X.A)
  (ha:PA X (e::es) (uX X.K t j)) (hg:Gl X y:=by rfl) (hdb:Zu y:=by decide) (he:Zs X e es:=by rfl) (hpl:Q0l X cpos es:=by rfl)
  (hs:dq (.Call (.Name y p) (e::es) [] cpos) ae ν.line X.env=pure ag:=by rfl):
  qB X (.Expr (.Call (.Name y p) (e::es) [] cpos) ν) (ZJ R t j):=by
 obtain⟨F,hm,hk,hb⟩:=C;show jN (ET (pM F hr hg hm hk hb .nil OP ha hdb he hpl) hs) λB σ H Tw=>?_;obtain⟨H₀,S,w,ρ,G,E,hl,st,ht,ok⟩:=Tw;unfold wS ZJ at ht
 cases h:stepM R t j ρ with
 |none=>rw[h] at ht;show ht.elim
 |some r =>
  rw[h] at ht;show DA st h λv H' st' _=>ok.nx w _ H' _ hl st' ht
abbrev YT(K:ao)(j:Nat)(k:EF):TS:=Ct (Ds (uj j) (lift K (wE k)))
def Tv{st:bx}{b:SF}{j:Nat}{x:aj}{i:aw}{k:EF}{p ν pos':bf}(hu:X.A.units+2<cz)(h:qB X st b)(hk:bY X i k)(hN:X.N[j]?=aa x:=by rfl)(hv:AX X.env.scope x:=by walk_at "1")(hd:Zu x:=by decide)(hcd:Zt x:=by decide)(hs:K5 i:=by intro _ _;rfl):
  AZ X [st,.Return (aa (.Subscript (.Name x p) i ν)) pos'] (QO (vS X.K (XC X) X.N.length (wS b)) (YT X.K j k)):=zJ h (OD (KO (PF hu (qT hN hv hd hcd) hk hs)))
theorem yK{st:bx}{Θ:List bx}{f g:SF}{tl:TS}(h1:qB X st f)(h2:AZ X Θ (QO (vS X.K (XC X) X.N.length (wS g)) tl)):AZ X (st::Θ) (QO (vS X.K (XC X) X.N.length (wS (aM f g))) tl):=HN (zJ h1 h2) λB σ H Tu=>by
 obtain⟨H₀,S,w,ρ,G,E,hl,st,ht,ok⟩:=Tu;unfold wS aM at ht;show⟨H₀,S,w,ρ,G,{E with nx:=wS g E},hl,st,?_,⟨λw' σ' H' ρ' hl' st' q=>⟨H₀,S,w',ρ',G,E,hl',st',q,ok⟩,ok.rt,ok.bk,ok.ct,ok.ex⟩⟩;unfold wS
 cases hf:f ρ with
 |nx ρ'=>rw[hf] at ht;show ht
 |rt d=>rw[hf] at ht;show ht
 |ex c=>rw[hf] at ht;show ht
 |no=>rw[hf] at ht;show ht
end
theorem Ku{P:bc}{w:ba}{K:ao}{mg:Q0d}{ω:ay}{x qual:aj}{st:bx}{f:ah}{fd:fv}{N ps:Q0g}{k n np:Nat}{b:SF}{key:EF}(F:Y9 K x qual st f fd)(S:gO N ps (bB st))(hn:N.length=n)(hp:ps.length=np)
  (hbody:∀(cdv:ai) (A:bq) (Γ:List dh) (s:ak) (H:Hp) (E:XK),fS k (A.deeper (envOfC qual (bB st) s.heap.objs.size f cdv)) ->
   ∃xc,AZ (m8 cC P w K mg ω N qual (bB st) f cdv A Γ s H E).OB (fL st) (QO (vS K xc N.length (wS b)) (YT K (np-1) key))):lG P w K mg ω cC (k+1) f fd ps (ZA K (runM n np b key)):=by
 subst hn hp;show F.ok S (λvs H Q E h=>?_) λcdv A Γ s H vs Q E hr h=>?_
 .obtain ⟨T,ds,us,p,o,χ,xs,r,rfl,fc,np,hp,du,dx,hR,kk⟩:=h;have hb:=M9 hR k6;unfold yB at hb;split at hb
  .rename_i hl;rw[di,<- du.len];show hl
  .cases hb
 .obtain ⟨xc,hb⟩:=hbody cdv A Γ s H E hr;obtain⟨T,ds,us,p,o,χ,xs,r,rfl,fc,nT,hp,du,dx,hR,kk⟩:=h;show⟨_,hb,?_⟩;have hq:=M9 hR (λa _=>a=p);unfold yB at hq;split at hq
  case isFalse=>cases hq
  rename_i hl;have hlu:=du.len;have hpN:ps.length<=N.length:=by have:=congrArg ny S.pre;rw[kz] at this;lia
  have j0:ps.length-1=ds.length:=by lia
  have sj:(startM N.length ds (λa _=>a=p) (χ.map (·.1),xs))[ds.length]?=aa (Sv.ow (.c8 (λa _=>a=p) (χ.map (·.1)) xs)):=by unfold startM;rw[jy (by simp)];simp
  have sv:∀i,i<ds.length->(startM N.length ds (λa _=>a=p) (χ.map (·.1),xs))[i]?=(ds[i]?).map Sv.ro:=λi hi=>by unfold startM;rw[jz (by simpa using hi),cf]
  have sn:∀i,ds.length<i ->∀y,(startM N.length ds (λa _=>a=p) (χ.map (·.1),xs))[i]?=aa y->y=Sv.no:=λi hi y e=>by
   unfold startM at e;rw[jy (by simp;lia)] at e;obtain⟨m,hm⟩:∃m,i-(a15 Sv.ro ds).length=m+1:=⟨i-ds.length-1,by simp;lia⟩;rw[hm,la,jj] at e;split at e
   .cases e;rfl
   .cases e
  have ow:∀(i:Nat) (d:D),(startM N.length ds (λa _=>a=p) (χ.map (·.1),xs))[i]?=aa (Sv.ow d)->i=ds.length/\d=.c8 (λa _=>a=p) (χ.map (·.1)) xs:=λi d e=>by
   rcases Nat.lt_trichotomy i ds.length with h|h|h
   .rw [sv i h] at e;obtain⟨y,_,ey⟩:=ip.1 e;cases ey
   .subst h;rw[sj] at e;cases e;show⟨rfl,rfl⟩
   .cases sn i h _ e
  have so:∀a,T a->SO (λa=>T a\/a=p) (λ_=>p) (startM N.length ds (λa _=>a=p) (χ.map (·.1),xs)) a:=λa ta=>⟨.inl ta,λi d e z=>nT (by rw[<- show a=p from z];show ta)⟩;have σl:L2.start N (us++[.ref p])=us.map aa++aa (.ref p)::bu (N.length-(us.length+1)) ae:=by unfold L2.start;simp
  cases hbs:b (startM N.length ds (λa _=>a=p) (χ.map (·.1),xs)) with
  |no=>rw[hbs] at hq;cases hq
  |rt d=>rw[hbs] at hq;cases hq
  |ex c=>rw[hbs] at hq;cases hq
  |nx ρ1 =>
   rw[hbs] at hq;dsimp only at hq;show⟨λc=>if c=p then ae else H c,λa=>T a\/a=p,λ_=>p,startM N.length ds (λa _=>a=p) (χ.map (·.1),xs),[],{nx:=λρ=>ρ=ρ1,rt:=λ_=>False,bk:=λ_=>False,ct:=λ_=>False,ex:=λ_=>False},?_,?_,?_,?_⟩
   .rw [σl];simp;lia
   .refine ⟨λa e=>?_,λc u e=>?_,λi d e=>?_,λi i' d d' h1 h2 _=>(ow i d h1).1.trans (ow i' d' h2).1.symm,λi d e=>?_,λg hg=>(by cases hg),λi xs e=>by have:=(ow i _ e).2;cases this⟩
    .by_cases z:a=p
     .exact .inr z
     .exact .inl (fc a (by simpa[z] using e))
    .by_cases z:c=p
     .simp [z] at e
     .simpa [z] using e
    .obtain ⟨rfl,rfl⟩:=ow i d e;show⟨?_,by simp,o,χ,hp,⟨rfl,rfl⟩,aW.fits (.mono so) _ _ dx⟩;rw[σl,jy (by simp;lia)];simp[hlu]
    .by_cases hi:i<ds.length
     .rw [sv i hi] at e;obtain⟨y,e1,ey⟩:=ip.1 e;cases ey;obtain⟨v,ev,dv⟩:=du.get e1;show⟨v,?_,Dn.fits (.mono so) _ _ dv⟩;have hv:i<us.length:=(cb.1 ev).1;rw[σl,jz (by simpa using hv),cf,ev];rfl
     .rcases Nat.lt_or_ge ds.length i with h|h
      .cases sn i h _ e
      .have:i=ds.length:=by lia
       subst this;rw[sj] at e;cases e
   .unfold wS;rw[hbs]
   .refine ⟨λw' σ' H' ρ' hl' st' e=>?_,λ_ _ _ _ _ z=>z.elim,λ_ _ _ _ _ _ z=>z.elim,λ_ _ _ _ _ _ z=>z.elim,λ_ _ _ z=>z.elim⟩;subst e;rw[j0] at hq ⊢;obtain⟨⟨q',ks',xs'⟩,eo,hq⟩:=bnd hq;obtain⟨kv,ek,hq⟩:=bnd hq;obtain⟨kk',e2,hq⟩:=bnd hq;have o0:=xR eo;obtain⟨a0,b0,⟨o1,aPa,hp1,⟨e5,hq1⟩,dk1⟩⟩:=st'.own ds.length _ o0;split at hq
    case isFalse=>cases hq
    rename_i hc;obtain⟨d,ed,hq9⟩:=wM hq;obtain⟨_,hwp⟩:=hc.2 _ _ hq1;have hwp:w' ds.length=p:=hwp;show⟨_,a0,SO (λa=>T a\/a=p) w' ρ',jL ρ',λy=>y=kv,st'.OR,st'.rd,⟨kv,ek,rfl⟩,λy H2 y' s2 dy ey=>?_⟩;subst ey;have st2:=st'.same s2;obtain⟨_,_,⟨o2,YU,hp2,⟨e6,_⟩,dk2⟩⟩:=st2.own ds.length _ o0;have toT:∀a,SO (λa=>T a\/a=p) w' ρ' a->T a:=λa z=>z.1.elim id λy=>Zw (y.trans hwp.symm) (z.2 _ _ o0);have e7:YU.map (·.1)=ks':=e6;have hk2:kindB (YU.map (·.1)) kk'=af:=by rw[e7];show hc.1
    have ed2:bK (YU.map (·.1)) xs' kk'=aa d:=by rw[e7];show ed
    obtain⟨v3,ev,dv⟩:=(AI dk2).1 d ed2;show⟨w' ds.length,o2,YU,kk',v3,rfl,hp2,xQ dy e2,FT hk2,ev,?_⟩;have er:r=(d,ks',xs'):=hq9.symm;subst er;rw[hwp] at hp2;show kk v3 H2 o2 YU (λc u ne hc=>s2 _ _ (st'.sm c u (by simpa[ne] using hc))) hp2 e7 (aW.fits (.mono toT) _ _ dk2) (Dn.fits (.mono toT) _ _ dv)
theorem fdM{P:bc}{w:ba}{K:ao}{mg:Q0d}{ω:ay}{x:aj}{st:bx}{N ps:Q0g}{k n np:Nat}{b:SF}{key:EF}(D:Df K mg x st ps)
  (h:∀{f:ah} {cdv:ai} {A:bq} {Γ:List dh} {s:ak} {H:Hp} {E:XK},fS k (A.deeper (envOfC x (bB st) s.heap.objs.size f cdv))->N.Nodup ->∃xc,AZ (m8 cC P w K mg ω N x (bB st) f cdv A Γ s H E).OB (fL st) (QO (vS K xc N.length (wS b)) (YT K (np-1) key)))
  (S:gO N ps (bB st):=by show⟨rfl,rfl,rfl,by decide+kernel,rfl,by decide+kernel,by decide+kernel⟩) (hn:N.length=n:=by rfl) (hp:ps.length=np:=by rfl):Cl P w K mg ω cC (k+1) x ps (ZA K (runM n np b key)):=by
 obtain⟨_,F,m,q⟩:=D;show⟨Ku F S hn hp λ_ _ _ _ _ _ hr=>h hr S.nd,m,F.kp,q⟩
def Tt{P:bc}{w:ba}{K:ao}{mg:Q0d}{ω:ay}{k:Nat}{f:ah}{fd:fv}{ps:Q0g}:lG P w K mg ω cC k f fd ps (ZA K λ_ _=>.no) :=
 ⟨λ_ _ _ _ h=>(by obtain⟨_,_,_,_,_,_,_,_,_,_,_,_,_,_,e,_⟩:=h;cases e),λ_ _ _ _ _ _ _ _ _ _ _ _ _ h=>(by obtain⟨_,_,_,_,_,_,_,_,_,_,_,_,_,_,e,_⟩:=h;cases e)⟩
def nnM{P:bc}{w:ba}{K:ao}{mg:Q0d}{ω:ay}{k:Nat}{x:aj}{st:bx}{ps:Q0g}(D:Df K mg x st ps):Cl P w K mg ω cC k x ps (ZA K λ_ _=>.no):=by obtain⟨_,F,m,q⟩:=D;show⟨Tt,m,F.kp,q⟩
section
variable{X:Cx}
def Kt(hm:X.mg "zip"=ae)(ha:wL X [a,b] t)(hg:Gl X "zip":=by rfl)(hs:ar [a,b] X.env=[(ag,eval a X.env),(ag,eval b X.env)]:=by rfl)(hs2:ar [b] X.env=[(ag,eval b X.env)]:=by rfl):
  PI4 X (.Tuple es kk tp) (.Call (.Name "zip" p) [a,b] [] ν) (T4 t):=cI (Nc hm ha hg hs hs2) λρ Q Ts=>by
 obtain⟨ds,e,q⟩:=Ts;obtain⟨as,ea,e⟩:=bnd e;show⟨as,ea,?_⟩;unfold Fe at e;split at e<;>first|(cases e;show q)|cases e
end
open L5
end L8
namespace L9
open PySem.Spec PyProof.Rows L2 L3 L4 L5
section
variable{X:Cx}
def Dq(K:ao):List V->Hp->VK->Prop:=λxs H Q=>∃(a:ah) (ns:Q0e),xs=[.ref a]/\eW K H a (ns.map V.int)/\ns≠[]/\Q (.int (jW ns)) H
theorem SG(hc:X.calm=af):gX X (.builtin "max") (Dq X.K):=by
 intro π s σ H xs us Q I r h;obtain⟨a,ns,rfl,ha,hne,q⟩:=h;obtain⟨u,rfl,ru⟩:=vals1 r;cases ru;obtain⟨ι,rv,p,hz⟩:=I.list ha;have hi:=intsAre_of rv;obtain⟨zs,ez⟩:=hi.allInts.items;have en:zs.toList.map (·.1)=ns:=by rw[<- Gb,<- ez];show hi.numsOf
 have sz:zs.size=ns.length:=by rw[<- en,a_,sx]
 have hpos:0<zs.size:=by rw[sz];show H_.2 hne
 have pl:s.heap.IsList a ι.toArray:=p.isList;have pt:s.heap.IsList a (intItems zs):=ez▸pl;have hlt:a<s.heap.objs.size:=by obtain⟨_,_,e,_⟩:=p;show bo e
 show a0D (Fo pt ?_);show⟨_,_,_,_,_,_,_,rfl,a0G (A:=X.A.in1) (I.ok.hd hc) _ a (e_ hlt) (intItems zs),⟨⟨_,dm _ rfl,rfl,rfl⟩,pt.push _⟩,?_,by simpa[intItems] using hpos,a1o (numAt zs) (λ_ _=>ym),λv h' tk hP hk=>?_⟩
 .intro b hb;show a1N ?_ (km _ _).symm;have two:b=s.heap.objs.size\/b=a:=by simpa using hb
  rcases two with z|z
  .rw [z];show vh _
  .rw [z];show p0 hlt
 .have hP:(intItems zs)[argBest (λi j=>Zv (numAt zs i>numAt zs j)) (zs.size-1)]?=aa v:=by simpa[intItems] using hP
  obtain⟨t,rfl⟩:=ym hP;obtain⟨b1,b2⟩:=argBest_gt (numAt zs) (zs.size-1);generalize argBest (λi j=>Zv (numAt zs i>numAt zs j)) (zs.size-1)=J at b1 b2;have atz:∀j,j<ns.length->numAt zs j=ns.getD j 0:=λj hj=>by rw[numAt_eq,en]
  have mem:numAt zs J∈ns:=by rw[atz J ∅,j7,bw ∅];show k_ _
  have top:∀b∈ns,b<=numAt zs J:=λb hb=>by obtain⟨j,hj,ej⟩:=Ag hb;subst ej;have:=b2 j ∅;rw[atz j hj,j7,bw hj] at this;show this
  have key:jW ns=numAt zs J:=by
   cases ns with
   |nil=>show Zw rfl hne
   |cons c l=>show xP l c _ (bh.1 mem) (top c (by simp)) λb hb=>top b (by simp[hb])
  show⟨.int (jW ns),H,I.kept λb o e=>hk b o (λhb=>?_) (cn _ e),⟨t,by rw[key]⟩,q⟩;have:b=s.heap.objs.size:=by simpa using hb
  show jb _ (this▸bo e)
def Dp:F1
 |[.lst ds],Q=>∃ns:Q0e,ds=ns.map D.int/\ns≠[]/\Q (.int (jW ns))
 |_,_=>False
theorem aBY{K:ao}:C3 K (Dq K) Dp:=by
 intro S H xs ds Q3 Q fc hd hf k
 match ds,hf with
 |[.lst es],⟨ns,e,ne,q⟩ =>
  subst e;obtain⟨v,r,rfl,h1,h2⟩:=hd.bO;simp only[aW] at h2;subst h2;symm at h1;obtain⟨a,ys,rfl,ha,_,da⟩:=h1;have e2:=aW.ints.1 da;subst e2;show⟨a,ns,rfl,(eW.of ha),ne,k _ H _ (ξ.refl H) (by symm) q⟩
def MG:lK Dp BO:=λds d Q e q=>by
 unfold BO at e;split at e
 .obtain ⟨ns,e1,e⟩:=bnd e;by_cases ne:ns=[]
  .rw [Z_ ne] at e;cases e
  .rw [Zz ne] at e;cases e;have:=ints_of e1;subst this;show⟨ns,rfl,ne,q⟩
 .cases e
def Dm(hc:X.calm=af)(hm:X.mg "max"=ae)(ha:wL X [e] t)(hg:Gl X "max":=by rfl)(he:Zs X e []:=by rfl):bY X (.Call (.Name "max" p) [e] [] ν) (cZ BO t) :=
 cE (uM (SG hc) aBY Hi hg hm ha (by decide) (by decide) he (by rfl)) (BD MG)
variable{π:Q0b}{σ:L2.St}{H:Hp}{s:ak}
def Zj(ok:X.Ok)(I:Φ (hcx X hd pn) En σ' H s)(sub:∀p∈X.pn++π,p∈pn):Φ X π σ' H s :=
 ⟨ok,I.os,I.bare,I.ω,I.loc,I.cell,I.free,I.iA,λp h=>I.pin p (gj _ (sub p h)),I.hok,I.len⟩
theorem Zi(I:Φ X π σ H s)(hN:X.N.Nodup)(hi:X.N[i]?=aa n)
  (hm:∀(j:Nat) (x:aj) (v:V),X.N[j]?=aa x->σ[j]?=aa (aa v)->AX X.env.scope x ->∃u,Ψ v u/\Look X.env s.heap m x u)
  (hn:h'.Ns X.env.locals (λx=>if x=n then v0 else m x)) (hs:m_ X.env.locals s.heap h'):Φ X π (σ.set i ae) H {s with heap:=h',toks:=t}:=by
 have W:=Em (t:=t) I hn hs;show⟨W.ok,W.os,W.bare,W.ω,⟨_,hn,λj x v h1 h2 h3=>?_⟩,W.cell,W.free,W.iA,W.pin,W.hok,by rw[gn];show I.len⟩;rcases get_set h2 with⟨_,z,_⟩|⟨ne,z⟩
 .cases z
 .obtain ⟨u,r,l⟩:=hm j x v h1 z h3;show⟨u,r,?_⟩;have xn:x≠n:=λe=>by subst e;obtain⟨a1,a2⟩:=cb.1 h1;obtain⟨b1,b2⟩:=cb.1 hi;show ne ((List.getElem?_inj a1 hN).1 (h1.trans hi.symm))
  rcases l with⟨k,e⟩|⟨k,c,e,ic⟩
  .refine .inl ⟨k,?_⟩;show(if x=n then v0 else m x)=aa u;rw[Zz xn];show e
  .exact .inr ⟨k,c,e,ic.sameBut hs (I.cne x c e)⟩
theorem aBZ{π:Q0b}{σ:L2.St}{H:Hp}{s:ak}{e C C0:ah}{a0:ai}{P:List ah}{E:Q0c}{R0 n:aj}{i:Nat}{b0:bx}{suite:List bx}{np hpos:bf}{h5:ay}{B:Ends}{N1:L2.St->Hp->Prop}(I:Φ X π σ H s)(T:qW X π H s e (.ref C) a0 P)
  (tr:h5.TracedW (hideAll s.heap (P++frs X.stack)) e (.ref C) a0) (stay:(hideAll s.heap (P++frs X.stack)).StaysIn h5) (fns:h5.FunFrames (hideAll s.heap (P++frs X.stack)) X.stack) (us:s.heap.UpToSlots h5)
  (hm0:X.mg R0=aa (.ref C0)) (hg0:Gl X R0) (hd0:Zu R0) (hx:a0P X.K (.ref C) (.ref C0)=aa af) (hN:X.N.Nodup) (hi:X.N[i]?=aa n) (hl:X.env.scope.names.lookup n=aa .local)
  (hB:∀σ2 H2,N1 σ2 H2->B.nx (σ2.set i ae) H2)
  (run:∀(oe:ax) (s7:ak),oe.cls=.ref C->Φ (hcx X (aa (.ref e)) (X.pn++π++[(e,oe)])) [] ((bu X.N.length ae).set i (aa (.ref e))) H s7 ->
   au (av X.Ω X.w) (X.A.mark (aa (.ref e))) (execs (b0::suite) X.env) (SP (hcx X (aa (.ref e)) (X.pn++π++[(e,oe)])) [] {nx:=N1,rt:=B.rt}) (λ_ _=>False) s7):
  au (av X.Ω X.w) X.A (handleBy (.ref e) X.env [.ExceptHandler (aa (.Name R0 np)) (aa n) (b0::suite) hpos]) (SP X π B) E {s with heap:=h5}:=by
 have kp:∀h',(hideAll s.heap (P++frs X.stack)).StaysIn h' ->∀b o,b∉P->b∉frs X.stack->s.heap.get? b=aa o->h'.get? b=aa o:=λh' st b o n1 n2 q=>st b o (ux _ q λz=>(gm.1 z).elim n1 n2);have J5:Φ X π σ H {s with heap:=h5}:=flown I T (kp h5 stay) us;show wpAny_handleBy_cons (codeAny_handlers_test ?_) (by intro q;cases q);have Z5:Φ (hcx X (aa (.ref e)) []) [] _ H {s with heap:=h5}:=Bu J5 λp hp=>nomatch hp;show xI (X:=hcx X (aa (.ref e)) []) Z5 hg0 hm0 ?_ hd0;have LT:uy (av X.Ω X.w) h5 (typeOf (.ref e)) (.ref C):=by obtain⟨oe,_,_,_,_,he,hc,_⟩:=tr;show pO ⟨oe,he,hc.1⟩
 show(PySem.W.exm_one (K:=X.K) J5.xG LT hx).here ?_;show codeAny_handlers_suite_as (n:=n) ?_;show a0f (s:={s with heap:=h5}) stay fns tr.at λh7 j1 j2 j3 j4=>?_;have us7:s.heap.UpToSlots h7:=λb o eb nf=>by obtain⟨sl,q⟩:=us b o eb nf;show⟨sl,j4 b _ q nf⟩
 have J7:Φ X π σ H {s with heap:=h7}:=flown I T (kp h7 j1) us7;obtain⟨oe,vs,T2,oT,ts,he,⟨hc,_⟩,hd,_⟩:=j3;have Y7:Φ (hcx X (aa (.ref e)) (X.pn++π++[(e,oe)])) [] _ H {s with heap:=h7}:=Bu J7 λp hp=>by
  rcases gm.1 hp with hp|hp
  .exact J7.pin p hp
  .rw [cc.1 hp];show⟨he,T.free e T.mem,λz=>?_,λz=>?_,λv z=>by rw[hd] at z;cases z⟩
   .obtain ⟨m,⟨o,es,ep,ho,hod,_⟩,_⟩:=J7.loc;have z:e=X.env.locals:=z;rw[<- z] at ho;have q:=he.symm.trans ho;cases q;rw[hd] at hod;cases hod
   .obtain ⟨_,o,ho,nf⟩:=J7.qR.mem z;have q:=he.symm.trans ho;cases q;show nf vs hd
 show zH (X:=hcx X (aa (.ref e)) (X.pn++π++[(e,oe)])) Y7 hN hi (.inl hl) (v:=.ref e) rfl (λs8 I8=>?_) (.inr hl);show ik (run oe s8 hc I8) (λf s9 h9=>?_) λ_ _ z=>z.elim
 cases f with
 |ret u =>
  obtain⟨v,σ',H',I9,rv,q⟩:=h9;have B9:Φ X π _ H' s9:=Va I.ok I9 λp hp=>gj _ hp;obtain⟨m,hn,_⟩:=id B9.loc;show wpAny_nameGoes hl hn (by rw[I.ok.kind];rfl) λh' m' hn' hs'=>⟨v,_,H',Em B9 hn' hs',rv,q⟩
 |next =>
  obtain⟨σ',H',I9,q⟩:=h9;have B9:Φ X π σ' H' s9:=Zj I.ok I9 λp hp=>gj _ hp;obtain⟨m,hn,hm⟩:=id B9.loc;show wpAny_nameGoes_keeps hl hn (by rw[I.ok.kind];rfl) λh' v0 hn' hs'=>⟨σ'.set i ae,H',Zi B9 hN hi hm hn' hs',hB _ _ q⟩
 |brk=>obtain⟨_,_,_,q⟩:=h9;show q.elim
 |cont=>obtain⟨_,_,_,q⟩:=h9;show q.elim
def ST.Zh{K:ao}{H₀ H:Hp}{S:ah->Prop}{w:Nat->ah}{σ:L2.St}{ρ:bU}{i:Nat}(h:ST K H₀ S w σ H ρ [])(hi:∀d,ρ[i]?≠aa (Sv.ow d)):ST K H₀ S w (σ.set i ae) H (ρ.set i .no) []:=by
 have other:∀{j:Nat} {s:Sv},s≠.no->(ρ.set i .no)[j]?=aa s->j≠i/\ρ[j]?=aa s:=λ{j s} hs q=>by
  rcases get_set q with⟨_,z,_⟩|z
  .exact Zw z hs
  .exact z
 have keep:∀{j:Nat} {v:V},j≠i->σ[j]?=aa (aa v)->(σ.set i ae)[j]?=aa (aa v):=λ{j v} ne q=>by rw[jo (d_ ne)];show q
 have so:∀a,SO S w ρ a->SO S w (ρ.set i .no) a:=SO.mono λj d q=>⟨d,(other (by intro z;cases z) q).2⟩;show⟨h.fc,h.sm,λj d q=>?_,λj k d e q1 q2 z=>?_,λj d q=>?_,λg hg=>(nomatch hg),λj xs q=>h.rw j xs (other (by intro z;cases z) q).2⟩
 .obtain ⟨ne,q⟩:=other (by intro z;cases z) q;obtain⟨a,b,c⟩:=h.own j d q;show⟨keep ne a,b,c.fits (.mono so) λ_ z=>z⟩
 .exact h.inj j k d e (other (by intro z;cases z) q1).2 (other (by intro z;cases z) q2).2 z
 .obtain ⟨ne,q⟩:=other (by intro z;cases z) q;obtain⟨v,a,b⟩:=h.ro j d q;show⟨v,keep ne a,Dn.fits (.mono so) d v b⟩
theorem Tr{R0 n:aj}{C0:ah}{i:Nat}{body:List bx}{b0:bx}{suite Θ:List bx}{np hpos ν:bf}{fb fr:SF}{fh:aj->Option bU}(hst:X.stack=X.env::X.Γ)(hf:X.env.frame=aa X.env.locals)(hm0:X.mg R0=aa (.ref C0))(hN:X.N.Nodup)
  (hbody:∀pn xe,nQ {X with pn:=pn,xe:=xe} body fb) (hrest:nQ X Θ fr)
  (hh:∀c ρ1,fh c=aa ρ1 ->∃(C:ah) (g:Nat->SF) (ρh:Nat->bU),X.mg c=aa (.ref C)/\a0P X.K (.ref C) (.ref C0)=aa af/\(∀e:Nat,g e ((bu X.N.length Sv.no).set i (.ro (.exc c e)))=.nx (ρh e)/\(ρh e).set i .no=ρ1 /\∀d,(ρh e)[i]?≠aa (Sv.ow d)) /\
   ∀(e:ah) (oe:ax) (pn:Q0b),oe.cls=.ref C->nQ (hcx X (aa (.ref e)) (pn++[(e,oe)])) (b0::suite) (g e))
  (hi:X.N[i]?=aa n:=by rfl) (hl:X.env.scope.names.lookup n=aa .local:=by rfl) (hg0:Gl X R0:=by rfl) (hd0:Zu R0:=by decide):
  nQ X (.Try body [.ExceptHandler (aa (.Name R0 np)) (aa n) (b0::suite) hpos] [] [] ν::Θ) (yC fb fh fr):=by
 intro π s σ H B I ⟨H₀,S,w,ρ,G,E,hlen,st,ht,ok⟩;generalize mv:({B with nx:=λσ' H'=>vS X.K (XC X) X.N.length (wS fr) B σ' H' }:Ends)=B2;show Fu (eI (Q:=SP X π B2) ?_ λf s1 q=>?_)
 rotate_left
 .subst mv
  cases f with
  |next =>
   obtain⟨σ',H',I',q⟩:=q;show hrest π s1 σ' H' B I' q
  |ret v=>show q
  |brk=>show q
  |cont=>show q
 show wpAny_Try_except ?_;generalize hxe:(λ(e:ai) (s1:ak)=>au (av X.Ω X.w) X.A (noteFrame e X.env) (λ_ s2=>au (av X.Ω X.w) X.A (setFlight e ae) (λ_ s3=>au (av X.Ω X.w) X.A (handleBy e X.env [.ExceptHandler (aa (.Name R0 np)) (aa n) (b0::suite) hpos]) (SP X π B2) X.xe s3) X.xe s2) X.xe s1)=xe;have I':Φ {X with pn:=X.pn++π,xe:=xe} [] σ H s :=
  ⟨⟨I.ok.mod,I.ok.kind,I.ok.glob,I.ok.blt,I.ok.above,I.ok.inj,I.ok.has,I.ok.cab,I.ok.hd,I.ok.frames,I.ok.stk,I.ok.exf,I.ok.bs,I.ok.TJ,I.ok.KN,I.ok.QN,I.ok.qR,I.ok.frf,I.ok.tab⟩,I.os,I.bare,I.ω,I.loc,I.cell,I.free,I.iA,λp hp=>I.pin p (by have hp:p∈(X.pn++π)++[]:=hp;rw[ij] at hp;show hp),I.hok,I.len⟩
 have back:∀{aCi:Q0b} {σ2:L2.St} {H2:Hp} {s2:ak},Φ {X with pn:=X.pn++π,xe:=xe} aCi σ2 H2 s2->Φ X π σ2 H2 s2:=λJ=>⟨I.ok,J.os,J.bare,J.ω,J.loc,J.cell,J.free,J.iA,λp hp=>J.pin p (gj _ hp),J.hok,J.len⟩;have ht':wS fb {E with nx:=λρ'=>wS fr E ρ',ex:=λc=>∃ρ1 d,fh c=aa ρ1/\fr ρ1=.rt d/\E.rt d} ρ:=by
  unfold wS yC at ht;unfold wS
  cases hb:fb ρ with
  |nx ρ'=>rw[hb] at ht;show ht
  |rt d=>rw[hb] at ht;show ht
  |no=>rw[hb] at ht;show ht
  |ex c =>
   rw[hb] at ht;dsimp only at ht ⊢
   cases hc:fh c with
   |none=>rw[hc] at ht;show ht.elim
   |some ρ1 =>
    rw[hc] at ht;dsimp only at ht
    cases hr:fr ρ1 with
    |rt d=>rw[hr] at ht;show⟨ρ1,d,rfl,hr,ht⟩
    |nx _=>rw[hr] at ht;show ht.elim
    |no=>rw[hr] at ht;show ht.elim
    |ex _=>rw[hr] at ht;show ht.elim
 have ok':XD X.K (XC {X with pn:=X.pn++π,xe:=xe}) X.N.length H₀ S G {E with nx:=λρ'=>wS fr E ρ',ex:=λc=>∃ρ1 d,fh c=aa ρ1/\fr ρ1=.rt d/\E.rt d} B2:=⟨λw2 σ2 H2 ρ2 l2 st2 q=>by
   rw[<- mv];show⟨H₀,S,w2,ρ2,G,E,l2,st2,q,ok⟩,λv H2 d2 s2 dn z=>by rw[<- mv];show ok.rt v H2 d2 s2 dn z,λw2 σ2 H2 ρ2 l2 st2 z=>by rw[<- mv];show ok.bk w2 σ2 H2 ρ2 l2 st2 z,λw2 σ2 H2 ρ2 l2 st2 z=>by rw[<- mv];show ok.ct w2 σ2 H2 ρ2 l2 st2 z,λc H' sm ⟨ρ1,d,hfd,hfr,q⟩=>by
  obtain⟨C,g,ρh,hmc,hx,hg,hs⟩:=hh c ρ1 hfd;show⟨C,hmc,λaCi σ2 s2 e a0 P I2 T2=>?_⟩;have IX:=back I2;have TX:qW X π H' s2 e (.ref C) a0 P:=⟨T2.mem,T2.free,T2.new,T2.fld,λq hq p hp=>T2.pin q hq p (gj _ hp),T2.tr⟩;show xe (.ref e) s2;rw[<- hxe];obtain⟨g1,g2,g3⟩:=hg e;show looked hst hf IX TX λh' J tr stay fns us=>aBZ (N1:=λσ3 H3=>∃w3,σ3.length=X.N.length/\ST X.K H₀ S w3 σ3 H3 (ρh e) []) IX TX tr stay fns us hm0 hg0 hd0 hx hN hi hl (λσ3 H3 ⟨w3,l3,st3⟩=>?_) λoe s7 hc I7=>?_
  .rw [<- mv];show⟨H₀,S,w3,(ρh e).set i .no,[],{nx:=λ_=>False,rt:=E.rt},by rw[gn];show l3,ST.Zh st3 g3,?_,⟨λ_ _ _ _ _ _ z=>z.elim,λv H2 d2 s2 dn z=>ok.rt v H2 d2 s2 dn z,λ_ _ _ _ _ _ z=>z.elim,λ_ _ _ _ _ _ z=>z.elim,λ_ _ _ z=>z.elim⟩⟩;show wS fr _ _;unfold wS;rw[g2,hfr];show q
  .have hrt:B2.rt=B.rt:=by rw[<- mv]
   rw[hrt];show(hs e oe (X.pn++π) hc) [] s7 _ H' _ I7 ⟨H₀,S,λ_=>0,(bu X.N.length Sv.no).set i (.ro (.exc c e)),[],{nx:=λρ2=>ρ2=ρh e,rt:=λ_=>False},?_,⟨st.fc,sm,λj d2 z=>?_,λj k d1 d2 z=>?_,λj d2 z=>?_,λg hg=>(nomatch hg),R_⟩,?_,⟨λw3 σ3 H3 ρ3 l3 st3 z=>⟨w3,l3,by rw[<- z];show st3⟩,λ_ _ _ _ _ z=>z.elim,λ_ _ _ _ _ _ z=>z,λ_ _ _ _ _ _ z=>z,λ_ _ _ z=>z.elim⟩⟩
   .show ((bu X.N.length (ae:Option V)).set i (aa (.ref e))).length=X.N.length;rw[gn,ie]
   .rcases get_set z with⟨_,z,_⟩|⟨_,z⟩
    .cases z
    .rw [jj] at z;split at z<;>cases z
   .rcases get_set z with⟨_,z,_⟩|⟨_,z⟩
    .cases z
    .rw [jj] at z;split at z<;>cases z
   .rcases get_set z with⟨rfl,z,hj⟩|⟨_,z⟩
    .cases z;show⟨.ref e,md (by simpa using hj),by simp only[Dn]⟩
    .rw [jj] at z;split at z<;>cases z
   .show wS (g e) _ _;unfold wS;rw[g1]⟩
 have run:=hbody (X.pn++π) xe [] s σ H B2 I' ⟨H₀,S,w,ρ,G,_,hlen,st,ht',ok'⟩;rw[<- hxe] at run ⊢;show ik run (λf s1 h=>?_) λ_ _ z=>z
 cases f with
 |next =>
  obtain⟨σ',H',J,q⟩:=h;rw[hxe] at J;show OC π s1 σ' H' B2 (back J) q
 |brk=>obtain⟨σ',H',J,q⟩:=h;rw[hxe] at J;show⟨σ',H',back J,q⟩
 |cont=>obtain⟨σ',H',J,q⟩:=h;rw[hxe] at J;show⟨σ',H',back J,q⟩
 |ret u=>obtain⟨v,σ',H',J,rv,q⟩:=h;rw[hxe] at J;show⟨v,σ',H',back J,rv,q⟩
end
open PySem.SeqAt
section
variable{X:Cx}
theorem AJ:∀{bs:List Bool} {us:Q0f},θ (bs.map V.bl) us->us=bs.map kh
 |[],_,.nil=>rfl
 |b::bs,_,.cons r t=>by have e:=AJ t;subst e;cases r;rfl
def Dl{bs:List Bool}{A:bq}{s:ak}:∀y,y∈bs.map kh->qq A s y (.bool af) (isBoolOf af y):=λy hy=>by obtain⟨b,_,rfl⟩:=fw.1 hy;show a02 b af
def YV(b:Bool):isBoolOf af (.bool b)=b:=by cases b<;>rfl
theorem YW:∀bs:List Bool,(bs.map kh).countP (isBoolOf af)=(bs.filter id).length
 |[]=>rfl
 |b::bs=>by have ih:=YW bs;rw[bj,List.countP_cons,YV,ih,vp];cases b<;>rfl
def aB0(K:ao):V->List V->Hp->VK->Prop:=λx xs H Q=>∃(a:ah) (bs:List Bool),x=.ref a/\xs=[.bl af]/\eW K H a (bs.map V.bl)/\Q (.int ((bs.filter id).length:Nat)) H
def SH:MtR X "list.count" (aB0 X.K):=by intro π s σ H x xs v us Q I rx r h;obtain⟨a,bs,rfl,rfl,ha,q⟩:=h;obtain⟨u,rfl,ru⟩:=vals1 r;cases ru;cases rx;obtain⟨ι,rv,p,hz⟩:=I.list ha;have ei:=AJ rv;subst ei;obtain⟨o,n,ho,hc,hd,hq⟩:=id p;obtain⟨cls,dd,data,sl⟩:=o;simp only at hc hd hq;subst hc hd hq;show oz a1d ⟨_,ho,rfl⟩ PySem.F.entry_list_count (PySem.F.args_list_count_2 _ _) (list_countAt a (bs.map kh).toArray n ae sl (.bool af) (isBoolOf af)) ⟨ho,λy hy=>Dl y (by simpa using hy),?_⟩;rw[show(bs.map kh).toArray.toList=bs.map kh from rfl,YW];show⟨.int ((bs.filter id).length:Nat),H,I.kept λ_ _ e=>e,⟨_,rfl⟩,q⟩
def aB1(K:ao):V->List V->Hp->VK->Prop:=λx xs H Q=>∃(a:ah) (bs:List Bool) (i:Nat),x=.ref a/\xs=[.bl af]/\eW K H a (bs.map V.bl)/\bs.findIdx? id=aa i/\Q (.int (i:Int)) H
def SI:MtR X "list.index" (aB1 X.K):=by
 intro π s σ H x xs v us Q I rx r h;obtain⟨a,bs,i,rfl,rfl,ha,hi,q⟩:=h;obtain⟨u,rfl,ru⟩:=vals1 r;cases ru;cases rx;obtain⟨ι,rv,p,hz⟩:=I.list ha;have ei:=AJ rv;subst ei;obtain⟨o,n,ho,hc,hd,hq⟩:=id p;obtain⟨cls,dd,data,sl⟩:=o;simp only at hc hd hq;subst hc hd hq;obtain⟨hil,hit,hno⟩:=List.findIdx?_eq_some_iff_getElem.1 hi;have hl:bs.length<=bb:=by rw[a_] at hz;show hz
 have hb:bb<2^62:=by decide
 show oz a1b ⟨_,ho,rfl⟩ PySem.F.entry_list_index (PySem.F.args_list_index_2 _ _) (list_indexAt a (bs.map kh).toArray n ae sl (.bool af) (isBoolOf af) i (by simpa using hil) ∅ ?_ λm hm hlt=>?_) ⟨ho,λy hy=>Dl y (by simpa using hy),?_⟩
 .simp only[a19,qd,YV];show hit
 .simp only[a19,qd,YV];have:=hno m hlt;simpa using this
 .exact ⟨.int (i:Int),H,I.kept λ_ _ e=>e,⟨_,rfl⟩,q⟩
theorem FU{K:ao}{S:ah->Prop}{H:Hp}:∀{ds:List D} {bs:List Bool} {xs:List V},L4.vG ds=aa bs->aW K S H ds xs->xs=bs.map V.bl
 |[],bs,xs,h,hd=>by cases h;simp only[aW] at hd;show hd
 |d::ds,bs,xs,h,hd=>by
  cases d with
  |bl b =>
   obtain⟨bs',e,h2⟩:=ip.1 (show(L4.vG ds).map (b :: ·)=aa bs from h);subst h2;obtain⟨v,r,rfl,h1,h3⟩:=hd.bO;symm at h1;subst h1;rw[FU e h3];rfl
  |_=>cases h
section
variable{o e:aw}{fo fe:EF}{apos cpos:bf}
def aB2(ho:bY X o fo)(he:bY X e fe)(hbase:attributeBase o "count" X.env (eval o X.env)=eval o X.env:=by rfl)
  (hfew:Zq X cpos e:=by rfl)
  (hline:Q0k apos cpos:=by rfl) (hs:Zs X e []:=by rfl) (hplain:(cu cpos (ar [] X.env)).any (·.1)=ag:=by rfl):
  bY X (.Call (.Attribute o "count" apos) [e] [] cpos) (aE wV fo fe) :=
 imp (OM Gw a1d F.type_list_count SH ho (eK he kT hs) hbase hfew hline hs hplain) λσ H Q Tq=>by
  obtain⟨S,ρ,Q3,fc,sl,⟨d,ed,q3⟩,k⟩:=Tq;obtain⟨dx,ex,ed⟩:=bnd ed;obtain⟨dy,ey,ed⟩:=bnd ed;unfold wV at ed;split at ed
  .rename_i ds _;obtain⟨bs,eb,rfl⟩:=ip.1 ed;show⟨S,ρ,λz=>z=.lst ds,fc,sl,⟨_,ex,rfl⟩,λv H1 d1 s1 AE q1=>?_⟩;subst q1;symm at AE;obtain⟨a,xs,rfl,ha,hS,AE⟩:=AE;have ex2:=FU eb AE;subst ex2;show⟨.inl ⟨rfl,_,eW.of ha⟩,S,ρ,λz=>z=.bl af,bJ fc s1,Sl.fits (.same s1) sl,⟨_,ey,rfl⟩,λv2 H2 d2 s2 sQ q2=>?_⟩;subst q2;symm at sQ;subst sQ;show⟨a,bs,rfl,rfl,eW.of (s2 _ _ ha),k _ H2 _ (s1.trans s2) (by symm) q3⟩
  .cases ed
def aB3(ho:bY X o fo)(he:bY X e fe)(hbase:attributeBase o "index" X.env (eval o X.env)=eval o X.env:=by rfl)
  (hfew:Zq X cpos e:=by rfl)
  (hline:Q0k apos cpos:=by rfl) (hs:Zs X e []:=by rfl) (hplain:(cu cpos (ar [] X.env)).any (·.1)=ag:=by rfl):
  bY X (.Call (.Attribute o "index" apos) [e] [] cpos) (aE wW fo fe) :=
 imp (OM Gw a1b F.type_list_index SI ho (eK he kT hs) hbase hfew hline hs hplain) λσ H Q Tp=>by
  obtain⟨S,ρ,Q3,fc,sl,⟨d,ed,q3⟩,k⟩:=Tp;obtain⟨dx,ex,ed⟩:=bnd ed;obtain⟨dy,ey,ed⟩:=bnd ed;unfold wW at ed;split at ed
  .rename_i ds _;obtain⟨bs,eb,ed⟩:=bnd ed;obtain⟨i,ei,rfl⟩:=ip.1 ed;show⟨S,ρ,λz=>z=.lst ds,fc,sl,⟨_,ex,rfl⟩,λv H1 d1 s1 AE q1=>?_⟩;subst q1;symm at AE;obtain⟨a,xs,rfl,ha,hS,AE⟩:=AE;have ex2:=FU eb AE;subst ex2;show⟨.inl ⟨rfl,_,eW.of ha⟩,S,ρ,λz=>z=.bl af,bJ fc s1,Sl.fits (.same s1) sl,⟨_,ey,rfl⟩,λv2 H2 d2 s2 sQ q2=>?_⟩;subst q2;symm at sQ;subst sQ;show⟨a,bs,i,rfl,rfl,eW.of (s2 _ _ ha),ei,k _ H2 _ (s1.trans s2) (by symm) q3⟩
  .cases ed
end
end
abbrev vI(p:Int×gk):ai:=.int p.1 p.2
section
variable{X:Cx}
theorem iB:∀{is:Q0e} {us:Q0f},θ (is.map V.int) us ->∃ps:List (Int×gk),us=ps.map vI/\ps.map (·.1)=is
 |[],_,.nil=>⟨[],rfl,rfl⟩
 |i::is,_,.cons r t=>by obtain⟨ps,e,h⟩:=iB t;obtain⟨k,e2⟩:=r;show⟨(i,k)::ps,by rw[e,e2];rfl,by rw[bj,h]⟩
end
end L9
namespace L4
open PySem.Spec PyProof.Rows L2 L3 PySem.W Att
section
variable{X:Cx}{π:Q0b}{σ:L2.St}{H:Hp}{s:ak}
def Fp(X:Cx)(π:Q0b)(b:ah):Prop :=
 b≠X.env.locals/\b∉X.fs/\(b∈X.ex\/X.s₀.heap.objs.size<=b)/\(∀x c,X.env.cells.lookup x=aa c->c≠b) /\∀p∈X.pn++π,p.1≠b
def MH(I:Φ X π σ H s)(hb:s.heap.objs.size<=b):Fp X π b:=(I.EU (H':=H) hb (I.hok.fresh hb)).2
def xS(I:Φ X π σ H s)(f:Fp X π b)(hn:H b=ae)(e:s.heap.get? b=aa o)(d:∀v,o.data≠.cell v):Φ X (π++[(b,o)]) σ H s:=by
 show I.ES λp hp=>?_;rcases gm.1 hp with z|z
 .exact I.pin p (gq _ z)
 .rw [cc.1 z];show⟨e,hn,f.1,f.2.1,d⟩
def nH(I:Φ X (π++[(b,o)]) σ H s):s.heap.get? b=aa o/\H b=ae:=by obtain⟨e,n,_⟩:=I.pin (b,o) (gq _ (gq _ (cc.2 rfl)));show⟨e,n⟩
theorem tG(I:Φ X (π++[(b,o)]) σ H s)(f:Fp X π b)(k:∀c u,c≠b->s.heap.get? c=aa u->h'.get? c=aa u)(e:h'.get? b=aa o')(d:∀v,o'.data≠.cell v):
  Φ X (π++[(b,o')]) σ H {s with heap:=h',toks:=t' }:=by
 obtain⟨f1,f2,f3,f4,f5⟩:=id f;show xS (I.jH.turned (t':=t') k (nH I).2 f1 f3 f4 f5) f (nH I).2 e d
end
def ua(X:Cx)(σ:L2.St)(P:Q0b)(f:ai)(t:V->Hp->VK->Prop):Prop :=
 ∀(π:Q0b) (s:ak) (H:Hp) (v:V) (u:ai) (Q:VK),Φ X π σ H s->(∀p∈P,p∈π)->Ψ v u->t v H Q ->
  au (av X.Ω X.w) X.A.in1.in1 (call f [u]) (EP X π σ Q) (λ_ _=>False) s
def tH(X:Cx)(n:Nat)(lt:Nat->Nat->Bool)(ks:List V)(H:Hp):Prop :=
 ∀(π:Q0b) (σ:L2.St) (s:ak) (us:Q0f),Φ X π σ H s->θ ks us ->
  ∃κ,(∀Q:SortKind->ak->Prop,Q κ s->au (av X.Ω X.w) X.A.in1.in1 (keyKind' us.toArray) Q (λ_ _=>False) s) /\
   ∀(i j:Nat) (C:Bool->ak->Prop),i<n->j<n->C (lt i j) s->uv X.Ω X.w X.A.in1.in1 κ us i j C s
theorem DB(r:Ψ k u):∀{ks:List V} {us:Q0f},θ ks us->θ (ks++[k]) (us++[u])
 |_,_,.nil=>.cons r .nil
 |_,_,.cons q h=>.cons q (DB r h)
theorem tI:∀{ks:List V} {us:Q0f},θ ks us->ks.length=us.length
 |_,_,.nil=>rfl
 |_,_,.cons q h=>by rw[cx,cx,tI h]
theorem DC(r:θ xs us):∀ix:List Nat,(∀i∈ix,i<us.length)->θ (ix.map λi=>xs.getD i .non) (ix.map λi=>us.getD i je)
 |[],_=>.nil
 |i::ix,h=>by
  have hi:=h i b_;have hl:=tI r;obtain⟨u,hu,ru⟩:=r.get (i:=i) (x:=xs[i]'∅) (by simp[hl,hi]);have e1:xs.getD i .non=xs[i]'∅:=by simp[hl,hi]
  have e2:us.getD i je=u:=by rw[j7,hu];rfl
  show .cons ?_ (DC r ix λj hj=>h j (fj _ hj));show Ψ (xs.getD i .non) (us.getD i je);rw[e1,e2];show ru
section
variable{X:Cx}{π:Q0b}{σ:L2.St}{H:Hp}{s:ak}{P:Q0b}{f:ai}{t:V->Hp->VK->Prop}{xs:List V}{us:Q0f}{a kS:ah}{e1:Nat}{E:Q0c}
 {W:Nat->List V->Hp->Prop}
theorem AK{st:SortSt}{e:Nat}{kv:Q0f}{out:Q0f}{Pf:zi->ak->Prop}(I:Φ X ((π++[(a,seqObj "list" #[] e1)])++[(kS,seqObj "list" kv.toArray e)]) σ H s)(fa:Fp X π a)(fk:Fp X (π++[(a,seqObj "list" #[] e1)]) kS)
  (hout:(arrOf st).map (·.2)=out.toArray) (hz:out.length<64) (hk:kv.length<64) (hf:failedOf st=ae)
  (h:∀s' c,Φ X (π++[(a,seqObj "list" out.toArray c)]) σ H s'->Pf (.done (.ret .none)) s'):au (av X.Ω X.w) X.A.in1.in1 (ksk_tail a ag e1 (.ref kS) st) Pf E s:=by
 have nk:=(nH I).1;have sk:=qu s.heap kS (fg λ_=>(#[]:Array ai));obtain⟨ck,hck⟩:∃ck,(s.heap.update kS (fg λ_=>(#[]:Array ai))).get? kS=aa (seqObj "list" #[] ck):=⟨_,vd nk λ_=>#[]⟩;have I1:=tG (h':=s.heap.update kS (fg λ_=>(#[]:Array ai))) (t':=s.toks) I fk (λb u hb q=>(sk.2 b hb).trans q) hck (λv z=>by cases z);have I2:=I1.jH;have na:=(nH I2).1;obtain⟨hp2,e2⟩:∃g,s.heap.update kS (fg λ_=>(#[]:Array ai))=g:=⟨_,rfl⟩;have sa:=qu (s.heap.update kS (fg λ_=>(#[]:Array ai))) a (fg λ_=>out.toArray);obtain⟨ca,hca⟩:∃ca,((s.heap.update kS (fg λ_=>(#[]:Array ai))).update a (fg λ_=>out.toArray)).get? a=aa (seqObj "list" out.toArray ca):=⟨_,vd na λ_=>out.toArray⟩;have I3:=tG (t':=s.toks) I2 fa (λb u hb q=>(sa.2 b hb).trans q) hca (λv z=>by cases z);unfold ksk_tail;dsimp only;rw[hout];show aq (qz nk rfl ?_ (by rw[bt,fm];lia) (jm _));show aq (ur (aq (zu na rfl ?_)));show aq (qz na rfl ?_ (jm _) (by show(if ag=af then _ else _:Array ai).size<=_;rw[Zz bp,bt,fm];lia));rw[hf];simp only[if_false,bne_self_eq_false,oo];show az (h _ ca I3)
theorem SJ{lt:Nat->Nat->Bool}{ks:List V}{e:Nat}{kv:Q0f}{Pf:zi->ak->Prop}(I:Φ X ((π++[(a,seqObj "list" #[] e1)])++[(kS,seqObj "list" kv.toArray e)]) σ H s)(fa:Fp X π a)(fk:Fp X (π++[(a,seqObj "list" #[] e1)]) kS)
  (r:θ ks kv) (hl:kv.length=us.length) (fu:us.length<64) (O:oN lt) (ask:2<=us.length->tH X us.length lt ks H)
  (h:∀(ix:List Nat) s' c,ix.Perm (bz us.length)->((∀i j:Nat,i<j->j<us.length->lt (ix.getD j 0) (ix.getD i 0)=ag)/\ix=t_ lt us.length) ->
   Φ X (π++[(a,seqObj "list" (ix.map λi=>us.getD i je).toArray c)]) σ H s'->Pf (.done (.ret .none)) s'):
  au (av X.Ω X.w) X.A.in1.in1 (ksk_end a ag us.toArray e1 (.ref kS) kv.toArray) Pf E s:=by
 unfold ksk_end;dsimp only;simp only[if_false,oo];by_cases h2:us.length<2
 .have hs:us.toArray.size<2:=by rw[bt];show h2
  rw[Z_ hs,Z_ hs];apply aq;apply az;apply aq;apply az;have hout:(arrOf (a1I general' (kv.toArray.zip us.toArray) #[] 7 ae)).map (·.2)=us.toArray:=by show(kv.toArray.zip us.toArray).map (·.2)=_;apply Array.toList_inj.mp;rw[Array.toList_map,ksk_zip,List.map_snd_zip (by rw[List.toList_toArray];lia)]
  show AK I fa fk hout fu ∅ rfl λs' c I'=>h (bz us.length) s' c (a3E _) ⟨λi j hij hj=>by lia,(Z_ h2).symm⟩ ?_;have:(bz us.length).map (λi=>us.getD i je)=us:=by
   show Ak λi=>?_;rw[cf];by_cases hi:i<us.length
   .rw [r6 hi];simp[hi]
   .rw [jq (by simpa using hi),jq (by simpa using hi)];rfl
  rw[this];show I'
 .have hs:¬ us.toArray.size<2:=by rw[bt];show h2
  rw[Zz hs,Zz hs];obtain⟨κ,kk,ka⟩:=ask ∅ _ _ s kv I r;show aq (ik (kk _ ?_) (λ_ _ z=>z) λ_ _ z=>z.elim);show aq (ik (kat_run (κ:=κ) (ks:=kv) (vs:=us) (Q:=λst' s'=>∃p:Array Nat,p.size=us.length/\arrOf st'=p.map (kas_item (kv.toArray.zip us.toArray))/\failedOf st'=ae/\p=told lt (my us.length)/\s'=s)
   (G:=λp s'=>p=told lt (my us.length)/\s'=s) hl ∅ fu (λp st' s' a1 a2 a3 a4=>⟨p,a1,a2,a3,a4.1,a4.2⟩) ?_) ?_ λ_ _ z=>z)
  .exact FJ (n:=us.length) (lt:=lt) (λi j C hi hj hC=>ka i j C hi hj hC) _ _ (IL ∅ λ_=>trivial) ⟨rfl,rfl⟩
  .rintro ⟨⟨⟩,st'⟩ s' ⟨p,hp,har,hf,ep,rfl⟩;dsimp only;obtain⟨sp,su⟩:=O6 O (n:=us.length) ∅;rw[<- ep] at sp su;have hlp:p.toList.Perm (bz us.length):=by simpa using sp.toList
   show AK I fa fk (kat_snds hl har) (by rw[a_,sx,hp];show fu) ∅ hf λs' c I'=>h p.toList s' c hlp ⟨λi j hij hj=>?_,by rw[ep];show(Zz h2).symm⟩ I';have:=su i j hij hj;rw[iJ,iJ] at this;simpa using this
theorem MI(hK:ua X σ P f t)(hP:∀p∈P,p∈π)(I:Φ X ((π++[(a,seqObj "list" #[] e1)])++[(kS,seqObj "list" #[] 0)]) σ H s)(fa:Fp X π a)(fk:Fp X (π++[(a,seqObj "list" #[] e1)]) kS)
  (r:θ xs us) (fu:us.length<64) (O:oN lt) (w0:W 0 [] H) (ws:∀(i:Nat) (x:V) (ks:List V) (H':Hp),xs[i]?=aa x->W i ks H'->t x H' λk H''=>W (i+1) (ks++[k]) H'')
  (ask:∀ks H',W us.length ks H'->2<=us.length->tH X us.length lt ks H')
  (h:∀(ix:List Nat) (ks:List V) (H':Hp) s' c,W us.length ks H'->ix.Perm (bz us.length)->((∀i j:Nat,i<j->j<us.length->lt (ix.getD j 0) (ix.getD i 0)=ag)/\ix=t_ lt us.length) ->
   Φ X (π++[(a,seqObj "list" (ix.map λi=>us.getD i je).toArray c)]) σ H' s'->Pf (.done (.ret .none)) s'):
  au (av X.Ω X.w) X.A.in1.in1 (ksk_rest a f ag us.toArray e1 (.ref kS)) Pf E s:=by
 unfold ksk_rest;show aq (mw ?_);rw[List.forIn_toArray];show aq (ksk_fold (λi s'=>∃(H':Hp) (ks:List V) (kv:Q0f) (e:Nat),Φ X ((π++[(a,seqObj "list" #[] e1)])++[(kS,seqObj "list" kv.toArray e)]) σ H' s'/\θ ks kv/\kv.length=i/\W i ks H') us 0 s ⟨H,[],[],0,I,.nil,rfl,w0⟩ ?_ ?_)
 .rintro j u s' hu ⟨H',ks,kv,e,I',r',hl,w'⟩;rw[kj] at hl w' ⊢;have hj:j<us.length:=(cb.mp hu).1;have hxl:=tI r;obtain⟨u',hu',ru⟩:=r.get (i:=j) (x:=xs[j]'∅) (by simp[hxl,hj]);rw[hu] at hu';cases hu';have q:=hK _ s' H' (xs[j]'∅) u _ I' (λp hp=>gj _ (gj _ (hP p hp))) ru (ws j _ ks H' (by simp[hxl,hj]) w');show aq (qk (ik q (λkvv s2 h2=>?_) λ_ _ z=>z.elim));obtain⟨k,H2,I2,rk,w2⟩:=h2;dsimp only;have nk:=(nH I2).1;have sk:=qu s2.heap kS (fg (·.push kvv));have ea:kv.toArray.push kvv=(kv++[kvv]).toArray:=by simp
  obtain⟨c2,hc2⟩:∃c2,(s2.heap.update kS (fg (·.push kvv))).get? kS=aa (seqObj "list" (kv++[kvv]).toArray c2):=⟨_,by rw[<- ea];show vd nk (·.push kvv)⟩;show aq (qz nk rfl ?_ (by rw[bt,fm];lia) (by rw[ea,bt,di,Af,fm];lia));show az ⟨rfl,H2,ks++[k],kv++[kvv],c2,?_,DB rk r',by rw[di,Af,hl],w2⟩;show tG (t':=s2.toks) I2 fk (λb o hb q=>(sk.2 b hb).trans q) hc2 (λv z=>by cases z)
 .rintro s' ⟨H',ks,kv,e,I',r',hl,w'⟩;rw[kj] at hl w';show aq (He (nH I').1 rfl ?_);show SJ I' fa fk r' hl fu O (ask ks H' w') λix s2 c hp hs I2=>h ix ks H' s2 c w' hp hs I2
theorem MJ(hK:ua X σ P f t)(hP:∀p∈P,p∈π)(I:Φ X π σ H s)(fa:Fp X π a)(hn:H a=ae)(ho:s.heap.get? a=aa (seqObj "list" us.toArray n))
  (r:θ xs us) (fu:us.length<64) (O:oN lt) (w0:W 0 [] H) (ws:∀(i:Nat) (x:V) (ks:List V) (H':Hp),xs[i]?=aa x->W i ks H'->t x H' λk H''=>W (i+1) (ks++[k]) H'')
  (ask:∀ks H',W us.length ks H'->2<=us.length->tH X us.length lt ks H')
  (h:∀(ix:List Nat) (ks:List V) (H':Hp) s' c,W us.length ks H'->ix.Perm (bz us.length)->((∀i j:Nat,i<j->j<us.length->lt (ix.getD j 0) (ix.getD i 0)=ag)/\ix=t_ lt us.length) ->
   Φ X (π++[(a,seqObj "list" (ix.map λi=>us.getD i je).toArray c)]) σ H' s'->Pf (.done (.ret .none)) s'):
  au (av X.Ω X.w) X.A.in1.in1 (ksk_tree a f ag) Pf E s:=by
 have sa:=qu s.heap a (fg λ_=>(#[]:Array ai));obtain⟨ep1,ho1⟩:∃ep1,(s.heap.update a (fg λ_=>(#[]:Array ai))).get? a=aa (seqObj "list" #[] ep1):=⟨_,vd ho λ_=>#[]⟩;have I0:=xS I fa hn ho (λv z=>by cases z);have I1:=tG (h':=s.heap.update a (fg λ_=>(#[]:Array ai))) (t':=s.toks) I0 fa (λb u hb q=>(sa.2 b hb).trans q) ho1 (λv z=>by cases z);unfold ksk_tree;apply aq;show He ho rfl ?_;apply aq;show qz ho rfl ?_ (by rw[bt,fm];lia) (jm _);apply aq;show zu ho1 rfl ?_;show aq (Fq ?_ (by show us.length<=_;rw[fm];lia));apply aq;show uq ?_ (jm _);show iw ?_;have I2:=I1.kept (t':=s.toks) (h':=((s.heap.update a (fg λ_=>(#[]:Array ai))).push (seqObj "tuple" us.toArray 0))) λb u q=>cn _ q;have I3:=I2.kept (t':=s.toks) (h':=((s.heap.update a (fg λ_=>(#[]:Array ai))).push (seqObj "tuple" us.toArray 0)).push (seqObj "list" #[] 0)) λb u q=>cn _ q;have fk:Fp X (π++[(a,seqObj "list" #[] ep1)]) ((s.heap.update a (fg λ_=>(#[]:Array ai))).push (seqObj "tuple" us.toArray 0)).objs.size:=MH I2 (bg _);have I4:=xS I3 fk (I2.hok.fresh (bg _)) (dm _ rfl) (λv z=>by cases z);show MI hK hP I4 fa fk r fu O w0 ws ask h
end
abbrev MK(q:aj)(sc:fq)(cl:List (aj×ah))(L f:ah)(cd:ai):dh:=envX q sc L f cd cl
def IZ(X:Cx)(N:Q0g)(q:aj)(sc:fq)(cl:List (aj×ah))(L f:ah)(cd:ai)(s₀:ak)(H₀:Hp):Cx :=
 {X with N:=N,s₀:=s₀,H₀:=H₀,env:=MK q sc cl L f cd,A:=X.A.in1.in1.deeper (MK q sc cl L f cd),Γ:=X.stack,stack:=MK q sc cl L f cd::X.stack,ex:=[],fn:=λ_=>ag,calm:=af,pn:=[],xe:=λ_ _=>False}
structure JA (X:Cx) (x:aj) (fs:Q0g) (fr:List Nat) (sc:fq):Prop where
 kind:sc.kind=.function
 co:sc.isCoroutine=ag
 gen:sc.isGenerator=ag
 par:sc.names.lookup x=aa .local
 YX:∀y∈sc.names,y.2≠.cell
 free:∀y∈sc.names,y.2=.free->X.env.kindOf y.1=aa .cell\/X.env.kindOf y.1=aa .free
 slot:∀(k:Nat) (y:aj),fs[k]?=aa y ->∃j,fr[k]?=aa j/\X.N[j]?=aa y/\(y,jf)∈sc.names/\sc.names.lookup y=aa .free
 BA:fr.length=fs.length
def iC(v:V)(fr:List Nat)(σ:L2.St):L2.St:=aa v::fr.map λj=>(σ[j]?).join
section
variable{X:Cx}{π:Q0b}{σ:L2.St}{H:Hp}{s:ak}
theorem aB5(hc:X.calm=af)(B:JA X x fs fr sc)(I:Φ X π σ H s)
  (hcl:∀y∈sc.names,y.2=.free->cl.lookup y.1=X.env.cells.lookup y.1) (l6:∀y c,cl.lookup y=aa c->X.env.cells.lookup y=aa c) (r:Ψ v u)
  (hn:h1.Ns s.heap.objs.size λy=>[(x,u)].reverse.lookup y) (hk:∀b o,s.heap.get? b=aa o->h1.get? b=aa o):
  Φ (IZ X (x::fs) q sc cl s.heap.objs.size f cd s H) [] (iC v fr σ) H {s with heap:=h1,toks:=t' }:=by
 have ok:(IZ X (x::fs) q sc cl s.heap.objs.size f cd s H).Ok:=by
  show⟨I.ok.mod,B.kind,rfl,rfl,bg _,λy z c h1 h2=>I.ok.inj y z c (l6 y c h1) (l6 z c h2),λy hy=>?_,(λy c h=>by cases h),λ_=>I.ok.hd hc,a1v (A:=X.A.in1.in1) I.ok.frames,.inr ⟨rfl,rfl⟩,(λb z=>by cases z),λb o e=>I.bs b o e,gx I.ok.TJ I.sz,(λb o _ z=>by cases z),(λb z=>by cases z),I.stack,I.xH,I.tab⟩;have hy:sc.names.lookup y=aa .cell\/sc.names.lookup y=aa .free:=hy;rcases hy with hy|hy
  .exact Zw rfl (B.YX _ (ju hy))
  .have hm:=ju hy;obtain⟨c,e⟩:=I.ok.has y (B.free _ hm rfl);show⟨c,(hcl _ hm rfl).trans e⟩
 show⟨ok,rfl,I.bare,Un.kept hk,⟨_,hn,λi y w e1 e2 e3=>?_⟩,λy c e=>?_,I.hok.fresh (bg _),λy c e=>I.iA y c (l6 y c e),(λp hp=>by cases hp),I.hok.kept hk,?_⟩
 .cases i with
  |zero =>
   have e1:x=y:=cj e1;have e2:v=w:=cj (cj e2);subst e1 e2;show⟨u,r,.inl ⟨B.par,by simp⟩⟩
  |succ i =>
   have e1:fs[i]?=aa y:=e1;obtain⟨j,ej,eN,hm,hlk⟩:=B.slot i y e1;have e4:(σ[j]?).join=aa w:=by have e2:(fr.map λj=>(σ[j]?).join)[i]?=aa (aa w):=e2;rw[cf,ej] at e2;show cj e2
   have e5:σ[j]?=aa (aa w):=by
    cases q:σ[j]? with
    |none=>rw[q] at e4;cases e4
    |some o=>rw[q] at e4;rw[show o=aa w from e4]
   have hfr:=B.free _ hm rfl;obtain⟨mm,_,hl⟩:=I.loc;obtain⟨z,rz,l⟩:=hl j y w eN e5 (.inr hfr);show⟨z,rz,?_⟩;rcases l with⟨k1,_⟩|⟨k1,c,ec,zc⟩
   .rcases hfr with y1|y1<;>rw[k1] at y1<;>cases y1
   .obtain ⟨oc,hoc,hd⟩:=zc;show .inr ⟨.inr hlk,c,(hcl _ hm rfl).trans ec,oc,hk _ _ hoc,hd⟩
 .obtain ⟨w,oc,hoc,hd⟩:=I.cell y c (l6 y c e);show⟨w,oc,hk _ _ hoc,hd⟩
 .show (iC v fr σ).length=(x::fs).length;unfold iC;rw[cx,a_,B.BA,cx]
def vY(H:Hp)(c:ah)(q:aj):Prop:=∃oc vs t,H c=aa (ER oc)/\oc.data=.fields vs/\vs[1]?=aa (.str q t)
def vY.rec(x:vY H c q)(ok:pK P w H h):h.CodeRec (.ref c) q:=by obtain⟨oc,vs,t,e,d,v⟩:=x;show⟨c,oc,vs,t,rfl,(ok c _ e).1,d,v⟩
def vY.same(x:vY H c q)(sm:ξ H H'):vY H' c q:=by obtain⟨oc,vs,t,e,d,v⟩:=x;show⟨oc,vs,t,sm _ _ e,d,v⟩
theorem aB6(hc:X.calm=af)(B:JA X x fs fr sc)(hroom:X.A.depth<recursionLimit)
  (hcl:∀y∈sc.names,y.2=.free->cl.lookup y.1=X.env.cells.lookup y.1) (l6:∀y c,cl.lookup y=aa c->X.env.cells.lookup y=aa c)
  (hb:∀u,bindArgs (yp "<lambda>" q params body sc cl pm (.ref c) ct) ⟨[u],[]⟩=pure [(x,u)]) (he:∀L s H,PE (IZ X (x::fs) q sc cl L f (.ref c) s H) body te):
  ua X σ [(f,yo "<lambda>" q params body sc cl pm c ct)] (.ref f) (λv H Q=>vY H c q/\te (iC v fr σ) H Q):=by
 intro π s H v u Q I hp r ⟨cq,ht⟩;have ef:=(I.pin _ (gq _ (hp _ b_))).1;show yj (kla_callFunE (fd:=yp "<lambda>" q params body sc cl pm (.ref c) ct) hroom ef rfl B.co B.gen rfl (cq.rec I.hok) ?_);rw[hb u];show az (wpAny_newFunctionEnv B.YX (λy hy=>?_) (λh1 hns hsb=>⟨I.nolimit.fresh _ hsb,?_⟩) B.kind)
 .rw [cc.1 hy];show B.par
 .have hk:∀b o,s.heap.get? b=aa o->h1.get? b=aa o:=λb o e=>hsb.extBut b o (e_ (bo e)) (cn _ e);have J:=aB5 (q:=q) (f:=f) (cd:=.ref c) (t':=s.toks+1) hc B I hcl l6 r hns hk;show kla_codeExpr ?_;show ik (he s.heap.objs.size s H [] _ (iC v fr σ) H Q J ht) (λw s' h=>?_) λ_ _ z=>z.elim;obtain⟨y,H',J',ry,qy⟩:=h;show⟨y,H',I.call' (s':=s') (ch:=[]) J'.os J'.ω J'.hok J'.bare (λb z=>by cases z),ry,qy⟩
theorem AL{ν p2:bf}{c cv:ai}:∀(l:Q0f),TriplesOk l->codeAmong p2 (l++[rawInt ν.line,rawInt ν.col,c])=aa cv->codeAmong p2 l=aa cv\/cv=c
 |[],_,h=>by
  simp only[ku,codeAmong,rawInt] at h;split at h
  .exact .inr (cj h).symm
  .cases h
 |.int a t::.int b u::d::r,hT,h=>by
  simp only[vt,codeAmong] at h ⊢;split at h
  .rename_i hp;rw[Z_ hp];show .inl h
  .rename_i hn;rw[Zz hn];show AL r hT h
theorem YY(I:Φ X π σ H s)(hx:(x0,c,P)∈eF X.K)(hq:X.env.qual++"<lambda>"=oF x0)
  (hcode:X.env.code=.ref c) (B:JA X x fs fr sc) (hdef:defaultsOf params X.env=([],[]))
  (h:∀(f c':ah) (ct:ai) (cl:List (aj×ah)) (H':Hp) (s':ak),ξ H H'->vY H' c' (oF x0)->(∀y∈sc.names,y.2=.free->cl.lookup y.1=X.env.cells.lookup y.1)->(∀y c,cl.lookup y=aa c->X.env.cells.lookup y=aa c) ->
   Φ X (π++[(f,yo "<lambda>" (oF x0) params body sc cl ((X.mg "__name__").getD .none) c' ct)]) σ H' s'->Q (.ref f) s'):
  au (av X.Ω X.w) X.A (eval (.Lambda params body sc ν) X.env) Q E s:=by
 obtain⟨hC,hP⟩:=I.tab _ hx;dsimp only at hC hP;obtain⟨ps,eP,hT,hA⟩:=I.hok P _ hP;have C:=hC.keeps I.bk;obtain⟨bm,ob,b1,b2,b3,b4,b5,b6⟩:=I.mod.bm;have hgs:=I.mod.glob.keeps I.bk;have hgP:df≠P:=λz=>by obtain⟨o,es,ep,eo,hd,_⟩:=hgs;rw[z,eP] at eo;cases eo;cases hd
 have b3':=I.bk _ _ b3;have hbP:bm≠P:=λz=>by rw[z,eP] at b3';cases b3';cases b4
 have hbG:bm≠df:=λz=>by obtain⟨o,es,ep,eo,hd,_⟩:=hgs;rw[z,eo] at b3';cases b3';rw[hd] at b6;cases b6
 have Bj:s.heap.BuiltinsAt X.mg P:=⟨bm,ob,b1,b2,hbG,hbP,b3',b4,b5,b6⟩;obtain⟨cl,ecl,hcl,l6⟩:=zX (scope:=sc) (env:=X.env) λy hy hf=>I.ok.has _ (B.free y hy hf);show kla_eval hdef ?_;rw[hq]
 -- behind the making: the function object is laid and pinned
 have fin:∀(c':ah) (ct:ai) (H':Hp) (h':ay) (tk:gk),ξ H H'->vY H' c' (oF x0)->Φ X π σ H' {s with heap:=h',toks:=tk} ->
   Q (.ref h'.objs.size) {s with heap:=h'.push (yo "<lambda>" (oF x0) params body sc cl ((X.mg "__name__").getD .none) c' ct),toks:=tk}:=λc' ct H' h' tk sm cq I'=>by
  have I2:=I'.kept (t':=tk) (h':=h'.push (yo "<lambda>" (oF x0) params body sc cl ((X.mg "__name__").getD .none) c' ct)) λb u e=>cn _ e;show h _ c' ct cl H' _ sm cq hcl l6 (xS I2 (MH I' (bg _)) (I'.hok.fresh (bg _)) (dm _ rfl) (λv z=>by cases z))
 cases hf:codeAmong ν ps.toList with
 |some cv =>
  obtain⟨c',oc,vs,t,rfl,e1,e2,e3⟩:=hA ν cv hf;show kla_makeFunctionHit (mg:=X.mg) ecl I.ok.glob hgs hcode C eP hT hf Bj λct h' tk hk hsz=>?_;show fin c' ct H h' tk (λ_ _ e=>e) ⟨oc,vs,t,e1,e2,e3⟩ (I.kept hk)
 |none =>
  show kla_makeFunction (mg:=X.mg) ecl I.ok.glob hgs hcode C eP hT hf hgP Bj λc' ct h' tk hX hge hlt hrec htb=>?_;obtain⟨c2,oc,vs,t,e2,hoc,hd,hv⟩:=hrec;cases e2;have hfr:H c'=ae:=I.hok.fresh hge;have nC:∀{b:ah} {o:HO},H b=aa o->b≠c':=λe=>bN e hfr;have nP:∀{b:ah},H b=ae->b≠P:=λe z=>by rw[z,hP] at e;cases e
  have sm:ξ H (upd H c' (ER oc)):=λb o e=>by rw[aV (nC e)];show e
  show fin c' ct (upd H c' (ER oc)) h' tk sm ⟨oc,vs,t,bA,hd,hv⟩ (I.un (t':=tk) ⟨λb o e n _ _=>hX b o (nP n) e,λb o e n _ _=>⟨o.slots,hX b o (nP n) e⟩,λb o e n _=>?_,λb o e _=>?_,λb xs e=>sm _ _ e,λb o u e=>sm _ _ e,λb q e=>sm _ _ e⟩ λb u e=>?_)
  .rw [aV (e_ (fz (bo e) hge))];show n
  .by_cases hb:b=P
   .exact ⟨_,hb▸htb⟩
   .exact ⟨o,hX b o hb e⟩
  .by_cases hb:b=c'
   .subst hb;rw[bA] at e;cases e;show⟨hoc,trivial,⟨oc,hoc⟩,λ_ _ _ _=>trivial⟩
   .rw [aV hb] at e;by_cases hbP:b=P
    .subst hbP;rw[hP] at e;cases e;show⟨_,htb,?_,λp2 cv e=>?_⟩
     .rw [a2A];show TriplesOk_snoc _ _ _ _ hT
     .rw [a2A] at e;rcases AL _ hT e with z|z
      .obtain ⟨c3,oc3,vs3,t3,y1,y2,y3⟩:=hA p2 cv z;show⟨c3,oc3,vs3,t3,y1,sm _ _ y2,y3⟩
      .exact ⟨c',oc,vs,t,z,bA,hd,hv⟩
    .refine (I.hok b u e).stay (λd w hc q=>hX d w ?_ q) (λd q=>sm _ _ q) (λd xs q=>sm _ _ q) λd o u q=>sm _ _ q;rcases hc with z|z
     .rw [z];show hbP
     .intro y;rw[y,hP] at z;cases z
def track(I:Φ X (π++[(b,o)]) σ H s)(f:Fp X π b)(new:dG X.Ω X.w (upd H b u) s.heap b u):Φ X π σ (upd H b u) s:=by
 obtain⟨f1,f2,f3,f4,f5⟩:=f;have hn:=(nH I).2;have J:=I.jH;have sm:∀{d:ah} {w:HO},H d=aa w->upd H b u d=aa w:=λ{d w} e=>by rw[aV (bN e hn)];show e
 have q:=J.step (s:=s) (H':=upd H b u) (h':=s.heap) (g':=s.gens) (t':=s.toks) (d':=s.drawn) (ch:=[b]) (λd hd=>?_) (λd w _ _ _ e _=>e) (λd w _ _ _ e _=>⟨w.slots,e⟩) (λd w hd e n=>?_) (λd w _ e=>⟨w,e⟩) (λd xs e=>sm e) (λd o u e=>sm e) (λd q e=>sm e) (λm hm=>hm) (λd w e=>?_) J.bare
 .exact q
 .rw [cc.1 hd];show⟨f3,f1,f4,f5⟩
 .rw [aV λz=>hd (cc.2 z)];show n
 .by_cases hd:d=b
  .subst hd;rw[bA] at e;cases e;show new
  .rw [aV hd] at e;show(J.hok d w e).stay (λ_ _ _ q=>q) (λ_ q=>sm q) (λ_ _ q=>sm q) λ_ _ _ q=>sm q
theorem YZ{H:Hp}{ps:List ah}{ts:Q0a}(hl:ps.length=ts.length)(hh:∀(j:Nat) (p:ah) (t:Q0e),ps[j]?=aa p->ts[j]?=aa t->H p=aa (.tup (t.map V.int)))(hne:∀t∈ts,t≠[])(h2:2<=ts.length):
  tH X ts.length (λi j=>dC (fT ts i) (fT ts j)) (ps.map V.ref) H:=by
 intro π σ s us I r;have eus:=uS r;subst eus;have tup:∀j,j<ts.length ->∃(p:ah) (ws:Q0f),ps[j]?=aa p/\gy s.heap p ws.toArray/\jw ws (fT ts j)/\fT ts j≠[]/\(ps.map cp).getD j je=.ref p:=λj hj=>by
  have hp:ps[j]?=aa (ps[j]'∅):=bw ∅;have ht:ts[j]?=aa ts[j]:=bw hj;obtain⟨ws,HH,pt,_⟩:=I.tuple (fF.of (hh j _ _ hp ht));have et:fT ts j=ts[j]:=by unfold fT;rw[ht];rfl
  show⟨_,ws,hp,pt,by rw[et];show intsAre_of HH,by rw[et];show hne _ (k_ hj),by simp[hl,hj]⟩
 -- the first items
 have go:∀k,k<=ts.length ->∃fs:Q0f,fs.length=k/\(∀v∈fs,∃i t,v=jv i t)/\yu s.heap ((ps.take k).map cp) fs:=by
  intro k
  induction k with
  |zero=>intro _;show⟨[],rfl,(λv hv=>by cases hv),trivial⟩
  |succ k ih =>
   intro hk;obtain⟨fs,f1,f2,f3⟩:=ih ∅;obtain⟨p,ws,hp,⟨o,eo,co,n,dn⟩,hi,ne,_⟩:=tup k ∅;obtain⟨i,t,ws',rfl⟩:∃i t ws',ws=jv i t::ws':=by
    generalize fT ts k=w at hi ne
    cases hi with
    |nil=>show Zw rfl ne
    |cons n t r=>show⟨n,t,_,rfl⟩
   have snoc:∀(as:Q0f) (gs:Q0f),yu s.heap as gs->yu s.heap (as++[.ref p]) (gs++[.int i t]):=by
    intro as
    induction as with
    |nil =>
     intro gs h
     cases gs with
     |nil=>show a0U eo co dn (by simp) .nil
     |cons g gs=>show h.elim
    |cons a as ih2 =>
     intro gs h
     cases gs with
     |nil=>show h.elim
     |cons g gs=>show⟨h.1,ih2 gs h.2⟩
   show⟨fs++[.int i t],by simp[f1],λv hv=>?_,?_⟩
   .rcases gm.1 hv with z|z
    .exact f2 v z
    .exact ⟨i,t,cc.1 z⟩
   .rw [Hr,hp,g_];show snoc _ _ f3
 obtain⟨fs,f1,f2,f3⟩:=go ts.length (bg _);rw[rf ∅] at f3;show⟨tuples' af,λQ q=>kat_kind (T:=.type "int") f3 ∅ (λv hv=>?_) (by decide) q,λi j C hi hj hC=>?_⟩
 .obtain ⟨i,t,rfl⟩:=f2 v hv;show a0T rfl
 .obtain ⟨p,ws,hp,⟨o,eo,co,n,dn⟩,hi',_,ep⟩:=tup i hi;obtain⟨p2,ws2,hp2,⟨o2,eo2,co2,n2,sQ⟩,hi2,_,ep2⟩:=tup j hj;unfold uv;rw[ep,ep2];show kat_lt eo dn eo2 sQ (X9 ws ws2 _ _ 0 _ rfl hi' hi2 hC)
def aB7(ts:Q0a):oN λi j=>dC (fT ts i) (fT ts j):=⟨λx y a=>DK _ _ a,λx y z a b=>DL _ _ _ a b⟩
def SK{ts:Q0a}(nd:ts.Nodup){ix:List Nat}(hp:ix.Perm (bz ts.length))(hs:∀i j:Nat,i<j->j<ts.length->dC (fT ts (ix.getD j 0)) (fT ts (ix.getD i 0))=ag):mI ts=ix.map λi:Nat=>(i:Int):=by
 have hlen:ix.length=ts.length:=by rw[hp.length_eq,nu]
 have es:kG ts=ix.map (fT ts):=by
  show rL ((eQ ts).trans ?_) (lR ts) ?_
  .have:=(hp.map (fT ts)).symm;rw[IM] at this;show this
  .rw [ZG,nq,vj];intro i j hi hj hij;have:=hs i j hij ∅;simpa[hi,hj] using this
 unfold mI;rw[es,de];show f_ λi hi=>?_;have hi:i<ts.length:=by simpa using hp.mem_iff.mp hi
 show((ts.idxOf (fT ts i):Nat):Int)=i;have:fT ts i=ts[i]:=by unfold fT;rw[bw hi];rfl
 rw[this,vw nd i hi]
theorem ML{π:Q0b}{σ:L2.St}{H:Hp}{s:ak}{P:Q0b}{r f:ah}{t:V->Hp->VK->Prop}{W:Nat->List V->Hp->Prop}{lt:Nat->Nat->Bool}{xs:List V}{Q:VK}(I:Φ X π σ H s)
  (hK:ua X σ P (.ref f) t) (hP:∀p∈P,p∈π) (fu:xs.length<64) (O:oN lt)
  (Ks:∀Qc:List ai->ak->Prop,(∀(us:Q0f) (h':ay) (tk:Nat),(∀b o,s.heap.get? b=aa o->h'.get? b=aa o)->θ xs us->Qc us {s with heap:=h',toks:=tk})->au (av X.Ω X.w) X.A.in1 (collect (.ref r)) Qc X.xe s)
  (w0:W 0 [] H) (ws:∀(i:Nat) (x:V) (ks:List V) (H':Hp),xs[i]?=aa x->W i ks H'->t x H' λk H''=>W (i+1) (ks++[k]) H'')
  (ask:∀ks H',W xs.length ks H'->2<=xs.length->tH X xs.length lt ks H')
  (h:∀(ix:List Nat) (ks:List V) (H':Hp) (D:ah),W xs.length ks H'->ix.Perm (bz xs.length)->((∀i j:Nat,i<j->j<xs.length->lt (ix.getD j 0) (ix.getD i 0)=ag)/\ix=t_ lt xs.length)->H D=ae->H' D=ae ->
   Q (.ref D) (upd H' D (.lst (ix.map λi=>xs.getD i .non)))):
  au (av X.Ω X.w) X.A (call (.builtin "sorted") [.ref r] [(pq "key",.ref f)]) (EP X π σ Q) X.xe s:=by
 show call_function_entry_kw Hf Hd Hg (ksk_s1 _ _) ?_;unfold Builtin.«sorted»;apply aq (m:=checkCount "sorted" 1 1 _);apply az;show aq (Ks _ λus h' tk kp rv=>?_);have hl:=tI rv;have I1:=I.kept (t':=tk) kp;apply aq;show uq ?_ (by rw[fm];lia);have I2:=I1.kept (t':=tk) (h':=h'.push (seqObj "list" us.toArray 0)) λb u q=>cn _ q;have hoL:(h'.push (seqObj "list" us.toArray 0)).get? h'.objs.size=aa (seqObj "list" us.toArray 0):=dm _ rfl;have hnD:H h'.objs.size=ae:=I1.hok.fresh (bg _);have fD:Fp X π h'.objs.size:=MH I1 (bg _);show aq (iw (wpAny_call_entry_kw Hc ⟨_,hoL,rfl⟩ Hh ?_ (ksk_l1 _ _)));show au (av X.Ω X.w) X.A.in1.in1 (Builtin.«list.sort» ⟨[.ref h'.objs.size],[(pq "key",.ref f)]⟩) _ _ _;rw[ksk_t1];rw[hl] at fu;rw[hl] at ask h;show MJ hK hP I2 fD hnD hoL rv fu O w0 ws ask λix ks H' s' c w' hp hs I'=>?_;have hD':=(nH I').2;show⟨_,rfl,az ⟨_,rfl,.ref h'.objs.size,upd H' h'.objs.size (.lst (ix.map λi=>xs.getD i .non)),track I' fD ?_,rfl,h ix ks H' _ w' hp hs hnD hD'⟩⟩;show⟨?_,ix.map λi=>us.getD i je,c,DC rv ix λi hi=>by simpa using hp.mem_iff.mp hi,(nH I').1⟩;rw[a_,hp.length_eq,nu,fm];lia
theorem Zc{K:ao}{S:ah->Prop}{H H':Hp}{ρ:dW}{σ:L2.St}{fr:List Nat}{d:D}{v:V}(sl:Sl K S H ρ σ)(sm:ξ H H')(dv:Dn K S H' d v):Sl K S H' ((benv 1 fr ρ).set 0 (aa d)) (iC v fr σ):=by
 intro i e hi
 cases i with
 |zero=>cases hi;show⟨v,rfl,dv⟩
 |succ i =>
  have hi:(fr.map λj=>(ρ[j]?).join)[i]?=aa (aa e):=hi;rw[cf] at hi
  cases ej:fr[i]? with
  |none=>rw[ej] at hi;cases hi
  |some j =>
   rw[ej] at hi;have hi:(ρ[j]?).join=aa e:=cj hi;have e5:ρ[j]?=aa (aa e):=by
    cases q:ρ[j]? with
    |none=>rw[q] at hi;cases hi
    |some o=>rw[q] at hi;rw[show o=aa e from hi]
   obtain⟨w,ew,dw⟩:=sl j e e5;show⟨w,?_,Dn.fits (Fits.same sm) e w dw⟩;show(fr.map λj=>(σ[j]?).join)[i]?=aa (aa w);rw[cf,ej,ng,ew];rfl
theorem aB8{x0 x:aj}{fs:Q0g}{fr:List Nat}{c Pt:ah}{a body:aw}{fa fk:EF}{params:Hb}{sc:fq}{p ν p2 pos2 Bs kp:bf}{k:Nat}(hc:X.calm=af)(hr:fS k X.A)(hm:X.mg "sorted"=ae)(hmr:X.mg "range"=ae)(ha:bY X a fa)
  (hx:(x0,c,Pt)∈eF X.K) (hcode:X.env.code=.ref c) (B:JA X x fs fr sc) (hk:∀cl L f cd s H,bY (IZ X (x::fs) (oF x0) sc cl L f cd s H) body fk)
  (hb:∀(cl:List (aj×ah)) (pm cd ct u:ai),bindArgs (yp "<lambda>" (oF x0) params body sc cl pm cd ct) ⟨[u],[]⟩=pure [(x,u)])
  (hq:X.env.qual++"<lambda>"=oF x0:=by rfl) (hdef:defaultsOf params X.env=([],[]):=by rfl)
  (hg:Gl X "sorted":=by rfl) (hgr:Gl X "range":=by rfl) (hs:ar [a] X.env=[(ag,eval a X.env)]:=by rfl)
  (he:ar [.Call (.Name "range" p2) [a] [] pos2] X.env=(ag,eval (.Call (.Name "range" p2) [a] [] pos2) X.env)::ar [] X.env:=by rfl):
  jB X (.Call (.Name "sorted" p) [.Call (.Name "range" p2) [a] [] pos2] [⟨aa "key",.Lambda params body sc Bs,kp⟩] ν) (DO fr fa fk):=by
 intro π s σ H Q I ⟨S,ρ,Q3,fc,sl,⟨d,ed,q3⟩,kk⟩;obtain⟨da,e1,edA⟩:=bnd ed;obtain⟨j,e2,edB⟩:=bnd edA;obtain rfl:da=.int j:=by
  cases da<;>first|cases e2;done|skip
  cases e2;rfl
 clear ed edA
 have ed:=edB
 clear edB
 by_cases hj:0<=j/\j<64
 case neg=>rw[Zz hj] at ed;cases ed
 rw[Z_ hj] at ed;obtain⟨kd,e3,ed⟩:=bnd ed;obtain⟨ts,e4,ed⟩:=bnd ed;by_cases ht:ts.length<64/\ts.all (λt=>!t.isEmpty)=af/\ts.Nodup
 case neg=>rw[Zz ht] at ed;cases ed
 rw[Z_ ht] at ed;cases ed;have ekd:=uT e4;have hne:∀t∈ts,t≠[]:=λt h z=>by have:=gp.mp ht.2.1 t h;rw[z] at this;cases this
 have lkd:=BP e3;rw[a_,show(bD 0 j.toNat).length=j.toNat by simp[bD]] at lkd;have lts:ts.length=j.toNat:=by rw[<- lkd,ekd,a_]
 have hA:PA X [.Call (.Name "range" p2) [a] [] pos2] _:=eK (CS hgr hmr (aC ha aH hs) hs) kT he;show yl (mY I hg hm zw ?_);show callWith_kw (eI (hA ν π s σ H (λvs H1=>∃r,vs=[.ref r]/\ξ H H1/\H1 r=aa (.rng 0 j)) I ⟨S,ρ,λds=>ds=[.int j],fc,sl,⟨[.int j],(by show((fa ρ).bind λd=>(aa ([]:List D)).bind λds=>aa (d::ds))=_;rw[e1];rfl),rfl⟩,λvs H1 ds s1 d1 q1=>?_⟩) λus s1 ⟨vs,H1,I1,r1,q1⟩=>?_) he
 .subst q1;have:=aW.ints (ns:=[j]) |>.mp d1;show⟨j,this,λb hb=>⟨b,rfl,s1.trans (aY hb),bA⟩⟩
 obtain⟨r,rfl,sm1,hr1⟩:=q1;obtain⟨u,rfl,ru⟩:=vals1 r1;cases ru;show kws_cons (YY I1 hx hq hcode B hdef λf c' ct cl H2 s2 sm2 cq hcl l6 I2=>kws_nil ?_);show au (av X.Ω X.w) X.A (call (.builtin "sorted") [.ref r] [(pq "key",.ref f)]) _ _ s2;have sm:=sm1.trans sm2;obtain⟨t0,u0,v0,er⟩:=I2.hok r _ (sm2 _ _ hr1);have hsz:zr 0 j 1=(j.toNat:Int):=by rw[Ga];split<;>lia
 have hlx:((m9 0 j.toNat).map V.int).length=ts.length:=by rw[a_,oI,lts]
 have key:=aB6 (te:=lift X.K (wE fk)) (σ:=σ) (q:=oF x0) (params:=params) (f:=f) (c:=c') (pm:=(X.mg "__name__").getD .none) (ct:=ct) hc B (by have:=hr.dp;lia) hcl l6 (λu=>hb cl _ _ _ u) λL s H=>hk cl L f (.ref c') s H;have main:=ML (Q:=Q) (W:=λi ks H'=>ξ H2 H'/\aW X.K S H' (kd.take i) ks) (lt:=λi j=>dC (fT ts i) (fT ts j)) (xs:=(m9 0 j.toNat).map V.int) (r:=r) I2 key (λp hp=>gq _ hp) (by rw[hlx];show ht.1) (aB7 ts)
  (λQc q=>II (A:=X.A.in1) (a:=0) (b:=j) (c:=1) (n:=j.toNat) (I.ok.hd hc) er (Fx ∅ ∅ ∅ ∅) hsz ∅ λh' tk ψ hle kp hit=>q _ h' tk kp (HX hit))
  ⟨ξ.refl _,by rw[a1W];show aW.nil⟩ (λi x ks H' hxi ⟨sm',dk⟩=>?_) (λks H' ⟨sm',dk⟩ h2=>?_) λix ks H' Dd ⟨sm',dk⟩ hp hs hD hD'=>?_
 .exact eI main λv s' ⟨y,H',J,ry,qy⟩=>⟨y,H',J.jH,ry,qy⟩
 .rw [cf] at hxi;obtain⟨z,ez,rfl⟩:∃z,(m9 0 j.toNat)[i]?=aa z/\V.int z=x:=by
   cases e:(m9 0 j.toNat)[i]? with
   |none=>rw[e] at hxi;cases hxi
   |some z=>rw[e] at hxi;show⟨z,rfl,cj hxi⟩
  obtain⟨kv,ek,ek2⟩:=BQ e3 (show((bD 0 j.toNat).map D.int)[i]?=aa (.int z) by rw[cf,show(bD 0 j.toNat)[i]?=aa z from ez];rfl);show⟨cq.same sm',S,_,λd=>d=kv,bJ fc (sm.trans sm'),Zc (d:=.int z) sl (sm.trans sm') (by symm),⟨kv,ek2,rfl⟩,λv H'' d s3 dv ed=>?_⟩;subst ed;show⟨sm'.trans s3,?_⟩;rw[Hr,ek];show aW.append (aW.fits (Fits.same s3) _ _ dk) (aW.one dv)
 .rw [hlx,rf ∅,ekd] at dk;obtain⟨ps,rfl,hl,hh⟩:=AB dk;rw[hlx] at h2 ⊢;show YZ hl hh hne h2
 .rw [hlx] at hp hs;have hpl:=SK ht.2.2 hp hs.1;have hH:H Dd=ae:=sm.free hD;show kk Dd _ _ ((mI ts).map D.int) hH bA ((sm.trans sm').trans (aY hD')) ?_ q3;rw[hpl];show aW.ints.mpr ?_;rw[de];show f_ λi hi=>?_;have hi:i<j.toNat:=by rw[<- lts];simpa using hp.mem_iff.mp hi
  show((m9 0 j.toNat).map V.int).getD i .non=V.int (i:Int);have:((m9 0 j.toNat).map V.int)[i]?=aa (V.int (i:Int)):=by rw[cf];unfold m9;rw[cf,r6 hi];simp
  rw[j7,this];rfl
end
def wq(Γ:List (aj×ja))(sc:fq)(N:Q0g)(x:aj)(fs:Q0g)(fr:List Nat):Bool :=
 (sc.kind == .function) && !sc.isCoroutine && !sc.isGenerator&&Zv (sc.names.lookup x=aa .local)&&sc.names.all (λy=>Zv (y.2≠.cell)) &&
 sc.names.all (λy=>Zv (y.2=.free->(Γ.lookup y.1=aa .cell\/Γ.lookup y.1=aa .free)))&&Zv (fr.length=fs.length) &&
 (fs.zip fr).all (λy=>Zv (N[y.2]?=aa y.1)&&sc.names.contains (y.1,jf)&&Zv (sc.names.lookup y.1=aa .free))
def aB9(h:wq X.env.scope.names sc X.N x fs fr=af):JA X x fs fr sc:=by
 unfold wq at h;simp only[iu,gp,decide_eq_true_eq,Iz] at h;obtain⟨⟨⟨⟨⟨⟨⟨h1,h2⟩,h3⟩,h4⟩,h5⟩,h6⟩,h7⟩,h8⟩:=h;show⟨eq_of_beq h1,h2,h3,h4,h5,h6,λk y e=>?_,h7⟩;have hk:k<fs.length:=(cb.mp e).1;have hm:(y,fr[k]'∅)∈fs.zip fr:=by
  have:(fs.zip fr)[k]?=aa (y,fr[k]'∅):=by rw[Ah];show⟨e,by simp⟩
  show l_ this
 obtain⟨⟨a,b⟩,c⟩:=h8 _ hm;show⟨fr[k]'∅,by simp,a,by simpa using b,c⟩
section
variable{X:Cx}
theorem Zb(hc:X.calm=af)(hr:fS k X.A)(hm:X.mg "sorted"=ae)(hmr:X.mg "range"=ae)
  (hx:(x0,c,Pt)∈eF X.K) (hcode:X.env.code=.ref c) (ha:bY X a fa) (hk:∀cl L f cd s H,bY (IZ X (x::fs) (oF x0) sc cl L f cd s H) body fk) (B:wq X.env.scope.names sc X.N x fs fr=af:=by rfl)
  (hb:∀(cl:List (aj×ah)) (pm cd ct u:ai),bindArgs (yp "<lambda>" (oF x0) params body sc cl pm cd ct) ⟨[u],[]⟩=pure [(x,u)]:=by intro _ _ _ _ _;rfl)
  (hq:X.env.qual++"<lambda>"=oF x0:=by rfl) (hdef:defaultsOf params X.env=([],[]):=by rfl)
  (hg:Gl X "sorted":=by rfl) (hgr:Gl X "range":=by rfl) (hs:ar [a] X.env=[(ag,eval a X.env)]:=by rfl)
  (he:ar [.Call (.Name "range" p2) [a] [] pos2] X.env=(ag,eval (.Call (.Name "range" p2) [a] [] pos2) X.env)::ar [] X.env:=by rfl):
  jB X (.Call (.Name "sorted" p) [.Call (.Name "range" p2) [a] [] pos2] [⟨aa "key",.Lambda params body sc Bs,kp⟩] ν) (DO fr fa fk):=aB8 hc hr hm hmr ha hx hcode (aB9 B) hk hb hq hdef hg hgr hs he
end
def Y0{K:ao}{x0:aj}{f c Pt:ah}{oc:ai}{od:Option ah}{fd:fv}{osl:Array (Option ai)}(nn:nsIn K df x0=aa (aa (.ref f)))(lk:K.lookup f=aa ⟨oc,od,.func fd,osl⟩)(ht:tabIn K x0=aa (c,Pt)):fd.code=.ref c:=by
 unfold tabIn at ht;rw[nn] at ht;dsimp only at ht;rw[lk] at ht;dsimp only at ht;split at ht
 .rename_i c2 hc;split at ht
  .split at ht
   .cases ht;show hc
   .cases ht
  .cases ht
 .cases ht
def Za{K:ao}{x0:aj}{c Pt:ah}(hx:x0∈HC)(ht:tabIn K x0=aa (c,Pt)):(x0,c,Pt)∈eF K:=qa.2 ⟨x0,hx,by rw[ht];rfl⟩
theorem Us{P:bc}{w:ba}{K:ao}{mg:Q0d}{ω:ay}{x qual:aj}{st:bx}{f c Pt:ah}{fd:fv}{N ps:Q0g}{k n np:Nat}{b:SF}(F:Y9 K x qual st f fd)(nn:nsIn K df x=aa (aa (.ref f)))(ht:tabIn K x=aa (c,Pt))(S:gO N ps (bB st))(hn:N.length=n)(hp:ps.length=np)
  (hbody:∀(A:bq) (Γ:List dh) (s:ak) (H:Hp) (E:XK),fS k (A.deeper (envOfC qual (bB st) s.heap.objs.size f (.ref c))) ->
   nQ (m8 cC P w K mg ω N qual (bB st) f (.ref c) A Γ s H E).OB (fL st) b):lG P w K mg ω cC (k+1) f fd ps (dB K (bZ n np b)):=by
 subst hn hp;obtain⟨oc,od,kV,doc,pm,an,cdv,ct,osl,rfl,lk,hcd⟩:=F.ex;have ec:cdv=.ref c:=Y0 nn lk ht;subst ec;show V9 lk hcd S (λvs H Q E h=>?_) λA Γ s H vs Q E hr h=>?_
 .obtain ⟨S',ds,Q3,fc,dn,⟨d,e,q⟩,_⟩:=h;rw[<- dn.len];unfold bZ at e;by_cases h:ds.length=ps.length
  .exact h
  .rw [Zz h] at e;cases e
 .obtain ⟨S',ds,Q3,fc,dn,⟨d,e,q⟩,kk⟩:=h;have hb:=hbody A Γ s H E hr;unfold bZ at e;by_cases h:ds.length=ps.length
  case neg=>rw[Zz h] at e;cases e
  rw[Z_ h] at e;show⟨_,L2.AZ.OB hb,H,S',λ_=>0,jO N ds,[],{nx:=λ_=>Q3 .non,rt:=Q3},?_,zW fc dn,?_,⟨λw' σ' H' ρ' _ st' q=>?_,λv H' d s' d' q=>kk v H' d s' d' q,λ_ _ _ _ _ _ q=>q,λ_ _ _ _ _ _ q=>q,λ_ _ _ q=>q.elim⟩⟩
  .have hl2:=dn.len;have hp:ps.length<=N.length:=by have:=congrArg ny S.pre;rw[kz] at this;lia
   unfold L2.start;show _=N.length;rw[di,a_,ie];lia
  .have e2:jO N ds=c9 N.length ds:=rfl;unfold wS;rw[e2]
   cases hb:b (c9 N.length ds) with
   |rt d'=>rw[hb] at e;cases e;show q
   |nx ρ=>rw[hb] at e;cases e;show q
   |no=>rw[hb] at e;cases e
   |ex c=>rw[hb] at e;cases e
  .exact kk .non H' .non st'.sm (by symm) q
theorem aBa:∀(us:Q0f),us.length=1 ->∃a0,us=[a0]
 |[a0],_=>⟨a0,rfl⟩
theorem aBb:∀(us:Q0f),us.length=2 ->∃a0 a1,us=[a0,a1]
 |[a0,a1],_=>⟨a0,a1,rfl⟩
theorem aBd:∀(us:Q0f),us.length=3 ->∃a0 a1 a2,us=[a0,a1,a2]
 |[a0,a1,a2],_=>⟨a0,a1,a2,rfl⟩
theorem aBe:∀(us:Q0f),us.length=4 ->∃a0 a1 a2 a3,us=[a0,a1,a2,a3]
 |[a0,a1,a2,a3],_=>⟨a0,a1,a2,a3,rfl⟩
theorem aBf:∀(us:Q0f),us.length=5 ->∃a0 a1 a2 a3 a4,us=[a0,a1,a2,a3,a4]
 |[a0,a1,a2,a3,a4],_=>⟨a0,a1,a2,a3,a4,rfl⟩
theorem Kr{P:bc}{w:ba}{K:ao}{mg:Q0d}{ω:ay}{x:aj}{st:bx}{c Pt:ah}{N ps:Q0g}{k n np:Nat}{b:SF}(D:Df K mg x st ps)(ht:tabIn K x=aa (c,Pt))
  (h:∀{f:ah} {A:bq} {Γ:List dh} {s:ak} {H:Hp} {E:XK},fS k (A.deeper (envOfC x (bB st) s.heap.objs.size f (.ref c)))->N.Nodup->nQ (m8 cC P w K mg ω N x (bB st) f (.ref c) A Γ s H E).OB (fL st) b)
  (S:gO N ps (bB st):=by show⟨rfl,rfl,rfl,by decide+kernel,rfl,by decide+kernel,by decide+kernel⟩) (hn:N.length=n:=by rfl) (hp:ps.length=np:=by rfl):Cl P w K mg ω cC (k+1) x ps (dB K (bZ n np b)):=by
 obtain⟨a,F,m,q⟩:=D;show⟨Us F a ht S hn hp λ_ _ _ _ _ hr=>h hr S.nd,m,F.kp,q⟩
def tJ{K:ao}{x:aj}(h:nsIn K df x=aa ae):tabIn K x=ae:=by unfold tabIn;rw[h]
theorem JB{K:ao}{x:aj}{f c Pt:ah}{oc oc2:ai}{od od2:Option ah}{fd:fv}{vs:Array ai}{sl sl2:Array (Option ai)}(h1:nsIn K df x=aa (aa (.ref f)))(h2:K.lookup f=aa ⟨oc,od,.func fd,sl⟩)(h3:fd.code=.ref c)
  (h4:K.lookup c=aa ⟨oc2,od2,.fields vs,sl2⟩) (h5:vs[11]?=aa (.ref Pt)):tabIn K x=aa (c,Pt):=by
 unfold tabIn;rw[h1];dsimp only;rw[h2];dsimp only;rw[h3];dsimp only;rw[h4];dsimp only;rw[h5]
theorem SM{K:ao}{r1 r2 r3 r4 r5:Option (ah×ah)}(h1:tabIn K "going_of"=r1)(h2:tabIn K "count_of_chain"=r2)(h3:tabIn K "cut_paper"=r3)(h4:tabIn K "downsets"=r4)(h5:tabIn K "strictest_chains"=r5):
  eF K=([("going_of",r1),("count_of_chain",r2),("cut_paper",r3),("downsets",r4),("strictest_chains",r5)]:List (aj×Option (ah×ah))).filterMap λp=>p.2.map λt=>(p.1,t.1,t.2):=by
 subst h1 h2 h3 h4 h5;rfl
def tabs_ok{K:ao}{q:bc}{L:List (aj×ah×ah)}(h:eF K=L)(nd:(L.map (·.2.2)).Nodup)(rc:∀t∈L,∃e,(recsOf q).find? (λe=>e.name == t.1)=aa e):TabsOk K q:=⟨by rw[h];show nd,by rw[h];show rc⟩
section
variable{Ω:bc}{w:ba}{A:bq}{E:Q0c}{s:ak}{z TI TO i1 i2:ah}{f1 f2:List ah}{n1 n2 k:Nat}{P1 P2:Nat->ai->Prop}{S1 S2:Nat->ay->Prop}{a b:ai}
structure PH (z TI TO i1 i2:ah) (f1 f2:List ah):Prop where
 zO:z≠TO
 zI:z≠TI
 OI:TO≠TI
 m1:i1∈f1
 m2:i2∈f2
 z1:z∉f1
 z2:z∉f2
 o1:TO∉f1
 o2:TO∉f2
 c1:i1∉f2
 c2:i2∉f1
 I1:TI≠i1
 I2:TI≠i2
def PH.q1(p:PH z TI TO i1 i2 f1 f2):z≠i1:=λe=>p.z1 (e▸p.m1)
def PH.q2(p:PH z TI TO i1 i2 f1 f2):z≠i2:=λe=>p.z2 (e▸p.m2)
def PH.p1(p:PH z TI TO i1 i2 f1 f2):TO≠i1:=λe=>p.o1 (e▸p.m1)
def PH.p2(p:PH z TI TO i1 i2 f1 f2):TO≠i2:=λe=>p.o2 (e▸p.m2)
def fN{it c:ah}{fp:List ah}{n:Nat}{P:Nat->ai->Prop}{S:Nat->ay->Prop}{h h':ay}(D:jg Ω w A it fp n P S)(x:S k h)(hc:c∉fp)(e:a08 c h h'):S k h' :=
 D.frame k h h' x λd hd o q=>e d o (λy=>hc (y▸hd)) q
theorem PJ{Q:Q0c}(D1:jg Ω w A i1 f1 n1 P1 S1)(D2:jg Ω w A i2 f2 n2 P2 S2)(p:PH z TI TO i1 i2 f1 f2)(hz:gu s.heap z TI TO .none)(hI:dj s.heap TI (.ref i1) (.ref i2))(hO:dj s.heap TO a b)
  (x1:S1 k s.heap) (x2:S2 k s.heap) (k1:k<n1) (k2:k<n2)
  (q:∀x y h' tk,P1 k x->P2 k y->gu h' z TI TO (rawInt s.heap.objs.size)->dj h' TO x y->S1 (k+1) h'->S2 (k+1) h'->dj h' s.heap.objs.size x y ->
   (∀c o,c≠z->c≠TO->c≠i1->c≠i2->s.heap.get? c=aa o->h'.get? c=aa o)->Q (.ref s.heap.objs.size) {s with heap:=h',toks:=tk}):
  au (av Ω w) A (Builtin.«zip.__next__» ⟨[.ref z],[]⟩) (λfi s2=>∃v,fi=.done (.ret v)/\Q v s2) E s:=by
 unfold Builtin.«zip.__next__»;apply aq;apply az;apply aq;show il hz rfl rfl ?_;apply aq;show il hz rfl rfl ?_;apply aq;show lr hI rfl ?_;show au (av Ω w) A (zp (.ref z) >>= _) _ E s;apply aq
 (unfold zp)
 apply aq;show il hz rfl rfl (az ?_);rw[Z_ (by first|rfl|simp)];apply aq;apply mw;apply aq;show il hz rfl rfl ?_
 try dsimp only
 apply aq;show qj hz (by simp) λga za sa=>?_
 replace za:gu ga z TI TO .ellipsis:=za
 apply aq;rw[show(#[cp i1,cp i2]:Array ai).toList.zipIdx=[(.ref i1,0),(.ref i2,1)] from rfl,lh];apply aq;apply aq;apply yh;show au _ _ (do let v <- qw (.ref i1);pure (aa v)) _ _ _;apply aq;show D1.item k {s with heap:=ga} _ _ k1 (fN D1 x1 p.z1 sa.extBut) λx gb tb px y1 sb=>az ?_
 try dsimp only at gb sb ⊢
 have ob:dj gb TO a b:=sb.extBut _ _ p.p1 (sa.extBut _ _ p.zO.symm hO);apply aq;show lr ob rfl ?_
 try dsimp only
 apply aq;show Fj ob λgc oc sc=>?_
 replace oc:dj gc TO x b:=oc
 apply aq;show ur (az ?_)
 try dsimp only
 rw[lh];apply aq;apply aq;apply yh;show au _ _ (do let v <- qw (.ref i2);pure (aa v)) _ _ _;apply aq;have y2:S2 k gc:=fN D2 (fN D2 (fN D2 x2 p.z2 sa.extBut) p.c1 sb.extBut) p.o2 sc.extBut;show D2.item k {s with heap:=gc,toks:=tb} _ _ k2 y2 λy gd td py z2 sd=>az ?_
 try dsimp only at gd sd ⊢
 have od:dj gd TO x b:=sd.extBut _ _ p.p2 oc;apply aq;show lr od rfl ?_
 try dsimp only
 apply aq;show Fj od λge oe se=>?_
 replace oe:dj ge TO x y:=oe
 apply aq;show ur (az ?_)
 try dsimp only
 rw[vn];show az ?_
 try dsimp only
 apply aq;show lr oe rfl ?_
 try dsimp only
 apply aq;show Fq ?_;have ze:gu ge z TI TO .ellipsis:=se.extBut _ _ p.zO (sd.extBut _ _ p.q2 (sc.extBut _ _ p.zO (sb.extBut _ _ p.q1 za)));have len:ge.objs.size=s.heap.objs.size:=by rw[se.1,sd.1,sc.1,sb.1,sa.1]
 have ke:∀c o,c≠z->c≠TO->c≠i1->c≠i2->s.heap.get? c=aa o->ge.get? c=aa o:=λc o c1 c2 c3 c4 e=>se.extBut _ _ c2 (sd.extBut _ _ c4 (sc.extBut _ _ c2 (sb.extBut _ _ c3 (sa.extBut _ _ c1 e))));have w1:S1 (k+1) ge:=fN D1 (fN D1 (fN D1 y1 p.o1 sc.extBut) p.c2 sd.extBut) p.o1 se.extBut;have w2:S2 (k+1) ge:=fN D2 z2 p.o2 se.extBut;have zl:z≠ge.objs.size:=e_ (bo ze);apply aq
 (unfold a3n)
 have zf:gu (ge.push {cls:=.type "tuple",data:=.seq #[x,y]}) z TI TO .ellipsis:=cn _ ze;apply aq;show qj zf (by simp) λgg zg sg=>?_
 replace zg:gu gg z TI TO (rawInt ge.objs.size):=zg
 show qj zg (by simp) λgh zh sh=>?_
 replace zh:gu gh z TI TO (rawInt ge.objs.size):=zh
 have up:∀c o,c≠z->ge.get? c=aa o->gh.get? c=aa o:=λc o c1 e=>sh.extBut _ _ c1 (sg.extBut _ _ c1 (cn _ e));have pr:dj gh ge.objs.size x y:=sh.extBut _ _ zl.symm (sg.extBut _ _ zl.symm (dm _ rfl));apply az;show⟨_,rfl,?_⟩;rw[len] at zh pr;show Q (.ref ge.objs.size) _;rw[len];show q x y gh td px py zh (up _ _ p.zO.symm oe) (D1.frame _ _ _ w1 λc hc o e=>up c o (λy=>p.z1 (y▸hc)) e) (D2.frame _ _ _ w2 λc hc o e=>up c o (λy=>p.z2 (y▸hc)) e) pr λc o c1 c2 c3 c4 e=>up c o c1 (ke c o c1 c2 c3 c4 e)
theorem Y_{Q:zi->ak->Prop}(D1:jg Ω w A i1 f1 n1 P1 S1)(D2:jg Ω w A i2 f2 n2 P2 S2)(p:PH z TI TO i1 i2 f1 f2)(hz:gu s.heap z TI TO .none)(hI:dj s.heap TI (.ref i1) (.ref i2))(hO:dj s.heap TO a b)
  (x1:S1 k s.heap) (x2:S2 k s.heap) (hk:k=n1\/(k<n1/\k=n2))
  (q:∀h' e tk,(∀c o,c≠z->c≠TO->c≠i1->c≠i2->s.heap.get? c=aa o->h'.get? c=aa o)->(∃o,h'.get? e=aa o/\o.cls=.type "StopIteration")->E (.ref e) {s with heap:=h',toks:=tk}):
  au (av Ω w) A (Builtin.«zip.__next__» (⟨[.ref z],[]⟩:Args)) Q E s:=by
 unfold Builtin.«zip.__next__»;apply aq;apply az;apply aq;show il hz rfl rfl ?_;apply aq;show il hz rfl rfl ?_;apply aq;show lr hI rfl ?_;show au (av Ω w) A (zp (.ref z) >>= _) _ E s;apply aq
 (unfold zp)
 apply aq;show il hz rfl rfl (az ?_);rw[Z_ (by first|rfl|simp)];apply aq;apply mw;apply aq;show il hz rfl rfl ?_
 try dsimp only
 apply aq;show qj hz (by simp) λga za sa=>?_
 replace za:gu ga z TI TO .ellipsis:=za
 apply aq;rw[show(#[cp i1,cp i2]:Array ai).toList.zipIdx=[(.ref i1,0),(.ref i2,1)] from rfl,lh];apply aq;apply aq;apply yh;show au _ _ (do let v <- qw (.ref i1);pure (aa v)) _ _ _;apply aq;rcases hk with rfl|⟨hk,rfl⟩
 .refine D1.done {s with heap:=ga} _ _ (fN D1 x1 p.z1 sa.extBut) λgb e sb he=>?_;obtain⟨oe,ge,ce⟩:=he;have zb:gu gb z TI TO .ellipsis:=sb _ _ p.q1 za;have ne:e≠z:=λy=>by rw[y,zb] at ge;cases ge;simp at ce
  show qj zb (by simp) λgc _ sc=>?_;show q gc e s.toks (λc o c1 _ c3 _ y=>sc.extBut _ _ c1 (sb _ _ c3 (sa.extBut _ _ c1 y))) ⟨oe,sc.extBut _ _ ne ge,ce⟩
 .refine D1.item k {s with heap:=ga} _ _ hk (fN D1 x1 p.z1 sa.extBut) λx gb tb px y1 sb=>az ?_
  try dsimp only at gb sb ⊢
  have ob:dj gb TO a b:=sb.extBut _ _ p.p1 (sa.extBut _ _ p.zO.symm hO);apply aq;show lr ob rfl ?_
  try dsimp only
  apply aq;show Fj ob λgc oc sc=>?_;apply aq;show ur (az ?_)
  try dsimp only
  rw[lh];apply aq;apply aq;apply yh;show au _ _ (do let v <- qw (.ref i2);pure (aa v)) _ _ _;apply aq;have y2:S2 k gc:=fN D2 (fN D2 (fN D2 x2 p.z2 sa.extBut) p.c1 sb.extBut) p.o2 sc.extBut;show D2.done {s with heap:=gc,toks:=tb} _ _ y2 λgd e sd he=>?_;obtain⟨oe,ge,ce⟩:=he;have zd:gu gd z TI TO .ellipsis:=sd _ _ p.q2 (sc.extBut _ _ p.zO (sb.extBut _ _ p.q1 za));have ne:e≠z:=λy=>by rw[y,zd] at ge;cases ge;simp at ce
  show qj zd (by simp) λgf _ sf=>?_;show q gf e tb (λc o c1 c2 c3 c4 y=>sf.extBut _ _ c1 (sd _ _ c4 (sc.extBut _ _ c2 (sb.extBut _ _ c3 (sa.extBut _ _ c1 y))))) ⟨oe,sf.extBut _ _ ne ge,ce⟩
theorem MM(D1:jg Ω w A.in1 i1 f1 n1 P1 S1)(D2:jg Ω w A.in1 i2 f2 n2 P2 S2)(p:PH z TI TO i1 i2 f1 f2):
  WalksT Ω w A z (z::TI::TO::(f1++f2)) [z,TO,i1,i2] (min n1 n2) (λi vals=>∃x y,P1 i x/\P2 i y/\vals=#[x,y])
   (λi h=>gu h z TI TO .none/\dj h TI (.ref i1) (.ref i2)/\(∃a b,dj h TO a b)/\S1 i h/\S2 i h)
   (λi T h=>(gu h z TI TO (rawInt T)/\dj h TI (.ref i1) (.ref i2)/\(∃a b,dj h TO a b)/\S1 (i+1) h/\S2 (i+1) h)/\T≠z/\T≠TO/\T≠i1/\T≠i2) where
 sub:=λc hc=>by
  have m1:=p.m1;have m2:=p.m2;simp only[bh,gm,ib,or_false] at hc ⊢;rcases hc with rfl|rfl|rfl|rfl
  .exact .inl rfl
  .exact .inr (.inr (.inl rfl))
  .exact .inr (.inr (.inr (.inl m1)))
  .exact .inr (.inr (.inr (.inr m2)))
 frame:=λi h h' ⟨a1,a2,⟨x,y,a3⟩,a4,a5⟩ k=>by
  show⟨k _ (by simp) _ a1,k _ (by simp) _ a2,⟨x,y,k _ (by simp) _ a3⟩,D1.frame _ _ _ a4 λc hc o e=>k c ?_ o e,D2.frame _ _ _ a5 λc hc o e=>k c ?_ o e⟩
  .exact .tail _ (.tail _ (.tail _ (gj _ hc)))
  .exact .tail _ (.tail _ (.tail _ (gq _ hc)))
 item:=λi s Q E hi ⟨a1,a2,⟨x,y,a3⟩,a4,a5⟩ q=>by have ty:s.TypeIs (.ref z) "zip":=⟨_,a1,rfl⟩;unfold pyNext;show aq (qk (oy (name:=pq "__next__") ty qv (kc qv ty Gx ?_ (Gz _))));show PJ D1 D2 p a1 a2 a3 a4 a5 ∅ ∅ λu v h' tk pu pv b1 b2 b3 b4 b5 kp=>az ?_;have fresh:∀{c:ah} {o:ax},s.heap.get? c=aa o->s.heap.objs.size≠c:=λe=>ko (bo e);obtain⟨o1,e1⟩:=D1.live _ _ a4;obtain⟨o2,e2⟩:=D2.live _ _ a5;show q s.heap.objs.size #[u,v] h' tk ⟨u,v,pu,pv,rfl⟩ (bg _) ⟨_,b5,rfl,_,rfl⟩ ⟨⟨b1,kp _ _ p.zI.symm p.OI.symm p.I1 p.I2 a2,⟨_,_,b2⟩,b3,b4⟩,fresh a1,fresh a3,fresh e1,fresh e2⟩ λc o hc e=>?_;simp only[bh,ib,or_false,not_or] at hc;show kp c o hc.1 hc.2.1 hc.2.2.1 hc.2.2.2 e
 go:=λelts k ν i T s Q E ⟨⟨a1,a2,⟨x,y,a3⟩,a4,a5⟩,_⟩ q=>by show wpAny_letOwnedTupleGo_zip a1 λh' hz' hs'=>q h' ⟨hz',hs'.extBut _ _ p.zI.symm a2,⟨x,y,hs'.extBut _ _ p.zO.symm a3⟩,fN D1 a4 p.z1 hs'.extBut,fN D2 a5 p.z2 hs'.extBut⟩ λc o hc e=>?_;simp only[bh,ib,or_false,not_or] at hc;show hs'.extBut _ _ hc.1 e
 apart:=λi T h ⟨_,t1,t2,t3,t4⟩ hT=>by
  simp only[bh,ib,or_false] at hT;rcases hT with e|e|e|e
  .exact t1 e
  .exact t2 e
  .exact t3 e
  .exact t4 e
 done:=λs Q E ⟨a1,a2,⟨x,y,a3⟩,a4,a5⟩ q=>by have ty:s.TypeIs (.ref z) "zip":=⟨_,a1,rfl⟩;unfold pyNext;show aq (qk (oy (name:=pq "__next__") ty qv (kc qv ty Gx ?_ (Gz _))));show Y_ D1 D2 p a1 a2 a3 a4 a5 ∅ λh' e tk kp he=>?_;obtain⟨oe,ge,ce⟩:=he;show aq (Ft (T:="StopIteration") (b:=af) ⟨oe,ge,ce⟩ isSubtype_stop (az (q h' tk λc o hc e=>?_)));simp only[bh,ib,or_false,not_or] at hc;show kp c o hc.1 hc.2.1 hc.2.2.1 hc.2.2.2 e
 self:=λi s Q E st q=>um st.1 q
theorem MN(D1:jg Ω w A.in1 i1 f1 n1 P1 S1)(D2:jg Ω w A.in1 i2 f2 n2 P2 S2)(p:PH z TI TO i1 i2 f1 f2):
  HZ Ω w A z [z,TO,i1,i2] (min n1 n2) (λi vals=>∃x y,P1 i x/\P2 i y/\vals=#[x,y])
   (λi h=>gu h z TI TO .none/\dj h TI (.ref i1) (.ref i2)/\(∃a b,dj h TO a b)/\S1 i h/\S2 i h)
   (λi T h=>(gu h z TI TO (rawInt T)/\dj h TI (.ref i1) (.ref i2)/\(∃a b,dj h TO a b)/\S1 (i+1) h/\S2 (i+1) h)/\T≠z/\T≠TO/\T≠i1/\T≠i2):=by
 intro i s Q E hi ⟨a1,a2,⟨x,y,a3⟩,a4,a5⟩ q;have ty:s.TypeIs (.ref z) "zip":=⟨_,a1,rfl⟩;unfold pyNext;show aq (qk (oy (name:=pq "__next__") ty qv (kc qv ty Gx ?_ (Gz _))));show PJ D1 D2 p a1 a2 a3 a4 a5 ∅ ∅ λu v h' tk pu pv b1 b2 b3 b4 b5 kp=>az ?_;have fresh:∀{c:ah} {o:ax},s.heap.get? c=aa o->s.heap.objs.size≠c:=λe=>ko (bo e);obtain⟨o1,e1⟩:=D1.live _ _ a4;obtain⟨o2,e2⟩:=D2.live _ _ a5;show q s.heap.objs.size #[u,v] h' tk ⟨u,v,pu,pv,rfl⟩ (bg _) ⟨_,b5,rfl,_,rfl⟩ (F7.is b5 rfl) ⟨⟨b1,kp _ _ p.zI.symm p.OI.symm p.I1 p.I2 a2,⟨_,_,b2⟩,b3,b4⟩,fresh a1,fresh a3,fresh e1,fresh e2⟩ λc o hc e=>?_;simp only[bh,ib,or_false,not_or] at hc;show kp c o hc.1 hc.2.1 hc.2.2.1 hc.2.2.2 e
abbrev zt1(h:ay)(t:ah):ay:=h.push {cls:=.type "tuple_iterator",data:=.fields #[.ref t,.int 0 0]}
abbrev zt2(h:ay)(t u:ah):ay:=zt1 (zt1 h t) u
abbrev zt3(h:ay)(t u:ah):ay:=(zt2 h t u).push {cls:=.type "tuple",data:=.seq #[.ref h.objs.size,.ref (zt1 h t).objs.size]}
abbrev zt4(h:ay)(t u:ah):ay:=(zt3 h t u).push {cls:=.type "tuple",data:=.seq #[.none,.none]}
abbrev zt5(h:ay)(t u:ah):ay:=(zt4 h t u).push {cls:=.type "zip",data:=.fields #[.none,.bool ag,.bool ag,.ref (zt2 h t u).objs.size,.ref (zt3 h t u).objs.size]}
def SN(t u:ah)(xs ys:Array ai):u_ (Builtin.«zip.__new__» ⟨[.type "zip",.ref t,.ref u],[]⟩) (λ_ R s=>s.heap.IsTuple t xs/\s.heap.IsTuple u ys/\R (.ok (.ret (.ref (zt4 s.heap t u).objs.size))) {s with heap:=zt5 s.heap t u}):=by
 show .of_wp λp0 w0 A0 R0 s h=>?_;obtain⟨ht,hu,h⟩:=h;obtain⟨hp0,g0,dr0,tk0,os0⟩:=s;have hsub:=sub_zip;have hu2:Heap.IsTuple (Shared.heap ⟨zt1 hp0 t,g0,dr0,tk0,os0⟩) u ys:=by obtain⟨o,e,r⟩:=hu;show⟨o,cn _ e,r⟩
 wp_walk using ou ht,ou hu2
 show⟨_,rfl,h⟩
theorem SQ(ht:s.heap.IsTuple t xs)(hu:s.heap.IsTuple u ys)
  (h:∀gz:ay,gu gz (s.heap.objs.size+4) (s.heap.objs.size+2) (s.heap.objs.size+3) .none->dj gz (s.heap.objs.size+2) (.ref s.heap.objs.size) (.ref (s.heap.objs.size+1)) ->
   dj gz (s.heap.objs.size+3) .none .none->gz.IsTupleIter s.heap.objs.size t 0->gz.IsTupleIter (s.heap.objs.size+1) u 0 ->
   (∀c o,s.heap.get? c=aa o->gz.get? c=aa o)->Q (.ref (s.heap.objs.size+4)) {s with heap:=gz}):
  au (av Ω w) A (call (.type "zip") [.ref t,.ref u]) Q E s:=by
 show a0E F.called_zip (by decide) (F.typeCall_zip_2 _ _) (F.newCall_zip_2 _ _) (λobj=>F.args_object_init_3 obj _ _) F.entry_zip_new (SN t u xs ys) ⟨ht,hu,?_⟩;have l1:(zt1 s.heap t).objs.size=s.heap.objs.size+1:=km ..;have l2:(zt2 s.heap t u).objs.size=s.heap.objs.size+2:=(km ..).trans (by rw[l1]);have l3:(zt3 s.heap t u).objs.size=s.heap.objs.size+3:=(km ..).trans (by rw[l2]);have l4:(zt4 s.heap t u).objs.size=s.heap.objs.size+4:=(km ..).trans (by rw[l3]);have keep:∀{h0:ay} {o:ax} (b:ah) (x:ax),h0.get? b=aa x->(h0.push o).get? b=aa x:=λ_ _ e=>cn _ e;have e5:(zt5 s.heap t u).get? (zt4 s.heap t u).objs.size=aa {cls:=.type "zip",data:=.fields #[.none,.bool ag,.bool ag,.ref (zt2 s.heap t u).objs.size,.ref (zt3 s.heap t u).objs.size]}:=dm _ rfl;have e4:(zt5 s.heap t u).get? (zt3 s.heap t u).objs.size=aa {cls:=.type "tuple",data:=.seq #[.none,.none]}:=keep _ _ (dm _ rfl);have e3:(zt5 s.heap t u).get? (zt2 s.heap t u).objs.size=aa {cls:=.type "tuple",data:=.seq #[.ref s.heap.objs.size,.ref (zt1 s.heap t).objs.size]}:=keep _ _ (keep _ _ (dm _ rfl));have e2:(zt5 s.heap t u).get? (zt1 s.heap t).objs.size=aa {cls:=.type "tuple_iterator",data:=.fields #[.ref u,.int 0 0]}:=keep _ _ (keep _ _ (keep _ _ (dm _ rfl)));have e1:(zt5 s.heap t u).get? s.heap.objs.size=aa {cls:=.type "tuple_iterator",data:=.fields #[.ref t,.int 0 0]}:=keep _ _ (keep _ _ (keep _ _ (keep _ _ (dm _ rfl))));rw[l4,l2,l3] at e5;rw[l3] at e4;rw[l2,l1] at e3;rw[l1] at e2;show⟨⟨_,by rw[l4];show e5,rfl⟩,?_⟩;show Q (.ref (zt4 s.heap t u).objs.size) _;rw[l4];show h _ e5 e3 e4 ⟨_,e1,rfl,rfl⟩ ⟨_,e2,rfl,rfl⟩ λc o x=>keep _ _ (keep _ _ (keep _ _ (keep _ _ (keep _ _ x))))
end
def Izt(K:ao)(l m:ah):It:=Itp (λi H=>∃xs ys v u,fF K H l xs/\fF K H m ys/\xs[i]?=aa v/\ys[i]?=aa u) (λi H vs=>∃v u,vs=[v,u]/\(∀xs,fF K H l xs->xs[i]?=aa v) /\∀ys,fF K H m ys->ys[i]?=aa u)
 (λi H=>∃xs ys,fF K H l xs/\fF K H m ys/\min xs.length ys.length=i)
theorem SR{P:bc}{w:ba}{K:ao}{es:List aw}{kk:Nat}{tp:bf}{z TI TO i1 i2 l m:ah}(p:PH z TI TO i1 i2 [i1,l] [i2,m]):
  Turn P w K (.Tuple es kk tp) (Izt K l m) [z,TI,TO,i1,i2] z (λi h=>gu h z TI TO .none/\dj h TI (.ref i1) (.ref i2)/\(∃a b,dj h TO a b)/\h.IsTupleIter i1 l i/\h.IsTupleIter i2 m i):=by
 show nB (by simp) (λi h st b hb=>?_) (λi h h2 st k=>?_) (λX hP hw hK hc i π s σ H I st hg=>?_) (λA i s Q E st q=>?_)
 .obtain ⟨a1,a2,⟨x,y,a3⟩,⟨o4,c4,_,d4⟩,o5,c5,_,d5⟩:=st;simp only[bh,or_false,ib] at hb;rcases hb with e|e|e|e|e<;>subst e
  .exact ⟨_,a1,λv y=>nomatch y⟩
  .exact ⟨_,a2,λv y=>nomatch y⟩
  .exact ⟨_,a3,λv y=>nomatch y⟩
  .exact ⟨o4,c4,λv y=>by rw[d4] at y;cases y⟩
  .exact ⟨o5,c5,λv y=>by rw[d5] at y;cases y⟩
 .obtain ⟨a1,a2,⟨x,y,a3⟩,⟨o4,c4,r4⟩,o5,c5,r5⟩:=st;show⟨k _ (by simp) _ a1,k _ (by simp) _ a2,⟨x,y,k _ (by simp) _ a3⟩,⟨o4,k i1 (by simp) _ c4,r4⟩,o5,k i2 (by simp) _ c5,r5⟩
 .subst hP hw hK;obtain⟨xs,ys,q1,q2⟩:∃xs ys,fF X.K H l xs/\fF X.K H m ys:=by
   rcases hg with⟨xs,ys,_,_,a,b,_⟩|⟨xs,ys,a,b,_⟩
   .exact ⟨xs,ys,a,b⟩
   .exact ⟨xs,ys,a,b⟩
  obtain⟨us,r1,t1,_⟩:=I.tuple q1;obtain⟨vs,r2,t2,_⟩:=I.tuple q2;have n1:=r1.length;have n2:=r2.length;have nl:l≠i1:=λe=>by obtain⟨_,_,_,⟨o,c,d,_⟩,_⟩:=st;obtain⟨o2,e2,c2,_⟩:=t1;rw[e] at e2;rw[c] at e2;cases e2;rw[d] at c2;simp at c2
  have nm:m≠i2:=λe=>by obtain⟨_,_,_,_,o,c,d,_⟩:=st;obtain⟨o2,e2,c2,_⟩:=t2;rw[e] at e2;rw[c] at e2;cases e2;rw[d] at c2;simp at c2
  have D1:jg X.Ω X.w X.A.in1 i1 [i1,l] us.toArray.size (λi v=>us.toArray[i]?=aa v) (λi h=>h.IsTupleIter i1 l i/\h.IsTuple l us.toArray):=LD (show X.A.in1.handled=ae from I.ok.hd hc) i1 l nl us.toArray;have D2:jg X.Ω X.w X.A.in1 i2 [i2,m] vs.toArray.size (λi v=>vs.toArray[i]?=aa v) (λi h=>h.IsTupleIter i2 m i/\h.IsTuple m vs.toArray):=LD (show X.A.in1.handled=ae from I.ok.hd hc) i2 m nm vs.toArray;show⟨_,_,_,_,_,_,⟨MM D1 D2 p,MN D1 D2 p⟩,⟨st.1,st.2.1,st.2.2.1,⟨st.2.2.2.1,t1⟩,st.2.2.2.2,t2⟩,λb hb=>?_,λh q=>⟨q.1,q.2.1,q.2.2.1,q.2.2.2.1.1,q.2.2.2.2.1⟩,λg=>?_,λg=>?_⟩
  .simp only[bh,ib,or_false] at hb ⊢;rcases hb with e|e|e|e
   .exact .inl e
   .exact .inr (.inr (.inl e))
   .exact .inr (.inr (.inr (.inl e)))
   .exact .inr (.inr (.inr (.inr e)))
  .obtain ⟨x',y',v,u,h1,h2,hv,hu⟩:=g;obtain rfl:=I.fW h1 q1;obtain rfl:=I.fW h2 q2;obtain⟨a1,ea1,ra1⟩:=r1.get hv;obtain⟨a2,ea2,ra2⟩:=r2.get hu;have b1:i<x'.length:=(cb.mp hv).1;have b2:i<y'.length:=(cb.mp hu).1;show⟨by rw[bt,bt];lia,λvals q=>?_⟩;obtain⟨c1,c2,d1,d2,rfl⟩:=q;have f1:us[i]?=aa c1:=by simpa using d1
   have f2:vs[i]?=aa c2:=by simpa using d2
   rw[ea1] at f1;rw[ea2] at f2;cases f1;cases f2;show⟨[v,u],sU,.cons ra1 (.cons ra2 .nil),v,u,rfl,λws hws=>by rw[I.fW hws q1];show hv,λws hws=>by rw[I.fW hws q2];show hu⟩
  .obtain ⟨x',y',h1,h2,e⟩:=g;obtain rfl:=I.fW h1 q1;obtain rfl:=I.fW h2 q2;rw[bt,bt,<- n1,<- n2,e]
 .exact um st.1 q
section
variable{X:Cx}{es:List aw}{kk:Nat}{tp:bf}
def aBg{a b:aw}{ta:TA}{p ν:bf}(hg:Gl X "zip")(hm:X.mg "zip"=ae)(ha:PA X [a,b] ta)(hs:ar [a,b] X.env=[(ag,eval a X.env),(ag,eval b X.env)]:=by rfl)(hs2:ar [b] X.env=[(ag,eval b X.env)]:=by rfl):
  PI X (.Tuple es kk tp) (.Call (.Name "zip" p) [a,b] [] ν) (λσ H R=>ta σ H λvs H1=>∃l m xs ys,vs=[.ref l,.ref m]/\fF X.K H1 l xs/\fF X.K H1 m ys/\R (Izt X.K l m) H1):=by
 intro π s σ H R I h;show vg (mY I hg hm boot_zip (q_ (eI (ha ν π s σ H _ I h) λus s1 ⟨vs,H1,I1,r1,q1⟩=>?_) (by rw[hs,hs2]) (by rw[hs2];rfl)));obtain⟨l,m,xs,ys,rfl,q1,q2,q⟩:=q1;obtain⟨u,u2,rfl,ru,ru2⟩:=vals2 r1;cases ru;cases ru2;obtain⟨ι,_,t1,_⟩:=I1.tuple q1;obtain⟨its2,_,t2,_⟩:=I1.tuple q2;have b1:l<s1.heap.objs.size:=t1.lt;have b2:m<s1.heap.objs.size:=t2.lt;show SQ (xs:=ι.toArray) (ys:=its2.toArray) t1 t2 λh' hZ hI hO j1 j2 hk=>um hZ ?_;generalize hN:s1.heap.objs.size=N at *;have apart:PH (N+4) (N+2) (N+3) N (N+1) [N,l] [N+1,m]:=by
  have nl:∀j,N+j≠l:=λj e=>by have:N+j<N:=(by rw[e];show b1);lia
  have nm:∀j,N+j≠m:=λj e=>by have:N+j<N:=(by rw[e];show b2);lia
  have ne:∀{i j:Nat},i≠j->N+i≠N+j:=λh e=>h (a1Q e);have n0:∀{i:Nat},i≠0->N+i≠N:=λh e=>h (a1Q (k:=0) e);have c2:∀{x y t:ah},x≠y->x≠t->x∉[y,t]:=λh1 h2 hm=>by
   rcases bh.1 hm with e|e
   .exact h1 e
   .exact h2 (cc.1 e)
  show⟨ne (by decide),ne (by decide),ne (by decide),b_,b_,c2 (n0 (by decide)) (nl 4),c2 (ne (by decide)) (nm 4),c2 (n0 (by decide)) (nl 3),c2 (ne (by decide)) (nm 3),c2 (d_ (n0 (by decide))) (nm 0),c2 (n0 (by decide)) (nl 1),n0 (by decide),ne (by decide)⟩
 show⟨N+4,_,_,_,H1,rfl,I1.kept (t':=s1.toks) hk,SR apart,⟨hZ,hI,⟨_,_,hO⟩,j1,j2⟩,λb hb=>?_,q⟩;have hle:s1.heap.objs.size<=b:=by
  rw[hN];simp only[bh,or_false,ib] at hb;rcases hb with e|e|e|e|e<;>rw[e]
  .exact jn _ 4
  .exact jn _ 2
  .exact jn _ 3
  .exact bg _
  .exact jn _ 1
 show I1.EU hle (I1.hok.fresh hle)
end
theorem Y1{K:ao}{a c:ah}{ds es:List D}:Wlk K (Izt K a c) (LH ds es) [(.tup ds,.ref a),(.tup es,.ref c)] where
 go:=λS H fc hg i d e=>by have h:=hg (.tup ds,.ref a) (by simp);have h2:=hg (.tup es,.ref c) (by simp);symm at h h2;obtain⟨b,xs,eb,hb,dn⟩:=h;obtain⟨b2,ys,LI,hb2,sQ⟩:=h2;injection eb with eb;injection LI with LI;subst eb LI;obtain⟨x0,y0,e0,e1,rfl⟩:=IC e;obtain⟨v,ev,dv⟩:=dn.get e0;obtain⟨u,eu,du⟩:=sQ.get e1;show⟨⟨xs,ys,v,u,fF.of hb,fF.of hb2,ev,eu⟩,λx H' y=>?_⟩;obtain⟨T,vs,rfl,fr,rfl,v',u',rfl,hy,hy2⟩:=y;have ex:=hy xs (fF.of hb);have ex2:=hy2 ys (fF.of hb2);rw[ev] at ex;rw[eu] at ex2;cases ex;cases ex2;show⟨aY fr,xN fr dv du⟩
 stop:=λS H hg i hi=>by have h:=hg (.tup ds,.ref a) (by simp);have h2:=hg (.tup es,.ref c) (by simp);symm at h h2;obtain⟨b,xs,eb,hb,dn⟩:=h;obtain⟨b2,ys,LI,hb2,sQ⟩:=h2;injection eb with eb;injection LI with LI;subst eb LI;show⟨xs,ys,fF.of hb,fF.of hb2,by rw[<- dn.len,<- sQ.len,<- hi];simp[LH]⟩
section
variable{X:Cx}{es:List aw}{kk:Nat}{tp:bf}
def Ur{a b:aw}{t:AF}{p ν:bf}(hm:X.mg "zip"=ae)(ha:wL X [a,b] t)(hg:Gl X "zip":=by rfl)(hs:ar [a,b] X.env=[(ag,eval a X.env),(ag,eval b X.env)]:=by rfl)(hs2:ar [b] X.env=[(ag,eval b X.env)]:=by rfl):
  PI4 X (.Tuple es kk tp) (.Call (.Name "zip" p) [a,b] [] ν) (NB t) :=
 Q9 (aBg hg hm ha hs hs2) λσ H R Uq=>by
  obtain⟨S,ρ,Q3,fc,sl,⟨ds0,e,q⟩,k⟩:=Uq;obtain⟨as,ea,e⟩:=bnd e;show⟨S,ρ,λds=>ds=as,fc,sl,⟨as,ea,rfl⟩,λvs H1 ds s1 d1 q1=>?_⟩;subst q1;unfold NA at e;split at e
  .cases e;obtain⟨v,r,rfl,h1,h2⟩:=d1.bO;obtain⟨v2,r2,rfl,h3,h4⟩:=h2.bO;simp only[aW] at h4;subst h4;have h1':=h1;have h3':=h3;symm at h1 h3;obtain⟨l,xs,rfl,hl,da⟩:=h1;obtain⟨m,ys,rfl,hl2,da2⟩:=h3;show⟨l,m,xs,ys,rfl,fF.of hl,fF.of hl2,k _ H1 _ [(_,.ref l),(_,.ref m)] s1 (λg hg=>?_) Y1 q⟩;rcases bh.1 hg with rfl|hg
   .exact h1'
   .cases cc.1 hg;show h3'
  .cases e
end
open PySem.SeqAt
end L4
namespace L9
open PySem.SeqAt PySem.Spec PyProof.Rows L2 L3 L4 L5
open MeetsSeq3 MeetsSeq2 MeetsSeq
open AutoSeq1 (wpAny_loadPart')  -- objects read
theorem SS(l b:ah)(n n2:Nat)(dd dd2:Option ah)(sl sl2:Array (Option ai))(ps qs:List (Int×gk)):∀(us vs:List (Int×gk)) (i:Nat),us=ps.drop i->vs=qs.drop i->i<=ps.length->i<=qs.length ->
  u_ (Builtin.«list.__eq__.loop» ⟨[.ref l,.ref b,rawInt i,rawInt 0],[]⟩) λA R s =>
   s.heap.get? l=aa ⟨.type "list",dd,.seq (ps.map vI).toArray n,sl⟩/\s.heap.get? b=aa ⟨.type "list",dd2,.seq (qs.map vI).toArray n2,sl2⟩/\R (.ok (.ret (.bool (dC (us.map (·.1)) (vs.map (·.1)))))) s:=by
 intro us
 induction us with
 |nil =>
  intro vs i hu hv hi hj Ω w A R s h;obtain⟨hh,g,dw,tk,os⟩:=s;obtain⟨hl,hb,h⟩:=h
  wp_walk using gr hb,gr hl
  have hle:ps.length<=i:=a2h.1 hu.symm;have g1:(ps.map vI).toArray[((i:Nat):Int).toNat]?=ae:=by simp[hle]
  rw[g1]
  wp_walk using gr hb,gr hl
  have e:dC (([]:List (Int×gk)).map (·.1)) (vs.map (·.1))=Zv (ps.length<qs.length):=by
   have hvl:vs.length+i=qs.length:=by rw[hv,qc];lia
   cases vs with
   |nil=>show(Zy (by simp only[iq] at hvl;lia)).symm
   |cons q vs=>show(Zx (by simp only[cx] at hvl;lia)).symm
  rw[e] at h;show R (.ok (.ret (.bool (Zv ((ps.map vI).toArray.size<(qs.map vI).toArray.size))))) _;simpa using h
 |cons p us ih =>
  intro vs i hu hv hi hj Ω w A R s h;obtain⟨hh,g,dw,tk,os⟩:=s;obtain⟨hl,hb,h⟩:=h;have hul:us.length+1+i=ps.length:=by have:=congrArg ny hu;rw[qc,cx] at this;lia
  have p1:ps[i]?=aa p:=by have:=congrArg (λt:List (Int×gk)=>t[0]?) hu;simp only[r9,Ib] at this;show this.symm
  have g1:(ps.map vI).toArray[((i:Nat):Int).toNat]?=aa (vI p):=by simp[p1]
  cases vs with
  |nil =>
   have hle:qs.length<=i:=a2h.1 hv.symm;have g2:(qs.map vI).toArray[((i:Nat):Int).toNat]?=ae:=by simp[hle]
   wp_walk using gr hb,gr hl
   rw[g1,g2]
   wp_walk using gr hb,gr hl
   show R (.ok (.ret (.bool (Zv ((ps.map vI).toArray.size<(qs.map vI).toArray.size))))) _;have e:Zv ((ps.map vI).toArray.size<(qs.map vI).toArray.size)=ag:=Zy (by simp;lia);rw[e];show h
  |cons q vs =>
   have hvl:vs.length+1+i=qs.length:=by have:=congrArg ny hv;rw[qc,cx] at this;lia
   have q1:qs[i]?=aa q:=by have:=congrArg (λt:List (Int×gk)=>t[0]?) hv;simp only[r9,Ib] at this;show this.symm
   have g2:(qs.map vI).toArray[((i:Nat):Int).toNat]?=aa (vI q):=by simp[q1]
   have hu':us=ps.drop (i+1):=by rw[<- a2i,<- hu];rfl
   have hv':vs=qs.drop (i+1):=by rw[<- a2i,<- hv];rfl
   have hc:((i:Int)+1)=((i+1:Nat):Int):=by lia
   wp_walk using gr hb,gr hl
   rw[g1,g2];show aq (Gs p.1 p.2 q.1 q.2 Ω w _ _ ?_);rw[bj,bj,dC] at h;by_cases z:p.1=q.1
   .rw [Z_ z] at h;rw[show(p.1 == q.1)=af from beq_iff_eq.2 z]
    wp_walk
    rw[hc];show⟨ql yz _,ly a05 ?_⟩;rw[(nc yz _)];show ih vs (i+1) hu' hv' ∅ ∅ Ω w A R _ ⟨hl,hb,h⟩
   .rw [Zz z] at h;rw[show(p.1 == q.1)=ag from beq_eq_false_iff_ne.2 z];have step:∀{A:bq} {Q:Q0c} {E:Q0c},Q (.bool (Zv (p.1<q.1))) ⟨hh,g,dw,tk,os⟩->au (av Ω w) A (richCompare .Lt (vI p) (vI q)) Q E ⟨hh,g,dw,tk,os⟩:=λh=>lt_int h
    wp_walk using gr hb,gr hl
    rw[g1,g2]
    wp_walk using step
    show h
theorem Yz(l b:ah)(ps qs:List (Int×gk))(n n2:Nat)(dd dd2:Option ah)(sl sl2:Array (Option ai)):
  u_ (Builtin.«list.__lt__» ⟨[.ref l,.ref b],[]⟩) λA R s =>
   s.heap.get? l=aa ⟨.type "list",dd,.seq (ps.map vI).toArray n,sl⟩/\s.heap.get? b=aa ⟨.type "list",dd2,.seq (qs.map vI).toArray n2,sl2⟩/\R (.ok (.ret (.bool (dC (ps.map (·.1)) (qs.map (·.1)))))) s:=by
 intro Ω w A R s h;obtain⟨hh,g,dw,tk,os⟩:=s;obtain⟨hl,hb,h⟩:=h;have f9:=a3u
 wp_walk using gr hb,gr hl
 show⟨ql yz _,ly a05 ?_⟩;rw[(nc yz _)];show SS l b n n2 dd dd2 sl sl2 ps qs ps qs 0 rfl rfl (jm _) (jm _) Ω w A R _ ⟨hl,hb,h⟩
def wo(A:bq)(s:ak)(x y:ai)(r:Bool):Prop :=
 ∀(Ω:bc) (w:ba) (E:Q0c) (Q:Q0c),Q (.bool r) s->au (av Ω w) A (richCompare .Lt x y) Q E s
theorem aBh(l b:ah)(x0 x1 y0 y1:ai)(n n2:Nat)(dd dd2:Option ah)(sl sl2:Array (Option ai))(e0 e1 r0 r1:Bool):
  u_ (Builtin.«tuple.__lt__» ⟨[.ref l,.ref b],[]⟩) λA R s =>
   s.heap.get? l=aa ⟨.type "tuple",dd,.seq #[x0,x1] n,sl⟩/\s.heap.get? b=aa ⟨.type "tuple",dd2,.seq #[y0,y1] n2,sl2⟩ /\
   qq A.in1 s x0 y0 e0/\qq A.in1 s x1 y1 e1/\(e0=ag->wo A.in1 s x0 y0 r0)/\(e1=ag->wo A.in1 s x1 y1 r1)/\R (.ok (.ret (.bool (if e0=af then(if e1=af then ag else r1) else r0)))) s :=
 .of_wp λΩ w A R s h=>by
  obtain⟨hh,g,dw,tk,os⟩:=s;obtain⟨hl,hb,q0,q1,l0,l1,h⟩:=h;have f2:=a3t;have s0:∀{Q:Bool->ak->Prop} {E:Q0c},Q e0 ⟨hh,g,dw,tk,os⟩->au (av Ω w) A.in1 (eqBool x0 y0) Q E ⟨hh,g,dw,tk,os⟩:=λh=>q0 Ω w _ _ h;have s1:∀{Q:Bool->ak->Prop} {E:Q0c},Q e1 ⟨hh,g,dw,tk,os⟩->au (av Ω w) A.in1 (eqBool x1 y1) Q E ⟨hh,g,dw,tk,os⟩:=λh=>q1 Ω w _ _ h
  cases e0 with
  |false =>
   have t0:∀{Q:Q0c} {E:Q0c},Q (.bool r0) ⟨hh,g,dw,tk,os⟩->au (av Ω w) A.in1 (richCompare .Lt x0 y0) Q E ⟨hh,g,dw,tk,os⟩:=λh=>l0 rfl Ω w _ _ h
   wp_walk using gr hl,gr hb,s0,t0
   show⟨_,rfl,h⟩
  |true =>
   cases e1 with
   |false =>
    have t1:∀{Q:Q0c} {E:Q0c},Q (.bool r1) ⟨hh,g,dw,tk,os⟩->au (av Ω w) A.in1 (richCompare .Lt x1 y1) Q E ⟨hh,g,dw,tk,os⟩:=λh=>l1 rfl Ω w _ _ h
    wp_walk using gr hl,gr hb,s0,s1,t1
    show⟨_,rfl,h⟩
   |true =>
    wp_walk using gr hl,gr hb,s0,s1
    show⟨_,rfl,h⟩
section
variable{X:Cx}
def Dk(K:ao):V->V->Hp->VK->Prop:=λx y H Q=>∃(a b p p2 q q2:ah) (m1 m2 n1 n2:Q0e),x=.ref a/\y=.ref b/\H a=aa (.tup [.ref p,.ref p2])/\H b=aa (.tup [.ref q,.ref q2]) /\
 H p=aa (.lst (m1.map V.int))/\H p2=aa (.lst (m2.map V.int))/\H q=aa (.lst (n1.map V.int))/\H q2=aa (.lst (n2.map V.int))/\Q (.bl (GG m1 m2 n1 n2)) H
def JC(I:L2.Φ X π σ H s)(hp:H p=aa (.lst (m.map V.int)))(hq:H q=aa (.lst (n.map V.int)))(hu:A.units<cz):qq A s (.ref p) (.ref q) (Zv (m=n))/\wo A s (.ref p) (.ref q) (dC m n):=by
 obtain⟨z,ι,k,r,hl,e⟩:=I.E4 hp;obtain⟨z2,its2,k2,r2,hl2,e2⟩:=I.E4 hq;rw[a_] at hl hl2;obtain⟨ps,ep,f1⟩:=iB r;obtain⟨qs,eq,f2⟩:=iB r2;subst ep eq
 constructor
 .by_cases hpq:p=q
  .subst hpq;rw[hp] at hq;have:m=n:=by have h:=HO.lst.inj (cj hq);show(a14 (λa b h=>V.int.inj h)).1 h
   rw[Zx this];show Gr _
  .refine EqAt.of_refs hpq ?_;have L1:s.heap.IsList p (ps.map vI).toArray:=⟨_,e,rfl,k,rfl⟩;have L2':s.heap.IsList q (qs.map vI).toArray:=⟨_,e2,rfl,k2,rfl⟩;have lm:m.length=ps.length:=by rw[<- f1,a_]
   have ln:n.length=qs.length:=by rw[<- f2,a_]
   by_cases hs:ps.length=qs.length
   .have R:=a2F (A:=A) (e:=λj=>Zv (m[j]?=n[j]?)) L1 L2' (by simp;lia) hu (λj j1 j2=>?_)
    .have ev:(bz (ps.map vI).toArray.size).all (λj=>Zv (m[j]?=n[j]?))=Zv (m=n):=by
      rw[mj];simp only[gp,lz,decide_eq_true_eq,bt,a_]
      constructor
      .intro hj;apply Ak;intro j;by_cases hjl:j<ps.length
       .exact hj j hjl
       .rw [jq ∅,jq ∅]
      .intro hj j _;rw[hj]
     rw[ev] at R;show R
    .have j1:j<ps.length:=by simpa using j1
     have j2:j<qs.length:=by simpa using j2
     have key:=Gs (A:=A.in1) (s:=s) (ps[j]).1 (ps[j]).2 (qs[j]).1 (qs[j]).2;have ee:((ps[j]).1 == (qs[j]).1)=Zv (m[j]?=n[j]?):=by rw[<- f1,<- f2,cf,cf,bw j1,bw j2];simp[BEq.beq]
     rw[<- ee];simpa using key
   .have R:=a2E (A:=A) L1 L2' (by simp;lia) hu;rw[Zy (λz=>hs (by rw[<- lm,<- ln,z]))];show R
 .intro Ω w E Q h;show a0t (op:=.Lt) ⟨_,e,rfl⟩ ⟨_,e2,rfl⟩ F.slot_list_lt F.entry_list_lt (F.args_list_lt_2 _ _) (Yz p q ps qs k k2 ae ae #[] #[]) ⟨e,e2,?_⟩ hu;rw[f1,f2];show⟨(λz=>by cases z),h⟩
def aBi(hu:X.A.units+1<cz):jS X (compareOp .Lt) (Dk X.K):=by
 intro π s σ H x y v u Q I rx ry h;obtain⟨a,b,p,p2,q,q2,m1,m2,n1,n2,rfl,rfl,ha,hb,h1,h2,h3,h4,k⟩:=h;cases rx;cases ry;obtain⟨t1,v1,P1,_⟩:=I.tuple (fF.of ha);obtain⟨t2,v2,P2,_⟩:=I.tuple (fF.of hb);obtain⟨x0,x1,rfl,r0,r1⟩:=vals2 v1;obtain⟨y0,y1,rfl,r2,r3⟩:=vals2 v2;cases r0;cases r1;cases r2;cases r3;obtain⟨⟨c1,d1,g1,sl1⟩,o1,oc1,k1,od1⟩:=id P1;obtain⟨⟨c2,d2,g2,sl2⟩,o2,oc2,k2,od2⟩:=id P2;simp only at oc1 od1 oc2 od2;subst oc1 od1 oc2 od2;have e0:=JC I h1 h3 (A:=X.A.in1) ∅;have e1:=JC I h2 h4 (A:=X.A.in1) ∅;show a0t (op:=.Lt) ⟨_,o1,rfl⟩ ⟨_,o2,rfl⟩ F.slot_tuple_lt F.entry_tuple_lt (F.args_tuple_lt_2 _ _) (aBh a b _ _ _ _ k1 k2 d1 d2 sl1 sl2 (Zv (m1=n1)) (Zv (m2=n2)) (dC m1 n1) (dC m2 n2)) ⟨o1,o2,e0.1,e1.1,λ_=>e0.2,λ_=>e1.2,?_⟩ ∅;show⟨(λz=>by cases z),.bl (GG m1 m2 n1 n2),H,I,?_,k⟩;show L2.Ψ (.bl _) (.bool _);simp only[L2.Ψ];congr 1;unfold GG;by_cases z:m1=n1
 .rw [Z_ z,Z_ (Zx z)];by_cases y:m2=n2
  .rw [Z_ (Zx y),y,M6]
  .rw [Zz (by simpa using y)]
 .rw [Zz z,Zz (by simpa using z)]
def Br{K:ao}{S:ah->Prop}{H:Hp}{a b:D}{xs:List V}(h:aW K S H [a,b] xs):∃u w,xs=[u,w]/\Dn K S H a u/\Dn K S H b w:=by simp only[aW] at h;obtain⟨u,r,rfl,h1,w,r2,rfl,h2,rfl⟩:=h;show⟨u,w,rfl,h1,h2⟩
def Bq:F2:=λx y Q=>∃d,JT x y=aa d/\Q d
def SU:Tells Bq JT:=λx y d Q e q=>⟨d,e,q⟩
def aBj{K:ao}:O3 K (Dk K) Bq:=by
 intro S H x y dx dy Q3 Q fc hx hy ⟨d,e,q⟩ k;unfold JT at e;split at e
 .rename_i a b c d2;obtain⟨m1,e1,e⟩:=bnd e;obtain⟨m2,e2,e⟩:=bnd e;obtain⟨n1,e3,e⟩:=bnd e;obtain⟨n2,e4,rfl⟩:=ip.1 e;have e1:=L4.ints_of e1;have e2:=L4.ints_of e2;have e3:=L4.ints_of e3;have e4:=L4.ints_of e4;subst e1 e2 e3 e4;symm at hx hy;obtain⟨p,xs,rfl,hp,da⟩:=hx;obtain⟨p2,ys,rfl,hq,dc⟩:=hy;obtain⟨u0,u1,rfl,b0,b1⟩:=Br da;obtain⟨w0,w1,rfl,b2,b3⟩:=Br dc;symm at b0 b1 b2 b3;obtain⟨l0,z0,rfl,g0,_,f0⟩:=b0;obtain⟨l1,z1,rfl,g1,_,f1⟩:=b1;obtain⟨l2,z2,rfl,g2,_,f2⟩:=b2;obtain⟨l3,z3,rfl,g3,_,f3⟩:=b3;have f0:=aW.ints.1 f0;have f1:=aW.ints.1 f1;have f2:=aW.ints.1 f2;have f3:=aW.ints.1 f3;subst f0 f1 f2 f3;show⟨p,p2,l0,l1,l2,l3,m1,m2,n1,n2,rfl,rfl,hp,hq,g0,g1,g2,g3,k _ H _ (ξ.refl H) (by symm) q⟩
 .cases e
def Bp(hu:X.A.units+9<cz)(ha:bY X a fa)(hb:bY X b fb):bY X (.Compare a [.Lt] [b] ν) (aE JT fa fb):=cE (HM (aBi ∅) aBj ha hb (iI _)) (iR SU)
end
end L9
namespace K16
open L2 L3 L4 L6 L7 L8 L9 L5
def top(i : Nat):bx:=PySem.Challenge.pw_risecount_k16_whole_fillings_numbered.main.body.getD i (.Pass ⟨0,0,0,0⟩)
section
variable(P:bc)(w:ba){K:ao}{mg:Q0d}(ω:ay)(kk:Nat)
def MO(F:Df K mg "ties_of" (top 16) ["order"])(cM:mg "sorted"=ae)(bE:mg "tuple"=ae)(c7:mg "enumerate"=ae):Cl P w K mg ω cC (kk+1) "ties_of" ["order"] (dB K LL.iW):=by
 show nN (N:=["order","ties","b","row"]) F (λhr nd=>?_);show(aX (FH (i:=1) nd (qX aH))
  (aX (nR rfl gw (nG c7 (aC (x4 0) aH)) (CY (i:=2) (j:=3) rfl nd)
   (aN (vW (aBM (i:=1) (sW (jB.pe (gY (ls:=["a"]) (fs:=["b"]) (fr:=[2]) rfl (iS (x4 3)) (λ_ _ _ _ _ _ nd=>fM (i:=0) nd (by decide)) (λ_ _ _ _ _ _=>jU) (λ_ _ _ _ _ _=>(pW (aC (x4 0) (aC (x4 1) aH)))))))))))
  (aN (cH (jQ bE (aC (jB.pe (IQ cM (aC (x4 1) aH))) aH))))))
def wQ(F:Df K mg "ready_things" (top 18) ["order","ahead"])(iT:mg "all"=ae)(aP:mg "len"=ae)(aR:mg "range"=ae):Cl P w K mg ω cC (kk+1) "ready_things" ["order","ahead"] (dB K LL.cK):=by
 show nN (N:=["order","ahead","others"]) F (λhr nd=>?_);show(aX (CW (i:=2) (ls:=["thing"]) (fs:=["ahead"]) (fr:=[1]) nd rfl (eG aR (fH aP (aC (x4 0) aH))) (λ_ _ _ _ _ _ nd=>fM (i:=0) nd (by decide)) (λ_ _ _ _ _ _=>oM (XZ (x4 0) (x4 1))) (λ_ _ _ _ _ _=>(x4 0)))
  (aN (cH (jB.pe (gY (ls:=["thing"]) (fs:=["ahead","order"]) (fr:=[1,0]) rfl (iS (x4 2)) (λ_ _ _ _ _ _ nd=>fM (i:=0) nd (by decide)) (λ_ _ _ _ _ _=>oM (nF (LS rfl iT (aC (jB.pe (gY (ls:=["lower"]) (fs:=["ahead"]) (fr:=[1]) rfl (iS (mF (x4 2) (x4 0))) (λ_ _ _ _ _ _ nd=>fM (i:=0) nd (by decide)) (λ_ _ _ _ _ _=>jU) (λ_ _ _ _ _ _=>(in4 (x4 0) (x4 1))))) aH)))) (λ_ _ _ _ _ _=>(x4 0)))))))
def SV(F:Df K mg "joined" (top 19) ["ahead","thing"])(cM:mg "sorted"=ae)(bE:mg "tuple"=ae):Cl P w K mg ω cC (kk+1) "joined" ["ahead","thing"] (dB K LL.gS):=by show nN (N:=["ahead","thing"]) F (λhr nd=>?_);show(aN (cH (jQ bE (aC (jB.pe (AG cM (aC (fG (x4 0) (pW (aC (x4 1) aH))) aH))) aH))))
def AM(F:Df K mg "descents_of" (top 20) ["going"])(aP:mg "len"=ae)(aR:mg "range"=ae)(bE:mg "tuple"=ae):Cl P w K mg ω cC (kk+1) "descents_of" ["going"] (dB K bV.cL):=by show nN (N:=["going"]) F (λhr nd=>?_);show(aN (cH (jQ bE (aC (jB.pe (gY (ls:=["place"]) (fs:=["going"]) (fr:=[0]) rfl (eG aR (jP (fH aP (aC (x4 0) aH)) i4)) (λ_ _ _ _ _ _ nd=>fM (i:=0) nd (by decide)) (λ_ _ _ _ _ _=>oM (BC (mF (x4 1) (x4 0)) (mF (x4 1) (fG (x4 0) i4)))) (λ_ _ _ _ _ _=>(x4 0)))) aH))))
def Y2(F:Df K mg "added" (top 24) ["one","other"])(DD:mg "zip"=ae):Cl P w K mg ω cC (kk+1) "added" ["one","other"] (dB K LL.mU):=by show nN (N:=["one","other"]) F (λhr nd=>?_);show(aN (cH (jB.pe (gY (ls:=["a","b"]) (fs:=[]) (fr:=[]) rfl (Kt DD (aC (x4 0) (aC (x4 1) aH))) (λ_ _ _ _ _ _ nd=>z8 (i:=0) (j:=1) rfl nd (by decide) (by decide)) (λ_ _ _ _ _ _=>jU) (λ_ _ _ _ _ _=>(fG (x4 0) (x4 1)))))))
def pX(F:Df K mg "one_descent_more" (top 23) ["shares"]):Cl P w K mg ω cC (kk+1) "one_descent_more" ["shares"] (dB K LL.b8):=by show nN (N:=["shares"]) F (λhr nd=>?_);show(aN (cH (fG (jB.pe (qX (aC i4 aH))) (sl4 (x4 0) no4 (po4 (By i4))))))
theorem oP(F:Df K mg "find_shares" (top 22) ["order","ahead","last","shares"])(dI:Cl P w K mg ω cC kk "ready_things" ["order","ahead"] (dB K LL.cK))(xT:Cl P w K mg ω cC kk "added" ["one","other"] (dB K LL.mU))(fO:Cl P w K mg ω cC kk "one_descent_more" ["shares"] (dB K LL.b8))(tK:Cl P w K mg ω cC kk "joined" ["ahead","thing"] (dB K LL.gS))(aP:mg "len"=ae)(jV:mg "max"=ae):∀n:Nat,Cl P w K mg ω cC (kk+n) "find_shares" ["order","ahead","last","shares"] (ZA K (LL.bM n))
 |0=>nnM F
 |n+1=>by
  have lM:=oP F dI xT fO tK aP jV n;have dI:=dI.up (jn kk n);have xT:=xT.up (jn kk n);have fO:=fO.up (jn kk n);have tK:=tK.up (jn kk n);show fdM (N:=["order","ahead","last","shares","state","some","thing","further"]) F (λhr nd=>?_);show⟨_,(yK (cU (i:=4) nd (pW (aC (x4 1) (aC (x4 2) aH))))
  (Tv (j:=3) (u2 hr) (gI (Zl (u2 hr) (x4 4) (x4 3))
   (aX (FH (i:=5) nd (YK (jB.pe (qX (aC i4 aH))) (Ek rfl jV (aC (fH aP (aC (x4 0) aH)) (aC i4 aH)))))
   (aX (gI (LN (fH aP (aC (x4 1) aH)) (fH aP (aC (x4 0) aH)))
    (aN (wy (i:=5) (sW i4) i4))
    gR)
   (aX (Vn 5 (nR rfl gw (iS (bC dI hr (aC (x4 0) (aC (x4 1) aH)))) (lD (i:=6) nd)
    (aX (Zk (i:=7) (j:=3) lM hr (by decide) nd (C9 (x4 0) (C9 (bC tK hr (aC (x4 1) (aC (x4 6) aH))) (C9 (x4 6) (Dr (j:=3))))))
    (aN (cU (i:=5) nd (bC xT hr (aC (x4 5) (aC (if4 (BC (x4 2) (x4 6)) (bC fO hr (aC (x4 7) aH)) (x4 7)) aH))))))))
   (aN (Ua (i:=3) (u2 hr) (sW (x4 5)) (x4 4))))))
   gR) (x4 4)))⟩
def FV(F:Df K mg "shares_on" (top 21) ["order"])(lM:Cl P w K mg ω cC kk "find_shares" ["order","ahead","last","shares"] (ZA K (LL.bM 11))):Cl P w K mg ω cC (kk+1) "shares_on" ["order"] (dB K LL.gE):=by
 show nN (N:=["order","shares"]) F (λhr nd=>?_);show(aX (Ub (i:=1) nd)
  (aX (Kv (j:=1) lM hr (C9 (x4 0) (C9 (pW aH) (C9 i4 (Dr (j:=1))))))
  (aN (cH (x4 1)))))
def SW(F:Df K mg "chosen" (top 26) ["x","m"])(aR:mg "range"=ae):Cl P w K mg ω cC (kk+1) "chosen" ["x","m"] (dB K LL.eJ):=by
 show nN (N:=["x","m","many","step"]) F (λhr nd=>?_);show(aX (cU (i:=2) nd i4)
  (aX (nR rfl gw (eG aR (x4 1)) (lD (i:=3) nd)
   (aN (cU (i:=2) nd (LK (wN (x4 2) (jP (x4 0) (x4 3))) (fG (x4 3) i4)))))
  (aN (cH (x4 2)))))
def FW(F:Df K mg "tie_rises" (top 29) ["filling","a","b"]):Cl P w K mg ω cC (kk+1) "tie_rises" ["filling","a","b"] (dB K LL.jD):=by
 show nN (N:=["filling","a","b"]) F (λhr nd=>?_);show(aX (gI (BC (x4 1) (x4 2))
   (aN (cH (lt4 (mF (x4 0) (x4 1)) (mF (x4 0) (x4 2)))))
   gR)
  (aN (cH (le4 (mF (x4 0) (x4 1)) (mF (x4 0) (x4 2))))))
def Y3(F:Df K mg "rises" (top 28) ["order","filling","k"])(SX:Cl P w K mg ω cC kk "ties_of" ["order"] (dB K LL.iW))(JD:Cl P w K mg ω cC kk "tie_rises" ["filling","a","b"] (dB K LL.jD))(iT:mg "all"=ae)(aP:mg "len"=ae):Cl P w K mg ω cC (kk+1) "rises" ["order","filling","k"] (dB K LL.rX):=by
 show nN (N:=["order","filling","k"]) F (λhr nd=>?_);show(aX (gI (F8.pt (z6 (LM (x4 2) i4) (IF (XY (fH aP (aC (x4 1) aH)) (fH aP (aC (x4 0) aH))))))
   (aN (cH b4))
   gR)
  (aX (gI (nM (nF (LS rfl iT (aC (jB.pe (gY (ls:=["number"]) (fs:=["k"]) (fr:=[2]) rfl (iS (x4 1)) (λ_ _ _ _ _ _ nd=>fM (i:=0) nd (by decide)) (λ_ _ _ _ _ _=>jU) (λ_ _ _ _ _ _=>(X0 vM vM CU CU i4 (x4 0) (x4 1))))) aH))))
   (aN (cH b4))
   gR)
  (aN (cH (LS rfl iT (aC (jB.pe (gY (ls:=["a","b"]) (fs:=["filling"]) (fr:=[1]) rfl (iS (bC SX hr (aC (x4 0) aH))) (λ_ _ _ _ _ _ nd=>z8 (i:=0) (j:=1) rfl nd (by decide) (by decide)) (λ_ _ _ _ _ _=>jU) (λ_ _ _ _ _ _=>(bC JD hr (aC (x4 2) (aC (x4 0) (aC (x4 1) aH))))))) aH))))))
def tL(F:Df K mg "refuse_below_0" (top 30) ["k"]){aK:ah}(dD:mg "NoNumber"=aa (.ref aK))(fP:RZ K aK):Cl P w K mg ω (xO P w) (kk+1) "refuse_below_0" ["k"] (LX K mg bV.bW):=by
 show fd5 (N:=["k"]) F (λhr nd=>?_);show(aN (gI (LM (x4 0) i4)
   (aN (FP rfl rfl dD fP (aC s4 aH)))
   gR))
def SY(F:Df K mg "top_of" (top 33) ["going","k"])(eV:Cl P w K mg ω cC kk "descents_of" ["going"] (dB K bV.cL))(aP:mg "len"=ae):Cl P w K mg ω cC (kk+1) "top_of" ["going","k"] (dB K bV.iG):=by show nN (N:=["going","k"]) F (λhr nd=>?_);show(aN (cH (jP (jP (fG (x4 1) (fH aP (aC (x4 0) aH))) i4) (fH aP (aC (bC eV hr (aC (x4 0) aH)) aH)))))
def FX(F:Df K mg "rows_many" (top 32) ["going","k"])(iM:Cl P w K mg ω cC kk "chosen" ["x","m"] (dB K LL.eJ))(oQ:Cl P w K mg ω cC kk "top_of" ["going","k"] (dB K bV.iG))(d6:Cl P w K mg ω (xO P w) kk "refuse_below_0" ["k"] (LX K mg bV.bW))(aP:mg "len"=ae):Cl P w K mg ω cC (kk+1) "rows_many" ["going","k"] (dB K bV.gG):=by
 show nN (N:=["going","k"]) F (λhr nd=>?_);show(aX (vW (sW (C5 d6 hr (aC (x4 1) aH))))
  (aN (cH (bC iM hr (aC (bC oQ hr (aC (x4 0) (aC (x4 1) aH))) (aC (fH aP (aC (x4 0) aH)) aH))))))
def AN(F:Df K mg "rises_ahead" (top 34) ["going","place"])(eV:Cl P w K mg ω cC kk "descents_of" ["going"] (dB K bV.cL))(aP:mg "len"=ae):Cl P w K mg ω cC (kk+1) "rises_ahead" ["going","place"] (dB K bV.eU):=by show nN (N:=["going","place"]) F (λhr nd=>?_);show(aN (cH (jP (x4 1) (fH aP (aC (bC eV hr (aC (sl4 (x4 0) no4 (po4 (fG (x4 1) i4))) aH)) aH)))))
def tM(F:Df K mg "greatest_below" (top 36) ["bound","m","most"])(iM:Cl P w K mg ω cC kk "chosen" ["x","m"] (dB K LL.eJ)):Cl P w K mg ω cC (kk+1) "greatest_below" ["bound","m","most"] (dB K bV.fA):=by
 show nN (N:=["bound","m","most","low","high","middle"]) F (λhr nd=>?_);show(aX (cU (i:=3) nd (jP (x4 1) i4))
  (aX (cU (i:=4) nd (x4 0))
  (aX (aEc gw (BC (jP (x4 4) (x4 3)) i4)
   (aX (cU (i:=5) nd (LK (fG (x4 3) (x4 4)) i4))
   (aN (gI (B_ (bC iM hr (aC (x4 5) (aC (x4 1) aH))) (x4 2))
    (aN (cU (i:=3) nd (x4 5)))
    (aN (cU (i:=4) nd (x4 5)))))))
  (aN (cH (x4 3))))))
def S3(F:Df K mg "row_at" (top 35) ["going","k","number"])(lN:Cl P w K mg ω cC kk "rises_ahead" ["going","place"] (dB K bV.eU))(iM:Cl P w K mg ω cC kk "chosen" ["x","m"] (dB K LL.eJ))(uY:Cl P w K mg ω cC kk "greatest_below" ["bound","m","most"] (dB K bV.fA))(oQ:Cl P w K mg ω cC kk "top_of" ["going","k"] (dB K bV.iG))(oR:Cl P w K mg ω cC kk "rows_many" ["going","k"] (dB K bV.gG)){aK:ah}(dD:mg "NoNumber"=aa (.ref aK))(fP:RZ K aK)(bE:mg "tuple"=ae)(aP:mg "len"=ae)(aR:mg "range"=ae):Cl P w K mg ω (xO P w) (kk+1) "row_at" ["going","k","number"] (LX K mg bV.jG):=by
 show fd5 (N:=["going","k","number","many","top","behind","left","row","place"]) F (λhr nd=>?_);show(aX (cU (i:=3) nd (bC oR hr (aC (x4 0) (aC (x4 1) aH))))
  (aX (gI (nM (O0 vM OH CU Es i4 (x4 2) (x4 3)))
   (aN (FP rfl rfl dD fP (aC s4 aH)))
   gR)
  (aX (cU (i:=4) nd (bC oQ hr (aC (x4 0) (aC (x4 1) aH))))
  (aX (cU (i:=5) nd (jP (jP (x4 3) i4) (x4 2)))
  (aX (cU (i:=6) nd (x4 4))
  (aX (FH (i:=7) nd (qX aH))
  (aX (YL (nR rfl gw (eG aR (fH aP (aC (x4 0) aH))) (lD (i:=8) nd)
   (aX (cU (i:=6) nd (bC uY hr (aC (x4 6) (aC (jP (fH aP (aC (x4 0) aH)) (x4 8)) (aC (x4 5) aH)))))
   (aX (cU (i:=5) nd (jP (x4 5) (bC iM hr (aC (x4 6) (aC (jP (fH aP (aC (x4 0) aH)) (x4 8)) aH)))))
   (aN (vW (X4 (i:=7) (sW (jP (jP (x4 4) (x4 6)) (bC lN hr (aC (x4 0) (aC (x4 8) aH))))))))))))
  (aN (cH (jQ bE (aC (x4 7) aH)))))))))))
def BE(F:Df K mg "step_rises" (top 39) ["row","place","strictly"]):Cl P w K mg ω cC (kk+1) "step_rises" ["row","place","strictly"] (dB K bV.gL):=by
 show nN (N:=["row","place","strictly"]) F (λhr nd=>?_);show(aX (gI (nF (x4 2))
   (aN (cH (lt4 (mF (x4 0) (x4 1)) (mF (x4 0) (fG (x4 1) i4)))))
   gR)
  (aN (cH (le4 (mF (x4 0) (x4 1)) (mF (x4 0) (fG (x4 1) i4))))))
def FY(F:Df K mg "is_row_of" (top 38) ["going","k","row"])(FZ:Cl P w K mg ω cC kk "step_rises" ["row","place","strictly"] (dB K bV.gL))(eV:Cl P w K mg ω cC kk "descents_of" ["going"] (dB K bV.cL))(aP:mg "len"=ae)(aR:mg "range"=ae)(iT:mg "all"=ae):Cl P w K mg ω cC (kk+1) "is_row_of" ["going","k","row"] (dB K bV.g9):=by
 show nN (N:=["going","k","row","descents"]) F (λhr nd=>?_);show(aX (gI (F8.pt (z6 (XY (fH aP (aC (x4 2) aH)) (fH aP (aC (x4 0) aH))) (IF (nM (nF (LS rfl iT (aC (jB.pe (gY (ls:=["number"]) (fs:=["k"]) (fr:=[1]) rfl (iS (x4 2)) (λ_ _ _ _ _ _ nd=>fM (i:=0) nd (by decide)) (λ_ _ _ _ _ _=>jU) (λ_ _ _ _ _ _=>(X0 vM vM CU CU i4 (x4 0) (x4 1))))) aH)))))))
   (aN (cH b4))
   gR)
  (aX (cU (i:=3) nd (bC eV hr (aC (x4 0) aH)))
  (aN (cH (LS rfl iT (aC (jB.pe (gY (ls:=["place"]) (fs:=["row","descents"]) (fr:=[2,3]) rfl (eG aR (jP (fH aP (aC (x4 2) aH)) i4)) (λ_ _ _ _ _ _ nd=>fM (i:=0) nd (by decide)) (λ_ _ _ _ _ _=>jU) (λ_ _ _ _ _ _=>(bC FZ hr (aC (x4 1) (aC (x4 0) (aC (in4 (x4 0) (x4 2)) aH))))))) aH))))))
def BF(F:Df K mg "row_number" (top 37) ["going","k","row"])(iM:Cl P w K mg ω cC kk "chosen" ["x","m"] (dB K LL.eJ))(lN:Cl P w K mg ω cC kk "rises_ahead" ["going","place"] (dB K bV.eU))(oQ:Cl P w K mg ω cC kk "top_of" ["going","k"] (dB K bV.iG))(JE:Cl P w K mg ω cC kk "is_row_of" ["going","k","row"] (dB K bV.g9))(oR:Cl P w K mg ω cC kk "rows_many" ["going","k"] (dB K bV.gG)){j5:ah}(pP:mg "NoRow"=aa (.ref j5))(F0:RZ K j5)(c7:mg "enumerate"=ae)(aP:mg "len"=ae):Cl P w K mg ω (xO P w) (kk+1) "row_number" ["going","k","row"] (LX K mg bV.gM):=by
 show fd5 (N:=["going","k","row","many","top","behind","place","number"]) F (λhr nd=>?_);show(aX (cU (i:=3) nd (bC oR hr (aC (x4 0) (aC (x4 1) aH))))
  (aX (gI (nM (nF (bC JE hr (aC (x4 0) (aC (x4 1) (aC (x4 2) aH))))))
   (aN (FP rfl rfl pP F0 (aC s4 aH)))
   gR)
  (aX (cU (i:=4) nd (bC oQ hr (aC (x4 0) (aC (x4 1) aH))))
  (aX (cU (i:=5) nd i4)
  (aX (YL (nR rfl gw (nG c7 (aC (x4 2) aH)) (CY (i:=6) (j:=7) rfl nd)
   (aN (cU (i:=5) nd (fG (x4 5) (bC iM hr (aC (jP (jP (x4 4) (x4 7)) (bC lN hr (aC (x4 0) (aC (x4 6) aH)))) (aC (jP (fH aP (aC (x4 2) aH)) (x4 6)) aH))))))))
  (aN (cH (jP (jP (x4 3) i4) (x4 5)))))))))
def JF(F:Df K mg "going_of" (top 41) ["filling"]){cT pT:ah}(Dj:uu K "going_of"=aa (cT,pT))(aP:mg "len"=ae)(cM:mg "sorted"=ae)(aR:mg "range"=ae)(bE:mg "tuple"=ae):Cl P w K mg ω cC (kk+1) "going_of" ["filling"] (dB K LL.kP):=by show Kr (N:=["filling"]) F Dj (λhr nd=>?_);show(aN (cH (jQ bE (aC (jB.pe (Zb (x:="place") (fs:=["filling"]) (fr:=[0]) (x0:="going_of") rfl hr cM aR (Za (by decide) Dj) rfl (fH aP (aC (x4 0) aH)) (λ_ _ _ _ _ _=>(pW (aC (mF (x4 1) (x4 0)) (aC (x4 0) aH)))))) aH))))
def S4(F:Df K mg "row_of" (top 42) ["filling"])(cM:mg "sorted"=ae)(bE:mg "tuple"=ae):Cl P w K mg ω cC (kk+1) "row_of" ["filling"] (dB K LL.oB):=by show nN (N:=["filling"]) F (λhr nd=>?_);show(aN (cH (jQ bE (aC (jB.pe (AG cM (aC (x4 0) aH))) aH))))
def BG(F:Df K mg "filling_of" (top 43) ["going","row"])(bE:mg "tuple"=ae)(DD:mg "zip"=ae)(aP:mg "len"=ae):Cl P w K mg ω cC (kk+1) "filling_of" ["going","row"] (dB K LL.gJ):=by
 show nN (N:=["going","row","filling","thing","number"]) F (λhr nd=>?_);show(aX (FH (i:=2) nd (YK (jB.pe (qX (aC i4 aH))) (fH aP (aC (x4 0) aH))))
  (aX (nR rfl gw (Ur DD (aC (x4 0) (aC (x4 1) aH))) (CY (i:=3) (j:=4) rfl nd)
   (aN (wy (i:=2) (sW (x4 4)) (x4 3))))
  (aN (cH (jQ bE (aC (x4 2) aH))))))
def pZ(F:Df K mg "rows_by_descents" (top 45) ["n","k"])(iM:Cl P w K mg ω cC kk "chosen" ["x","m"] (dB K LL.eJ))(jV:mg "max"=ae)(aR:mg "range"=ae):Cl P w K mg ω cC (kk+1) "rows_by_descents" ["n","k"] (dB K cQ):=by show nN (N:=["n","k"]) F (λhr nd=>?_);show(aN (cH (jB.pe (gY (ls:=["d"]) (fs:=["n","k"]) (fr:=[0,1]) rfl (eG aR (Ek rfl jV (aC (x4 0) (aC i4 aH)))) (λ_ _ _ _ _ _ nd=>fM (i:=0) nd (by decide)) (λ_ _ _ _ _ _=>jU) (λ_ _ _ _ _ _=>(bC iM hr (aC (jP (jP (fG (x4 2) (x4 1)) i4) (x4 0)) (aC (x4 1) aH))))))))
def BH(F:Df K mg "begun_many" (top 46) ["table","many_rows","begun"])(eV:Cl P w K mg ω cC kk "descents_of" ["going"] (dB K bV.cL))(c7:mg "enumerate"=ae)(DF:mg "sum"=ae)(aP:mg "len"=ae)(cM:mg "sorted"=ae)(bE:mg "tuple"=ae):Cl P w K mg ω cC (kk+1) "begun_many" ["table","many_rows","begun"] (dB K fK):=by
 show nN (N:=["table","many_rows","begun","last","shares","passed"]) F (λhr nd=>?_);show(aX (cU (i:=3) nd (if4 (nF (x4 2)) (mF (x4 2) (By i4)) i4))
  (aX (cU (i:=4) nd (Kw (u2 hr) (x4 0) (pW (aC (jQ bE (aC (jB.pe (AG cM (aC (x4 2) aH))) aH)) (aC (x4 3) aH)))))
  (aX (cU (i:=5) nd (fH aP (aC (bC eV hr (aC (x4 2) aH)) aH)))
  (aN (cH (Bw rfl DF (aC (jB.pe (gY (ls:=["d","share"]) (fs:=["many_rows","passed"]) (fr:=[1,5]) rfl (nG c7 (aC (x4 4) aH)) (λ_ _ _ _ _ _ nd=>z8 (i:=0) (j:=1) rfl nd (by decide) (by decide)) (λ_ _ _ _ _ _=>oM (BC (x4 1) i4)) (λ_ _ _ _ _ _=>(wN (x4 1) (mF (x4 2) (fG (x4 3) (x4 0))))))) aH)))))))
def uZ(F:Df K mg "many_ahead_of" (top 47) ["order","table","many_rows","begun","thing"])(nI:Cl P w K mg ω cC kk "begun_many" ["table","many_rows","begun"] (dB K fK))(dI:Cl P w K mg ω cC kk "ready_things" ["order","ahead"] (dB K LL.cK))(DF:mg "sum"=ae):Cl P w K mg ω cC (kk+1) "many_ahead_of" ["order","table","many_rows","begun","thing"] (dB K bQ):=by
 show nN (N:=["order","table","many_rows","begun","thing","lesser"]) F (λhr nd=>?_);show(aX (CW (i:=5) (ls:=["other"]) (fs:=["thing"]) (fr:=[4]) nd rfl (iS (bC dI hr (aC (x4 0) (aC (x4 3) aH)))) (λ_ _ _ _ _ _ nd=>fM (i:=0) nd (by decide)) (λ_ _ _ _ _ _=>oM (LM (x4 0) (x4 1))) (λ_ _ _ _ _ _=>(x4 0)))
  (aN (cH (Bw rfl DF (aC (jB.pe (gY (ls:=["other"]) (fs:=["table","many_rows","begun"]) (fr:=[1,2,3]) rfl (iS (x4 5)) (λ_ _ _ _ _ _ nd=>fM (i:=0) nd (by decide)) (λ_ _ _ _ _ _=>jU) (λ_ _ _ _ _ _=>(bC nI hr (aC (x4 1) (aC (x4 2) (aC (fG (x4 3) (pW (aC (x4 0) aH))) aH))))))) aH)))))
def JG(F:Df K mg "thing_on" (top 49) ["order","table","many_rows","begun","rest"])(fU:Cl P w K mg ω cC kk "many_ahead_of" ["order","table","many_rows","begun","thing"] (dB K bQ))(dI:Cl P w K mg ω cC kk "ready_things" ["order","ahead"] (dB K LL.cK))(jV:mg "max"=ae):Cl P w K mg ω cC (kk+1) "thing_on" ["order","table","many_rows","begun","rest"] (dB K i6):=by
 show nN (N:=["order","table","many_rows","begun","rest","ready"]) F (λhr nd=>?_);show(aX (cU (i:=5) nd (bC dI hr (aC (x4 0) (aC (x4 3) aH))))
  (aN (cH (Dm rfl jV (aC (jB.pe (gY (ls:=["thing"]) (fs:=["rest","order","table","many_rows","begun"]) (fr:=[4,0,1,2,3]) rfl (iS (x4 5)) (λ_ _ _ _ _ _ nd=>fM (i:=0) nd (by decide)) (λ_ _ _ _ _ _=>oM (B_ (bC fU hr (aC (x4 2) (aC (x4 3) (aC (x4 4) (aC (x4 5) (aC (x4 0) aH)))))) (x4 1))) (λ_ _ _ _ _ _=>(x4 0)))) aH)))))
def BI(F:Df K mg "filling_at" (top 48) ["order","k","number"])(tN:Cl P w K mg ω cC kk "filling_of" ["going","row"] (dB K LL.gJ))(JH:Cl P w K mg ω (xO P w) kk "row_at" ["going","k","number"] (LX K mg bV.jG))(fU:Cl P w K mg ω cC kk "many_ahead_of" ["order","table","many_rows","begun","thing"] (dB K bQ))(MP:Cl P w K mg ω cC kk "thing_on" ["order","table","many_rows","begun","rest"] (dB K i6))(nI:Cl P w K mg ω cC kk "begun_many" ["table","many_rows","begun"] (dB K fK))(g8:Cl P w K mg ω cC kk "rows_by_descents" ["n","k"] (dB K cQ))(oS:Cl P w K mg ω cC kk "shares_on" ["order"] (dB K LL.gE))(d6:Cl P w K mg ω (xO P w) kk "refuse_below_0" ["k"] (LX K mg bV.bW)){aK:ah}(dD:mg "NoNumber"=aa (.ref aK))(fP:RZ K aK)(aP:mg "len"=ae)(aR:mg "range"=ae):Cl P w K mg ω (xO P w) (kk+1) "filling_at" ["order","k","number"] (LX K mg c6):=by
 show fd5 (N:=["order","k","number","table","many_rows","going","rest","step","thing"]) F (λhr nd=>?_);show(aX (aEh (C5 d6 hr (aC (x4 1) aH)) (LY rfl d6 hr (aC (x4 1) aH)))
  (aX (cU (i:=3) nd (bC oS hr (aC (x4 0) aH)))
  (aX (cU (i:=4) nd (bC g8 hr (aC (fH aP (aC (x4 0) aH)) (aC (x4 1) aH))))
  (aX (gI (nM (O0 vM OH CU Es i4 (x4 2) (bC nI hr (aC (x4 3) (aC (x4 4) (aC (pW aH) aH))))))
   (aN (FP rfl rfl dD fP (aC s4 aH)))
   gR)
  (aX (cU (i:=5) nd (pW aH))
  (aX (cU (i:=6) nd (x4 2))
  (aX (YL (nR rfl gw (eG aR (fH aP (aC (x4 0) aH))) (lD (i:=7) nd)
   (aX (cU (i:=8) nd (bC MP hr (aC (x4 0) (aC (x4 3) (aC (x4 4) (aC (x4 5) (aC (x4 6) aH)))))))
   (aX (cU (i:=6) nd (jP (x4 6) (bC fU hr (aC (x4 0) (aC (x4 3) (aC (x4 4) (aC (x4 5) (aC (x4 8) aH))))))))
   (aN (cU (i:=5) nd (fG (x4 5) (pW (aC (x4 8) aH)))))))))
  (aN (Vi (bC tN hr (aC (x4 5) (aC (C5 JH hr (aC (x4 5) (aC (x4 1) (aC (x4 6) aH)))) aH))) (Ut tN hr (aEk (x4 5) (aEm (LY rfl JH hr (aC (x4 5) (aC (x4 1) (aC (x4 6) aH)))) aH))))))))))))
def tO(F:Df K mg "filling_number" (top 50) ["order","k","filling"])(fU:Cl P w K mg ω cC kk "many_ahead_of" ["order","table","many_rows","begun","thing"] (dB K bQ))(F3:Cl P w K mg ω (xO P w) kk "row_number" ["going","k","row"] (LX K mg bV.gM))(Y4:Cl P w K mg ω cC kk "row_of" ["filling"] (dB K LL.oB))(MQ:Cl P w K mg ω cC kk "going_of" ["filling"] (dB K LL.kP))(g8:Cl P w K mg ω cC kk "rows_by_descents" ["n","k"] (dB K cQ))(oS:Cl P w K mg ω cC kk "shares_on" ["order"] (dB K LL.gE))(aBk:Cl P w K mg ω cC kk "rises" ["order","filling","k"] (dB K LL.rX))(d6:Cl P w K mg ω (xO P w) kk "refuse_below_0" ["k"] (LX K mg bV.bW))(c7:mg "enumerate"=ae)(aP:mg "len"=ae):Cl P w K mg ω cC (kk+1) "filling_number" ["order","k","filling"] (dB K fB):=by
 show nN (N:=["order","k","filling","table","many_rows","going","number","place","thing"]) F (λhr nd=>?_);show(aX (vW (sW (C5 d6 hr (aC (x4 1) aH))))
  (aX (gI (nM (nF (bC aBk hr (aC (x4 0) (aC (x4 2) (aC (x4 1) aH))))))
   (aN aEa)
   gR)
  (aX (cU (i:=3) nd (bC oS hr (aC (x4 0) aH)))
  (aX (cU (i:=4) nd (bC g8 hr (aC (fH aP (aC (x4 0) aH)) (aC (x4 1) aH))))
  (aX (cU (i:=5) nd (bC MQ hr (aC (x4 2) aH)))
  (aX (cU (i:=6) nd (C5 F3 hr (aC (x4 5) (aC (x4 1) (aC (bC Y4 hr (aC (x4 2) aH)) aH)))))
  (aX (nR rfl gw (nG c7 (aC (x4 5) aH)) (CY (i:=7) (j:=8) rfl nd)
   (aN (cU (i:=6) nd (fG (x4 6) (bC fU hr (aC (x4 0) (aC (x4 3) (aC (x4 4) (aC (sl4 (x4 5) no4 (po4 (x4 7))) (aC (x4 8) aH))))))))))
  (aN (cH (x4 6))))))))))
def S5(F:Df K mg "_law_cell" (top 52) ["_law_script","_law_k"])(aP:mg "len"=ae):Cl P w K mg ω cC (kk+1) "_law_cell" ["_law_script","_law_k"] (dB K LL.gC):=by
 show nN (N:=["_law_script","_law_k"]) F (λhr nd=>?_);show(aX (gI (LN (fH aP (aC (x4 0) aH)) i4)
   (aN (cH i4))
   gR)
  (aN (cH (mF (x4 0) (pV (x4 1) (fH aP (aC (x4 0) aH)))))))
def MR(F:Df K mg "_law_mixed" (top 53) ["_law_cell_here","_law_k","_law_salt"]):Cl P w K mg ω cC (kk+1) "_law_mixed" ["_law_cell_here","_law_k","_law_salt"] (dB K LL.fV):=by
 show nN (N:=["_law_cell_here","_law_k","_law_salt","_law_one","_law_two"]) F (λhr nd=>?_);show(aX (cU (i:=3) nd (pV (wN (fG (fG (fG (x4 0) (wN (wN i4 (x4 1)) (x4 1))) (wN i4 (x4 1))) (x4 2)) i4) i4))
  (aX (cU (i:=4) nd (pV (fG (fG (wN (x4 3) (fG (LK (x4 3) i4) i4)) (wN i4 (x4 1))) (x4 2)) i4))
  (aN (cH (pV (wN (x4 4) i4) i4)))))
def MS(F:Df K mg "_law_draws" (top 54) ["_law_cell_here","_law_many","_law_salt"])(u3:Cl P w K mg ω cC kk "_law_mixed" ["_law_cell_here","_law_k","_law_salt"] (dB K LL.fV))(aR:mg "range"=ae):Cl P w K mg ω cC (kk+1) "_law_draws" ["_law_cell_here","_law_many","_law_salt"] (dB K LL.eZ):=by
 show nN (N:=["_law_cell_here","_law_many","_law_salt","_law_found","_law_left","_law_k"]) F (λhr nd=>?_);show(aX (FH (i:=3) nd (qX aH))
  (aX (cU (i:=4) nd i4)
  (aX (gI (Bz (x4 0) (xk i4 i4))
   (aN (cU (i:=4) nd (x4 0)))
   gR)
  (aX (nR rfl gw (eG aR (x4 1)) (lD (i:=5) nd)
   (aN (gI (BC (x4 4) i4)
    (aX (vW (X4 (i:=3) (sW (pV (x4 4) i4))))
    (aN (cU (i:=4) nd (LK (x4 4) i4))))
    (aN (vW (X4 (i:=3) (sW (bC u3 hr (aC (x4 0) (aC (x4 5) (aC (x4 2) aH)))))))))))
  (aN (cH (x4 3)))))))
def MT(F:Df K mg "_law_great" (top 55) ["_law_cell_here","_law_most","_law_salt"])(u3:Cl P w K mg ω cC kk "_law_mixed" ["_law_cell_here","_law_k","_law_salt"] (dB K LL.fV))(aR:mg "range"=ae):Cl P w K mg ω cC (kk+1) "_law_great" ["_law_cell_here","_law_most","_law_salt"] (dB K LL.lV):=by
 show nN (N:=["_law_cell_here","_law_most","_law_salt","_law_found","_law_k"]) F (λhr nd=>?_);show(aX (gI (Bz (x4 0) (xk i4 i4))
   (aN (cH (pV (LK (x4 0) i4) (x4 1))))
   gR)
  (aX (cU (i:=3) nd i4)
  (aX (nR rfl gw (eG aR i4) (lD (i:=4) nd)
   (aN (cU (i:=3) nd (fG (wN (x4 3) i4) (bC u3 hr (aC (x4 0) (aC (x4 4) (aC (x4 2) aH))))))))
  (aN (cH (pV (x4 3) (x4 1)))))))
theorem DG(F:Df K mg "_law_same" (top 56) ["_law_found","_law_due"])(aJ:mg "isinstance"=ae)(PK:mg "str"=ae)(lE:mg "int"=ae)(jR:mg "bool"=ae)(bE:mg "tuple"=ae)(aP:mg "len"=ae)(aR:mg "range"=ae)(iT:mg "all"=ae):∀n:Nat,Cl P w K mg ω cC (kk+n) "_law_same" ["_law_found","_law_due"] (dB K (LL.e8 n))
 |0=>nn4 F
 |n+1=>by
  have AO:=DG F aJ PK lE jR bE aP aR iT n;show nN (N:=["_law_found","_law_due"]) F (λhr nd=>?_);show(aX (gI (nF (uQ CQ.t aJ bE zv (x4 1)))
   (aX (gI (F8.pt (z6 (nM (nF (uQ CQ.t aJ bE zv (x4 0)))) (IF (XY (fH aP (aC (x4 0) aH)) (fH aP (aC (x4 1) aH))))))
    (aN (cH b4))
    gR)
   (aN (cH (LS rfl iT (aC (jB.pe (gY (ls:=["_law_k"]) (fs:=["_law_found","_law_due"]) (fr:=[0,1]) rfl (eG aR (fH aP (aC (x4 1) aH))) (λ_ _ _ _ _ _ nd=>fM (i:=0) nd (by decide)) (λ_ _ _ _ _ _=>jU) (λ_ _ _ _ _ _=>(bC AO hr (aC (mF (x4 1) (x4 0)) (aC (mF (x4 2) (x4 0)) aH)))))) aH)))))
   gR)
  (aX (gI (Ly (x4 1) n4)
   (aN (cH (is4 (x4 0) n4)))
   gR)
  (aX (gI (nF (uQ CQ.b aJ jR vf (x4 1)))
   (aN (cH (FE (uQ CQ.b aJ jR vf (x4 0)) (LO (eq4 (x4 0) (x4 1))))))
   gR)
  (aX (gI (nF (uQ CQ.i aJ lE ve (x4 1)))
   (aN (cH (FE (uQ CQ.i aJ lE ve (x4 0)) (FE (Lp (uQ CQ.b aJ jR vf (x4 0))) (LO (eq4 (x4 0) (x4 1)))))))
   gR)
  (aN (cH (FE (uQ CQ.s aJ PK a3A (x4 0)) (LO (eq4 (x4 0) (x4 1))))))))))
def MU(F:Df K mg "_law_order" (top 57) ["_law_draws_here","_law_n","_law_thick"])(aR:mg "range"=ae)(cM:mg "sorted"=ae)(bE:mg "tuple"=ae)(aP:mg "len"=ae)(MV:mg "list"=ae):Cl P w K mg ω cC (kk+1) "_law_order" ["_law_draws_here","_law_n","_law_thick"] (dB K LL.lT):=by
 show nN (N:=["_law_draws_here","_law_n","_law_thick","_law_rest","_law_word_here","_law_k","_law_low","_law_at_here","_law_j","_law_under","_law_i"]) F (λhr nd=>?_);show(aX (FH (i:=3) nd (LP rfl MV aR (aC (x4 1) aH)))
  (aX (FH (i:=4) nd (qX aH))
  (aX (nR rfl gw (eG aR (x4 1)) (lD (i:=5) nd)
   (aN (vW (X4 (i:=4) (La (i:=3) (px4 (pV (mF (x4 0) (x4 5)) (fH aP (aC (x4 3) aH)))))))))
  (aX (X5 (i:=6) nd)
  (aX (cU (i:=7) nd (x4 1))
  (aX (nR rfl gw (eG aR (x4 1)) (lD (i:=8) nd)
   (aX (cU (i:=9) nd (jB.pe (qX aH)))
   (aX (nR rfl gw (eG aR (x4 8)) (lD (i:=10) nd)
    (aX (gI (LM (pV (mF (x4 0) (x4 7)) i4) (x4 2))
     (aN (Wk (i:=9) nd (Vu (x4 9) (jB.pe (gY (ls:=["_law_a"]) (fs:=["_law_under"]) (fr:=[9]) rfl (iS (fG (Bx (u1 hr) (x4 6) (mF (x4 4) (x4 10))) (jB.pe (qX (aC (mF (x4 4) (x4 10)) aH))))) (λ_ _ _ _ _ _ nd=>fM (i:=0) nd (by decide)) (λ_ _ _ _ _ _=>oM (XZ (x4 0) (x4 1))) (λ_ _ _ _ _ _=>(x4 0)))))))
     gR)
    (aN (cU (i:=7) nd (fG (x4 7) i4)))))
   (aN (Wi (i:=6) (u1 hr) (sW (x4 9)) (mF (x4 4) (x4 8)))))))
  (aN (cH (jQ bE (aC (jB.pe (gY (ls:=["_law_b"]) (fs:=["_law_low"]) (fr:=[6]) rfl (eG aR (x4 1)) (λ_ _ _ _ _ _ nd=>fM (i:=0) nd (by decide)) (λ_ _ _ _ _ _=>jU) (λ_ _ _ _ _ _=>(jQ bE (aC (jB.pe (aBL cM (aC (Bx (u1 hr) (x4 1) (x4 0)) aH))) aH))))) aH))))))))))
def MW(F:Df K mg "_law_drawn" (top 58) ["_law_script","_law_k","_law_most","_law_salt"])(S6:Cl P w K mg ω cC kk "_law_order" ["_law_draws_here","_law_n","_law_thick"] (dB K LL.lT))(kD:Cl P w K mg ω cC kk "_law_draws" ["_law_cell_here","_law_many","_law_salt"] (dB K LL.eZ))(l9:Cl P w K mg ω cC kk "_law_cell" ["_law_script","_law_k"] (dB K LL.gC)):Cl P w K mg ω cC (kk+1) "_law_drawn" ["_law_script","_law_k","_law_most","_law_salt"] (dB K LL.lU):=by
 show nN (N:=["_law_script","_law_k","_law_most","_law_salt","_law_head","_law_n","_law_draws_here"]) F (λhr nd=>?_);show(aX (cU (i:=4) nd (bC kD hr (aC (bC l9 hr (aC (x4 0) (aC (x4 1) aH))) (aC i4 (aC (x4 3) aH)))))
  (aX (cU (i:=5) nd (pV (mF (x4 4) i4) (fG (x4 2) i4)))
  (aX (cU (i:=6) nd (bC kD hr (aC (bC l9 hr (aC (x4 0) (aC (fG (x4 1) i4) aH))) (aC (fG (x4 5) (LK (wN (x4 5) (jP (x4 5) i4)) i4)) (aC (fG (x4 3) i4) aH)))))
  (aN (cH (bC S6 hr (aC (x4 6) (aC (x4 5) (aC (mF (jB.pe (qX (aC i4 (aC i4 (aC i4 (aC i4 (aC i4 (aC i4 (aC i4 (aC i4 aH)))))))))) (pV (mF (x4 4) i4) i4)) aH)))))))))
def MX(F:Df K mg "_law_rises" (top 59) ["_law_order_here","_law_filling"])(aP:mg "len"=ae)(aR:mg "range"=ae):Cl P w K mg ω cC (kk+1) "_law_rises" ["_law_order_here","_law_filling"] (dB K LL.j9):=by
 show nN (N:=["_law_order_here","_law_filling","_law_b","_law_a"]) F (λhr nd=>?_);show(aX (nR rfl gw (eG aR (fH aP (aC (x4 0) aH))) (lD (i:=2) nd)
   (aN (nR rfl gw (iS (mF (x4 0) (x4 2))) (lD (i:=3) nd)
    (aN (gI (F8.pt (z6 (BC (mF (x4 1) (x4 3)) (mF (x4 1) (x4 2))) (IF (F8.pt (Ep (BC (x4 3) (x4 2)) (Er (LN (mF (x4 1) (x4 3)) (mF (x4 1) (x4 2)))))))))
     (aN (cH b4))
     gR)))))
  (aN (cH b4)))
def S7(F:Df K mg "_law_word" (top 60) ["_law_order_here","_law_draws_here"])(bE:mg "tuple"=ae)(aP:mg "len"=ae)(aR:mg "range"=ae)(iT:mg "all"=ae):Cl P w K mg ω cC (kk+1) "_law_word" ["_law_order_here","_law_draws_here"] (dB K LL.jF):=by
 show nN (N:=["_law_order_here","_law_draws_here","_law_found","_law_k","_law_nexts"]) F (λhr nd=>?_);show(aX (FH (i:=2) nd (qX aH))
  (aX (nR rfl gw (eG aR (fH aP (aC (x4 0) aH))) (lD (i:=3) nd)
   (aX (MC (i:=4) (ls:=["_law_b"]) (fs:=["_law_found","_law_order_here"]) (fr:=[2,0]) nd rfl (eG aR (fH aP (aC (x4 0) aH))) (λ_ _ _ _ _ _ nd=>fM (i:=0) nd (by decide)) (λ_ _ _ _ _ _=>oM (F8.pt (Ep (XZ (x4 0) (x4 1)) (Er (nF (LS rfl iT (aC (jB.pe (gY (ls:=["_law_a"]) (fs:=["_law_found"]) (fr:=[1]) rfl (iS (mF (x4 2) (x4 0))) (λ_ _ _ _ _ _ nd=>fM (i:=0) nd (by decide)) (λ_ _ _ _ _ _=>jU) (λ_ _ _ _ _ _=>(in4 (x4 0) (x4 1))))) aH))))))) (λ_ _ _ _ _ _=>(x4 0)))
   (aN (vW (X4 (i:=2) (sW (mF (x4 4) (pV (mF (x4 1) (x4 3)) (fH aP (aC (x4 4) aH))))))))))
  (aN (cH (jQ bE (aC (x4 2) aH))))))
def MY(F:Df K mg "_law_extra" (top 61) ["_law_script","_law_k","_law_salt"])(S8:Cl P w K mg ω cC kk "_law_great" ["_law_cell_here","_law_most","_law_salt"] (dB K LL.lV))(kD:Cl P w K mg ω cC kk "_law_draws" ["_law_cell_here","_law_many","_law_salt"] (dB K LL.eZ))(l9:Cl P w K mg ω cC kk "_law_cell" ["_law_script","_law_k"] (dB K LL.gC)):Cl P w K mg ω cC (kk+1) "_law_extra" ["_law_script","_law_k","_law_salt"] (dB K LL.gK):=by
 show nN (N:=["_law_script","_law_k","_law_salt","_law_cell_here","_law_d"]) F (λhr nd=>?_);show(aX (cU (i:=3) nd (bC l9 hr (aC (x4 0) (aC (x4 1) aH))))
  (aX (cU (i:=4) nd (mF (bC kD hr (aC (x4 3) (aC i4 (aC (x4 2) aH)))) i4))
  (aX (gI (LM (pV (x4 4) i4) i4)
   (aN (cH i4))
   gR)
  (aX (gI (LN (pV (x4 4) i4) i4)
   (aN (cH (fG i4 (pV (LK (x4 4) i4) i4))))
   gR)
  (aN (cH (bC S8 hr (aC (x4 3) (aC (xk i4 i4) (aC (x4 2) aH))))))))))
def JI(F:Df K mg "_law_filled" (top 62) ["_law_script","_law_k","_law_order_here","_law_word_here","_law_salt"])(u4:Cl P w K mg ω cC kk "_law_extra" ["_law_script","_law_k","_law_salt"] (dB K LL.gK))(bE:mg "tuple"=ae)(lE:mg "int"=ae)(jV:mg "max"=ae)(aP:mg "len"=ae):Cl P w K mg ω cC (kk+1) "_law_filled" ["_law_script","_law_k","_law_order_here","_law_word_here","_law_salt"] (dB K LL.gZ):=by
 show nN (N:=["_law_script","_law_k","_law_order_here","_law_word_here","_law_salt","_law_found","_law_b","_law_low"]) F (λhr nd=>?_);show(aX (FH (i:=5) nd (YK (jB.pe (qX (aC i4 aH))) (fH aP (aC (x4 2) aH))))
  (aX (nR rfl gw (iS (x4 3)) (lD (i:=6) nd)
   (aX (Wj (i:=7) nd (px4 (Dm rfl jV (aC (fG (jB.pe (qX (aC i4 aH))) (jB.pe (gY (ls:=["_law_a"]) (fs:=["_law_found","_law_b"]) (fr:=[5,6]) rfl (iS (mF (x4 2) (x4 6))) (λ_ _ _ _ _ _ nd=>fM (i:=0) nd (by decide)) (λ_ _ _ _ _ _=>jU) (λ_ _ _ _ _ _=>(fG (mF (x4 1) (x4 0)) (K_ rfl lE (aC (gt4 (x4 0) (x4 2)) aH))))))) aH))))
   (aN (wy (i:=5) (sW (fG (x4 7) (bC u4 hr (aC (x4 0) (aC (fG (x4 1) (x4 6)) (aC (fG (x4 4) (wN i4 (x4 6))) aH)))))) (x4 6)))))
  (aN (cH (jQ bE (aC (x4 5) aH))))))
def Y5(F:Df K mg "_law_key" (top 63) ["_law_filling"])(aP:mg "len"=ae)(aR:mg "range"=ae)(cM:mg "sorted"=ae):Cl P w K mg ω cC (kk+1) "_law_key" ["_law_filling"] (dB K jZ):=by
 show nN (N:=["_law_filling","_law_pairs"]) F (λhr nd=>?_);show(aX (cU (i:=1) nd (jB.pe (IQ cM (aC (jB.pe (gY (ls:=["_law_a"]) (fs:=["_law_filling"]) (fr:=[0]) rfl (eG aR (fH aP (aC (x4 0) aH))) (λ_ _ _ _ _ _ nd=>fM (i:=0) nd (by decide)) (λ_ _ _ _ _ _=>jU) (λ_ _ _ _ _ _=>(pW (aC (mF (x4 1) (x4 0)) (aC (x4 0) aH)))))) aH))))
  (aN (cH (pW (aC (jB.pe (gY (ls:=["_law_number","_law_a"]) (fs:=[]) (fr:=[]) rfl (iS (x4 1)) (λ_ _ _ _ _ _ nd=>z8 (i:=0) (j:=1) rfl nd (by decide) (by decide)) (λ_ _ _ _ _ _=>jU) (λ_ _ _ _ _ _=>(x4 1)))) (aC (jB.pe (gY (ls:=["_law_number","_law_a"]) (fs:=[]) (fr:=[]) rfl (iS (x4 1)) (λ_ _ _ _ _ _ nd=>z8 (i:=0) (j:=1) rfl nd (by decide) (by decide)) (λ_ _ _ _ _ _=>jU) (λ_ _ _ _ _ _=>(x4 0)))) aH))))))
def wR(F:Df K mg "_law_is_filling" (top 64) ["_law_order_here","_law_k","_law_found"])(TB:Cl P w K mg ω cC kk "_law_rises" ["_law_order_here","_law_filling"] (dB K LL.j9))(aJ:mg "isinstance"=ae)(jR:mg "bool"=ae)(lE:mg "int"=ae)(aP:mg "len"=ae)(bE:mg "tuple"=ae):Cl P w K mg ω cC (kk+1) "_law_is_filling" ["_law_order_here","_law_k","_law_found"] (dB K d9):=by
 show nN (N:=["_law_order_here","_law_k","_law_found","_law_number"]) F (λhr nd=>?_);show(aX (gI (F8.pt (z6 (nM (nF (uQ CQ.t aJ bE zv (x4 2)))) (IF (XY (fH aP (aC (x4 2) aH)) (fH aP (aC (x4 0) aH))))))
   (aN (cH b4))
   gR)
  (aX (nR rfl gw (iS (x4 2)) (lD (i:=3) nd)
   (aN (gI (F8.pt (z6 (nM (nF (uQ CQ.i aJ lE ve (x4 3)))) (z6 (nF (uQ CQ.b aJ jR vf (x4 3))) (z6 (LM (x4 3) i4) (IF (BC (x4 3) (x4 1)))))))
    (aN (cH b4))
    gR)))
  (aN (cH (FE (ge4 (x4 1) i4) (LO (bC TB hr (aC (x4 0) (aC (x4 2) aH)))))))))
def F4(F:Df K mg "_law_refusal" (top 65) ["_law_kinds"]):Cl P w K mg ω cC (kk+1) "_law_refusal" ["_law_kinds"] (dB K bV.hJ):=by
 show nN (N:=["_law_kinds","_law_names"]) F (λhr nd=>?_);show(aX (cU (i:=1) nd s4)
  (aX (cU (i:=1) nd (fG (x4 1) s4))
  (aX (gI (F8.pt (z6 (XY (aB2 (x4 0) b4) i4) (IF (nM (nF (mF (x4 0) i4))))))
   (aN (cH s4))
   gR)
  (aN (cH (mF (jB.pe (Zo (x4 1) s4)) (aB3 (x4 0) b4)))))))
def aBl(F:Df K mg "_law_at" (top 66) ["_law_order_here","_law_k","_law_number"])(JJ:Cl P w K mg ω cC kk "_law_refusal" ["_law_kinds"] (dB K bV.hJ))(tP:Cl P w K mg ω (xO P w) kk "filling_at" ["order","k","number"] (LX K mg c6)){oU jI mB oV oW aK mC j5 mD mE jJ kW dJ kX:ah}(AQ:mg "Looped"=aa (.ref oU))(oX:mg "NoFilling"=aa (.ref jI))(u5:mg "NoGoing"=aa (.ref mB))(AR:mg "NoLine"=aa (.ref oV))(AS:mg "NoName"=aa (.ref oW))(dD:mg "NoNumber"=aa (.ref aK))(u6:mg "NoOrder"=aa (.ref mC))(pP:mg "NoRow"=aa (.ref j5))(u7:mg "NoShape"=aa (.ref mD))(vA:mg "NoThing"=aa (.ref mE))(oY:mg "NotForest"=aa (.ref jJ))(rA:mg "NotLoose"=aa (.ref kW))(oZ:mg "RiseError"=aa (.ref dJ))(rB:mg "TooGreat"=aa (.ref kX))(e1:qm K (.ref dJ) (.type "BaseException")=aa af)(e2:a0M K dJ=af)(e3:a0H K (.ref dJ)=aa (.type "type"))(bP:AD K aK)(iN:qm K (.ref aK) (.type "ValueError")=aa af)(eL:dH K aK oV)(eM:dH K aK oW)(eA:dH K aK mD)(dM:dH K aK jJ)(dS:dH K aK kW)(dN:dH K aK jI)(fE:dH K aK j5)(eB:dH K aK mB)(dU:dH K aK kX)(eD:dH K aK mC)(eO:dH K aK oU)(eE:dH K aK mE)(jK:qm K (.ref aK) (.ref dJ)=aa af)(aP:mg "len"=ae)(aJ:mg "isinstance"=ae)(nJ:mg "ValueError"=ae):Cl P w K mg ω cC (kk+1) "_law_at" ["_law_order_here","_law_k","_law_number"] (dB K kQ):=by
 show nN (N:=["_law_order_here","_law_k","_law_number","_law_found","_law_kinds","e"]) F (λhr nd=>?_);show(aX (cU (i:=3) nd n4)
  (aX (cU (i:=4) nd (jB.pe (qX aH)))
  (Tr (i:=5) rfl rfl oZ nd (λpn xe=>(aN (Vg (i:=3) nd (C5 tP hr (aC (x4 0) (aC (x4 1) (aC (x4 2) aH)))) (LY rfl tP hr (aC (x4 0) (aC (x4 1) (aC (x4 2) aH)))))))
  (aX (gI (BC (fH aP (aC (x4 4) aH)) i4)
   (aN (cH (pW (aC s4 (aC (bC JJ hr (aC (x4 4) aH)) aH)))))
   gR)
  (aN (cH (pW (aC s4 (aC (x4 3) aH)))))) (λc ρ1 h=>by
   by_cases hc0:c="NoNumber"
   .subst hc0;rw[Z_ rfl] at h;cases h;show⟨aK,λe=>(bG 4 (iV (aA (gQ "NoNumber" e ag 5) (aA (gQ "NoNumber" e ag 5) (aA (gQ "NoNumber" e ag 5) (aA (gQ "NoNumber" e af 5) (aA (gQ "NoNumber" e ag 5) (aA (gQ "NoNumber" e ag 5) (aA (gQ "NoNumber" e ag 5) (aA (gQ "NoNumber" e ag 5) (aA (gQ "NoNumber" e ag 5) (aA (gQ "NoNumber" e ag 5) (aA (gQ "NoNumber" e ag 5) (aA (gQ "NoNumber" e ag 5) (aA (gQ "NoNumber" e ag 5) (aA (gQ "NoNumber" e af 5) aF)))))))))))))))),λe=>[.no,.no,.no,.no,.ro (.lst [.bl ag,.bl ag,.bl ag,.bl af,.bl ag,.bl ag,.bl ag,.bl ag,.bl ag,.bl ag,.bl ag,.bl ag,.bl ag,.bl af]),.ro (.exc "NoNumber" e)],dD,aEj e1 e2 e3 jK,λe=>⟨by
     show(bG 4 (iV (aA (gQ "NoNumber" e ag 5) (aA (gQ "NoNumber" e ag 5) (aA (gQ "NoNumber" e ag 5) (aA (gQ "NoNumber" e af 5) (aA (gQ "NoNumber" e ag 5) (aA (gQ "NoNumber" e ag 5) (aA (gQ "NoNumber" e ag 5) (aA (gQ "NoNumber" e ag 5) (aA (gQ "NoNumber" e ag 5) (aA (gQ "NoNumber" e ag 5) (aA (gQ "NoNumber" e ag 5) (aA (gQ "NoNumber" e ag 5) (aA (gQ "NoNumber" e ag 5) (aA (gQ "NoNumber" e af 5) aF)))))))))))))))) ((bu 6 Sv.no).set 5 (.ro (.exc "NoNumber" e)))=.nx _;simp only[aM,bL,bG,aB,eC,lP,tw,DH,iP,aF,aA,gQ,nV,nU,bR,jL,Sv.all,Sv.rd,bj,ma,r9,la,zx,zy,c_,ng,Ab,Ac,jh,Ad,and_self,if_true,reduceIte,oo,Aq,Ar,cx,iq,Nat.reduceAdd,Nat.reduceLeDiff,aL,rJ,bZ,c9,iV,aE,cD,cZ,eX,ku,vt,ij,di,Nat.reduceSub],rfl,λd z=>by cases z⟩,λe oe pn hoe=>?_⟩
    have cg:∀{Y:Cx},uV (hcx Y (aa (.ref e)) (pn++[(e,oe)])) e aK:=λ{Y}=>⟨oe,gq _ b_,hoe⟩;show(aN (cU (i:=4) nd (jB.pe (qX (aC (uW cg bP aJ vA eE.one) (aC (uW cg bP aJ AQ eO.one) (aC (uW cg bP aJ u6 eD.one) (aC (uW cg bP aJ dD YI) (aC (uW cg bP aJ rB dU.one) (aC (uW cg bP aJ u5 eB.one) (aC (uW cg bP aJ pP fE.one) (aC (uW cg bP aJ oX dN.one) (aC (uW cg bP aJ rA dS.one) (aC (uW cg bP aJ oY dM.one) (aC (uW cg bP aJ u7 eA.one) (aC (uW cg bP aJ AS eM.one) (aC (uW cg bP aJ AR eL.one) (aC (Vc cg bP aJ nJ PyProof.Rows.Boot.«ValueError» (aBQ (by decide+kernel) iN)) aH))))))))))))))))))
   rw[Zz hc0] at h;cases h))))
def Yy{f:ah}{fd:fv}(F:Y9 K "law" "law" (top 67) f fd)(xU:Cl P w K mg ω cC kk "_law_key" ["_law_filling"] (dB K jZ))(pA:Cl P w K mg ω cC kk "_law_is_filling" ["_law_order_here","_law_k","_law_found"] (dB K d9))(MZ:Cl P w K mg ω cC kk "_law_at" ["_law_order_here","_law_k","_law_number"] (dB K kQ))(AO:Cl P w K mg ω cC kk "_law_same" ["_law_found","_law_due"] (dB K (LL.e8 6)))(vB:Cl P w K mg ω cC kk "filling_number" ["order","k","filling"] (dB K fB))(u4:Cl P w K mg ω cC kk "_law_extra" ["_law_script","_law_k","_law_salt"] (dB K LL.gK))(M0:Cl P w K mg ω cC kk "_law_filled" ["_law_script","_law_k","_law_order_here","_law_word_here","_law_salt"] (dB K LL.gZ))(Y6:Cl P w K mg ω cC kk "_law_word" ["_law_order_here","_law_draws_here"] (dB K LL.jF))(kD:Cl P w K mg ω cC kk "_law_draws" ["_law_cell_here","_law_many","_law_salt"] (dB K LL.eZ))(l9:Cl P w K mg ω cC kk "_law_cell" ["_law_script","_law_k"] (dB K LL.gC))(TC:Cl P w K mg ω cC kk "_law_drawn" ["_law_script","_law_k","_law_most","_law_salt"] (dB K LL.lU))(aJ:mg "isinstance"=ae)(jR:mg "bool"=ae)(lE:mg "int"=ae)(jV:mg "max"=ae)(aP:mg "len"=ae):lG P w K mg ω cC (kk+1) f fd ["_law_script"] (dB K B7):=by
 have S:gO ["_law_script","_law_order_here","_law_n","_law_head","_law_filling","_law_k","_law_number","_law_told","_law_other"] ["_law_script"] (bB (top 67)):=⟨rfl,rfl,rfl,by decide+kernel,rfl,by decide+kernel,by decide+kernel⟩;have nd:=S.nd;show Cc F S rfl rfl (λ_ _ _ _ _ _ hr=>?_);show(aX (cU (i:=1) nd (bC TC hr (aC (x4 0) (aC i4 (aC i4 (aC i4 aH))))))
  (aX (cU (i:=2) nd (fH aP (aC (x4 1) aH)))
  (aX (cU (i:=3) nd (bC kD hr (aC (bC l9 hr (aC (x4 0) (aC i4 aH))) (aC (fG (x4 2) i4) (aC i4 aH)))))
  (aX (cU (i:=4) nd (bC M0 hr (aC (x4 0) (aC i4 (aC (x4 1) (aC (bC Y6 hr (aC (x4 1) (aC (x4 3) aH))) (aC i4 aH)))))))
  (aX (cU (i:=5) nd (fG (Uu rfl jV (aC (fG (pW (aC i4 aH)) (x4 4)) aH)) (bC u4 hr (aC (x4 0) (aC i4 (aC i4 aH))))))
  (aX (cU (i:=6) nd (bC vB hr (aC (x4 1) (aC (x4 5) (aC (x4 4) aH)))))
  (aX (gI (F8.pt (z6 (nM (nF (uQ CQ.i aJ lE ve (x4 6)))) (z6 (nF (uQ CQ.b aJ jR vf (x4 6))) (IF (LM (x4 6) i4)))))
   (aN (cH b4))
   gR)
  (aX (gI (nM (nF (bC AO hr (aC (bC MZ hr (aC (x4 1) (aC (x4 5) (aC (x4 6) aH)))) (aC (pW (aC s4 (aC (x4 4) aH))) aH)))))
   (aN (cH b4))
   gR)
  (aX (gI (LN (pV (mF (x4 3) (x4 2)) i4) i4)
   (aX (Dv (sW (bC MZ hr (aC (x4 1) (aC (x4 5) (aC (fG (x4 6) i4) aH))))) (CY (i:=7) (j:=8) rfl nd))
   (aX (gI (LN (x4 7) s4)
    (aN (cH (eq4 (x4 8) s4)))
    gR)
   (aN (cH (FE (bC pA hr (aC (x4 1) (aC (x4 5) (aC (x4 8) aH)))) (LO (Bp (u9 hr) (bC xU hr (aC (x4 4) aH)) (bC xU hr (aC (x4 8) aH)))))))))
   gR)
  (aX (Dv (sW (bC MZ hr (aC (x4 1) (aC (x4 5) (aC (jP (x4 6) i4) aH))))) (CY (i:=7) (j:=8) rfl nd))
  (aX (gI (LN (x4 6) i4)
   (aN (cH (FE (eq4 (x4 7) s4) (LO (eq4 (x4 8) s4)))))
   gR)
  (aN (cH (FE (eq4 (x4 7) s4) (FE (bC pA hr (aC (x4 1) (aC (x4 5) (aC (x4 8) aH)))) (LO (Bp (u9 hr) (bC xU hr (aC (x4 8) aH)) (bC xU hr (aC (x4 4) aH)))))))))))))))))))
end
theorem all_mk{l:qp}{w:ba}{K:ao}{h:ay}{mg:Q0d}{fa:ah}(X:K.In h)(G:h.Ns df mg)(hfa:mg "law"=aa (.ref fa))
  {oU jI mB oV oW aK mC j5 mD mE jJ kW dJ kX:ah}
  (AU:h_ K df "Looped"=aa (aa (.ref oU)))
  (pB:h_ K df "NoFilling"=aa (aa (.ref jI)))
  (vC:h_ K df "NoGoing"=aa (aa (.ref mB)))
  (AV:h_ K df "NoLine"=aa (aa (.ref oV)))
  (AW:h_ K df "NoName"=aa (aa (.ref oW)))
  (rC:h_ K df "NoNumber"=aa (aa (.ref aK)))
  (vD:h_ K df "NoOrder"=aa (aa (.ref mC)))
  (F5:h_ K df "NoRow"=aa (aa (.ref j5)))
  (vE:h_ K df "NoShape"=aa (aa (.ref mD)))
  (vF:h_ K df "NoThing"=aa (aa (.ref mE)))
  (pC:h_ K df "NotForest"=aa (aa (.ref jJ)))
  (rD:h_ K df "NotLoose"=aa (aa (.ref kW)))
  (pD:h_ K df "RiseError"=aa (aa (.ref dJ)))
  (rE:h_ K df "TooGreat"=aa (aa (.ref kX)))
  (rF:excIn K aK bmV "ValueError.__new__"=af)
  (F6:excIn K j5 bmV "ValueError.__new__"=af)
  (e1:qm K (.ref dJ) (.type "BaseException")=aa af)
  (e2:a0M K dJ=af)
  (e3:a0H K (.ref dJ)=aa (.type "type"))
  (bP:AD K aK)
  (iN:qm K (.ref aK) (.type "ValueError")=aa af)
  (eL:dH K aK oV)
  (eM:dH K aK oW)
  (eA:dH K aK mD)
  (dM:dH K aK jJ)
  (dS:dH K aK kW)
  (dN:dH K aK jI)
  (fE:dH K aK j5)
  (eB:dH K aK mB)
  (dU:dH K aK kX)
  (eD:dH K aK mC)
  (eO:dH K aK oU)
  (eE:dH K aK mE)
  (jK:qm K (.ref aK) (.ref dJ)=aa af)
  {Kq Kp:ah} (Yx:uu K "going_of"=aa (Kq,Kp))
  (D1:Df K mg "ties_of" (top 16) ["order"])
  (D2:Df K mg "ready_things" (top 18) ["order","ahead"])
  (D3:Df K mg "joined" (top 19) ["ahead","thing"])
  (D4:Df K mg "descents_of" (top 20) ["going"])
  (D5:Df K mg "added" (top 24) ["one","other"])
  (D6:Df K mg "one_descent_more" (top 23) ["shares"])
  (D7:Df K mg "find_shares" (top 22) ["order","ahead","last","shares"])
  (D8:Df K mg "shares_on" (top 21) ["order"])
  (D9:Df K mg "chosen" (top 26) ["x","m"])
  (D10:Df K mg "tie_rises" (top 29) ["filling","a","b"])
  (D11:Df K mg "rises" (top 28) ["order","filling","k"])
  (D12:Df K mg "refuse_below_0" (top 30) ["k"])
  (D13:Df K mg "top_of" (top 33) ["going","k"])
  (D14:Df K mg "rows_many" (top 32) ["going","k"])
  (D15:Df K mg "rises_ahead" (top 34) ["going","place"])
  (D16:Df K mg "greatest_below" (top 36) ["bound","m","most"])
  (D17:Df K mg "row_at" (top 35) ["going","k","number"])
  (D18:Df K mg "step_rises" (top 39) ["row","place","strictly"])
  (D19:Df K mg "is_row_of" (top 38) ["going","k","row"])
  (D20:Df K mg "row_number" (top 37) ["going","k","row"])
  (D21:Df K mg "going_of" (top 41) ["filling"])
  (D22:Df K mg "row_of" (top 42) ["filling"])
  (D23:Df K mg "filling_of" (top 43) ["going","row"])
  (D24:Df K mg "rows_by_descents" (top 45) ["n","k"])
  (D25:Df K mg "begun_many" (top 46) ["table","many_rows","begun"])
  (D26:Df K mg "many_ahead_of" (top 47) ["order","table","many_rows","begun","thing"])
  (D27:Df K mg "thing_on" (top 49) ["order","table","many_rows","begun","rest"])
  (D28:Df K mg "filling_at" (top 48) ["order","k","number"])
  (D29:Df K mg "filling_number" (top 50) ["order","k","filling"])
  (D30:Df K mg "_law_cell" (top 52) ["_law_script","_law_k"])
  (D31:Df K mg "_law_mixed" (top 53) ["_law_cell_here","_law_k","_law_salt"])
  (D32:Df K mg "_law_draws" (top 54) ["_law_cell_here","_law_many","_law_salt"])
  (D33:Df K mg "_law_great" (top 55) ["_law_cell_here","_law_most","_law_salt"])
  (D34:Df K mg "_law_same" (top 56) ["_law_found","_law_due"])
  (D35:Df K mg "_law_order" (top 57) ["_law_draws_here","_law_n","_law_thick"])
  (D36:Df K mg "_law_drawn" (top 58) ["_law_script","_law_k","_law_most","_law_salt"])
  (D37:Df K mg "_law_rises" (top 59) ["_law_order_here","_law_filling"])
  (D38:Df K mg "_law_word" (top 60) ["_law_order_here","_law_draws_here"])
  (D39:Df K mg "_law_extra" (top 61) ["_law_script","_law_k","_law_salt"])
  (D40:Df K mg "_law_filled" (top 62) ["_law_script","_law_k","_law_order_here","_law_word_here","_law_salt"])
  (D41:Df K mg "_law_key" (top 63) ["_law_filling"])
  (D42:Df K mg "_law_is_filling" (top 64) ["_law_order_here","_law_k","_law_found"])
  (D43:Df K mg "_law_refusal" (top 65) ["_law_kinds"])
  (D44:Df K mg "_law_at" (top 66) ["_law_order_here","_law_k","_law_number"])
  (D45:Df K mg "law" (top 67) ["_law_script"])
  (cM:mg "sorted"=ae) (bE:mg "tuple"=ae) (c7:mg "enumerate"=ae) (iT:mg "all"=ae) (aP:mg "len"=ae) (aR:mg "range"=ae) (DD:mg "zip"=ae) (jV:mg "max"=ae) (DF:mg "sum"=ae) (aJ:mg "isinstance"=ae) (PK:mg "str"=ae) (lE:mg "int"=ae) (jR:mg "bool"=ae) (MV:mg "list"=ae) (nJ:mg "ValueError"=ae):
  ∃fd:fv,(∀(s:ak) (v:ai),qx s fd ⟨[v],[]⟩ [("_law_script",v)]) /\∀ω:ay,K.In ω->ω.Ns df mg->lG l.prog w K mg ω cC 19 fa fd ["_law_script"] (dB K B7):=by
 obtain @⟨_,fd,_,F,m,_⟩:=D45;cases hfa.symm.trans m;have AQ:=iy X G AU;have oX:=iy X G pB;have u5:=iy X G vC;have AR:=iy X G AV;have AS:=iy X G AW;have dD:=iy X G rC;have u6:=iy X G vD;have pP:=iy X G F5;have u7:=iy X G vE;have vA:=iy X G vF;have oY:=iy X G pC;have rA:=iy X G rD;have oZ:=iy X G pD;have rB:=iy X G rE;have fP:=O9 rF;have F0:=O9 F6;show⟨fd,λs v=>?_,λω _ _=>?_⟩
 .obtain ⟨_,_,_,_,_,_,_,_,_,e,_⟩:=F.ex;rw[e];show .of_eq rfl
 have o1:=MO l.prog w ω 3 D1 cM bE c7;have o2:=wQ l.prog w ω 3 D2 iT aP aR;have o3:=SV l.prog w ω 3 D3 cM bE;have o4:=AM l.prog w ω 3 D4 aP aR bE;have o5:=Y2 l.prog w ω 3 D5 DD;have o6:=pX l.prog w ω 3 D6 ;have o7:=oP l.prog w ω 4 D7 o2.up o5.up o6.up o3.up aP jV 11;have o8:=FV l.prog w ω 15 D8 o7.up;have o9:=SW l.prog w ω 3 D9 aR;have Kg:=FW l.prog w ω 3 D10 ;have Kf:=Y3 l.prog w ω 4 D11 o1.up Kg.up iT aP;have wg:=tL l.prog w ω 3 D12 dD fP;have we:=SY l.prog w ω 4 D13 o4.up aP;have Bd:=FX l.prog w ω 5 D14 o9.up we.up wg.up aP;have Bc:=AN l.prog w ω 4 D15 o4.up aP;have Ke:=tM l.prog w ω 4 D16 o9.up;have Kd:=S3 l.prog w ω 6 D17 Bc.up o9.up Ke.up we.up Bd.up dD fP bE aP aR;have Kc:=BE l.prog w ω 3 D18 ;have Kb:=FY l.prog w ω 4 D19 Kc.up o4.up aP aR iT;have Ka:=BF l.prog w ω 6 D20 o9.up Bc.up we.up Kb.up Bd.up pP F0 c7 aP;have J_:=JF l.prog w ω 3 D21 Yx aP cM aR bE;have Jz:=S4 l.prog w ω 3 D22 cM bE;have Jy:=BG l.prog w ω 3 D23 bE DD aP;have Bb:=pZ l.prog w ω 4 D24 o9.up jV aR;have Ba:=BH l.prog w ω 4 D25 o4.up c7 DF aP cM bE;have wd:=uZ l.prog w ω 5 D26 Ba.up o2.up DF;have Jx:=JG l.prog w ω 6 D27 wd.up o2.up jV;have Jw:=BI l.prog w ω 16 D28 Jy.up Kd.up wd.up Jx.up Ba.up Bb.up o8.up wg.up dD fP aP aR;have Jv:=tO l.prog w ω 16 D29 wd.up Ka.up Jz.up J_.up Bb.up o8.up Kf.up wg.up c7 aP;have wc:=S5 l.prog w ω 3 D30 aP;have A_:=MR l.prog w ω 3 D31 ;have wb:=MS l.prog w ω 4 D32 A_.up aR;have Ju:=MT l.prog w ω 4 D33 A_.up aR;have Jt:=DG l.prog w ω 3 D34 aJ PK lE jR bE aP aR iT 6;have Js:=MU l.prog w ω 3 D35 aR cM bE aP MV;have Jr:=MW l.prog w ω 5 D36 Js.up wb.up wc.up;have Jq:=MX l.prog w ω 3 D37 aP aR;have Jp:=S7 l.prog w ω 3 D38 bE aP aR iT;have Az:=MY l.prog w ω 5 D39 Ju.up wb.up wc.up;have Jo:=JI l.prog w ω 6 D40 Az.up bE lE jV aP;have Jn:=Y5 l.prog w ω 3 D41 aP aR cM;have Jm:=wR l.prog w ω 4 D42 Jq.up aJ jR lE aP bE;have Jl:=F4 l.prog w ω 3 D43 ;have Jk:=aBl l.prog w ω 17 D44 Jl.up Jw.up AQ oX u5 AR AS dD u6 pP u7 vA oY rA oZ rB e1 e2 e3 bP iN eL eM eA dM dS dN fE eB dU eD eO eE jK aP aJ nJ;show Yy l.prog w ω 18 F Jn.up Jm.up Jk.up Jt.up Jv.up Az.up Jo.up Jp.up wb.up wc.up Jr.up aJ jR lE jV aP
def Yw{K:ao}{H:Hp}{a:ah}{ns:Q0e}(o:Only H)(h:eW K H a (ns.map V.int)):Scr K H a ns:=by
 rcases h with h|h
 .rcases h with h|⟨b,h⟩
  .rcases o a with z|⟨_,_,z⟩|⟨_,z⟩<;>rw[z] at h<;>cases h
  .exact .inl ⟨b,h⟩
 .exact .inr (.inr h)
theorem walk{l:qp}{q:bc}{loose:Q0g}{XP:(aj->Option ai)->ay->Prop}{YP:ba->ay->Prop}{d:DefRec}{K:Params->ao}(hn:l.most=aa 63)(hdf:d.params.defaults=[])
  (hY:∀(w:ba) (h:ay),YP w h->(K w.params).In h) (tj:∀w:ba,TabsOk (K w.params) q) (hnt:∀w:ba,noTabs (K w.params)=af)
  (F:∀(w:ba) (mg:Q0d) (fa:ah) (h:ay),(K w.params).In h->h.Ns df mg->mg d.name=aa (.ref fa) ->
   ∃fd:fv,(∀(s:ak) (u:ai),qx s fd ⟨[u],[]⟩ [("_law_script",u)]) /\∀ω:ay,(K w.params).In ω->ω.Ns df mg->lG l.prog w (K w.params) mg ω cC 19 fa fd ["_law_script"] (dB (K w.params) B7)):
  Gq q loose XP YP l.row.toRowW d [] (λf vs=>Gi f vs) :=
 L2.aAj (n:=63) (k:=19) (x:="_law_script") (CX:=λ_=>cC) (sp:=λw=>dB (K w.params) B7) hn (by decide) hdf ⟨rfl,by decide,by decide⟩ hY tj hnt F
  (λ_ H a ns hl o hS=>⟨λa=>H a=ae,[.j6 ns],λd=>d=.bl af,λ_ h=>h,⟨_,_,rfl,⟨a,rfl,Yw o hS⟩,rfl⟩,⟨_,VU ns hl,rfl⟩,λv H' d _ hd e=>by subst e;show hd⟩) λ_ _ _ _ _ z=>z
end K16
open PySem.W PyProof.Rows
namespace PySem.W.Fast
def tw14678074569148324712:=0
def tw2434029919017672831:=0
def tw13971715296882779991:=0
def tw11699671025212935647:=0
def tw11657126169024541905:=0
def tw2685650606412271951:=0
def tw7810441314947237448:=0
def tw11313733425807342202:=0
def tw14462292607692274135:=0
def tw11170247355380722514:=0
def tw10767837158536865150:=0
def tw10113731824652151407:=0
def tw17308730767455251302:=0
def tw7542591881018663648:=0
def tw15770364996867826989:=0
def tw8954688918731171526:=0
def tw13818721980601867083:=0
def tw2041788797426071298:=0
def tw10392909644982634542:=0
def tw8950184276022811081:=0
def tw8019056262466640052:=0
def tw13465546218258992247:=0
def tw5954192811515710471:=0
def tw9652877053231834363:=0
def tw12698646887712504654:=0
def tw12900096533017372832:=0
def tw8646074881595419299:=0
def tw796981907957611688:=0
def tw848403012001685804:=0
def tw9930921368812507061:=0
def tw17221008277336693719:=0
def tw17052716603977399938:=0
def tw4407999390670890918:=0
def tw9710171159766437493:=0
def tw10919158123258440861:=0
def tw15990236612350968398:=0
def tw13295069168353489271:=0
def tw16653352312166388706:=0
def tw5447673707982186493:=0
def tw8765409726870955334:=0
def tw11074163218906013932:=0
def tw12063406359704041065:=0
def tw14580375348376735423:=0
def tw14405717700552664401:=0
def tw10585097657127015166:=0
def tw11252604096582481761:=0
def tw5358338158687967736:=0
def tw12916295650725467600:=0
def tw10521107292057375987:=0
def tw840284253956171649:=0
def tw9516439501044993186:=0
def tw14348691008936106741:=0
def tw1292286696128561823:=0
def tw17873848965662183217:=0
def tw8226242908312110909:=0
def tw561321061218654191:=0
def tw14370687866190720094:=0
def tw7063230407695323155:=0
def tw14126942776167899257:=0
def tw13352613248028257121:=0
def tw17416324325912851480:=0
def tw16886604097460330145:=0
def tw5173126557797118951:=0
def tw5586879066700523345:=0
def tw688154287018865150:=0
def tw15287585770621238116:=0
def tw1715657938553316502:=0
def tw1300956242605143116:=0
def tw5398845202404234192:=0
def tw10801392828570916920:=0
def tw3061816758332199483:=0
def tw8088284819148048386:=0
def tw9429126537590452153:=0
def tw3464851596029797475:=0
def tw4330876728880987973:=0
def tw2280389105680278087:=0
def tw10295986801682381597:=0
def tw17103876942340378120:=0
def tw17558015458553969540:=0
def tw8776527958615923126:=0
def tw6979020431316647815:=0
def tw14052337951820837843:=0
def tw14237490412655538273:=0
def tw4417450378355506584:=0
def tw8055375450925367333:=0
def tw7025576399497723147:=0
def tw11144492608119448375:=0
def tw8690073371045618414:=0
def tw11069602653024131692:=0
def tw7066298094488044443:=0
def tw3130077140794504650:=0
def tw7007566974448293194:=0
def tw17516662136549198403:=0
def tw17982876270888537392:=0
def tw12056106467026931183:=0
def tw5154642750922323098:=0
def tw14606868922447744130:=0
def tw14370252808665536478:=0
def tw8050954447313034104:=0
def tw17082401655323133528:=0
def tw18350723481964076623:=0
def tw10366541113033489819:=0
def tw11607666927520334309:=0
def tw7321882291482774626:=0
def tw5927360595380279968:=0
def tw18443022761024066668:=0
def tw4043745055580166080:=0
def tw48660417910889771:=0
def tw11155514096242122525:=0
def tw12414569044658182022:=0
def tw10454972521836878873:=0
def tw10150548498913406964:=0
def tw1804112630971130506:=0
def tw3377891737705506793:=0
def tw14410214068616165488:=0
def tw1683802406458546184:=0
def tw2711779315927967905:=0
def tw8044472447452025504:=0
def tw14521014261393068632:=0
def tw8964351660196854470:=0
def tw5381091982300493401:=0
def tw9903090360786009862:=0
end PySem.W.Fast
set_option maxRecDepth 100000 in
set_option maxHeartbeats 0 in
theorem PySem.Challenge.cw_risecount_k16_whole_fillings_numbered_holds : PySem.Challenge.rw_risecount_k16_whole_fillings_numbered.Holds := by
 w_on; o_law; k_head; (case hw=>w_witness2)
 k_fill
 show K16.walk (l := PySem.Challenge.rw_risecount_k16_whole_fillings_numbered) rfl rfl (fun w h Y => PySem.W.km_in_of Y) ?hTbs ?hNtb ?F
 case hTbs =>
  intro w
  refine' L4.tabs_ok (L4.SM ?t1 ?t2 ?t3 ?t4 ?t5) ?nd ?rc
  (case t1=>(refine' L4.JB ?p1 ?p2 ?p3 ?p4 ?p5; (case p1=>k_is); (case p2=>k_is); (case p3=>show rfl); (case p4=>k_is); (case p5=>show rfl)))
  (case t2=>(refine' L4.tJ ?p1; (case p1=>k_is)))
  (case t3=>(refine' L4.tJ ?p1; (case p1=>k_is)))
  (case t4=>(refine' L4.tJ ?p1; (case p1=>k_is)))
  (case t5=>(refine' L4.tJ ?p1; (case p1=>k_is)))
  (case nd=>decide)
  (case rc=>(intro t ht; rcases List.mem_cons.1 ht with rfl | ht<;>first | show ⟨_,rfl⟩ | cases ht))
 case hNtb =>
  intro w
  kernel_rfl
 case F =>
  intro w mg fa h KX G hmg
  refine' K16.all_mk KX G hmg ?AU ?pB ?vC ?AV ?AW ?rC ?vD ?F5 ?vE ?vF ?pC ?rD ?pD ?rE ?rF ?F6 ?e1 ?e2 ?e3 ?bP ?iN ?eL ?eM ?eA ?dM ?dS ?dN ?fE ?eB ?dU ?eD ?eO ?eE ?jK ?aFK ?_ ?_ ?_ ?_ ?_ ?_ ?_ ?_ ?_ ?_ ?_ ?_ ?_ ?_ ?_ ?_ ?_ ?_ ?_ ?_ ?_ ?_ ?_ ?_ ?_ ?_ ?_ ?_ ?_ ?_ ?_ ?_ ?_ ?_ ?_ ?_ ?_ ?_ ?_ ?_ ?_ ?_ ?_ ?_ ?_ ?_ ?_ ?_ ?_ ?_ ?_ ?_ ?_ ?_ ?_ ?_ ?_ ?_ ?_ ?_
  (case AU=>k_is)
  (case pB=>k_is)
  (case vC=>k_is)
  (case AV=>k_is)
  (case AW=>k_is)
  (case rC=>k_is)
  (case vD=>k_is)
  (case F5=>k_is)
  (case vE=>k_is)
  (case vF=>k_is)
  (case pC=>k_is)
  (case rD=>k_is)
  (case pD=>k_is)
  (case rE=>k_is)
  (case rF=>k_exc)
  (case F6=>k_exc)
  (case e1=>k_is)
  (case e2=>k_is)
  (case e3=>k_is)
  (case bP=>show ⟨by k_is,by k_is,by k_is,by k_is,by k_is,by k_is,by k_is,by k_is⟩)
  (case iN=>k_is)
  (case eL=>show ⟨by rfl,by k_is,by k_is,by k_is⟩)
  (case eM=>show ⟨by rfl,by k_is,by k_is,by k_is⟩)
  (case eA=>show ⟨by rfl,by k_is,by k_is,by k_is⟩)
  (case dM=>show ⟨by rfl,by k_is,by k_is,by k_is⟩)
  (case dS=>show ⟨by rfl,by k_is,by k_is,by k_is⟩)
  (case dN=>show ⟨by rfl,by k_is,by k_is,by k_is⟩)
  (case fE=>show ⟨by rfl,by k_is,by k_is,by k_is⟩)
  (case eB=>show ⟨by rfl,by k_is,by k_is,by k_is⟩)
  (case dU=>show ⟨by rfl,by k_is,by k_is,by k_is⟩)
  (case eD=>show ⟨by rfl,by k_is,by k_is,by k_is⟩)
  (case eO=>show ⟨by rfl,by k_is,by k_is,by k_is⟩)
  (case eE=>show ⟨by rfl,by k_is,by k_is,by k_is⟩)
  (case jK=>k_is)
  (case aFK=>(refine' L4.JB ?p1 ?p2 ?p3 ?p4 ?p5; (case p1=>k_is); (case p2=>k_is); (case p3=>show rfl); (case p4=>k_is); (case p5=>show rfl)))
  all_goals first | show PySem.W.mg_none_of KX G (by k_is) | (refine' L4.aHY KX G ?b ?a ?l ?c ?k; (case a=>k_is); (case l=>k_is); (case c=>k_is); (case k=>k_is); (case b=>(intro us hl; first | (obtain ⟨_,rfl⟩:=L4.aBa us hl; rfl) | (obtain ⟨_,_,rfl⟩:=L4.aBb us hl; rfl) | (obtain ⟨_,_,_,rfl⟩:=L4.aBd us hl; rfl) | (obtain ⟨_,_,_,_,rfl⟩:=L4.aBe us hl; rfl) | (obtain ⟨_,_,_,_,_,rfl⟩:=L4.aBf us hl; rfl))))
end
