import PyProof.Rows.All
import PySem.Str
import PySem.Sem
import PyProof.StrBlockL
import PyProof.Rows.Walk
import Wide.All
import OpenK.AllK
import Wide.FinOn
import Lean
import PyProof.EqAt
import PyProof.EqKinds
import PyProof.TupleCall
import PyProof.SeqRoads2
import PyProof.ExcArgs
import KE.KIsAll
import PyProof.DictIter
import PyProof.Rows.CountFlat
import PyProof.NeKinds
import KE.KSortKey
import KE.KMinKey
import PySem.Challenge.RW_risecount_k11_goings_numbered
set_option Elab.async false
set_option linter.all false
set_option maxRecDepth 100000
set_option maxHeartbeats 3999999
open PySem.W (CodeHd OpenLaw codeIn excIn fnOf hideAll instObj keepIn lookIn methodObj noTabs tabObj)
open And renaming intro->uf
open Array renaming append_empty->pj,empty_append->a2N,eraseIdxIfInBounds->a2M,ext_getElem?->a2L,extract_empty_of_stop_le_start->nj,extract_succ_right->a2K,forIn_toList->a2J,getD->kb,getElem?_eq_getElem->ph,getElem?_extract->Gy,getElem?_map->Gx,getElem?_setIfInBounds->a2I,getElem?_toList->pf,length_toList->gk,map_append->yt,map_extract->qu,map_reverse->a2H,size_append->a2G,size_extract->Gw,size_map->Gv,toList->a2F,toList_append->ue,toList_extract->ud,toList_inj->a2E,toList_map->a2D
open Array.Perm renaming refl->me
open Bool renaming and_eq_true->ij,and_false->a2C,eq_false_iff->a2B,eq_iff_iff->qt,false->ag,false_and->Gu,false_eq_true->pd,false_ne_true->bx,false_or->Gs,not_eq_true->a2A,not_eq_true'->a2z,not_false->uc,not_true->t_,or_eq_false_iff->a2y,or_eq_true->qr,true->ae,true_and->Gr
open Classical renaming byContradiction->o_,not_not->a3S,propDecidable->Gq
open Decidable renaming decide->Zv
open False renaming elim->jq
open ForInStep renaming done->Gp,yield->kj
open Function renaming comp->Gm,comp_def->yr
open Int renaming emod_lt_of_pos->k_,emod_nonneg->ka,fdiv_eq_ediv_of_nonneg->a2x,le_refl->yq,le_trans->Gk,mul_one->a2w,toNat_natCast->iz,toNat_of_nonneg->tw,zero_add->qq
open List renaming Nodup->a2v,all_cons->qm,all_eq_true->jh,all_map->nh,any_cons->md,any_eq_true->Gi,any_map->a2u,append_assoc->ng,append_inj'->yp,append_nil->gq,append_of_mem->oz,concat_eq_append->a2t,cons_append->tu,drop_eq_getElem_cons->ma,drop_eq_nil_of_le->tq,drop_length->a2q,drop_zero->oy,eq_nil_of_length_eq_zero->a2p,eq_nil_or_concat->Gh,ext_getElem?->tm,extract_eq_take_drop->tj,filterMap_cons->Gf,filter_append->a2o,filter_cons->Ge,filter_eq_nil_iff->Gd,filter_eq_self->Gb,filter_filter->a2n,find?_cons->g_,flatten_cons->nc,foldl_cons->l_,forIn_cons->m_,forIn_nil->yo,getD_eq_getElem?_getD->ox,getElem?_append_left->j_,getElem?_append_right->jz,getElem?_cons_succ->ou,getElem?_cons_zero->s_,getElem?_eq_getElem->cj,getElem?_eq_none->kz,getElem?_eq_some_iff->cz,getElem?_map->dj,getElem?_nil->Ga,getElem?_range->sy,getElem?_replicate->jg,getElem?_set_ne->jo,getElem?_set_self->lz,getElem?_take_of_lt->F_,getElem?_zipIdx->Fz,getElem?_zip_eq_some->a2m,getElem_drop->Fy,getElem_inj->a2l,getElem_map->ym,getElem_mem->sx,getElem_of_mem->ly,getElem_take->Fx,getElem_toArray->yl,idxOf_append->yj,idxOf_lt_length_iff->a2k,length->sr,length_append->dm,length_cons->fu,length_drop->mz,length_eq_zero_iff->ql,length_filter_le->sk,length_map->bj,length_nil->jy,length_pos_of_mem->a2j,length_range->oq,length_replicate->jw,length_set->gb,length_singleton->a2i,length_take->ig,lookup_append->Fw,lookup_cons->qk,map_append->gp,map_congr_left->iy,map_cons->bt,map_map->ft,map_nil->ki,map_take->Fv,mem_append->gn,mem_append_left->gx,mem_append_right->ir,mem_cons->bz,mem_cons_of_mem->fq,mem_cons_self->cx,mem_filter->gw,mem_filterMap->qj,mem_flatMap->Fu,mem_iff_getElem?->yi,mem_map->gm,mem_map_of_mem->Ft,mem_of_getElem?->qi,mem_range->my,mem_reverse->a2h,mem_singleton->cu,nil_append->oo,nodup_append->lr,nodup_cons->jv,nodup_nil->qh,nodup_range->a2g,not_mem_nil->Fs,of_mem_zip->yh,pairwise_append->qg,pairwise_cons->f_,pairwise_iff_getElem->yf,pairwise_lt_range->a2f,pairwise_map->Fq,pairwise_reverse->Fp,range->de,range'->a2e,range'_succ->a2d,range_succ_eq_map->a2c,replicate->cc,replicate_succ->iw,replicate_zero->si,reverse_perm->Fo,set_cons_succ->sg,set_cons_zero->se,set_nil->Fn,size_toArray->ck,sum->a2b,sum_append->ye,sum_cons->gz,take_add_one->a2a,take_append_drop->qf,take_length->sd,take_of_length_le->qe,take_sublist->a19,take_zero->a18,toArray->r_,zip_append->a17,zip_cons_cons->yd
open List.Nodup renaming sublist->a3R
open List.Pairwise renaming filter->qp,imp_of_mem->a3Q,map->qo,nil->Gj
open List.Perm renaming swap->a3P
open List.cons renaming inj->a2s,injEq->a2r
open Nat renaming add_assoc->Fm,add_sub_cancel_left->a16,add_zero->Fl,eq_of_testBit_eq->Fj,le_add_right->Fi,le_of_ble_eq_true->Fh,le_of_eq->lp,le_of_lt->ll,le_refl->bp,le_succ->om,le_trans->iq,lt_asymm->a15,lt_irrefl->jf,lt_log2_self->a14,lt_of_lt_of_le->gj,lt_succ_of_lt->qd,lt_succ_self->yc,lt_trans->yb,min_eq_left->a13,min_self->a12,mod_two_eq_zero_or_one->a1Z,mul_comm->a1Y,ne_of_gt->oj,ne_of_lt->fz,not_lt_zero->Fg,pow_le_pow_right->a1X,shiftLeft_eq->a1W,shiftRight_eq_div_pow->a1V,sub_self->ya,sub_zero->x_,succ_mul->xy,succ_ne_self->a1U,testBit_and->Ff,testBit_or->a1T,testBit_two_pow->Fe,testBit_two_pow_sub_one->a1S,two_pow_pos->Fd,zero_add->qc,zero_le->jn
open Ne renaming symm->fj
open Option renaming bind_none->Fc,bind_some->cq,getD_none->a1R,isSome_map->xx,join_none->r9,join_some->r6,map->a1Q,map_eq_some_iff->jm,map_none->Fb,map_some->mx,none->af,some->aa
open Option.some renaming inj->fg
open Or renaming inl->cy,inr->cb
open Prod renaming ext->a1P
open Prod.mk renaming inj->E_
open PyProof.Rows renaming AllBare->ku,IntsAre->gu,IsTup->gi,Keyed->dh,SortKind->mw,SortSt->cm,Subscript_->Ex,args_list_sort->Ew,args_sorted1->Eu,args_tuple_getitem->a1O,boot_all->a3O,boot_bool->xw,boot_int->Et,boot_isinstance->Es,boot_list->a1N,boot_max->a3N,boot_range->a1M,boot_sorted->xv,boot_str->a3M,boot_sum->a1L,boot_tuple->xu,bubble_perm->Er,callWith_builtin1->a3L,callWith_type1->xt,entry_list_sort->Ep,entry_sorted->Eo,entry_tuple_getitem->a1K,fact_split->a3K,get?_update_seq->a1J,getElem?_bubble->a1I,intBits_le->En,kind_sorted->Em,listItems_at->a1H,listUpdate_at->xr,list_sort_plain->a1G,plain_sorted->El,pow_int->a3J,seqEpoch_at->xq,slicePart_none->a1F,slot_list_sort->Ek,slot_tuple_getitem->oh,sortedAll_at->a1E,sortedAll_old->a1D,sortedHeap_at->a1C,sortedHeap_old->a1B,subscriptTail_builtinR->a1A,truthy_tuple->a1z,tupleItemsOf_->a1y,wpS_bind->bb,wpS_forRange->ip,wpS_get->kr,wpS_lift->og,wpS_modify->lj,wpS_mono->je,wpS_pure->bq
open PyProof.Rows.IntsAre renaming length->Ez
open PyProof.Rows.IsTup renaming new->Ey
open PyProof.Rows.SortSt renaming mk'->oi
open PySem renaming Addr->ah,Around->bu,BindsTo->qb,Builtin->xo,Env->d_,Expr->av,Fin->xi,FuncData->gg,Heap->ba,IntMulOk->rz,IsEnum->rn,IsPart->kq,IsRangeIter->a08,Keyword->fw,Meets->rm,Model->lh,NameKind->jd,Obj->ax,Paired->ik,PassesOwn->Dz,Pos->br,Program->bh,Result->xb,Scope->gd,Sem->fm,Shared->ak,Stmt->cf,Str->aj,Tok->gy,Value->ai,Within->a0J,World->az,assignEach->di,backTo->cp,cLine->cn,call->Dp,call_list_seq->a0I,call_meets->mn,call_range_1->a0H,codeAny->ml,codeAny_builtin->ra,codeAny_call_builtin->a0G,codeAny_mono->Dm,concat_meets->Dl,eqIsQuiet_byValue->a0F,evalPart_none->a0E,intBits_le_64->a0D,intItems_at->a0C,isSubtype_tuple_tuple->a0B,keywordEach->jt,mainGlobals->dq,mem_of_lookup->km,model->au,name_of_addr->a0A,noFill_tuple_add->Dk,nums_intItems->a0z,pairTrees_length->Dj,plainId_quiet->Di,pushCells_keeps->a0y,rangeSize_one->a0x,seqIndex_neg->Dh,seqIndex_of->Dg,seqSlot_of->a0w,seq_tuple_add->De,sizeLine->bg,sizeLine_eq->gc,slot_list_getitem->a0v,starEach->ar,swapsWith->e_,tupleKind_room_in1->a0u,typeIs_int->Dd,wpAny->ay,wpAny_Assign_Subscript->a0t,wpAny_Call_Name_kw->Dc,wpAny_Dict_empty->a0s,wpAny_Name->C_,wpAny_alloc->a0r,wpAny_assign_Name->a0q,wpAny_attempt->Cz,wpAny_bind->aq,wpAny_call->Cy,wpAny_callSpecial?_slot->wu,wpAny_call_entry->lg,wpAny_eqBool_int->a0p,wpAny_execs_cons->Cw,wpAny_execs_nil->Cv,wpAny_field->mj,wpAny_getItem_heap->a0o,wpAny_getItem_of->a0n,wpAny_holding->h_,wpAny_isInstance->a0m,wpAny_isTrue_Compare1->a0l,wpAny_loadPart'->a0k,wpAny_mono->ja,wpAny_newList->q_,wpAny_newObj_type->nq,wpAny_newTuple->a0j,wpAny_of_eq->a0i,wpAny_passesOwn->qz,wpAny_pure->a_,wpAny_pyIter_enum->wt,wpAny_pyIter_list->wq,wpAny_pyIter_tuple->wo,wpAny_rule->jj,wpAny_seqItems->wm,wpAny_sequenceKey->a0h,wpAny_setField->a0g,wpAny_setFlight_noneW->a0f,wpAny_setItem_heap->a0e,wpAny_setItem_pairs->a0d,wpAny_specialOf->Cu,wpAny_standAt->wj,wpAny_truthy_bool->kl,wpAny_truthy_list->a0c,wpAny_tupleItemsOf->a0b,wpAny_typeOf->wg
open PySem.Around renaming under_plainId->xp
open PySem.AutoSeq1 renaming list_extend_list_list_0->a3I,sub_tuple_tuple->a3H
open PySem.Builtin renaming bitNot->Eg,bitOr->a1t
open PySem.Builtin.List renaming listTooLong->Ej
open PySem.Builtin.ObjectAttr renaming dataDescriptor?->a3G,find->a3F
open PySem.Builtin.Range renaming rangeSize->a1x
open PySem.Builtin.Slice renaming sliceAdjust->Ei,sliceApplied->a1w,sliceFields->a3E,slicePartIndex->a3D,slicePlaces->xm
open PySem.Builtin.SmallTypes renaming nextOf->a1v
open PySem.Builtin.Tuple renaming tupleCompareSizes->a3C,tupleExact->xl,tupleHashOf->a1u,tupleIsExact->a3B,tupleItemsOf->Eh,tupleTooMany->a3A
open PySem.Calls renaming Name_function_global->a1s,call_function_entry->Ef,evalArgs_plain->a1r
open PySem.Data renaming seq->a1q
open PySem.DictEntry renaming refKey->a3z
open PySem.EqMixed renaming eq_bool_str->a3y,eq_int_str->a3x,eq_str_bool->a3w,eq_str_int->a3v,ne_bool_str->a3u,ne_int_str->a3t,ne_str_bool->a3s,ne_str_int->a3r
open PySem.EqNone renaming eq_bool_none->a3q,eq_int_none->a3p,eq_none_bool->a3o,eq_none_int->a3n,eq_none_none->a3m,eq_none_str->a3l,eq_str_none->a3k,ne_bool_none->a3j,ne_int_none->a3i,ne_none_bool->a3h,ne_none_int->a3g,ne_none_none->a3f,ne_none_str->a3e,ne_str_none->a3d
open PySem.F renaming args_tuple_add_2->Ee,args_tuple_iterator_next_1->a1p,entry_all_loop->a1o,entry_tuple_add->Ed,entry_tuple_iterator_next->a1n,excAttr_ValueError->a1m,plainAttrs_list->Ec,plain_all_loop->xk,plain_list_iadd->a1l,slot_dict_getitem->a1k,slot_int_rmul->a1j,slot_list_append->a1i,slot_list_count->a1h,slot_list_extend->a1g,slot_list_index->a1f,slot_list_pop->a1e,slot_tuple_add->Eb,slot_tuple_eq->a1d,slot_tuple_index->a1c,slot_tuple_iterator_next->xj,slot_tuple_mul->Ea,slot_tuple_rmul->a1b
open PySem.Heap renaming SameBut->mr,get?_none_of_le->a09,get?_push_of_some->dg,get?_push_size->gf,get?_update_other->D_,get?_update_self->xh,lt_size->b_,size_push->qa
open PySem.Heap.DictOf renaming new->a3c
open PySem.Heap.IsSliceOf renaming new->a3b
open PySem.Heap.SameBut renaming update->a1a
open PySem.IsL renaming update->a3a
open PySem.MeetsSeq renaming list_pop_at->a29
open PySem.NameKind renaming cell->kh,free->ju
open PySem.Obj renaming data_mapFields->a07,mapSeq->jl,putSet->a06
open PySem.Paired renaming length->p_,snoc->xf
open PySem.PassesOwn renaming never->ko
open PySem.SeqAt renaming EqAt->rk
open PySem.SeqAt.EqAt renaming bool_bool->a05,bool_int->a28,bool_none->a27,bool_str->a26,int_bool->a25,int_int->xa,int_none->a24,int_str->a04,int_tuple->a23,none_bool->a22,none_int->a21,none_str->a20,same->a03,str_bool->a2Z,str_int->a02,str_none->a2Y,str_str->a2X,str_tuple->a2W,tuple_int->a2V,tuple_str->a2U
open PySem.SeqAt.RcNeAt renaming lists->a2T,lists_lengths->a2S
open PySem.Txt renaming split->n_
open PySem.Value renaming bool->kg,builtin->a01,float->a00,int->ke,isInt->a0Z,isStrOf->a0Y,none->kn,ref->df,str->w_,type->nz
open PySem.Value.ref renaming inj->a2R
open PySem.W renaming Frag->ao,KasT->ny,Looks->rj,OpenLaw->p0,WalkO->Dy,cellsFrom_some->a0T,exmOne->a0S,findIn->a0R,funFrames_hide->a0Q,hideAll_get->rh,hideAll_none->rf,isClsIn->Dx,kas_asc->jc,kas_ask->Dw,kas_bin->wz,kas_count->wy,kas_desc->nu,kas_descPart->wx,kas_item->bo,kas_place->jk,kas_rev->gr,kas_sort->rb,kas_swaps_map->a0P,kas_tail3->Dv,kia_one->jb,kitOne->pz,kitx_dict->a0O,kitx_list->Du,kitx_tuple->a0N,looks_findIn->Dt,mg_of->iu,nsIn->ie,of_hideAll->Ds,plainGet->a0M,subIn->kc,tabIn->Dr,tail_of_in->a0L,typeIn->Dq
open PySem.W.KF renaming slot_gs->a0X
open PySem.W.KasT renaming ret->mq
open PySem.W.Looks renaming of_pure->a0W
open PySem.W.WData renaming int->a0V
open PySem.W.WShape renaming has->a0U
open PySem.Walks renaming list->a0K
open Std.Legacy renaming Range->a2Q
open Std.Legacy.Range renaming forIn_eq_forIn_range'->a2P,size->a2O
open Sum renaming inl->c_,inr->jr
open Sum.inl renaming inj->we,injEq->a0a
open Sum.inr renaming inj->Ct
open True renaming intro->ji
open PySem
set_option genSizeOf false
set_option compiler.extract_closed false
set_option bootstrap.genMatcherCode false
noncomputable section
local macro_rules|`(tactic|lia)=>`(tactic|omega)
local macro_rules|`(∅)=>`(by omega)
local macro_rules|`(tactic|show $t)=>`(tactic|first|refine $t|fail)
set_option hygiene false
local macro_rules|`(tactic|symm$[$l:location]?)=>`(tactic|simp only[Dn]$[$l]?)
set_option hygiene true
local macro_rules|`(tactic|walk_at "0")=>`(tactic|first|show .inl rfl|show .inr rfl)
local macro_rules|`(tactic|walk_at "1")=>`(tactic|first|show cy rfl|show cb (cy rfl)|show cb (cb rfl))
local macro_rules|`(tactic|walk_at "2")=>`(tactic|first|show .inr rfl|show .inl rfl)
abbrev Q0a:=List (List Int)
abbrev Q0b:=List (ah×ax)
abbrev Q0c:=ai->ak->Prop
abbrev Q0d:=aj->Option ai
abbrev Q0e:=List Int
abbrev Q0f:=List ai
abbrev Q0g:=List aj
abbrev Z_.{u}:=@if_pos.{u}
abbrev Zz.{u}:=@if_neg.{u}
abbrev Zy:=@decide_eq_false
abbrev Zx:=@decide_eq_true
abbrev Zw.{u}:=@absurd.{u}

namespace L3
inductive D where
 |non
 |bl (b:Bool)
 |int (i:Int)
 |str (x:aj)
 |tup (xs:List D)
 |lst (xs:List D)
 |pJ (ns:Q0e)
 |kA (ks:List (Sum Int aj)) (xs:List D)
 |b7 (q:Nat->ax->Prop) (ks:List (Sum (Sum Int aj) (List (Sum (Sum Int aj) (List (Sum Int aj)))))) (xs:List D)
 |exc (c:aj) (a:Nat)
 |rws (xs:Q0a)
mutual
noncomputable def D.A1:D->Bool
 |.non=>ae
 |.bl _=>ae
 |.int _=>ae
 |.str _=>ae
 |.tup ds=>pK ds
 |.lst _=>ag
 |.pJ _=>ae
 |.kA _ _=>ag
 |.b7 _ _ _=>ag
 |.exc _ _=>ae
 |.rws _=>ag
noncomputable def pK:List D->Bool
 |[]=>ae
 |d::ds=>d.A1&&pK ds
end
abbrev cM:=List (Option D)
inductive Sv where
 |no
 |ro (d:D)
 |ow (d:D)
abbrev bT:=List Sv
noncomputable def Sv.all:Sv->Option D
 |.no=>af
 |.ro d=>aa d
 |.ow d=>aa d
noncomputable def Sv.rd:Sv->Option D
 |.ro d=>aa d
 |_=>af
def bK(ρ:bT):cM:=ρ.map Sv.all
def gQ(ρ:bT):cM:=ρ.map Sv.rd
end L3
namespace L4
open L3
inductive M (α:Type) where
 |no
 |ex (c:aj)
 |ok (a:α)
inductive Out where
 |no
 |nx (ρ:bT)
 |rt (d:D)
 |ex (c:aj)
abbrev EF:=cM->Option D
abbrev TF:=cM->Option Bool
abbrev AF:=cM->Option (List D)
abbrev XF:=bT->Option (bT×D)
abbrev SF:=bT->Out
abbrev n6:=List D->M D
def lP:Nat:=16777216
def aB(i:Nat):EF:=λρ=>(ρ[i]?).join
def eC(d:D):EF:=λ_=>aa d
def aC(g:D->D->Option D)(a b:EF):EF:=λρ=>(a ρ).bind λx=>(b ρ).bind λy=>g x y
noncomputable def lR:D->Option Bool
 |.bl b=>aa b
 |.lst ds=>aa (!ds.isEmpty)
 |.tup ds=>aa (!ds.isEmpty)
 |_=>af
def tV(f:EF):TF:=λρ=>(f ρ).bind lR
def kB(t:TF):TF:=λρ=>(t ρ).map (!·)
def uV(t u:TF):TF:=λρ=>(t ρ).bind λb=>if b=ae then u ρ else aa ag
def x9(t u:TF):TF:=λρ=>(t ρ).bind λb=>if b=ae then aa ae else u ρ
noncomputable def l9:D->Option Bool
 |.bl b=>aa b
 |_=>af
def kG(a b:EF):EF:=λρ=>(a ρ).bind λx=>(l9 x).bind λc=>if c=ae then b ρ else aa (.bl ag)
def pq(a b:EF):EF:=λρ=>(a ρ).bind λx=>(l9 x).bind λc=>if c=ae then aa (.bl ae) else b ρ
def yA(a:EF):EF:=λρ=>(a ρ).bind λx=>(l9 x).map λc=>.bl (!c)
def uo(t:TF)(a b:EF):EF:=λρ=>(t ρ).bind λc=>if c=ae then a ρ else b ρ
noncomputable def VZ:D->Option D
 |.int i=>aa (.int (-i))
 |_=>af
def yB(a:EF):EF:=λρ=>(a ρ).bind VZ
def kH(f g:D->D->Option D)(a b c:EF):EF:=λρ=>(a ρ).bind λx=>(b ρ).bind λy=>(f x y).bind λz=>(l9 z).bind λk=>if k=ae then(c ρ).bind λw=>g y w else aa (.bl ag)
noncomputable def GL(g:Int->Int->D):D->D->Option D
 |.int i,.int j=>aa (g i j)
 |_,_=>af
noncomputable def jT(c:Int->Int->Bool)(g:Int->Int->D):D->D->Option D
 |.int i,.int j=>if c i j=ae then aa (g i j) else af
 |_,_=>af
noncomputable def dI:D->D->Option D
 |.int i,.int j=>aa (.int (i+j))
 |.lst a,.lst b=>if a.length+b.length<=lP then aa (.lst (a++b)) else af
 |.tup a,.tup b=>if a.length+b.length<=lP then aa (.tup (a++b)) else af
 |.str a,.str b=>if a.length+b.length<=lP then aa (.str (a++b)) else af
 |_,_=>af
def mD:D->D->Option D:=GL λi j=>.int (i-j)
def C9(i j:Int):Bool:=Zv (i.natAbs<18446744073709551616)||Zv (j.natAbs<18446744073709551616)||Zv (i.natAbs.log2+j.natAbs.log2<=134217700)
def mulM:D->D->Option D:=jT C9 λi j=>.int (i*j)
def eS:D->D->Option D:=jT (λ_ j=>Zv (0<j)) λi j=>.int (i%j)
def A2:D->D->Option D:=jT (λ_ j=>Zv (0<j)&&Zv (j.natAbs<1073741824)) λi j=>.int (i/j)
def uW:D->D->Option D:=jT (λi j=>Zv (0<=j)&&Zv (j.natAbs<=1000000)&&Zv (i.natAbs<18446744073709551616)) λi j=>.int (i^j.toNat)
def O6:D->D->Option D:=GL λi j=>.bl (Zv (i<j))
def leM:D->D->Option D:=GL λi j=>.bl (Zv (i<=j))
def gtM:D->D->Option D:=GL λi j=>.bl (Zv (j<i))
def geM:D->D->Option D:=GL λi j=>.bl (Zv (j<=i))
noncomputable def Ci:D->D->Option Bool
 |.int i,.int j=>aa (Zv (i=j))
 |.bl i,.bl j=>aa (Zv (i=j))
 |.str i,.str j=>aa (Zv (i=j))
 |.non,.non=>aa ae
 |_,_=>af
def kJ:D->D->Option D:=λx y=>(Ci x y).map .bl
def V0:D->D->Option D:=λx y=>(Ci x y).map λb=>.bl (!b)
noncomputable def uX:D->Bool
 |.non=>ae
 |_=>ag
def V1:D->D->Option D:=λx y=>if uX y=ae then aa (.bl (uX x)) else af
noncomputable def intsOf:List D->Option (List Int)
 |[]=>aa []
 |.int i::ds=>(intsOf ds).map (i :: ·)
 |_::_=>af
noncomputable def sM:List D->Option (List Bool)
 |[]=>aa []
 |.bl i::ds=>(sM ds).map (i :: ·)
 |_::_=>af
def sN(neg:Bool):D->D->Option D
 |.int i,.tup ds=>(intsOf ds).map λns=>.bl (if neg then !ns.contains i else ns.contains i)
 |.int i,.lst ds=>(intsOf ds).map λns=>.bl (if neg then !ns.contains i else ns.contains i)
 |_,_=>af
def O7(n:Nat)(i:Int):Option Nat:=if 0<=i then(if i<n then aa i.toNat else af) else if -(n:Int)<=i then aa (i+n).toNat else af
def uC{α:Type}(xs:List α)(i:Int):Option α:=(O7 xs.length i).bind λj=>xs[j]?
noncomputable def dZ:D->D->Option D
 |.lst a,.int i=>uC a i
 |.tup a,.int i=>uC a i
 |.pJ a,.int i=>(uC a i).map D.int
 |_,_=>af
noncomputable def uY:D->Option (Sum Int aj)
 |.int i=>aa (.inl i)
 |.str x=>aa (.inr x)
 |_=>af
def kC(ks:List (Sum Int aj))(ds:List D)(k:Sum Int aj):Option D:=((ks.zip ds).find? λkv=>Zv (kv.1=k)).map (·.2)
def uZ:D->D->Option D
 |.kA ks ds,d=>(uY d).bind λk=>kC ks ds k
 |_,_=>af
def aG:AF:=λ_=>aa []
def aA(a:EF)(t:AF):AF:=λρ=>(a ρ).bind λd=>(t ρ).bind λds=>aa (d::ds)
def iH(t:AF):EF:=λρ=>(t ρ).bind λds=>if ds.length<=lP then aa (.tup ds) else af
def iI(t:AF):EF:=λρ=>(t ρ).bind λds=>if ds.length<=lP then aa (.lst ds) else af
def eP(g:List D->Option D)(t:AF):EF:=λρ=>(t ρ).bind g
noncomputable def yC:M D->Option D
 |.ok d=>aa d
 |_=>af
def aT(R:n6)(t:AF):EF:=λρ=>(t ρ).bind λds=>yC (R ds)
noncomputable def eL:List D->Option D
 |[.lst a]=>aa (.int a.length)
 |[.tup a]=>aa (.int a.length)
 |[.pJ a]=>aa (.int a.length)
 |_=>af
noncomputable def gO:List D->Option D
 |[.lst a]=>aa (.tup a)
 |[.tup a]=>aa (.tup a)
 |_=>af
noncomputable def DA:List D->Option D
 |[.lst a]=>aa (.lst a)
 |[.tup a]=>aa (.lst a)
 |_=>af
noncomputable def insI(a:Int):List Int->List Int
 |[]=>[a]
 |b::l=>if a<=b then a::b::l else b::insI a l
def sortI:List Int->List Int
 |[]=>[]
 |a::l=>insI a (sortI l)
def kD:List D->Option D
 |[.lst a]=>(intsOf a).bind λns=>if ns.length<64 then aa (.lst ((sortI ns).map D.int)) else af
 |_=>af
def yD:List D->Option D
 |[.lst a]=>(intsOf a).map λns=>.int ns.sum
 |_=>af
def qX:List D->Option (List Bool)
 |[]=>aa []
 |d::ds=>(lR d).bind λb=>(qX ds).map (b :: ·)
def allM:List D->Option D
 |[.lst a]=>(qX a).map λbs=>.bl (bs.all id)
 |_=>af
noncomputable def tyM:D->String
 |.non => "NoneType"
 |.bl _ => "bool"
 |.int _ => "int"
 |.str _ => "str"
 |.tup _ => "tuple"
 |.lst _ => "list"
 |.pJ _ => "list"
 |.kA _ _ => "dict"
 |.b7 _ _ _ => "dict"
 |.exc _ _ => "NoneType"
 |.rws _ => "NoneType"
def GN(T:String)(d:D):Bool:=tyM d == T||(T == "int"&&tyM d == "bool")
noncomputable def GO:D->Bool
 |.exc _ _=>ag
 |.b7 _ _ _=>ag
 |.rws _=>ag
 |_=>ae
def jD(T:String)(a:EF):EF:=λρ=>(a ρ).bind λd=>if GO d=ae then aa (.bl (GN T d)) else af
def bJ(lo:Int)(n:Nat):List Int:=(de n).map λk:Nat=>lo+(k:Int)
def Qh(hi:Int)(n:Nat):List Int:=(de n).map λk:Nat=>hi-(k:Int)
noncomputable def qY(t:AF):EF:=λρ=>(t ρ).bind λds=>match ds with
 |[.int j]=>if j.natAbs<=16777216 then aa (.lst ((bJ 0 j.toNat).map D.int)) else af
 |_=>af
noncomputable def sO:D->D->Option D
 |.tup a,.int n=>if a.length*n.toNat<=lP/\n.natAbs<9223372036854775808 then aa (.tup (cc n.toNat a).flatten) else af
 |_,_=>af
noncomputable def DB:D->D->Option D
 |.lst a,.lst b=>if a.length+b.length<=lP then aa (.lst (a++b)) else af
 |_,_=>af
noncomputable def DC:D->Option (List D)
 |.lst ds=>aa ds
 |.tup ds=>aa ds
 |_=>af
def cU(f:EF):AF:=λρ=>(f ρ).bind DC
noncomputable def GP:List D->Option (List D)
 |[.int j]=>if j.natAbs<4611686018427387904 then aa ((bJ 0 j.toNat).map D.int) else af
 |[.int i,.int j]=>if i.natAbs<4611686018427387904/\j.natAbs<4611686018427387904 then aa ((bJ i (j-i).toNat).map D.int) else af
 |[.int i,.int j,.int k]=>if k=-1/\i.natAbs<1000000/\j.natAbs<1000000 then aa ((Qh i (i-j).toNat).map D.int) else af
 |_=>af
def cJ(t:AF):AF:=λρ=>(t ρ).bind GP
noncomputable def JR:List D->Option (List D)
 |[.lst ds]=>aa (ds.zipIdx.map λp=>.tup [.int (p.2:Int),p.1])
 |[.tup ds]=>aa (ds.zipIdx.map λp=>.tup [.int (p.2:Int),p.1])
 |_=>af
def pL(t:AF):AF:=λρ=>(t ρ).bind JR
def Qg:List D->Option (List D)
 |[a,b]=>(DC a).bind λxs=>(DC b).map λys=>(xs.zip ys).map λp=>.tup [p.1,p.2]
 |_=>af
def wd(t:AF):AF:=λρ=>(t ρ).bind Qg
noncomputable def wc:List D->Option (List D)
 |[.lst ds]=>aa ds.reverse
 |[.tup ds]=>aa ds.reverse
 |_=>af
def wb(t:AF):AF:=λρ=>(t ρ).bind wc
abbrev GEF:=D->cM->Option cM
def g1(i:Nat):GEF:=λd ρ=>aa (ρ.set i (aa d))
noncomputable def yV:D->Option (D×D)
 |.tup [x,y]=>aa (x,y)
 |_=>af
def g2(i j:Nat):GEF:=λd ρ=>(yV d).map λp=>(ρ.set i (aa p.1)).set j (aa p.2)
def dJ:TF:=λ_=>aa ae
def benv(nl:Nat)(fr:List Nat)(ρ:cM):cM:=cc nl af++fr.map λj=>(ρ[j]?).join
noncomputable def jU(g:GEF)(t:TF)(e:EF)(ρ:cM):List D->Option (List D)
 |[]=>aa []
 |d::ds=>(g d ρ).bind λρ1=>(t ρ1).bind λb=>if b=ae then(e ρ1).bind λy=>(jU g t e ρ ds).map (y :: ·) else jU g t e ρ ds
def cK(nl:Nat)(fr:List Nat)(it:AF)(g:GEF)(t:TF)(e:EF):EF:=λρ=>(it ρ).bind λds=>if ds.length<=lP then(jU g t e (benv nl fr ρ) ds).map D.lst else af
abbrev OF:=cM->Option (Option Int)
def u3:OF:=λ_=>aa af
noncomputable def asInt:D->Option Int
 |.int i=>aa i
 |_=>af
def oE(f:EF):OF:=λρ=>(f ρ).bind λd=>(asInt d).map aa
noncomputable def PH(n d:Nat):Option Int->Nat
 |none=>d
 |some i=>if i<0 then(i+n).toNat else min i.toNat n
def yE(xs:List D)(lo hi:Option Int):List D:=(xs.drop (PH xs.length 0 lo)).take (PH xs.length xs.length hi-PH xs.length 0 lo)
def slM(d:D)(lo hi:Option Int):Option D:=match d with
 |.lst ds=>aa (.lst (yE ds lo hi))
 |.tup ds=>aa (.tup (yE ds lo hi))
 |_=>af
def u4(f:EF)(lo hi:OF):EF:=λρ=>(f ρ).bind λd=>(lo ρ).bind λl=>(hi ρ).bind λh=>slM d l h
def pM(f:EF):XF:=λρ=>(f (bK ρ)).bind λd=>if d.A1=ae then aa (ρ,d) else af
def b8(f:EF):XF:=λρ=>(f (gQ ρ)).bind λd=>aa (ρ,d)
noncomputable def oB:Option Sv->Option (List D)
 |some (.ow (.lst ds))=>aa ds
 |_=>af
def tQ(i:Nat)(m:List D->D->Option (List D×D))(x:XF):XF:=λρ=>(oB ρ[i]?).bind λ_=>(x ρ).bind λp=>(oB p.1[i]?).bind λds=>(m ds p.2).map λq=>(p.1.set i (.ow (.lst q.1)),q.2)
def mE:List D->D->Option (List D×D):=λds d=>if ds.length<lP then aa (ds++[d],.non) else af
noncomputable def V2:List D->D->Option (List D×D)
 |ds,.int k=>if k.natAbs<9223372036854775808 then(O7 ds.length k).bind λj=>(ds[j]?).map λd=>(ds.eraseIdx j,d) else af
 |_,_=>af
noncomputable def MF:List D->D->Option (List D×D)
 |ds,.lst es=>if ds.length+es.length<=lP then aa (ds++es,.non) else af
 |_,_=>af
def eZ:SF:=λρ=>.nx ρ
noncomputable def aM(f g:SF):SF:=λρ=>match f ρ with
 |.nx ρ'=>g ρ'
 |o=>o
def cB(f:EF):SF:=λρ=>match f (bK ρ) with
 |some d=>.rt d
 |none=>.no
def iT(t:TF)(a b:SF):SF:=λρ=>match t (bK ρ) with
 |some ae=>a ρ
 |some ag=>b ρ
 |none=>.no
def bP(i:Nat)(f:EF):SF:=λρ=>match f (gQ ρ) with
 |some d=>.nx (ρ.set i (.ro d))
 |none=>.no
noncomputable def PJ(i:Nat)(x:XF):SF:=λρ=>match x ρ with
 |some p=>.nx (p.1.set i (.ro p.2))
 |none=>.no
def oC(i:Nat)(f:EF):SF:=λρ=>match f (gQ ρ) with
 |some d=>.nx (ρ.set i (.ow d))
 |none=>.no
def mF:D->Bool
 |.lst ds=>pK ds
 |_=>ag
def sP(i:Nat)(f:EF):SF:=λρ=>match f (bK ρ) with
 |some d=>if mF d=ae then .nx (ρ.set i (.ow d)) else .no
 |none=>.no
def mB(i:Nat)(f:EF):SF:=λρ=>match f (bK ρ) with
 |some d=>if mF d=ae then .nx (ρ.set i (.ro d)) else .no
 |none=>.no
def DD(i:Nat):SF:=λρ=>.nx (ρ.set i (.ow (.kA [] [])))
noncomputable def sX(x:XF):SF:=λρ=>match x ρ with
 |some p=>.nx p.1
 |none=>.no
def DF(i:Nat)(x:XF)(k:EF):SF:=λρ=>match ((x ρ).bind λp=>(oB p.1[i]?).bind λds=>(k (bK p.1)).bind λkd=>(asInt kd).bind λkk=>(O7 ds.length kk).map λj=>p.1.set i (.ow (.lst (ds.set j p.2)))) with
 |some ρ'=>.nx ρ'
 |none=>.no
noncomputable def u5:Option Sv->Option (List (Sum Int aj)×List D)
 |some (.ow (.kA ks ds))=>aa (ks,ds)
 |_=>af
def JS(i:Nat)(x:XF)(k:EF):SF:=λρ=>match ((x ρ).bind λp=>(u5 p.1[i]?).bind λkd=>(k (bK p.1)).bind λkv=>(uY kv).bind λkk =>
  if(kC kd.1 kd.2 kk).isNone=ae/\kd.2.length<lP then aa (p.1.set i (.ow (.kA (kd.1++[kk]) (kd.2++[p.2])))) else af) with
 |some ρ'=>.nx ρ'
 |none=>.no
abbrev GSF:=D->bT->Option bT
def GH(i:Nat):GSF:=λd ρ=>aa (ρ.set i (.ro d))
def PK(i j:Nat):GSF:=λd ρ=>(yV d).map λp=>(ρ.set i (.ro p.1)).set j (.ro p.2)
noncomputable def i8(g:GSF)(b:SF):List D->bT->Out
 |[],ρ=>.nx ρ
 |d::ds,ρ=>match g d ρ with
  |none=>.no
  |some ρ1=>match b ρ1 with
   |.nx ρ2=>i8 g b ds ρ2
   |o=>o
def jV(it:AF)(g:GSF)(b:SF):SF:=λρ=>match it (gQ ρ) with
 |some ds=>i8 g b ds ρ
 |none=>.no
def dW(n:Nat)(ds:List D):bT:=ds.map Sv.ro++cc (n-ds.length) Sv.no
noncomputable def dE(n np:Nat)(b:SF):n6:=λds=>if ds.length=np then(match b (dW n ds) with
 |.rt d=>.ok d
 |.nx _=>.ok .non
 |.ex c=>.ex c
 |.no=>.no) else .no
noncomputable def dY:List Int->List Int->Bool
 |[],[]=>ag
 |[],_::_=>ae
 |_::_,[]=>ag
 |a::as,b::bs=>if a=b then dY as bs else Zv (a<b)
def MG(t:Q0e):List (List Int)->List (List Int)
 |[]=>[t]
 |u::us=>if dY u t=ae then u::MG t us else t::u::us
def sQ:List (List Int)->List (List Int)
 |[]=>[]
 |t::ts=>MG t (sQ ts)
def pN(t:Q0e):D:=.tup (t.map D.int)
def Cg:D->Option (List Int)
 |.tup ds=>intsOf ds
 |_=>af
def oD:List D->Option (List (List Int))
 |[]=>aa []
 |d::ds=>(Cg d).bind λt=>(oD ds).map (t :: ·)
def oF:List D->Option D
 |[.lst a]=>(oD a).bind λts=>if ts.length<64/\ts.all (λt=>!t.isEmpty)=ae then aa (.lst ((sQ ts).map pN)) else af
 |_=>af
theorem GQ:∀a b:Q0e,dY a b=ae->dY b a=ag
 |[],[],h=>by cases h
 |[],_::_,_=>rfl
 |_::_,[],h=>by cases h
 |a::as,b::bs,h=>by
  unfold dY at h ⊢;by_cases e:a=b
  .rw [Z_ e] at h;rw[Z_ e.symm];show GQ as bs h
  .rw [Zz e] at h;rw[Zz (fj e)];simp at h ⊢;lia
theorem GR:∀a b c:Q0e,dY b a=ag->dY c b=ag->dY c a=ag
 |[],[],c,h1,h2=>h2
 |[],b::bs,[],h1,h2=>rfl
 |[],b::bs,c::cs,h1,h2=>rfl
 |a::as,[],c,h1,h2=>by cases h1
 |a::as,b::bs,[],h1,h2=>by cases h2
 |a::as,b::bs,c::cs,h1,h2=>by
  unfold dY at h1 h2 ⊢;by_cases e1:b=a
  .subst e1;rw[Z_ rfl] at h1;by_cases e2:c=b
   .subst e2;rw[Z_ rfl] at h2 ⊢;show GR as bs cs h1 h2
   .rw [Zz e2] at h2 ⊢;show h2
  .rw [Zz e1] at h1;by_cases e2:c=b
   .subst e2;rw[Zz e1];show h1
   .rw [Zz e2] at h2;simp at h1 h2;rw[Zz ∅];simp;lia
theorem A3:∀a b:Q0e,dY a b=ag->dY b a=ag->a=b
 |[],[],_,_=>rfl
 |[],_::_,h1,_=>by cases h1
 |_::_,[],_,h2=>by cases h2
 |a::as,b::bs,h1,h2=>by
  unfold dY at h1 h2;by_cases e:a=b
  .subst e;rw[Z_ rfl] at h1 h2;rw[A3 as bs h1 h2]
  .rw [Zz e] at h1;rw[Zz (fj e)] at h2;simp at h1 h2;lia
theorem qZ(t:Q0e):∀l,(MG t l).Perm (t::l)
 |[]=>.refl _
 |u::us=>by
  unfold MG;by_cases h:dY u t=ae
  .rw [Z_ h];show((qZ t us).cons u).trans (.swap t u us)
  .rw [Zz h]
theorem lS:∀l,(sQ l).Perm l
 |[]=>.refl _
 |t::ts=>(qZ t _).trans ((lS ts).cons t)
def UpT(l:Q0a):Prop:=l.Pairwise λa b=>dY b a=ag
theorem JT(t:Q0e):∀l,UpT l->UpT (MG t l)
 |[],_=>List.pairwise_singleton _ _
 |u::us,h=>by
  have⟨h1,h2⟩:=f_.mp h;unfold MG;by_cases e:dY u t=ae
  .rw [Z_ e];show f_.mpr ⟨λx hx=>?_,JT t us h2⟩;rcases bz.mp ((qZ t us).mem_iff.mp hx) with rfl|hx
   .exact GQ _ _ e
   .exact h1 x hx
  .rw [Zz e];have e:dY u t=ag:=by simpa using e
   show f_.mpr ⟨λx hx=>?_,h⟩;rcases(bz.mp hx:x=u\/x∈us) with rfl|hx
   .exact e
   .exact GR t u x e (h1 x hx)
theorem DG:∀l,UpT (sQ l)
 |[]=>.nil
 |t::ts=>JT t _ (DG ts)
theorem JU:∀{l m:Q0a},l.Perm m->UpT l->UpT m->l=m
 |[],m,p,_,_=>by rw[List.nil_perm.mp p]
 |a::l,[],p,_,_=>by have:=p.length_eq;simp at this
 |a::l,b::m,p,h1,h2=>by
  obtain⟨a1,a2⟩:=f_.mp h1;obtain⟨b1,b2⟩:=f_.mp h2;have e:a=b:=by
   have ha:=bz.mp (p.mem_iff.mp cx);have hb:=bz.mp (p.mem_iff.mpr cx);rcases ha with h|h
   .exact h
   .rcases hb with h' | h'
    .exact h'.symm
    .exact A3 _ _ (b1 a h) (a1 b h')
  subst e;rw[JU p.cons_inv a2 b2]
abbrev RF:=cM->Option aj
noncomputable def A_:M D->Option aj
 |.ex c=>aa c
 |_=>af
def DH(R:n6)(t:AF):RF:=λρ=>(t ρ).bind λds=>A_ (R ds)
def DI(r:RF)(f:SF):SF:=λρ=>match r (bK ρ) with
 |some c=>.ex c
 |none=>f ρ
def uD(t:AF)(c:aj):SF:=λρ=>match t (bK ρ) with
 |some ds=>if ds.length<=10 then .ex c else .no
 |none=>.no
noncomputable def cC(c:aj)(e:Nat)(b:Bool)(i:Nat):EF:=λρ=>match aB i ρ with
 |some (.exc c' a)=>if c'=c/\a=e then aa (.bl b) else af
 |_=>af
theorem JV(h:cC c e b i ρ=aa d):aB i ρ=aa (.exc c e)/\d=.bl b:=by
 unfold cC at h;split at h
 .rename_i c' a q;by_cases z:c'=c/\a=e
  .rw [Z_ z] at h;cases h;rw[q,z.1,z.2];show⟨rfl,rfl⟩
  .rw [Zz z] at h;cases h
 .cases h
def JW:D->D->Option D:=jT (λi j=>Zv (0<=j)&&Zv (j<=100)&&Zv (i.natAbs<2^1000)) λi j=>.int (i^j.toNat)
noncomputable def splitM:D->D->Option D
 |.str x,.str y=>if x.length+2<=lP/\(y.length == 0)=ag then aa (.lst ((n_ x y).map D.str)) else af
 |_,_=>af
noncomputable def aKd:D->Option D
 |.lst ds=>aa (.lst ds.reverse)
 |_=>af
noncomputable def GS(x:XF)(g:GSF):SF:=λρ=>match (x ρ).bind λp=>g p.2 p.1 with
 |some ρ'=>.nx ρ'
 |none=>.no
def Az:D->D->Option Bool
 |.lst a,.lst b=>(intsOf a).bind λx=>(intsOf b).map λy=>Zv (x=y)
 |_,_=>af
def MH:D->D->Option D:=λx y=>(Az x y).map λb=>.bl (!b)
noncomputable def GU:List Int->Int
 |[]=>0
 |a::l=>l.foldl (λm b=>if m<b then b else m) a
noncomputable def PM(f:SF):SF:=λρ=>match f ρ with
 |.ex _=>.no
 |o=>o
def mG:List D->Option D
 |[.tup ds]=>(intsOf ds).bind λns=>if ns.length<64 then aa (.lst ((sortI ns).map D.int)) else af
 |_=>af
abbrev iV:Nat->ax->Prop:=λ_ _=>True
def adr(q:Nat->ax->Prop):Nat->ax->Prop:=λa _=>∃o,q a o
abbrev MI:=Sum Int aj
abbrev PN1:=List (Sum MI (List MI))
abbrev x5:=Sum MI PN1
def PN:List D->Option (List MI)
 |[]=>aa []
 |d::ds=>(uY d).bind λk=>(PN ds).map (k :: ·)
def Cf:D->Option (Sum MI (List MI))
 |.tup ds=>(PN ds).map .inr
 |d=>(uY d).map .inl
def rA:List D->Option PN1
 |[]=>aa []
 |d::ds=>(Cf d).bind λk=>(rA ds).map (k :: ·)
def mH:D->Option x5
 |.tup ds=>(rA ds).map .inr
 |d=>(uY d).map .inl
def bS(ks:List x5)(ds:List D)(k:x5):Option D:=((ks.zip ds).find? λp=>Zv (p.1=k)).map (·.2)
def kindB(ks:List x5)(k:x5):Bool:=ks.all λq=>q.isLeft == k.isLeft
def A4:D->D->Option D
 |.b7 _ ks ds,d=>(mH d).bind λk=>if kindB ks k=ae then bS ks ds k else af
 |_,_=>af
def MJ(neg:Bool):D->D->Option D
 |d,.b7 _ ks ds=>(mH d).bind λk=>if kindB ks k=ae then aa (.bl (if neg then !(bS ks ds k).isSome else(bS ks ds k).isSome)) else af
 |_,_=>af
def fT(ks:List x5)(ds:List D)(k:x5)(v:D):List x5×List D :=
 if ks.any (λq=>Zv (q=k))=ae then(ks,(ks.zip ds).map λp=>if p.1=k then v else p.2) else(ks++[k],ds++[v])
noncomputable def DJ:Option Sv->Option ((Nat->ax->Prop)×List x5×List D)
 |some (.ow (.b7 q ks ds))=>aa (q,ks,ds)
 |_=>af
def Ce(i:Nat):SF:=λρ=>.nx (ρ.set i (.ow (.b7 iV [] [])))
def A5(i:Nat)(k v:EF):SF:=λρ=>match (k (gQ ρ)).bind λkd=>(v (gQ ρ)).bind λd=>(mH kd).map λkk=>(kk,d) with
 |some p=>.nx (ρ.set i (.ow (.b7 iV [p.1] [p.2])))
 |none=>.no
def mI(i:Nat)(x:XF)(k:EF):SF:=λρ=>match ((x ρ).bind λp=>(DJ p.1[i]?).bind λkd=>(k (bK p.1)).bind λkv=>(mH kv).bind λkk =>
  if kindB kd.2.1 kk=ae/\kd.2.2.length<lP then aa (p.1.set i (.ow (.b7 (adr kd.1) (fT kd.2.1 kd.2.2 kk p.2).1 (fT kd.2.1 kd.2.2 kk p.2).2))) else af) with
 |some ρ'=>.nx ρ'
 |none=>.no
abbrev KD:=List x5×List D
abbrev O8:=List D->KD->M (D×KD)
def startM(n:Nat)(ds:List D)(q:Nat->ax->Prop)(kd:KD):bT:=ds.map Sv.ro++Sv.ow (.b7 q kd.1 kd.2)::cc (n-(ds.length+1)) Sv.no
def V3(j:Nat)(k:EF)(q:Nat->ax->Prop):bT->Option (D×KD):=λρ=>(DJ ρ[j]?).bind λkd=>(k (gQ ρ)).bind λkv=>(mH kv).bind λkk=>@ite _ (kindB kd.2.1 kk=ae /\∀a o,kd.1 a o ->∃o2,q a o2) (Gq _) ((bS kd.2.1 kd.2.2 kk).map λd=>(d,kd.2)) af
def u6(n np:Nat)(b:SF)(k:EF)(q:Nat->ax->Prop)(ds:List D)(kd:KD):Option (D×KD):=if ds.length+1=np then(match b (startM n ds q kd) with
 |.nx ρ=>V3 (np-1) k q ρ
 |_=>af) else af
def runM(n np:Nat)(b:SF)(k:EF):O8:=λds kd=>@dite _ (∃r,∀q,u6 n np b k q ds kd=aa r) (Gq _) (λh=>.ok h.choose) λ_=>.no
def JX(h:runM n np b k ds kd=.ok r)(q:Nat->ax->Prop):u6 n np b k q ds kd=aa r:=by
 unfold runM at h;split at h
 .rename_i hx;cases h;show hx.choose_spec q
 .cases h
theorem V4(h:∀q,u6 n np b k q ds kd=aa r):runM n np b k ds kd=.ok r:=by have hx:∃r,∀q,u6 n np b k q ds kd=aa r:=⟨r,h⟩;unfold runM;rw[dif_pos hx];have e:=hx.choose_spec iV;rw[h iV] at e;rw[fg e]
def stepM(R:O8)(t:AF)(j:Nat)(ρ:bT):Option ((Nat->ax->Prop)×D×KD):=(t (gQ ρ)).bind λds=>(DJ ρ[j]?).bind λkd=>match R ds kd.2 with
 |.ok r=>aa (kd.1,r)
 |_=>af
def V5(R:O8)(t:AF)(j:Nat):SF:=λρ=>match stepM R t j ρ with
 |some r=>.nx (ρ.set j (.ow (.b7 (adr r.1) r.2.2.1 r.2.2.2)))
 |none=>.no
def nnC(i j:Int):Bool:=Zv (0<=i)&&Zv (0<=j)
def A6:D->D->Option D:=jT (λi j=>Zv (0<=j)&&Zv (j.natAbs<=1000000)&&Zv (i.natAbs<18446744073709551616)) λi j=>.int (i*2^j.toNat)
def GV:D->D->Option D:=jT (λ_ j=>Zv (0<=j)) λi j=>.int (i/2^j.toNat)
def mJ:D->D->Option D:=jT nnC λi j=>.int ((i.toNat &&& j.toNat:Nat):Int)
def V6:D->D->Option D:=jT nnC λi j=>.int ((i.toNat ||| j.toNat:Nat):Int)
def JY:List D->Option D
 |[.lst ds]=>(intsOf ds).bind λns=>if ns=[] then af else aa (.int (GU ns))
 |_=>af
noncomputable def sR(fb:SF)(fh:aj->Option bT)(fr:SF):SF:=λρ=>match fb ρ with
 |.ex c=>(match fh c with
  |some ρ1=>(match fr ρ1 with
   |.rt d=>.rt d
   |_=>.no)
  |none=>.no)
 |.nx ρ'=>fr ρ'
 |.rt d=>.rt d
 |.no=>.no
def uE:D->D->Option D
 |.lst ds,.bl ae=>(sM ds).map λbs=>.int ((bs.filter id).length:Nat)
 |_,_=>af
def uF:D->D->Option D
 |.lst ds,.bl ae=>(sM ds).bind λbs=>(bs.findIdx? id).map λi:Nat=>.int (i:Int)
 |_,_=>af
def MK:D->D->Option D
 |.tup a,.tup b=>(intsOf a).bind λx=>(intsOf b).map λy=>.bl (dY x y)
 |_,_=>af
noncomputable def aKf:List D->Option (List D)
 |[.tup xs,.tup ys]=>aa ((xs.zip ys).map λp=>.tup [p.1,p.2])
 |_=>af
def JZ:D->D->Option D
 |.tup ds,.int i=>(intsOf ds).bind λns=>if ns.contains i=ae then aa (.int ((ns.idxOf i:Nat):Int)) else af
 |_,_=>af
end L4
namespace Ord
structure Rows (rows:Q0a):Prop where
 up:∀(b:Nat) (r:Q0e),rows[b]?=aa r->r.Pairwise (·<·)
 rng:∀(b:Nat) (r:Q0e),rows[b]?=aa r ->∀a∈r,0<=a/\a<(rows.length:Int)
 tr:∀(b a:Nat) (r v:Q0e),rows[b]?=aa r->(a:Int)∈r->rows[a]?=aa v ->∀c∈v,c∈r
 PQ:∀(b:Nat) (r:Q0e),rows[b]?=aa r->(b:Int)∉r
theorem u7{α:Type}:∀(l:List α) (j:Nat) (x:α),l[j]?=aa x->(x::l.eraseIdx j).Perm l
 |[],j,x,h=>by simp at h
 |a::l,0,x,h=>by simp at h;subst h;simp
 |a::l,j+1,x,h=>by have ih:=u7 l j x (by simpa using h);rw[List.eraseIdx_cons_succ];show(a3P a x _).trans (ih.cons a)
def A7{l:Q0e}(p:Int->Bool)(h:l.Nodup):(l.filter p).Nodup:=qp p h
def Under(Ξ:Q0e)(us:Q0a)(t:Nat)(u:Q0e):Prop :=
 u.Nodup /\∀a∈u,∃(s:Nat) (v:Q0e),s<t/\Ξ[s]?=aa a/\us[s]?=aa v /\∀c∈v,c∈u
def Good(Ξ:Q0e)(us:Q0a):Prop:=∀(t:Nat) (u:Q0e),us[t]?=aa u->Under Ξ us t u
def Under.mono(h:Under Ξ us t u)(ht:t<=t'):Under Ξ us t' u :=
 ⟨h.1,λa ha=>by obtain⟨s,v,h1,h2,h3,h4⟩:=h.2 a ha;show⟨s,v,by lia,h2,h3,h4⟩⟩
def vA{Ξ:Q0e}(h:Ξ.Nodup){i j:Nat}{a:Int}(hi:Ξ[i]?=aa a)(hj:Ξ[j]?=aa a):i=j:=by obtain⟨h1,e1⟩:=cz.mp hi;obtain⟨h2,e2⟩:=cz.mp hj;show(a2l h).mp (e1.trans e2.symm)
theorem Under.step{Ξ:Q0e}{us:Q0a}{i:Nat}{u v:Q0e}{x:Int}(hw:Ξ.Nodup)(g:Good Ξ us)(h:Under Ξ us i u)(hx:Ξ[i]?=aa x)(hv:us[i]?=aa v):
  Under Ξ us (i+1) (u++(v++[x]).filter λa=>!u.contains a):=by
 have gv:=g i v hv;have mem:∀c,c∈v++[x]->c∈u++(v++[x]).filter λa=>!u.contains a:=λc hc=>by
  by_cases hu:c∈u
  .exact gx _ hu
  .exact ir _ (gw.mpr ⟨hc,by simpa using hu⟩)
 have nv:(v++[x]).Nodup:=by show lr.mpr ⟨gv.1,by simp,λa ha b hb e=>?_⟩;have hb:=cu.mp hb;subst hb;subst e;obtain⟨s,_,h1,h2,_⟩:=gv.2 a ha;have:=vA hw h2 hx;lia
 show⟨lr.mpr ⟨h.1,A7 _ nv,λa ha b hb e=>?_⟩,λa ha=>?_⟩
 .subst e;have:=(gw.mp hb).2;simp at this;show this ha
 .rcases gn.mp ha with h1|h1
  .obtain ⟨s,z,a1,a2,a3,a4⟩:=h.2 a h1;show⟨s,z,by lia,a2,a3,λc hc=>gx _ (a4 c hc)⟩
  .rcases gn.mp (gw.mp h1).1 with h2|h2
   .obtain ⟨s,z,a1,a2,a3,a4⟩:=gv.2 a h2;show⟨s,z,by lia,a2,a3,λc hc=>mem c (gx _ (a4 c hc))⟩
   .have e:=cu.mp h2;subst e;show⟨i,v,by lia,hx,hv,λc hc=>mem c (gx _ hc)⟩
def Good.snoc(g:Good Ξ us)(h:Under Ξ us us.length u):Good Ξ (us++[u]):=λt z e=>by
 have old:∀{s:Nat} {v:Q0e},us[s]?=aa v->(us++[u])[s]?=aa v:=λ{s v} e=>by rw[j_ (cz.mp e).1];show e
 have up:∀{t:Nat} {z:Q0e},Under Ξ us t z->Under Ξ (us++[u]) t z:=λ{t z} q=>⟨q.1,λa ha=>by obtain⟨s,v,a1,a2,a3,a4⟩:=q.2 a ha;show⟨s,v,a1,a2,old a3,a4⟩⟩;by_cases ht:t<us.length
 .rw [j_ ht] at e;show up (g t z e)
 .have et:t=us.length:=by have:=(cz.mp e).1;simp at this;lia
  subst et;rw[jz (bp _),ya] at e;have e:u=z:=by simpa using e
  subst e;show up h
theorem Good.rows{Ξ:Q0e}{us rows:Q0a}{n:Nat}(g:Good Ξ us)(hu:us.length=n)(hw:Ξ.Perm ((de n).map λk:Nat=>(k:Int)))(hr:rows.length=n)
  (h:∀(b t:Nat) (r u:Q0e),rows[b]?=aa r->Ξ[t]?=aa (b:Int)->us[t]?=aa u->r.Perm u/\r.Pairwise (· <= ·)):Rows rows:=by
 have nd:Ξ.Nodup:=hw.nodup_iff.mpr (by
  show qo _ (λa b hab=>?_) a2g;intro e;show hab ∅)
 have find:∀(b:Nat),b<n ->∃t u,Ξ[t]?=aa (b:Int)/\us[t]?=aa u:=λb hb=>by
  have hm:(b:Int)∈Ξ:=hw.mem_iff.mpr (gm.mpr ⟨b,my.mpr hb,rfl⟩);obtain⟨t,ht⟩:=yi.mp hm;have hl:Ξ.length=n:=by rw[hw.length_eq,bj,oq]
  have:=(cz.mp ht).1;show⟨t,us[t]'∅,ht,cj ∅⟩
 have row:∀(b:Nat) (r:Q0e),rows[b]?=aa r ->∃t u,Ξ[t]?=aa (b:Int)/\us[t]?=aa u/\r.Perm u/\r.Pairwise (· <= ·):=λb r e=>by have hb:=(cz.mp e).1;obtain⟨t,u,h1,h2⟩:=find b ∅;show⟨t,u,h1,h2,h b t r u e h1 h2⟩
 show⟨λb r e=>?_,λb r e a ha=>?_,λb a r v e ha ev c hc=>?_,λb r e hb=>?_⟩
 .obtain ⟨t,u,h1,h2,h3,h4⟩:=row b r e;have n1:r.Nodup:=h3.nodup_iff.mpr (g t u h2).1;show(List.pairwise_and_iff.mpr ⟨h4,n1⟩).imp λq=>by have:=q.1;have:=q.2;lia
 .obtain ⟨t,u,h1,h2,h3,h4⟩:=row b r e;obtain⟨s,z,_,a2,_⟩:=(g t u h2).2 a (h3.mem_iff.mp ha);have hm:=hw.mem_iff.mp (qi a2);obtain⟨k,hk,rfl⟩:=gm.mp hm;have:=my.mp hk;lia
 .obtain ⟨t,u,h1,h2,h3,h4⟩:=row b r e;obtain⟨t2,u2,k1,k2,k3,k4⟩:=row a v ev;obtain⟨s,z,_,a2,a3,a4⟩:=(g t u h2).2 _ (h3.mem_iff.mp ha);have es:=vA nd a2 k1;subst es;rw[k2] at a3;cases a3;show h3.mem_iff.mpr (a4 c (k3.mem_iff.mp hc))
 .obtain ⟨t,u,h1,h2,h3,h4⟩:=row b r e;obtain⟨s,z,a1,a2,_⟩:=(g t u h2).2 _ (h3.mem_iff.mp hb);have:=vA nd a2 h1;lia
noncomputable def tri:Nat->Nat
 |0=>0
 |j+1=>tri j+j
theorem PU(h:i<=j):tri i<=tri j:=by
 induction h with
 |refl=>show bp _
 |step _ ih=>show iq ih (Fi _ _)
def aAy(hj:j<n)(hi:i<j):tri j+i<tri n:=by have:=PU (show j+1<=n by lia);show tri j+i<tri n;have e:tri (j+1)=tri j+j:=rfl;lia
theorem cQ:∀(l m:Q0e),l.Nodup->(∀a∈l,a∈m)->l.length<=m.length
 |[],m,_,_=>jn _
 |a::l,m,h,hs=>by
  obtain⟨h1,h2⟩:=jv.mp h;have ha:=hs a cx;have ih:=cQ l (m.erase a) h2 λb hb=>by have:b≠a:=λe=>h1 (e▸hb);show(List.mem_erase_of_ne this).mpr (hs b (fq _ hb))
  rw[List.length_erase_of_mem ha] at ih;have:0<m.length:=a2j ha;rw[fu];lia
end Ord
namespace LL
open L3 L4
def gI:n6:=dE 2 2
  (aM (iT (tV (aC kJ (eP eL (aA (aB 0) aG)) (eC (.int 0))))
   (cB (eC (.int 0)))
   eZ)
  (cB (aC dZ (aB 0) (aC eS (aB 1) (eP eL (aA (aB 0) aG))))))
def fJ:n6:=dE 5 3
  (aM (bP 3 (aC eS (aC mulM (aC dI (aC dI (aC dI (aB 0) (aC mulM (aC mulM (eC (.int 11)) (aB 1)) (aB 1))) (aC mulM (eC (.int 17)) (aB 1))) (aB 2)) (eC (.int 48271))) (eC (.int 2147483647))))
  (aM (bP 4 (aC eS (aC dI (aC dI (aC mulM (aB 3) (aC dI (aC A2 (aB 3) (eC (.int 4096))) (eC (.int 5)))) (aC mulM (eC (.int 29)) (aB 1))) (aB 2)) (eC (.int 2147483629))))
  (cB (aC eS (aC mulM (aB 4) (eC (.int 39373))) (eC (.int 1000000007))))))
def fK:n6:=dE 6 3
  (aM (oC 3 (iI aG))
  (aM (bP 4 (eC (.int 0)))
  (aM (iT (tV (aC geM (aB 0) (aC uW (eC (.int 10)) (eC (.int 18)))))
   (bP 4 (aB 0))
   eZ)
  (aM (jV (cJ (aA (aB 1) aG)) (GH 5)
   (iT (tV (aC gtM (aB 4) (eC (.int 0))))
    (aM (sX (tQ 3 mE (b8 (aC eS (aB 4) (eC (.int 64))))))
    (bP 4 (aC A2 (aB 4) (eC (.int 64)))))
    (sX (tQ 3 mE (b8 (aT LL.fJ (aA (aB 0) (aA (aB 5) (aA (aB 2) aG)))))))))
  (cB (aB 3))))))
def cL:Nat->n6
 |0=>λ_=>.no
 |n+1=>dE 2 2
  (aM (iT (tV (jD "tuple" (aB 1)))
   (aM (iT (x9 (kB (tV (jD "tuple" (aB 0)))) (tV (aC V0 (eP eL (aA (aB 0) aG)) (eP eL (aA (aB 1) aG)))))
    (cB (eC (.bl ag)))
    eZ)
   (cB (eP allM (aA (cK 1 [0,1] (cJ (aA (eP eL (aA (aB 1) aG)) aG)) (g1 0) dJ (aT (cL n) (aA (aC dZ (aB 1) (aB 0)) (aA (aC dZ (aB 2) (aB 0)) aG)))) aG))))
   eZ)
  (aM (iT (tV (aC V1 (aB 1) (eC .non)))
   (cB (aC V1 (aB 0) (eC .non)))
   eZ)
  (aM (iT (tV (jD "bool" (aB 1)))
   (cB (kG (jD "bool" (aB 0)) (aC kJ (aB 0) (aB 1))))
   eZ)
  (aM (iT (tV (jD "int" (aB 1)))
   (cB (kG (jD "int" (aB 0)) (kG (yA (jD "bool" (aB 0))) (aC kJ (aB 0) (aB 1)))))
   eZ)
  (cB (kG (jD "str" (aB 0)) (aC kJ (aB 0) (aB 1))))))))
def kT:n6:=dE 11 3
  (aM (oC 3 (qY (aA (aB 1) aG)))
  (aM (oC 4 (iI aG))
  (aM (jV (cJ (aA (aB 1) aG)) (GH 5)
   (sX (tQ 4 mE (tQ 3 V2 (pM (aC eS (aC dZ (aB 0) (aB 5)) (eP eL (aA (aB 3) aG))))))))
  (aM (DD 6)
  (aM (bP 7 (aB 1))
  (aM (jV (cJ (aA (aB 1) aG)) (GH 8)
   (aM (bP 9 (iI aG))
   (aM (jV (cJ (aA (aB 8) aG)) (GH 10)
    (aM (iT (tV (aC O6 (aC eS (aC dZ (aB 0) (aB 7)) (eC (.int 4))) (aB 2)))
     (mB 9 (aC DB (aB 9) (cK 1 [9] (cU (aC dI (aC uZ (aB 6) (aC dZ (aB 4) (aB 10))) (iI (aA (aC dZ (aB 4) (aB 10)) aG)))) (g1 0) (tV (aC (sN ae) (aB 0) (aB 1))) (aB 0))))
     eZ)
    (bP 7 (aC dI (aB 7) (eC (.int 1))))))
   (JS 6 (b8 (aB 9)) (aC dZ (aB 4) (aB 8))))))
  (cB (eP gO (aA (cK 1 [6] (cJ (aA (aB 1) aG)) (g1 0) dJ (eP gO (aA (eP kD (aA (aC uZ (aB 1) (aB 0)) aG)) aG))) aG)))))))))
def kU:n6:=dE 7 4
  (aM (bP 4 (aT LL.fK (aA (aT LL.gI (aA (aB 0) (aA (aB 1) aG))) (aA (eC (.int 4)) (aA (aB 3) aG)))))
  (aM (bP 5 (aC eS (aC dZ (aB 4) (eC (.int 0))) (aC dI (aB 2) (eC (.int 1)))))
  (aM (bP 6 (aT LL.fK (aA (aT LL.gI (aA (aB 0) (aA (aC dI (aB 1) (eC (.int 1))) aG))) (aA (aC dI (aB 5) (aC A2 (aC mulM (aB 5) (aC mD (aB 5) (eC (.int 1)))) (eC (.int 2)))) (aA (aC dI (aB 3) (eC (.int 10007))) aG)))))
  (cB (aT LL.kT (aA (aB 6) (aA (aB 5) (aA (aC dZ (iI (aA (eC (.int 1)) (aA (eC (.int 1)) (aA (eC (.int 2)) (aA (eC (.int 2)) (aA (eC (.int 3)) (aA (eC (.int 1)) (aA (eC (.int 0)) (aA (eC (.int 4)) aG))))))))) (aC eS (aC dZ (aB 4) (eC (.int 1))) (eC (.int 8)))) aG))))))))
def τ(xs:Q0e):D:=.tup (xs.map D.int)
def aH(xs:Q0e):D:=.lst (xs.map D.int)
def aW(rows:Q0a):D:=.tup (rows.map τ)
def pO:dI (.int i) (.int j)=aa (.int (i+j)):=rfl
def vB:mD (.int i) (.int j)=aa (.int (i-j)):=rfl
def bM(h:0<j):eS (.int i) (.int j)=aa (.int (i%j)):=by simp[eS,jT,h]
def pP(h:0<j)(h2:j<1073741824):A2 (.int i) (.int j)=aa (.int (i/j)):=by simp[A2,jT,h,show j.natAbs<1073741824 by lia]
def A8:O6 (.int i) (.int j)=aa (.bl (Zv (i<j))):=rfl
def A9:leM (.int i) (.int j)=aa (.bl (Zv (i<=j))):=rfl
def BA:gtM (.int i) (.int j)=aa (.bl (Zv (j<i))):=rfl
def pQ:geM (.int i) (.int j)=aa (.bl (Zv (j<=i))):=rfl
def jE:kJ (.int i) (.int j)=aa (.bl (Zv (i=j))):=rfl
def BB:V0 (.int i) (.int j)=aa (.bl (!Zv (i=j))):=rfl
def rB:kJ (.bl i) (.bl j)=aa (.bl (Zv (i=j))):=rfl
def nK:kJ (.str i) (.str j)=aa (.bl (Zv (i=j))):=rfl
def BC:V1 d .non=aa (.bl (uX d)):=rfl
def pR:dZ (.lst a) (.int i)=uC a i:=rfl
def uG:dZ (.tup a) (.int i)=uC a i:=rfl
def BD:dZ (.pJ a) (.int i)=(uC a i).map D.int:=rfl
def pS:eL [.lst a]=aa (.int a.length):=rfl
def kX:eL [.tup a]=aa (.int a.length):=rfl
def vC:eL [.pJ a]=aa (.int a.length):=rfl
def oG:gO [.lst a]=aa (.tup a):=rfl
def oH:gO [.tup a]=aa (.tup a):=rfl
def rC:DA [.lst a]=aa (.lst a):=rfl
def rD:DA [.tup a]=aa (.lst a):=rfl
def rE:DC (.lst a)=aa a:=rfl
def rF:DC (.tup a)=aa a:=rfl
def nL:lR (.bl b)=aa b:=rfl
def oI:lR (.lst b)=aa (!b.isEmpty):=rfl
def oJ:lR (.tup b)=aa (!b.isEmpty):=rfl
def vD:l9 (.bl b)=aa b:=rfl
def uH(h:ds.length<16777216):mE ds d=aa (ds++[d],.non):=Z_ h
def V7(h:ds.length+es.length<=16777216):MF ds (.lst es)=aa (ds++es,.non):=Z_ h
def rG:JR [.tup ds]=aa (ds.zipIdx.map λp=>.tup [.int (p.2:Int),p.1]):=rfl
def rH:JR [.lst ds]=aa (ds.zipIdx.map λp=>.tup [.int (p.2:Int),p.1]):=rfl
def vE:wc [.tup ds]=aa ds.reverse:=rfl
def vF:wc [.lst ds]=aa ds.reverse:=rfl
def gZ(hl:ds.length=np)(h:b (dW n ds)=.rt d):dE n np b ds=.ok d:=by unfold dE;rw[Z_ hl,h]
def cP(ρ':bT)(h1:f ρ=.nx ρ')(h2:g ρ'=o):aM f g ρ=o:=by unfold aM;rw[h1];show h2
def DK(h1:f ρ=.rt d):aM f g ρ=.rt d:=by unfold aM;rw[h1]
def gJ(h:f (bK ρ)=aa d):cB f ρ=.rt d:=by unfold cB;rw[h]
def fA(d:D)(h:f (gQ ρ)=aa d)(hr:ρ.set i (.ro d)=ρ'):bP i f ρ=.nx ρ':=by unfold bP;rw[h,<- hr]
def yW(h:t (bK ρ)=aa ae)(h2:a ρ=o):iT t a b ρ=o:=by unfold iT;rw[h];show h2
def lQ(h:t (bK ρ)=aa ag)(h2:b ρ=o):iT t a b ρ=o:=by unfold iT;rw[h];show h2
def wa(ds:List D)(h:it (gQ ρ)=aa ds)(h2:i8 g b ds ρ=o):jV it g b ρ=o:=by unfold jV;rw[h];show h2
def gE(ds:List D)(h:it ρ=aa ds)(hl:ds.length<=16777216)(h2:jU g t e (benv nl fr ρ) ds=aa ys):cK nl fr it g t e ρ=aa (.lst ys):=by unfold cK;rw[h];show(if ds.length<=lP then _ else _)=_;rw[Z_ (show ds.length<=lP from hl),h2];rfl
def PV(h:a.length+b.length<=16777216):dI (.lst a) (.lst b)=aa (.lst (a++b)):=Z_ h
def DL(h:a.length+b.length<=16777216):dI (.tup a) (.tup b)=aa (.tup (a++b)):=Z_ h
def PX(h:a.length+b.length<=16777216):DB (.lst a) (.lst b)=aa (.lst (a++b)):=Z_ h
def rJ(h:i.natAbs<18446744073709551616):mulM (.int i) (.int j)=aa (.int (i*j)):=by simp[mulM,jT,C9,h]
def BE(h:j.natAbs<18446744073709551616):mulM (.int i) (.int j)=aa (.int (i*j)):=by simp[mulM,jT,C9,h]
def DM(h:j.natAbs<4611686018427387904):GP [.int j]=aa ((bJ 0 j.toNat).map D.int):=Z_ h
def pT{n:Nat}(h:n<4611686018427387904):GP [.int (n:Int)]=aa ((bJ 0 n).map D.int):=by rw[DM ∅];rfl
theorem bU:∀ns:Q0e,intsOf (ns.map D.int)=aa ns
 |[]=>rfl
 |n::ns=>by simp[intsOf,bU ns]
def pU{neg:Bool}{i:Int}{ns:Q0e}:sN neg (.int i) (.tup (ns.map D.int))=aa (.bl (if neg then !ns.contains i else ns.contains i)):=by simp[sN,bU]
def jF{neg:Bool}{i:Int}{ns:Q0e}:sN neg (.int i) (.lst (ns.map D.int))=aa (.bl (if neg then !ns.contains i else ns.contains i)):=by simp[sN,bU]
def sorted_ints(h:ns.length<64):kD [.lst (ns.map D.int)]=aa (.lst ((sortI ns).map D.int)):=by simp[kD,bU,h]
def sum_ints{ns:Q0e}:yD [.lst (ns.map D.int)]=aa (.int ns.sum):=by simp[yD,bU]
theorem yX:∀bs:List Bool,qX (bs.map D.bl)=aa bs
 |[]=>rfl
 |b::bs=>by simp[qX,lR,yX bs]
def lT{bs:List Bool}:allM [.lst (bs.map D.bl)]=aa (.bl (bs.all id)):=by simp[allM,yX]
def BF{n:Nat}{i:Int}(h0:0<=i)(h1:i<n):O7 n i=aa i.toNat:=by unfold O7;rw[Z_ h0,Z_ h1]
def V8(h:k<n):O7 n (k:Int)=aa k:=by rw[BF ∅ ∅];rfl
def V9{α:Type}{xs:List α}{k:Nat}(h:k<xs.length):uC xs (k:Int)=xs[k]?:=by unfold uC;rw[V8 h];rfl
def BG{α:Type}{xs:List α}{i:Int}(h0:0<=i)(h1:i<xs.length):∃x∈xs,uC xs i=aa x/\xs[i.toNat]?=aa x:=by
 have hl:i.toNat<xs.length:=by lia
 show⟨xs[i.toNat],sx hl,?_,by simp[hl]⟩;unfold uC;rw[BF h0 h1];simp[hl]
theorem uI{α β:Type}(f:α->β)(xs:List α)(i:Int):uC (xs.map f) i=(uC xs i).map f:=by
 unfold uC;rw[bj]
 cases O7 xs.length i with
 |none=>rfl
 |some j=>simp
def uJ{α:Type}{xs:List α}{k:Nat}{x:α}(h:xs[k]?=aa x):uC xs (k:Int)=aa x:=by rw[V9 (cz.mp h).1,h]
def aU(lo:Int)(n:Nat):(bJ lo n).length=n:=by simp[bJ]
def pV(h:i<n):(bJ lo n)[i]?=aa (lo+(i:Int)):=by simp[bJ,h]
def ML(lo:Int)(n:Nat):bJ lo (n+1)=bJ lo n++[lo+(n:Int)]:=by simp[bJ,List.range_succ]
def aX:x∈bJ lo n↔lo<=x/\x<lo+n:=by
 unfold bJ;rw[gm];simp only[my]
 constructor
 .rintro ⟨k,hk,rfl⟩;lia
 .rintro ⟨h1,h2⟩;show⟨(x-lo).toNat,by lia,by lia⟩
theorem DN(P:Nat->bT->Prop)(ds:List D)(h0:P 0 ρ)(step:∀(i:Nat) (d:D) (ρ:bT),ds[i]?=aa d->P i ρ ->∃ρ1 ρ2,g d ρ=aa ρ1/\b ρ1=.nx ρ2/\P (i+1) ρ2):
  ∃ρ',i8 g b ds ρ=.nx ρ'/\P ds.length ρ':=by
 suffices H:∀(l:List D) (k:Nat) (ρ:bT),ds.drop k=l->k<=ds.length->P k ρ ->∃ρ',i8 g b l ρ=.nx ρ'/\P ds.length ρ' from H ds 0 ρ (by simp) (jn _) h0
 intro l
 induction l with
 |nil =>
  intro k ρ hl hk hp;have:ds.length<=k:=by simpa using hl
  show⟨ρ,rfl,by rwa [show ds.length=k by lia]⟩
 |cons d l ih =>
  intro k ρ hl hk hp;have hk':k<ds.length:=by apply o_;intro h;rw[tq ∅] at hl;cases hl
  have hd:ds[k]?=aa d:=by have:=congrArg (λx=>x[0]?) hl;simpa using this
  obtain⟨ρ1,ρ2,e1,e2,p2⟩:=step k d ρ hd hp;have hl2:ds.drop (k+1)=l:=by rw[ma hk'] at hl;show(a2s hl).2
  obtain⟨ρ',e3,p3⟩:=ih (k+1) ρ2 hl2 hk' p2;show⟨ρ',by simp only[i8,e1,e2,e3],p3⟩
theorem PY(P:Nat->bT->Prop)(lo:Int)(n:Nat)(h0:P 0 ρ)(step:∀(i:Nat) (ρ:bT),i<n->P i ρ ->∃ρ1 ρ2,g (.int (lo+(i:Int))) ρ=aa ρ1/\b ρ1=.nx ρ2/\P (i+1) ρ2):
  ∃ρ',i8 g b ((bJ lo n).map D.int) ρ=.nx ρ'/\P n ρ':=by
 have:=DN (g:=g) (b:=b) P ((bJ lo n).map D.int) h0 λi d ρ hd hp=>by
  have hi:i<n:=by have:=(cz.mp hd).1;simpa[aU] using this
  rw[dj,pV hi] at hd;cases hd;show step i ρ hi hp
 simpa[aU] using this
theorem yY{α:Type}(mk:α->D)(f:α->D)(l:List α)(h:∀a∈l,(g (mk a) ρ).bind e=aa (f a)):jU g dJ e ρ (l.map mk)=aa (l.map f):=by
 induction l with
 |nil=>rfl
 |cons a l ih =>
  have h1:=h a (by simp);have h2:=ih λx hx=>h x (by simp[hx])
  cases hg:g (mk a) ρ with
  |none=>rw[hg] at h1;cases h1
  |some ρ1 =>
   rw[hg] at h1;have h1':e ρ1=aa (f a):=h1;simp only[bt,jU,hg,cq,dJ,if_true,h1',h2,mx]
def d9{α:Type}(mk:α->D)(f:α->D)(l:List α)(h:∀a∈l,∃ρ1,g (mk a) ρ=aa ρ1/\e ρ1=aa (f a)):jU g dJ e ρ (l.map mk)=aa (l.map f) :=
 yY mk f l λa ha=>by obtain⟨ρ1,h1,h2⟩:=h a ha;rw[h1];show h2
theorem fB{α:Type}(mk:α->D)(p:α->Bool)(f:α->D)(l:List α)(h:∀a∈l,∃ρ1,g (mk a) ρ=aa ρ1/\t ρ1=aa (p a)/\(p a=ae->e ρ1=aa (f a))):
  jU g t e ρ (l.map mk)=aa ((l.filter p).map f):=by
 induction l with
 |nil=>rfl
 |cons a l ih =>
  obtain⟨ρ1,h1,h2,h3⟩:=h a (by simp);have ih:=ih λx hx=>h x (by simp[hx])
  cases hp:p a with
  |false=>simp[jU,h1,h2,hp,ih]
  |true=>simp[jU,h1,h2,hp,h3 hp,ih]
theorem PZ{α β:Type}(mk:α->D)(out:β->D)(R:α->β->Prop)(l:List α)(h:∀a∈l,∃ρ1 b,g (mk a) ρ=aa ρ1/\e ρ1=aa (out b)/\R a b):
  ∃bs:List β,bs.length=l.length/\(∀(i:Nat) (a:α) (b:β),l[i]?=aa a->bs[i]?=aa b->R a b)/\jU g dJ e ρ (l.map mk)=aa (bs.map out):=by
 induction l with
 |nil=>show⟨[],rfl,λi a b h=>by simp at h,rfl⟩
 |cons a l ih =>
  obtain⟨ρ1,b,h1,h2,h3⟩:=h a (by simp);obtain⟨bs,hl,hr,hc⟩:=ih λx hx=>h x (by simp[hx]);show⟨b::bs,by simp[hl],λi x y hx hy=>?_,by simp[jU,h1,h2,hc,dJ]⟩
  cases i with
  |zero=>simp at hx hy;subst hx hy;show h3
  |succ i=>show hr i x y (by simpa using hx) (by simpa using hy)
def Rt(o:Out)(Q:D->Prop):Prop:=∃d,o=.rt d/\Q d
def Nx(o:Out)(Q:bT->Prop):Prop:=∃ρ,o=.nx ρ/\Q ρ
def lU(M:bT->Prop)(h1:Nx (f ρ) M)(h2:∀ρ',M ρ'->Rt (g ρ') Q):Rt (aM f g ρ) Q:=by obtain⟨ρ',e,m⟩:=h1;unfold aM;rw[e];show h2 ρ' m
def P0(M:bT->Prop)(h1:Nx (f ρ) M)(h2:∀ρ',M ρ'->Nx (g ρ') Q):Nx (aM f g ρ) Q:=by obtain⟨ρ',e,m⟩:=h1;unfold aM;rw[e];show h2 ρ' m
def aP(ρ':bT)(h1:f ρ=.nx ρ')(h2:Rt (g ρ') Q):Rt (aM f g ρ) Q:=by unfold aM;rw[h1];show h2
def jG(ρ':bT)(h1:f ρ=.nx ρ')(h2:Nx (g ρ') Q):Nx (aM f g ρ) Q:=by unfold aM;rw[h1];show h2
def jH(h1:Rt (f ρ) Q):Rt (aM f g ρ) Q:=by obtain⟨d,e,m⟩:=h1;unfold aM;rw[e];show⟨d,rfl,m⟩
def DO(c:Bool)(h:t (bK ρ)=aa c)(h1:c=ae->Rt (a ρ) Q)(h2:c=ag->Rt (b ρ) Q):Rt (iT t a b ρ) Q:=by unfold iT;rw[h];cases c;show h2 rfl;show h1 rfl
def vG(c:Bool)(h:t (bK ρ)=aa c)(h1:c=ae->Nx (a ρ) Q)(h2:c=ag->Nx (b ρ) Q):Nx (iT t a b ρ) Q:=by unfold iT;rw[h];cases c;show h2 rfl;show h1 rfl
def iK(d:D)(h:f (bK ρ)=aa d)(q:Q d):Rt (cB f ρ) Q:=⟨d,gJ h,q⟩
def GW(d:D)(h:f (gQ ρ)=aa d)(q:Q (ρ.set i (.ro d))):Nx (bP i f ρ) Q:=⟨_,fA d h rfl,q⟩
def BH(q:Q ρ):Nx (eZ ρ) Q:=⟨ρ,rfl,q⟩
theorem GX(ds:List D)(P:Nat->bT->Prop)(h:it (gQ ρ)=aa ds)(h0:P 0 ρ)(step:∀(i:Nat) (d:D) (ρ:bT),ds[i]?=aa d->P i ρ ->∃ρ1,g d ρ=aa ρ1/\Nx (b ρ1) (P (i+1)))
  (fin:∀ρ',P ds.length ρ'->Q ρ'):Nx (jV it g b ρ) Q:=by
 obtain⟨ρ',e,p⟩:=DN (g:=g) (b:=b) P ds h0 λi d ρ hd hp=>by obtain⟨ρ1,e1,ρ2,e2,p2⟩:=step i d ρ hd hp;show⟨ρ1,ρ2,e1,e2,p2⟩
 show⟨ρ',wa ds h e,fin ρ' p⟩
theorem oK{t:AF}{g:GSF}{b:SF}{ρ:bT}{Q:bT->Prop}(n:Nat)(P:Nat->bT->Prop)(h:t (gQ ρ)=aa [.int (n:Int)])(hn:n<4611686018427387904)(h0:P 0 ρ)(step:∀(i:Nat) (ρ:bT),i<n->P i ρ ->∃ρ1,g (.int (i:Int)) ρ=aa ρ1/\Nx (b ρ1) (P (i+1)))
  (fin:∀ρ',P n ρ'->Q ρ'):Nx (jV (cJ t) g b ρ) Q:=by
 show GX ((bJ 0 n).map D.int) P (by unfold cJ;rw[h,cq,pT hn]) h0 (λi d ρ hd hp=>?_) (λρ' p=>fin ρ' (by simpa[aU] using p));have hi:i<n:=by have:=(cz.mp hd).1;simpa[aU] using this
 rw[dj,pV hi] at hd;have hd:D.int (0+(i:Int))=d:=by simpa using hd
 subst hd;obtain⟨ρ1,e,q⟩:=step i ρ hi hp;show⟨ρ1,by rw[qq];show e,q⟩
def rK(hl:ds.length=np)(h:Rt (b (dW n ds)) Q):∃d,dE n np b ds=.ok d/\Q d:=by obtain⟨d,e,q⟩:=h;show⟨d,gZ hl e,q⟩
theorem yZ:∀(l:Q0e) (j:Nat),(l.map D.int).eraseIdx j=(l.eraseIdx j).map D.int
 |[],j=>by simp
 |a::l,0=>by simp
 |a::l,j+1=>by simp[yZ l j]
def aS(ha:a ρ=aa x)(hb:b ρ=aa y)(h:g x y=z):aC g a b ρ=z:=by unfold aC;rw[ha,hb];show h
def fN(ha:a ρ=aa x)(h:g [x]=z):eP g (aA a aG) ρ=z:=by unfold eP aA aG;rw[ha];show h
def kK(ha:a ρ=aa x)(h:f [x]=.ok d):aT f (aA a aG) ρ=aa d:=by unfold aT aA aG;rw[ha];show yC (f [x])=_;rw[h];rfl
def bX(ha:a ρ=aa x)(hb:b ρ=aa y)(h:f [x,y]=.ok d):aT f (aA a (aA b aG)) ρ=aa d:=by unfold aT aA aG;rw[ha,hb];show yC (f [x,y])=_;rw[h];rfl
def lV(ha:a ρ=aa x)(hb:b ρ=aa y)(hc:c ρ=aa z)(h:f [x,y,z]=.ok d):aT f (aA a (aA b (aA c aG))) ρ=aa d:=by unfold aT aA aG;rw[ha,hb,hc];show yC (f [x,y,z])=_;rw[h];rfl
def BI(ha:a ρ=aa x)(hb:b ρ=aa y)(hc:c ρ=aa z)(he:e ρ=aa w)(h:f [x,y,z,w]=.ok d):aT f (aA a (aA b (aA c (aA e aG)))) ρ=aa d:=by unfold aT aA aG;rw[ha,hb,hc,he];show yC (f [x,y,z,w])=_;rw[h];rfl
def args1(ha:a ρ=aa x):aA a aG ρ=aa [x]:=by unfold aA aG;rw[ha];rfl
def args2(ha:a ρ=aa x)(hb:b ρ=aa y):aA a (aA b aG) ρ=aa [x,y]:=by unfold aA aG;rw[ha,hb];rfl
def DP{a:EF}{ρ:cM}{n:Nat}(ha:a ρ=aa (.int (n:Int)))(hn:n<4611686018427387904):cJ (aA a aG) ρ=aa ((bJ 0 n).map D.int):=by unfold cJ;rw[args1 ha,cq,pT hn]
def jL(h:f ρ=aa d)(ht:lR d=aa b):tV f ρ=aa b:=by unfold tV;rw[h];show ht
def GI(h:t ρ=aa b)(hc:(!b)=c):kB t ρ=aa c:=by unfold kB;rw[h,<- hc];rfl
def Cd(h:t ρ=aa b)(h2:b=ae->u ρ=aa c)(h3:b=ag->c=ag):uV t u ρ=aa c:=by
 unfold uV;rw[h];cases b
 .rw [h3 rfl];rfl
 .exact h2 rfl
def tS(h:t ρ=aa b)(h2:b=ag->u ρ=aa c)(h3:b=ae->c=ae):x9 t u ρ=aa c:=by
 unfold x9;rw[h];cases b
 .exact h2 rfl
 .rw [h3 rfl];rfl
def WB{l:Q0e}{i:Int}{y:Int}(h0:0<=i)(h1:i<l.length)(h2:l.length<=16777216)(hy:l[i.toNat]?=aa y):V2 (l.map D.int) (.int i)=aa ((l.eraseIdx i.toNat).map D.int,.int y):=by show(if i.natAbs<9223372036854775808 then _ else _)=_;rw[Z_ ∅,bj,BF h0 h1,cq,dj,hy,yZ];rfl
def jI{ws:Q0e}{j:Nat}{x:Int}(h:ws[j]?=aa x):uC (ws.map D.int) (j:Int)=aa (.int x):=by rw[uI,uJ h];rfl
def P4{α:Type}{l:List α}{i j:Nat}{x:α}(h:l[i]?=aa x)(hij:i<j):(l.take j)[i]?=aa x:=by rw[F_ hij];show h
theorem nM:∀ns:Q0e,pK (ns.map D.int)=ae
 |[]=>rfl
 |n::ns=>by rw[bt,pK,nM ns];rfl
def oM:kC (q::ks) (d::ds) k=if q=k then aa d else kC ks ds k:=by
 by_cases e:q=k
 .simp [kC,e]
 .simp [kC,e]
theorem rL:∀{Ξ:Q0e} {us:Q0a} {i:Nat} {x:Int} {v:Q0e},Ξ.Nodup->Ξ[i]?=aa x->us[i]?=aa v->kC (Ξ.map c_) (us.map aH) (c_ x)=aa (aH v)
 |[],us,i,x,v,_,h,_=>by simp at h
 |w::ws,[],i,x,v,_,_,h=>by simp at h
 |w::ws,u::us,0,x,v,_,h1,h2=>by simp at h1 h2;subst h1 h2;rw[bt,bt,oM,Z_ rfl]
 |w::ws,u::us,i+1,x,v,hn,h1,h2=>by
  obtain⟨n1,n2⟩:=jv.mp hn;have h1':ws[i]?=aa x:=by simpa using h1
  have ne:(c_ w:Sum Int aj)≠c_ x:=λe=>n1 (by cases e;show qi h1');rw[bt,bt,oM,Zz ne];show rL n2 h1' (by simpa using h2)
theorem y6:∀{Ξ:Q0e} {us:Q0a} {x:Int},x∉Ξ->kC (Ξ.map c_) (us.map aH) (c_ x)=af
 |[],us,x,_=>by simp[kC]
 |w::ws,[],x,_=>by simp[kC]
 |w::ws,u::us,x,h=>by have ne:(c_ w:Sum Int aj)≠c_ x:=λe=>h (by cases e;show cx);rw[bt,bt,oM,Zz ne];show y6 λz=>h (fq _ z)
theorem insI_perm(a:Int):∀l:Q0e,(insI a l).Perm (a::l)
 |[]=>.refl _
 |b::l=>by
  unfold insI;split
  .exact .refl _
  .exact ((insI_perm a l).cons b).trans (.swap a b l)
theorem sortI_perm:∀l:Q0e,(sortI l).Perm l
 |[]=>.refl _
 |a::l=>(insI_perm a (sortI l)).trans ((sortI_perm l).cons a)
theorem sS(a:Int):∀l:Q0e,l.Pairwise (· <= ·)->(insI a l).Pairwise (· <= ·)
 |[],_=>by simp[insI]
 |b::l,h=>by
  unfold insI;split
  .rename_i hab;show f_.mpr ⟨λc hc=>?_,h⟩;rcases bz.mp hc with e|e
   .subst e;show hab
   .exact Gk hab ((f_.mp h).1 c e)
  .rename_i hab;show f_.mpr ⟨λc hc=>?_,sS a l (f_.mp h).2⟩;rcases bz.mp ((insI_perm a l).mem_iff.mp hc) with e|e
   .subst e;lia
   .exact (f_.mp h).1 c e
theorem g7:∀l:Q0e,(sortI l).Pairwise (· <= ·)
 |[]=>Gj
 |a::l=>sS a _ (g7 l)
theorem rM:∀{l m:Q0e},l.Perm m->l.Pairwise (· <= ·)->m.Pairwise (· <= ·)->l=m
 |[],m,p,_,_=>by rw[p.nil_eq]
 |a::l,[],p,_,_=>by have:=p.length_eq;simp at this
 |a::l,b::m,p,h1,h2=>by
  have e:a=b:=by
   have m1:=p.mem_iff.mp (cx (a:=a) (l:=l));have m2:=p.mem_iff.mpr (cx (a:=b) (l:=m));rcases bz.mp m1 with e|e
   .exact e
   .rcases bz.mp m2 with e2|e2
    .exact e2.symm
    .have:=(f_.mp h2).1 a e;have:=(f_.mp h1).1 b e2;lia
  subst e;rw[rM p.cons_inv (f_.mp h1).2 (f_.mp h2).2]
local macro_rules | `(tactic| walk_at "ev") => `(tactic| simp only[dW,aM,iT,cB,bP,PJ,oC,sP,mB,DD,sX,jV,eZ,aB,eC,aC,tV,kB,uV,x9,kG,pq,yA,uo,yB,kH,aG,aA,eP,aT,yC,jD,cU,cJ,pL,wd,wb,g1,g2,GH,PK,yV,dJ,benv,u4,u3,oE,asInt,b8,tQ,oB,bK,gQ,Sv.all,Sv.rd,bt,ki,s_,ou,Ga,r6,r9,cq,Fc,mx,Fb,se,sg,Fn,fu,jy,bj,tu,oo,iw,si,Nat.reduceSub,Nat.reduceAdd,Nat.reduceEqDiff,nL,oI,oJ,vD,VZ,pO,vB,A8,A9,BA,pQ,jE,BB,rB,nK,BC,uX,pR,uG,BD,pS,kX,vC,oG,oH,rC,rD,rE,rF,rG,rH,vE,vF,if_true,if_false,ite_true,ite_false,reduceIte,decide_true,decide_false,decide_eq_true_eq,pd,t_,uc,pU,jF])
def pW(ns:Q0e)(k:Int):∃c,gI [.pJ ns,.int k]=.ok (.int c):=by
 unfold gI;by_cases h:(ns.length:Int)=0
 .exact ⟨0,gZ rfl (DK (yW (by walk_at "ev";rw[Zx h]) rfl))⟩
 .obtain ⟨x,_,e,_⟩:=BG (xs:=ns) (i:=k%(ns.length:Int)) (ka _ ∅) (k_ _ ∅);show⟨x,gZ rfl (cP _ (lQ (by walk_at "ev";rw[Zy h]) rfl) (gJ ?_))⟩
  walk_at "ev"
  rw[bM ∅]
  walk_at "ev"
  rw[e];rfl
def P5(c k s:Int):Int:=(c+11*k*k+17*k+s)*48271%2147483647
def Ay(c k s:Int):Int:=(P5 c k s*(P5 c k s/4096+5)+29*k+s)%2147483629
def DQ(c k s:Int)(h0:0<=k)(h1:k<1000000):∃r,0<=r/\fJ [.int c,.int k,.int s]=.ok (.int r):=by
 unfold fJ;have ha:0<=P5 c k s:=ka ((c+11*k*k+17*k+s)*48271) (b:=2147483647) (by decide);have hb:P5 c k s<2147483647:=k_ ((c+11*k*k+17*k+s)*48271) (b:=2147483647) (by decide);show⟨Ay c k s*39373%1000000007,ka _ (b:=1000000007) (by decide),gZ rfl (cP _ (fA (.int (P5 c k s)) ?_ rfl) (cP _ (fA (.int (Ay c k s)) ?_ rfl) (gJ ?_)))⟩
 .walk_at "ev"
  rw[rJ (by decide)]
  walk_at "ev"
  rw[BE ∅,rJ (i:=17) (by decide)]
  walk_at "ev"
  rw[BE (j:=48271) (by decide)]
  walk_at "ev"
  rw[bM (by decide)];rfl
 .walk_at "ev"
  rw[pP (by decide) (by decide)]
  walk_at "ev"
  rw[rJ ∅,rJ (i:=29) (by decide)]
  walk_at "ev"
  rw[bM (by decide)];rfl
 .walk_at "ev"
  rw[BE (j:=39373) (by decide)]
  walk_at "ev"
  rw[bM (by decide)]
def y7(xs:Q0e)(x:Int):D.lst (xs.map D.int++[.int x])=aH (xs++[x]):=by simp[aH]
def mK(c many s:Int)(h0:0<=many)(h1:many<1000000):∃xs:Q0e,xs.length=many.toNat/\(∀x∈xs,0<=x)/\fK [.int c,.int many,.int s]=.ok (aH xs):=by
 unfold fK;have key:∀left:Int,∃ρ',i8 (GH 5) (iT (tV (aC gtM (aB 4) (eC (.int 0))))
    (aM (sX (tQ 3 mE (b8 (aC eS (aB 4) (eC (.int 64))))))
    (bP 4 (aC A2 (aB 4) (eC (.int 64)))))
    (sX (tQ 3 mE (b8 (aT LL.fJ (aA (aB 0) (aA (aB 5) (aA (aB 2) aG))))))))
    ((bJ 0 many.toNat).map D.int) [Sv.ro (.int c),Sv.ro (.int many),Sv.ro (.int s),Sv.ow (.lst []),Sv.ro (.int left),Sv.no]=.nx ρ' /\
    ∃(xs:Q0e) (l:Int) (v:Sv),xs.length=many.toNat/\(∀x∈xs,0<=x)/\ρ'=[Sv.ro (.int c),Sv.ro (.int many),Sv.ro (.int s),Sv.ow (aH xs),Sv.ro (.int l),v]:=by
  intro left;show PY (λi ρ'=>∃(xs:Q0e) (l:Int) (v:Sv),xs.length=i/\(∀x∈xs,0<=x)/\ρ'=[Sv.ro (.int c),Sv.ro (.int many),Sv.ro (.int s),Sv.ow (aH xs),Sv.ro (.int l),v]) 0 _ ⟨[],left,_,rfl,by simp,rfl⟩ ?_;rintro i _ hi ⟨xs,l,v,hx,hn,rfl⟩;have hlen:(xs.map D.int).length<16777216:=by rw[bj];lia
  by_cases hl:0<l
  .refine ⟨_,_,rfl,yW (by walk_at "ev";rw[Zx hl]) (cP [Sv.ro (.int c),Sv.ro (.int many),Sv.ro (.int s),Sv.ow (aH (xs++[l%64])),Sv.ro (.int l),Sv.ro (.int (0+(i:Int)))] ?_ (fA (.int (l/64)) ?_ rfl)),xs++[l%64],l/64,_,by simp[hx],?_,rfl⟩
   .walk_at "ev"
    rw[bM (by decide)]
    walk_at "ev"
    simp only[aH,oB]
    walk_at "ev"
    rw[uH hlen]
    walk_at "ev"
    rw[y7];rfl
   .walk_at "ev"
    rw[pP (by decide) (by decide)]
   .intro x hx;rcases gn.mp hx with h|h
    .exact hn x h
    .rw [cu.mp h];show ka _ (by decide)
  .obtain ⟨r,hr,e⟩:=DQ c (0+(i:Int)) s ∅ ∅;show⟨_,[Sv.ro (.int c),Sv.ro (.int many),Sv.ro (.int s),Sv.ow (aH (xs++[r])),Sv.ro (.int l),Sv.ro (.int (0+(i:Int)))],rfl,lQ (by walk_at "ev";rw[Zy hl]) ?_,xs++[r],l,_,by simp[hx],?_,rfl⟩
   .walk_at "ev"
    rw[e];simp only[aH,oB]
    walk_at "ev"
    rw[uH hlen]
    walk_at "ev"
    rw[y7];rfl
   .intro x hx;rcases gn.mp hx with h|h
    .exact hn x h
    .rw [cu.mp h];show hr
 have hp:uW (.int 10) (.int 18)=aa (.int 1000000000000000000):=rfl;have fin:∀left:Int,(0=0) ->∃xs:Q0e,xs.length=many.toNat/\(∀x∈xs,0<=x)/\aM (jV (cJ (aA (aB 1) aG)) (GH 5) (iT (tV (aC gtM (aB 4) (eC (.int 0))))
    (aM (sX (tQ 3 mE (b8 (aC eS (aB 4) (eC (.int 64))))))
    (bP 4 (aC A2 (aB 4) (eC (.int 64)))))
    (sX (tQ 3 mE (b8 (aT LL.fJ (aA (aB 0) (aA (aB 5) (aA (aB 2) aG))))))))) (cB (aB 3)) [Sv.ro (.int c),Sv.ro (.int many),Sv.ro (.int s),Sv.ow (.lst []),Sv.ro (.int left),Sv.no]=.rt (aH xs):=by
  intro left _;obtain⟨ρ',e,xs,l,v,h1',h2',rfl⟩:=key left;show⟨xs,h1',h2',cP _ (wa _ ?_ e) (gJ rfl)⟩
  walk_at "ev"
  show DM ∅
 by_cases hc:1000000000000000000<=c
 .obtain ⟨xs,a,b,e⟩:=fin c rfl;show⟨xs,a,b,gZ rfl (cP _ rfl (cP _ rfl (cP _ (yW ?_ rfl) e)))⟩
  walk_at "ev"
  rw[hp]
  walk_at "ev"
  rw[Zx hc]
 .obtain ⟨xs,a,b,e⟩:=fin 0 rfl;show⟨xs,a,b,gZ rfl (cP _ rfl (cP _ rfl (cP _ (lQ ?_ rfl) e)))⟩
  walk_at "ev"
  rw[hp]
  walk_at "ev"
  rw[Zy hc]
theorem P6(dr:Q0e)(n:Nat)(th:Int)(hn:n<=9)(hl:n+Ord.tri n<=dr.length):
  ∃d,kT [aH dr,.int n,.int th]=.ok d /\∃rows:Q0a,rows.length=n/\Ord.Rows rows/\d=aW rows:=by
 unfold kT;show rK rfl ?_;rw[show dW 11 [aH dr,.int n,.int th]=[Sv.ro (aH dr),Sv.ro (.int n),Sv.ro (.int th),Sv.no,Sv.no,Sv.no,Sv.no,Sv.no,Sv.no,Sv.no,Sv.no] from rfl];show aP [Sv.ro (aH dr),Sv.ro (.int n),Sv.ro (.int th),Sv.ow (.lst ((bJ 0 n).map D.int)),Sv.no,Sv.no,Sv.no,Sv.no,Sv.no,Sv.no,Sv.no] ?_ ?_
 .walk_at "ev"
  simp only[qY]
  walk_at "ev"
  rw[Z_ ∅];rfl
 show aP [Sv.ro (aH dr),Sv.ro (.int n),Sv.ro (.int th),Sv.ow (.lst ((bJ 0 n).map D.int)),Sv.ow (.lst []),Sv.no,Sv.no,Sv.no,Sv.no,Sv.no,Sv.no] rfl ?_;show lU (λρ=>∃(Ξ:Q0e) (kv v3:Sv),Ξ.Perm (bJ 0 n)/\ρ=[Sv.ro (aH dr),Sv.ro (.int n),Sv.ro (.int th),v3,Sv.ow (aH Ξ),kv,Sv.no,Sv.no,Sv.no,Sv.no,Sv.no]) ?_ ?_
 .refine oK n (λi ρ=>∃(Θ Ξ:Q0e) (kv:Sv),Ξ.length=i/\(Ξ++Θ).Perm (bJ 0 n)/\ρ=[Sv.ro (aH dr),Sv.ro (.int n),Sv.ro (.int th),Sv.ow (aH Θ),Sv.ow (aH Ξ),kv,Sv.no,Sv.no,Sv.no,Sv.no,Sv.no])
   rfl ∅ ⟨bJ 0 n,[],Sv.no,rfl,.refl _,rfl⟩ ?_ ?_
  .rintro i _ hi ⟨Θ,Ξ,kv,hw,hp,rfl⟩;have hlr:Ξ.length+Θ.length=n:=by have:=hp.length_eq;rw[dm,aU] at this;show this
   obtain⟨x,hx⟩:∃x,dr[i]?=aa x:=⟨_,cj ∅⟩;have hr0:(0:Int)<Θ.length:=by lia
   have h0:=ka x (show(Θ.length:Int)≠0 by lia);have h1:=k_ x hr0;obtain⟨y,hy⟩:∃y,Θ[(x%(Θ.length:Int)).toNat]?=aa y:=⟨_,cj ∅⟩;show⟨_,rfl,[Sv.ro (aH dr),Sv.ro (.int n),Sv.ro (.int th),Sv.ow (aH (Θ.eraseIdx (x%(Θ.length:Int)).toNat)),Sv.ow (aH (Ξ++[y])),Sv.ro (.int i),Sv.no,Sv.no,Sv.no,Sv.no,Sv.no],?_,Θ.eraseIdx (x%(Θ.length:Int)).toNat,Ξ++[y],Sv.ro (.int i),by simp[hw],?_,rfl⟩
   .have e1:=WB h0 h1 ∅ hy;simp only[aH]
    walk_at "ev"
    simp only[pM]
    walk_at "ev"
    rw[jI hx]
    walk_at "ev"
    rw[bM hr0]
    walk_at "ev"
    simp only[D.A1,ite_true,cq]
    walk_at "ev"
    rw[e1]
    walk_at "ev"
    rw[uH (by rw[bj];lia)]
    walk_at "ev"
    rw[gp];rfl
   .rw [ng];show((Ord.u7 Θ _ y hy).append_left Ξ).trans hp
  .rintro _ ⟨Θ,Ξ,kv,hw,hp,rfl⟩;have hlr:Ξ.length+Θ.length=n:=by have:=hp.length_eq;rw[dm,aU] at this;show this
   have e:Θ=[]:=ql.mp ∅;subst e;rw[gq] at hp;show⟨Ξ,kv,_,hp,rfl⟩
 rintro _ ⟨Ξ,kv,v3,hp,rfl⟩;have hpw:Ξ.Perm ((de n).map λk:Nat=>(k:Int)):=by
  have e:bJ 0 n=(de n).map λk:Nat=>(k:Int):=iy λk _=>by show 0+(k:Int)=k;lia
  rw[<- e];show hp
 have hlw:Ξ.length=n:=by rw[hpw.length_eq,bj,oq]
 have ndw:Ξ.Nodup:=hpw.nodup_iff.mpr (qo _ (λa b hab e=>hab ∅) a2g);have vz:∀{us:Q0a} (t:Nat) (u:Q0e),Ord.Under Ξ us t u->u.length<=n:=λ{us} t u h=>by rw[<- hlw];show Ord.cQ u Ξ h.1 λa ha=>by obtain⟨s,_,_,h2,_⟩:=h.2 a ha;show qi h2
 show aP [Sv.ro (aH dr),Sv.ro (.int n),Sv.ro (.int th),v3,Sv.ow (aH Ξ),kv,Sv.ow (.kA [] []),Sv.no,Sv.no,Sv.no,Sv.no] rfl ?_;show aP [Sv.ro (aH dr),Sv.ro (.int n),Sv.ro (.int th),v3,Sv.ow (aH Ξ),kv,Sv.ow (.kA [] []),Sv.ro (.int n),Sv.no,Sv.no,Sv.no] rfl ?_;show lU (λρ=>∃(us:Q0a) (v7 v8 v9 v10:Sv),us.length=n/\Ord.Good Ξ us/\ρ=[Sv.ro (aH dr),Sv.ro (.int n),Sv.ro (.int th),v3,Sv.ow (aH Ξ),kv,Sv.ow (.kA (Ξ.map c_) (us.map aH)),v7,v8,v9,v10]) ?_ ?_
 .refine oK n (λj ρ=>∃(us:Q0a) (v8 v9 v10:Sv),us.length=j/\Ord.Good Ξ us/\ρ=[Sv.ro (aH dr),Sv.ro (.int n),Sv.ro (.int th),v3,Sv.ow (aH Ξ),kv,Sv.ow (.kA ((Ξ.take j).map c_) (us.map aH)),Sv.ro (.int ((n+Ord.tri j:Nat):Int)),v8,v9,v10])
   rfl ∅ ⟨[],Sv.no,Sv.no,Sv.no,rfl,(λt u e=>by simp at e),rfl⟩ ?_ ?_
  .rintro j _ hj ⟨us,v8,v9,v10,hul,hg,rfl⟩;show⟨_,rfl,?_⟩;show jG [Sv.ro (aH dr),Sv.ro (.int n),Sv.ro (.int th),v3,Sv.ow (aH Ξ),kv,Sv.ow (.kA ((Ξ.take j).map c_) (us.map aH)),Sv.ro (.int ((n+Ord.tri j:Nat):Int)),Sv.ro (.int j),Sv.ro (.lst []),v10] rfl ?_;show P0 (λρ=>∃(u:Q0e) (v10:Sv),Ord.Under Ξ us j u/\ρ=[Sv.ro (aH dr),Sv.ro (.int n),Sv.ro (.int th),v3,Sv.ow (aH Ξ),kv,Sv.ow (.kA ((Ξ.take j).map c_) (us.map aH)),Sv.ro (.int ((n+Ord.tri (j+1):Nat):Int)),Sv.ro (.int j),Sv.ro (aH u),v10]) ?_ ?_
   .refine oK j (λi ρ=>∃(u:Q0e) (v10:Sv),Ord.Under Ξ us i u/\ρ=[Sv.ro (aH dr),Sv.ro (.int n),Sv.ro (.int th),v3,Sv.ow (aH Ξ),kv,Sv.ow (.kA ((Ξ.take j).map c_) (us.map aH)),Sv.ro (.int ((n+Ord.tri j+i:Nat):Int)),Sv.ro (.int j),Sv.ro (aH u),v10])
     rfl ∅ ⟨[],_,⟨qh,λa ha=>(nomatch ha)⟩,rfl⟩ ?_ ?_
    .rintro i _ hi ⟨u,v10,hU,rfl⟩;have tl:=Ord.aAy hj hi;obtain⟨y,hy⟩:∃y,dr[n+Ord.tri j+i]?=aa y:=⟨_,cj ∅⟩;obtain⟨x,hx⟩:∃x,Ξ[i]?=aa x:=⟨_,cj ∅⟩;obtain⟨v,hv⟩:∃v,us[i]?=aa v:=⟨_,cj ∅⟩;have lv:=vz _ _ (hg i v hv);have lu:=vz _ _ hU;show⟨_,rfl,?_⟩;show P0 (λρ=>∃u':Q0e,Ord.Under Ξ us (i+1) u'/\ρ=[Sv.ro (aH dr),Sv.ro (.int n),Sv.ro (.int th),v3,Sv.ow (aH Ξ),kv,Sv.ow (.kA ((Ξ.take j).map c_) (us.map aH)),Sv.ro (.int ((n+Ord.tri j+i:Nat):Int)),Sv.ro (.int j),Sv.ro (aH u'),Sv.ro (.int i)]) ?_ ?_
     .refine vG (Zv (y%4<th)) ?_ (λ_=>?_) (λ_=>BH ⟨u,hU.mono ∅,rfl⟩)
      .simp only[aH]
       walk_at "ev"
       rw[jI hy]
       walk_at "ev"
       rw[bM (by decide)]
       walk_at "ev"
      .refine ⟨_,?_,_,hU.step ndw hg hx hv,rfl⟩;have hf:=sk (λa=>!u.contains a) (v++[x]);have e1:jU (g1 0) (tV (aC (sN ae) (aB 0) (aB 1))) (aB 0) [af,aa (.lst (u.map D.int))] ((v++[x]).map D.int)=aa (((v++[x]).filter λa=>!u.contains a).map D.int) :=
        fB D.int _ D.int (v++[x]) λa _=>⟨_,rfl,by walk_at "ev",λ_=>rfl⟩
       have e2:aC dI (aC uZ (aB 6) (aC dZ (aB 4) (aB 10))) (iI (aA (aC dZ (aB 4) (aB 10)) aG)) [aa (aH dr),aa (.int n),aa (.int th),v3.all,aa (aH Ξ),kv.all,aa (.kA ((Ξ.take j).map c_) (us.map aH)),aa (.int ((n+Ord.tri j+i:Nat):Int)),aa (.int j),aa (aH u),aa (.int i)]=aa (.lst ((v++[x]).map D.int)):=by
        simp only[aH]
        walk_at "ev"
        rw[jI hx]
        walk_at "ev"
        simp only[uZ,uY,cq];have:=rL (a3R (a19 j Ξ) ndw) (P4 hx hi) hv;simp only[aH] at this;rw[this];simp only[iI]
        walk_at "ev"
        rw[jI hx]
        walk_at "ev"
        rw[Z_ (by decide),cq,PV (by simp;lia)];simp
       have e3:cK 1 [9] (cU (aC dI (aC uZ (aB 6) (aC dZ (aB 4) (aB 10))) (iI (aA (aC dZ (aB 4) (aB 10)) aG)))) (g1 0) (tV (aC (sN ae) (aB 0) (aB 1))) (aB 0) [aa (aH dr),aa (.int n),aa (.int th),v3.all,aa (aH Ξ),kv.all,aa (.kA ((Ξ.take j).map c_) (us.map aH)),aa (.int ((n+Ord.tri j+i:Nat):Int)),aa (.int j),aa (aH u),aa (.int i)]=aa (.lst (((v++[x]).filter λa=>!u.contains a).map D.int)) :=
        gE ((v++[x]).map D.int) (by unfold cU;rw[e2];rfl) (by simp;lia) e1
       unfold mB;have e4:aC DB (aB 9) (cK 1 [9] (cU (aC dI (aC uZ (aB 6) (aC dZ (aB 4) (aB 10))) (iI (aA (aC dZ (aB 4) (aB 10)) aG)))) (g1 0) (tV (aC (sN ae) (aB 0) (aB 1))) (aB 0)) [aa (aH dr),aa (.int n),aa (.int th),v3.all,aa (aH Ξ),kv.all,aa (.kA ((Ξ.take j).map c_) (us.map aH)),aa (.int ((n+Ord.tri j+i:Nat):Int)),aa (.int j),aa (aH u),aa (.int i)]=aa (aH (u++(v++[x]).filter λa=>!u.contains a)):=by show aS (x:=aH u) rfl e3 ?_;show DB (.lst (u.map D.int)) _=_;rw[PX (by simp only[bj,dm,fu,jy] at hf ⊢;lia),<- gp];rfl
       rw[show bK _=[aa (aH dr),aa (.int n),aa (.int th),v3.all,aa (aH Ξ),kv.all,aa (.kA ((Ξ.take j).map c_) (us.map aH)),aa (.int ((n+Ord.tri j+i:Nat):Int)),aa (.int j),aa (aH u),aa (.int i)] from rfl,e4];show(if mF (aH _)=ae then _ else _)=_;rw[Z_ (show mF (aH _)=ae from nM _)];rfl
     rintro _ ⟨u',hU',rfl⟩;show⟨_,rfl,u',_,hU',rfl⟩
    .rintro _ ⟨u,v10,hU,rfl⟩;show⟨u,v10,hU,by rw[Fm];rfl⟩
   rintro _ ⟨u,v10,hU,rfl⟩;obtain⟨x,hx⟩:∃x,Ξ[j]?=aa x:=⟨_,cj ∅⟩;show⟨[Sv.ro (aH dr),Sv.ro (.int n),Sv.ro (.int th),v3,Sv.ow (aH Ξ),kv,Sv.ow (.kA ((Ξ.take (j+1)).map c_) ((us++[u]).map aH)),Sv.ro (.int ((n+Ord.tri (j+1):Nat):Int)),Sv.ro (.int j),Sv.ro (aH u),v10],?_,us++[u],Sv.ro (.int j),Sv.ro (aH u),v10,by simp[hul],hg.snoc (by rw[hul];show hU),rfl⟩;have hno:kC ((Ξ.take j).map c_) (us.map aH) (c_ x)=af:=y6 λhm=>by
    obtain⟨t,ht⟩:=yi.mp hm;have htl:t<j:=by have:=(cz.mp ht).1;rw[ig] at this;lia
    rw[F_ htl] at ht;have:=Ord.vA ndw ht hx;lia
   unfold JS
   walk_at "ev"
   simp only[u5,cq];have e5:dZ (aH Ξ) (.int (j:Int))=aa (.int x):=jI hx;rw[e5];simp only[cq,uY,hno,Option.isNone_none,true_and];rw[Z_ (by rw[bj];show us.length<16777216;lia),List.take_succ,hx,gp,gp];rfl
  .rintro _ ⟨us,v8,v9,v10,hul,hg,rfl⟩;show⟨us,Sv.ro (.int ((n+Ord.tri n:Nat):Int)),v8,v9,v10,hul,hg,?_⟩;rw[qe ∅]
 rintro _ ⟨us,v7,v8,v9,v10,hul,hg,rfl⟩;have ec:∃rows:Q0a,rows.length=(de n).length/\(∀(i:Nat) (b:Nat) (r:Q0e),(de n)[i]?=aa b->rows[i]?=aa r ->∀(t:Nat) (u:Q0e),Ξ[t]?=aa (b:Int)->us[t]?=aa u->r.Perm u/\r.Pairwise (· <= ·)) /\
   jU (g1 0) dJ (eP gO (aA (eP kD (aA (aC uZ (aB 1) (aB 0)) aG)) aG)) [af,aa (.kA (Ξ.map c_) (us.map aH))] ((de n).map λb:Nat=>D.int (b:Int))=aa (rows.map τ):=by
  show PZ (λb:Nat=>D.int (b:Int)) τ _ (de n) λb hb=>?_;have hb2:=my.mp hb;have hm:(b:Int)∈Ξ:=hpw.mem_iff.mpr (gm.mpr ⟨b,hb,rfl⟩);obtain⟨t,ht⟩:=yi.mp hm;obtain⟨u,hu2⟩:∃u,us[t]?=aa u:=⟨_,cj (by have:=(cz.mp ht).1;lia)⟩;have lu:=vz _ _ (hg t u hu2);show⟨_,sortI u,rfl,?_,λt' u' e1 e2=>?_⟩
  .walk_at "ev"
   simp only[uZ,uY,cq];rw[rL ndw ht hu2];simp only[aH]
   walk_at "ev"
   rw[sorted_ints ∅];rfl
  .have e:=Ord.vA ndw e1 ht;subst e;rw[hu2] at e2;cases e2;show⟨sortI_perm u,g7 u⟩
 obtain⟨rows,hr1,hr2,ec⟩:=ec;rw[oq] at hr1;show iK (aW rows) ?_ ⟨rows,hr1,hg.rows hul hpw hr1 λb t r u e1 e2 e3=>hr2 b b r (by rw[sy (by have:=(cz.mp e1).1;lia)]) e1 t u e2 e3,rfl⟩;have e6:(bJ 0 n).map D.int=(de n).map λb:Nat=>D.int (b:Int):=by unfold bJ;rw[ft];show iy λb _=>by show D.int (0+(b:Int))=_;rw[qq]
 have e7:=gE (nl:=1) (fr:=[6]) (it:=cJ (aA (aB 1) aG)) (g:=g1 0) (t:=dJ) (e:=eP gO (aA (eP kD (aA (aC uZ (aB 1) (aB 0)) aG)) aG)) (ρ:=bK [Sv.ro (aH dr),Sv.ro (.int n),Sv.ro (.int th),v3,Sv.ow (aH Ξ),kv,Sv.ow (.kA (Ξ.map c_) (us.map aH)),v7,v8,v9,v10]) ((bJ 0 n).map D.int)
  (by walk_at "ev";show pT ∅) (by rw[bj,aU];lia) (by rw[e6];show ec)
 show fN e7 rfl
theorem WC(n:Nat):2*Ord.tri n+n=n*n:=by
 induction n with
 |zero=>rfl
 |succ n ih =>
  show 2*(Ord.tri n+n)+(n+1)=(n+1)*(n+1);have:(n+1)*(n+1)=n*n+2*n+1:=by rw[Nat.add_mul,Nat.mul_add];lia
  lia
theorem P7(ns:Q0e)(k m s:Int)(h0:0<=m)(h1:m<=9):
  ∃d,kU [.pJ ns,.int k,.int m,.int s]=.ok d /\∃rows:Q0a,(rows.length:Int)<=m/\Ord.Rows rows/\d=aW rows:=by
 unfold kU;show rK rfl ?_;obtain⟨c1,ec1⟩:=pW ns k;obtain⟨xs,hx,hxn,ex⟩:=mK c1 4 s (by decide) (by decide);obtain⟨c2,ec2⟩:=pW ns (k+1);obtain⟨a,b,r,rfl⟩:∃a b r,xs=a::b::r:=by
  match xs,hx with
  |a::b::r,_=>show⟨a,b,r,rfl⟩
 have hm0:=ka a (show m+1≠0 by lia);have hm1:=k_ a (show 0<m+1 by lia);obtain⟨n,hn⟩:∃n:Nat,a%(m+1)=(n:Int):=⟨(a%(m+1)).toNat,by lia⟩;have hn9:n<=9:=by lia
 have et:=WC n;have hq:(n:Int)*((n:Int)-1)/2=(Ord.tri n:Int):=by
  have:(n:Int)*((n:Int)-1)=2*(Ord.tri n:Int):=by
   have e2:((n*n:Nat):Int)=(n:Int)*n:=by simp
   rw[Int.mul_sub,a2w];lia
  rw[this,Int.mul_ediv_cancel_left _ (by decide)]
 have aLg:Ord.tri n<=36:=Ord.PU hn9;obtain⟨ys,hy,hyn,ey⟩:=mK c2 ((n:Int)+Ord.tri n) (s+10007) ∅ ∅;show aP _ (fA (aH (a::b::r)) (lV (bX rfl rfl ec1) rfl rfl ex) rfl) ?_;show aP _ (fA (.int n) ?_ rfl) ?_
 .simp only[aH]
  walk_at "ev"
  rw[show uC (D.int a::D.int b::r.map D.int) 0=aa (D.int a) from uJ (k:=0) rfl]
  walk_at "ev"
  rw[bM ∅,hn]
 show aP _ (fA (aH ys) (lV (bX rfl rfl ec2) ?_ rfl ey) rfl) ?_
 .walk_at "ev"
  rw[rJ ∅]
  walk_at "ev"
  rw[pP (by decide) (by decide),hq]
  walk_at "ev"
 have hb0:=ka b (show(8:Int)≠0 by decide);have hb1:=k_ b (show(0:Int)<8 by decide);have hth:∃th:Int,aC dZ (iI (aA (eC (.int 1)) (aA (eC (.int 1)) (aA (eC (.int 2)) (aA (eC (.int 2)) (aA (eC (.int 3)) (aA (eC (.int 1)) (aA (eC (.int 0)) (aA (eC (.int 4)) aG))))))))) (aC eS (aC dZ (aB 4) (eC (.int 1))) (eC (.int 8))) [aa (.pJ ns),aa (.int k),aa (.int m),aa (.int s),aa (aH (a::b::r)),aa (.int n),aa (aH ys)]=aa (.int th):=by
  obtain⟨x,hx,e,_⟩:=BG (xs:=[(1:Int),1,2,2,3,1,0,4]) (i:=b%8) hb0 hb1;show⟨x,aS (x:=.lst ([(1:Int),1,2,2,3,1,0,4].map D.int)) rfl (y:=.int (b%8)) ?_ ?_⟩
  .refine aS (x:=.int b) (y:=.int 8) ?_ rfl (bM (by decide));simp only[aH]
   walk_at "ev"
   show uJ (k:=1) rfl
  .rw [pR,uI,e];rfl
 obtain⟨th,eth⟩:=hth;obtain⟨d,ed,rows,hr1,hr2,rfl⟩:=P6 ys n th hn9 ∅;show iK (aW rows) (lV rfl rfl eth ed) ⟨rows,by lia,hr2,rfl⟩
noncomputable def GY:Nat->D->Prop
 |0,_=>False
 |n+1,.tup ds=>ds.length<=1000000 /\∀d∈ds,GY n d
 |_+1,.int _=>True
 |_+1,.bl _=>True
 |_+1,.non=>True
 |_+1,.str _=>True
 |_+1,_=>False
def isi(h:f ρ=aa d)(hn:GO d=ae:=by rfl):jD T f ρ=aa (.bl (GN T d)):=by unfold jD;rw[h];show Z_ hn
theorem same_refl:∀(n:Nat) (d:D),GY n d->cL n [d,d]=.ok (.bl ae)
 |0,_,h=>h.elim
 |n+1,.tup ds,h=>by
  have hl:=h.1;unfold cL;show gZ rfl (DK (yW (by unfold tV;rw[isi rfl];rfl) (cP _ (lQ ?_ rfl) (gJ ?_))))
  .simp only[dW,aM,iT,cB,bP,PJ,oC,sP,mB,DD,sX,jV,eZ,aB,eC,aC,tV,kB,uV,x9,kG,pq,yA,uo,yB,kH,aG,aA,eP,aT,yC,jD,cU,cJ,pL,wd,wb,g1,g2,GH,PK,yV,dJ,benv,u4,u3,oE,asInt,b8,tQ,oB,bK,gQ,Sv.all,Sv.rd,bt,ki,s_,ou,Ga,r6,r9,cq,Fc,mx,Fb,se,sg,Fn,fu,jy,bj,tu,oo,iw,si,Nat.reduceSub,Nat.reduceAdd,Nat.reduceEqDiff,nL,oI,oJ,vD,VZ,pO,vB,A8,A9,BA,pQ,jE,BB,rB,nK,BC,uX,pR,uG,BD,pS,kX,vC,oG,oH,rC,rD,rE,rF,rG,rH,vE,vF,if_true,if_false,ite_true,ite_false,reduceIte,decide_true,decide_false,decide_eq_true_eq,pd,t_,uc,pU,jF];simp[GN,tyM,dW,bK,jD,GO,aB,Sv.all,lR]
  .have e1:=gE (nl:=1) (fr:=[0,1]) (it:=cJ (aA (eP eL (aA (aB 1) aG)) aG)) (g:=g1 0) (t:=dJ) (e:=aT (cL n) (aA (aC dZ (aB 1) (aB 0)) (aA (aC dZ (aB 2) (aB 0)) aG))) (ρ:=[aa (.tup ds),aa (.tup ds)]) ((bJ 0 ds.length).map D.int) (ys:=(bJ 0 ds.length).map λ_=>D.bl ae)
    (by simp only[dW,aM,iT,cB,bP,PJ,oC,sP,mB,DD,sX,jV,eZ,aB,eC,aC,tV,kB,uV,x9,kG,pq,yA,uo,yB,kH,aG,aA,eP,aT,yC,jD,cU,cJ,pL,wd,wb,g1,g2,GH,PK,yV,dJ,benv,u4,u3,oE,asInt,b8,tQ,oB,bK,gQ,Sv.all,Sv.rd,bt,ki,s_,ou,Ga,r6,r9,cq,Fc,mx,Fb,se,sg,Fn,fu,jy,bj,tu,oo,iw,si,Nat.reduceSub,Nat.reduceAdd,Nat.reduceEqDiff,nL,oI,oJ,vD,VZ,pO,vB,A8,A9,BA,pQ,jE,BB,rB,nK,BC,uX,pR,uG,BD,pS,kX,vC,oG,oH,rC,rD,rE,rF,rG,rH,vE,vF,if_true,if_false,ite_true,ite_false,reduceIte,decide_true,decide_false,decide_eq_true_eq,pd,t_,uc,pU,jF];show pT ∅) (by rw[bj,aU];lia) (yY D.int (λ_=>D.bl ae) (bJ 0 ds.length) λk hk=>by have hk:=aX.mp hk;obtain⟨x,hx,e,_⟩:=BG (xs:=ds) (i:=k) ∅ ∅;show aT (cL n) _ _=_;show bX (aS rfl rfl e) (aS rfl rfl e) (same_refl n x (h.2 x hx)))
   show fN e1 ?_;have:(bJ 0 ds.length).map (λ_=>D.bl ae)=((bJ 0 ds.length).map λ_=>ae).map D.bl:=by rw[ft];rfl
   rw[this,lT];congr 2;simp
 |n+1,.int i,_=>by unfold cL;show gZ rfl (cP _ (lQ rfl rfl) (cP _ (lQ rfl rfl) (cP _ (lQ rfl rfl) (DK (yW rfl (gJ ?_))))));show kG _ _ _=_;simp[kG,yA,jD,GO,aB,GN,tyM,l9,aC,jE,rB,nK,dW,bK,Sv.all]
 |n+1,.bl b,_=>by unfold cL;show gZ rfl (cP _ (lQ rfl rfl) (cP _ (lQ rfl rfl) (DK (yW rfl (gJ ?_)))));simp[kG,yA,jD,GO,aB,GN,tyM,l9,aC,jE,rB,nK,dW,bK,Sv.all]
 |n+1,.non,_=>by unfold cL;show gZ rfl (cP _ (lQ rfl rfl) (DK (yW rfl (gJ rfl))))
 |n+1,.str x,_=>by unfold cL;show gZ rfl (cP _ (lQ rfl rfl) (cP _ (lQ rfl rfl) (cP _ (lQ rfl rfl) (cP _ (lQ rfl rfl) (gJ ?_)))));simp[kG,yA,jD,GO,aB,GN,tyM,l9,aC,jE,rB,nK,dW,bK,Sv.all]
 |n+1,.lst _,h=>h.elim
 |n+1,.pJ _,h=>h.elim
 |n+1,.kA _ _,h=>h.elim
 |n+1,.b7 _ _ _,h=>h.elim
 |n+1,.exc _ _,h=>h.elim
 |n+1,.rws _,h=>h.elim
def GZ(h:xs.length<=1000000):GY (n+2) (τ xs):=⟨by rw[bj];show h,λd hd=>by obtain⟨i,_,rfl⟩:=gm.mp hd;trivial⟩
def row(rows:Q0a)(b:Int):List Int:=(rows[b.toNat]?).getD []
def BJ(h0:0<=i)(h1:i<rows.length):dZ (aW rows) (.int i)=aa (τ (row rows i)):=by
 have hl:i.toNat<rows.length:=by lia
 rw[show aW rows=.tup (rows.map τ) from rfl,uG,uI];unfold uC row;rw[BF h0 h1];simp[hl]
def aBC:sN ag (.int i) (τ xs)=aa (.bl (xs.contains i)):=by unfold τ;rw[pU];rfl
def WD:sN ae (.int i) (τ xs)=aa (.bl (!xs.contains i)):=by unfold τ;rw[pU];rfl
def g8:eL [aW rows]=aa (.int rows.length):=by unfold aW;rw[kX,bj]
def P8:eL [τ xs]=aa (.int xs.length):=by unfold τ;rw[kX,bj]
def pairD(p:Int×Int):D:=.tup [.int p.1,.int p.2]
end LL
namespace Ord
def rel(rows:Q0a)(a b:Nat):Bool:=(rows.getD b []).contains (a:Int)
def Rows.Qf(h:Rows rows)(ha:a<rows.length):rel rows a a=ag:=by unfold rel;rw[ox,cj ha];have:=h.PQ a _ (cj ha);simpa using this
def Rows.tr'(h:Rows rows)(hb:b<rows.length)(hc:c<rows.length)(h1:rel rows a b=ae)(h2:rel rows b c=ae):rel rows a c=ae:=by
 unfold rel at *;rw[ox,cj hb] at h1;rw[ox,cj hc] at h2 ⊢;have h1:(a:Int)∈rows[b]:=by simpa using h1
 have h2:(b:Int)∈rows[c]:=by simpa using h2
 have:=h.tr c b _ _ (cj hc) h2 (cj hb) _ h1;simpa using this
def BK(h:x[b]?=aa r):rel x a b=ae↔(a:Int)∈r:=by unfold rel;rw[ox,h];simp
def P9(h:Rows y)(hv:y[b]?=aa v):z∈v ↔ ∃a:Nat,z=(a:Int)/\a<y.length/\rel y a b=ae:=by
 constructor
 .intro hz;obtain⟨q1,q2⟩:=h.rng _ _ hv _ hz;show⟨z.toNat,by lia,by lia,?_⟩;rw[BK hv,show((z.toNat:Nat):Int)=z by lia];show hz
 .rintro ⟨a,rfl,h1,h2⟩
  rwa [BK hv] at h2
def aBD(lo:Int)(n:Nat):(L4.bJ lo n).Pairwise (·<·):=qo _ (λa b (h:a<b)=>by lia) a2f
def Rows.short(h:Rows x)(hr:r∈x):r.length<=x.length:=by
 obtain⟨b,hb⟩:=yi.mp hr;have nd:r.Nodup:=(h.up b r hb).imp λq=>by lia
 have:=cQ r (L4.bJ 0 x.length) nd λa ha=>LL.aX.mpr (by have:=h.rng b r hb a ha;lia)
 rwa [LL.aU] at this
end Ord
namespace K45
open L3 L4 LL
def pr(p:Int×Int):List Int:=[p.1,p.2]
def fU(x:Q0a)(k:Nat):List (Int×Int):=(bJ 0 k).flatMap λb=>(row x b).map λa=>(a,b)
def oN(x:Q0a)(k:Nat):fU x (k+1)=fU x k++(row x (k:Int)).map λa=>(a,(k:Int)):=by unfold fU;rw[ML,List.flatMap_append];simp
def mL{x:Q0a}{p:Int×Int}:p∈fU x x.length↔0<=p.2/\p.2<(x.length:Int)/\p.1∈row x p.2:=by
 unfold fU;rw[Fu]
 constructor
 .rintro ⟨b,hb,hp⟩;obtain⟨a,ha,rfl⟩:=gm.mp hp;have:=aX.mp hb;show⟨by lia,by lia,ha⟩
 .rintro ⟨h0,h1,h2⟩;show⟨p.2,aX.mpr ∅,gm.mpr ⟨p.1,h2,rfl⟩⟩
def nN{x:Q0a}{b:Int}(h0:0<=b)(h1:b<(x.length:Int)):x[b.toNat]?=aa (row x b):=by
 have:b.toNat<x.length:=by lia
 unfold row;rw[cj this];rfl
def DR{x:Q0a}{a b:Nat}(hb:b<x.length):(((a:Int),(b:Int))∈fU x x.length)↔Ord.rel x a b=ae:=by
 rw[mL];have e:=nN (x:=x) (b:=(b:Int)) ∅ ∅;rw[iz] at e;rw[Ord.BK e]
 constructor
 .rintro ⟨_,_,h⟩;show h
 .intro h;show⟨by show(0:Int)<=(b:Int);lia,by show(b:Int)<_;lia,h⟩
def G0{x:Q0a}(hx:Ord.Rows x):(fU x x.length).Nodup:=by
 unfold fU;rw[a2v,List.pairwise_flatMap]
 constructor
 .intro b hb;have hb:=aX.mp hb;have nd:(row x b).Nodup:=(hx.up _ _ (nN ∅ ∅)).imp λq=>by lia
  show qo _ (λa c h e=>h (congrArg Prod.fst e)) nd
 .refine (Ord.aBD 0 x.length).imp λ{b c} h p hp q hq e=>?_;obtain⟨a,_,rfl⟩:=gm.mp hp;obtain⟨a2,_,rfl⟩:=gm.mp hq;have:=congrArg Prod.snd e;simp at this;lia
theorem DS(hx:Ord.Rows x)(hn:x.length<=9):∀k,k<=x.length->(fU x k).length<=k*8:=by
 intro k
 induction k with
 |zero=>intro _;simp[fU,bJ]
 |succ k ih =>
  intro hk;rw[oN,dm,bj];have h1:=ih ∅;have e:=nN (x:=x) (b:=(k:Int)) ∅ ∅;rw[iz] at e;have nd:(row x (k:Int)).Nodup:=(hx.up _ _ e).imp λq=>by lia
  have h2:((k:Int)::row x (k:Int)).length<=(bJ 0 x.length).length:=Ord.cQ _ _ (jv.mpr ⟨hx.PQ _ _ e,nd⟩) λa ha=>by
   rcases bz.1 ha with rfl|ha
   .exact aX.mpr ∅
   .have:=hx.rng _ _ e a ha;show aX.mpr ∅
  rw[aU,fu] at h2;lia
def un(t:Q0e):Int×Int:=(t.getD 0 0,t.getD 1 0)
def srt(l:List (Int×Int)):List (Int×Int):=(sQ (l.map pr)).map un
def DT(l:List (Int×Int)):(srt l).Perm l:=by have:=(lS (l.map pr)).map un;rw[ft] at this;have e:(un∘pr)=id:=funext λp=>rfl;rw[e,List.map_id] at this;show this
def WH(l:List (Int×Int)):(sQ (l.map pr)).map pN=(srt l).map pairD:=by unfold srt;rw[ft];show iy λt ht=>?_;obtain⟨p,_,rfl⟩:=gm.mp ((lS (l.map pr)).mem_iff.mp ht);rfl
theorem vH:∀l:List (Int×Int),oD (l.map pairD)=aa (l.map pr)
 |[]=>rfl
 |p::l=>by rw[bt,oD,vH l];rfl
def G2(h:l.length<64):oF [.lst (l.map pairD)]=aa (.lst ((srt l).map pairD)):=by unfold oF;simp only[vH,cq];rw[Z_ ⟨by simpa using h,jh.mpr λt ht=>by obtain⟨p,_,rfl⟩:=gm.mp ht;rfl⟩,WH]
def code(p:Int×Int):Int:=if p.1<p.2 then p.1*9+p.2 else p.2*9+p.1
def codes:List Int:=(bJ 0 9).flatMap λi=>(bJ (i+1) (8-i).toNat).map λj=>i*9+j
def vJ{x:Q0a}(hx:Ord.Rows x){a b:Int}(h1:(a,b)∈fU x x.length)(h2:(b,a)∈fU x x.length):False:=by obtain⟨b0,b1,h1'⟩:=mL.mp h1;obtain⟨a0,a1,h2'⟩:=mL.mp h2;simp only at b0 b1 a0 a1 h1' h2';obtain⟨m,rfl⟩:∃m:Nat,a=(m:Int):=⟨a.toNat,by lia⟩;obtain⟨k,rfl⟩:∃k:Nat,b=(k:Int):=⟨b.toNat,by lia⟩;have:=hx.tr' ∅ ∅ ((DR ∅).mp h1) ((DR ∅).mp h2);rw[hx.Qf ∅] at this;cases this
def pX{a b c d:Int}(hb:0<=b/\b<9)(hd:0<=d/\d<9)(e:a*9+b=c*9+d):a=c/\b=d:=by lia
def WJ{x:Q0a}(hx:Ord.Rows x)(hn:x.length<=9):(fU x x.length).length<=36:=by
 have rg:∀p∈fU x x.length,0<=p.1/\p.1<9/\0<=p.2/\p.2<9/\p.1≠p.2:=λp hp=>by obtain⟨h0,h1,h2⟩:=mL.mp hp;have e:=nN h0 h1;obtain⟨q1,q2⟩:=hx.rng _ _ e _ h2;show⟨q1,by lia,h0,by lia,λz=>?_⟩;obtain⟨a,b⟩:=p;simp only at z;subst z;show vJ hx hp hp
 have nd:((fU x x.length).map code).Nodup:=by
  rw[a2v,Fq];show a3Q (λ{p q} hp hq hpq e=>?_) (G0 hx);have rp:=rg p hp;have rq:=rg q hq;obtain⟨a,b⟩:=p;obtain⟨c,d⟩:=q;simp only at rp rq;unfold code at e;simp only at e;by_cases h1:a<b<;>by_cases h2:c<d
  .rw [Z_ h1,Z_ h2] at e;obtain⟨rfl,rfl⟩:=pX ⟨rp.2.2.1,rp.2.2.2.1⟩ ⟨rq.2.2.1,rq.2.2.2.1⟩ e;show hpq rfl
  .rw [Z_ h1,Zz h2] at e;obtain⟨rfl,rfl⟩:=pX ⟨rp.2.2.1,rp.2.2.2.1⟩ ⟨rq.1,rq.2.1⟩ e;show vJ hx hp hq
  .rw [Zz h1,Z_ h2] at e;obtain⟨rfl,rfl⟩:=pX ⟨rp.1,rp.2.1⟩ ⟨rq.2.2.1,rq.2.2.2.1⟩ e;show vJ hx hp hq
  .rw [Zz h1,Zz h2] at e;obtain⟨rfl,rfl⟩:=pX ⟨rp.1,rp.2.1⟩ ⟨rq.1,rq.2.1⟩ e;show hpq rfl
 have:=Ord.cQ _ codes nd λz hz=>by
  obtain⟨p,hp,rfl⟩:=gm.mp hz;have:=rg p hp;unfold code codes;by_cases h:p.1<p.2
  .rw [Z_ h,Fu];show⟨p.1,aX.mpr ∅,gm.mpr ⟨p.2,aX.mpr ∅,rfl⟩⟩
  .rw [Zz h,Fu];show⟨p.2,aX.mpr ∅,gm.mpr ⟨p.1,aX.mpr ∅,rfl⟩⟩
 rw[bj] at this;have e:codes.length=36:=by decide+kernel
 lia
def DU{x:Q0a}(hx:Ord.Rows x)(hn:x.length<=9):(fU x x.length).length<64:=by have:=WJ hx hn;lia
end K45
namespace DW
open L3 L4
def iL:n6:=dE 4 1
  (aM (oC 1 (iI aG))
  (aM (jV (pL (aA (aB 0) aG)) (PK 2 3)
   (sX (tQ 1 MF (b8 (cK 1 [2] (cU (aB 3)) (g1 0) dJ (iH (aA (aB 0) (aA (aB 1) aG))))))))
  (cB (eP gO (aA (eP oF (aA (aB 1) aG)) aG)))))
open LL K45
def Hb(h:x ρ=aa (ρ',d)):sX x ρ=.nx ρ':=by unfold sX;rw[h]
theorem Qd(h0:oB ρ[i]?=aa ds0)(hx:x ρ=aa (ρ1,d))(h1:oB ρ1[i]?=aa ds)(hm:m ds d=aa q):
  tQ i m x ρ=aa (ρ1.set i (.ow (.lst q.1)),q.2):=by
 unfold tQ;rw[h0,cq,hx,cq,h1,cq,hm];rfl
section
variable{x:Q0a}(hx:Ord.Rows x)
include hx
def Wu(h0:0<=c)(h1:c<(x.length:Int))(h:a∈row x c):0<=a/\a<(x.length:Int):=hx.rng _ _ (nN h0 h1) a h
def Qc(h0:0<=c)(h1:c<(x.length:Int)):(row x c).Nodup:=(hx.up _ _ (nN h0 h1)).imp λq=>by lia
def QA(h0:0<=c)(h1:c<(x.length:Int)):(row x c).length<=x.length:=by
 have:=Ord.cQ (row x c) (bJ 0 x.length) (Qc hx h0 h1) λa ha=>aX.mpr (by have:=Wu hx h0 h1 ha;lia)
 rwa [aU] at this
end
def aBE(x:Q0a)(p:Int×Int):Bool:=!(row x p.2).any λc=>(row x c).contains p.1
structure Cl (x:Q0a) (P:List (Int×Int)) (b:Int) (u f:Q0e):Prop where
 nd:u.Nodup
 sub:∀a∈u,a∈row x b
 fr:∀a∈f,a=b\/a∈u
 cl:∀c,(c=b\/c∈u)->c∉f ->∀a,(a,c)∈P->a∈u
abbrev T(x:Q0a):List (Int×Int):=srt (fU x x.length)
def oO(hx:Ord.Rows x)(hn:x.length<=9):iL [aW x]=.ok (.tup ((T x).map pairD)):=by
 have i_:=DU hx hn;unfold iL;show gZ rfl (cP [.ro (aW x),.ow (.lst []),.no,.no] rfl ?_);obtain⟨ρ',e,v2,v3,rfl⟩:Nx (jV (pL (aA (aB 0) aG)) (PK 2 3)
   (sX (tQ 1 MF (b8 (cK 1 [2] (cU (aB 3)) (g1 0) dJ (iH (aA (aB 0) (aA (aB 1) aG))))))) [.ro (aW x),.ow (.lst []),.no,.no])
   (λρ=>∃v2 v3,ρ=[Sv.ro (aW x),Sv.ow (.lst ((fU x x.length).map pairD)),v2,v3]):=by
  show GX ((x.map τ).zipIdx.map λp=>.tup [.int (p.2:Int),p.1]) (λi ρ=>∃v2 v3,ρ=[Sv.ro (aW x),Sv.ow (.lst ((fU x i).map pairD)),v2,v3]) rfl ⟨_,_,rfl⟩ ?_ λρ h=>by simpa using h
  rintro i d _ hd ⟨v2,v3,rfl⟩;rw[dj,Fz,dj] at hd
  cases q:x[i]? with
  |none=>rw[q] at hd;cases hd
  |some r =>
   have hi:i<x.length:=(cz.mp q).1;rw[q] at hd;have hd:=fg hd;subst hd;have er:row x (i:Int)=r:=by unfold row;rw[iz,q];rfl
   have hl:=DS hx hn i ∅;have hl2:=DS hx hn (i+1) ∅;rw[oN,dm,er] at hl2;show⟨[.ro (aW x),.ow (.lst ((fU x i).map pairD)),.ro (.int (i:Int)),.ro (τ r)],by show aa [_,_,_,_]=_;rw[qc],_,Hb (Qd (ρ1:=[.ro (aW x),.ow (.lst ((fU x i).map pairD)),.ro (.int (i:Int)),.ro (τ r)]) (ds0:=(fU x i).map pairD) (ds:=(fU x i).map pairD) (d:=.lst ((r.map λa=>(a,(i:Int))).map pairD)) rfl ?_ rfl (V7 (by simp at hl2 ⊢;lia))),.ro (.int (i:Int)),.ro (τ r),?_⟩
   .unfold b8;rw[gE (r.map D.int) rfl (by simp at hl2 ⊢;lia) (d9 D.int (λa=>pairD (a,(i:Int))) r λa _=>⟨_,rfl,rfl⟩),ft];rfl
   .rw [oN,gp,er];rfl
 show cP _ e (gJ (fN (fN rfl (G2 i_)) rfl))
def QB:p∈T x↔0<=p.2/\p.2<(x.length:Int)/\p.1∈row x p.2:=by rw[(DT _).mem_iff,mL]
def Wt(hx:Ord.Rows x)(hn:x.length<=9):(T x).length<64:=by rw[(DT _).length_eq];show DU hx hn
abbrev B(x:Q0a):List (Int×Int):=(T x).filter (aBE x)
end DW
namespace LL
open L3 L4
def jM:n6:=dE 5 3
  (aM (iT (tV (aC geM (aB 0) (aC uW (eC (.int 10)) (eC (.int 18)))))
   (cB (aC eS (aC A2 (aB 0) (eC (.int 64))) (aB 1)))
   eZ)
  (aM (bP 3 (eC (.int 0)))
  (aM (jV (cJ (aA (eC (.int 20)) aG)) (GH 4)
   (bP 3 (aC dI (aC mulM (aB 3) (eC (.int 1000000007))) (aT LL.fJ (aA (aB 0) (aA (aB 4) (aA (aB 2) aG)))))))
  (cB (aC eS (aB 3) (aB 1))))))
def iL:n6:=dE 4 1
  (aM (oC 1 (iI aG))
  (aM (jV (pL (aA (aB 0) aG)) (PK 2 3)
   (sX (tQ 1 MF (b8 (cK 1 [2] (cU (aB 3)) (g1 0) dJ (iH (aA (aB 0) (aA (aB 1) aG))))))))
  (cB (eP gO (aA (eP oF (aA (aB 1) aG)) aG)))))
def Ax(hl:ds.length=np)(h:b (dW n ds)=.ex c):dE n np b ds=.ex c:=by unfold dE;rw[Z_ hl,h]
def Aw(h:f ρ=.ex c):aM f g ρ=.ex c:=by unfold aM;rw[h]
def Au(h:r (bK ρ)=aa c):DI r f ρ=.ex c:=by unfold DI;rw[h]
def As(h:r (bK ρ)=af)(h2:f ρ=o):DI r f ρ=o:=by unfold DI;rw[h];show h2
def G3(ρ:cM)(h:(Zv ((0:Int)<=j)&&Zv (j.natAbs<=1000000)&&Zv (i.natAbs<18446744073709551616))=ae):aC uW (eC (.int i)) (eC (.int j)) ρ=aa (.int (i^j.toNat)) :=
 aS rfl rfl (Z_ h)
def DX(c s:Int)(hm:0<most):∃r,0<=r/\r<most/\jM [.int c,.int most,.int s]=.ok (.int r):=by
 have zj:∀ρ,aC uW (eC (.int 10)) (eC (.int 18)) ρ=aa (.int 1000000000000000000):=λρ=>by rw[G3 ρ (by decide+kernel)];rfl
 unfold jM;by_cases h:(1000000000000000000:Int)<=c
 .refine ⟨c/64%most,ka _ ∅,k_ _ hm,gZ rfl (DK (yW (jL (aS (x:=.int c) (y:=.int 1000000000000000000) rfl (zj _) pQ) (by rw[Zx h];rfl)) (gJ (aS (x:=.int (c/64)) (y:=.int most) (aS (x:=.int c) (y:=.int 64) rfl rfl (pP (by decide) (by decide))) rfl (bM hm)))))⟩
 .obtain ⟨_,e,x,v4,rfl⟩:Nx (jV (cJ (aA (eC (.int 20)) aG)) (GH 4)
   (bP 3 (aC dI (aC mulM (aB 3) (eC (.int 1000000007))) (aT LL.fJ (aA (aB 0) (aA (aB 4) (aA (aB 2) aG)))))) [.ro (.int c),.ro (.int most),.ro (.int s),.ro (.int 0),.no])
   (λρ=>∃x v4,ρ=[.ro (.int c),.ro (.int most),.ro (.int s),.ro (.int x),v4]):=by
   show oK 20 (λi ρ=>∃x v4,ρ=[.ro (.int c),.ro (.int most),.ro (.int s),.ro (.int x),v4]) rfl (by decide) ⟨0,.no,rfl⟩ ?_ λρ h=>h;rintro i _ hi ⟨x,v4,rfl⟩;obtain⟨r,_,er⟩:=DQ c (i:Int) s ∅ ∅;show⟨_,rfl,_,fA (.int (x*1000000007+r)) (aS (x:=.int (x*1000000007)) (y:=.int r) (aS (x:=.int x) (y:=.int 1000000007) rfl rfl (BE (by decide))) (lV rfl rfl rfl er) pO) rfl,_,_,rfl⟩
  show⟨x%most,ka _ ∅,k_ _ hm,gZ rfl (cP _ (lQ (jL (aS (x:=.int c) (y:=.int 1000000000000000000) rfl (zj _) pQ) (by rw[Zy h];rfl)) rfl) (cP _ (fA (.int 0) rfl rfl) (cP _ e (gJ (aS (x:=.int x) (y:=.int most) rfl rfl (bM hm))))))⟩
def WK(ρ:cM):aC JW (aC uW (eC (.int 10)) (eC (.int 60))) (eC (.int 10)) ρ=aa (.int (((10:Int)^60)^10)):=by show aS (x:=.int ((10:Int)^60)) (y:=.int 10) (G3 (i:=10) (j:=60) ρ (by decide+kernel)) rfl ?_;show(if(Zv ((0:Int)<=10)&&Zv ((10:Int)<=100)&&Zv (((10:Int)^60).natAbs<2^1000))=ae then aa (D.int (((10:Int)^60)^(10:Int).toNat)) else af)=_;show Z_ (by decide+kernel)
def oO(hx:Ord.Rows x)(hn:x.length<=9):LL.iL [aW x]=.ok (.tup ((DW.T x).map pairD)):=DW.oO hx hn
def η(fl:Q0e)(a:Int):Int:=(fl[a.toNat]?).getD 0
def aBF(h0:0<=a)(h1:a<(fl.length:Int)):dZ (τ fl) (.int a)=aa (.int (η fl a)):=by obtain⟨x,_,e,e2⟩:=BG h0 h1;show uC (fl.map D.int) a=_;rw[uI,e];unfold η;rw[e2];rfl
def QC(h0:0<=a)(h1:a<(fl.length:Int)):dZ (aH fl) (.int a)=aa (.int (η fl a)):=aBF h0 h1
def iW:n6:=dE 2 2
  (cB (eP gO (aA (eP mG (aA (aC dI (aB 0) (iH (aA (aB 1) aG))) aG)) aG)))
def bY:n6:=dE 3 2
  (aM (bP 2 (cK 1 [1] (cJ (aA (eP eL (aA (aB 0) aG)) aG)) (g1 0) (tV (aC (sN ae) (aB 0) (aB 1))) (aB 0)))
  (cB (cK 1 [1,0] (cU (aB 2)) (g1 0) (tV (eP allM (aA (cK 1 [1] (cU (aC dZ (aB 2) (aB 0))) (g1 0) dJ (aC (sN ag) (aB 0) (aB 1))) aG))) (aB 0))))
def aI(x:Q0a)(a:Q0e):List Int:=((bJ 0 x.length).filter λt=>!a.contains t).filter λt=>(row x t).all λl=>a.contains l
def bC(a:Q0e)(t:Int):List Int:=sortI (a++[t])
def rdI(x:Q0a)(a:Q0e):List (List Int):=(aI x a).map (bC a)
def QD(x:Q0a)(a:Q0e):Prop:=a.Nodup /\∀t∈a,0<=t/\t<(x.length:Int)
def BL(h:ns.length<64):mG [.tup (ns.map D.int)]=aa (.lst ((sortI ns).map D.int)):=by simp[mG,bU,h]
def y9(h:a.length<=9):iW [τ a,.int t]=.ok (τ (bC a t)):=by
 unfold iW;show gZ rfl (gJ (fN (x:=aH (bC a t)) (fN (x:=τ (a++[t])) (aS (x:=τ a) (y:=τ [t]) rfl rfl ?_) ?_) rfl))
 .unfold τ;rw[DL (by simp;lia),gp]
 .have:=BL (ns:=a++[t]) (by simp;lia);show this
def vK(hx:x.length<=9)(hr:∀r∈x,r.length<=9):bY [aW x,τ a]=.ok (aH (aI x a)):=by
 unfold bY aI;have e1:cK 1 [1] (cJ (aA (eP eL (aA (aB 0) aG)) aG)) (g1 0) (tV (aC (sN ae) (aB 0) (aB 1))) (aB 0) (gQ (dW 3 [aW x,τ a]))=aa (aH ((bJ 0 x.length).filter λt=>!a.contains t)):=by show gE ((bJ 0 x.length).map D.int) (DP (fN rfl g8) ∅) (by rw[bj,aU];lia) ?_;show fB D.int _ D.int (bJ 0 x.length) λt _=>⟨[aa (.int t),aa (τ a)],rfl,jL (aS (x:=.int t) (y:=τ a) rfl rfl WD) rfl,λ_=>rfl⟩
 generalize hL:((bJ 0 x.length).filter λt=>!a.contains t)=L at e1;have Lr:∀t∈L,0<=t/\t<(x.length:Int):=λt ht=>by rw[<- hL] at ht;have:=aX.mp (gw.mp ht).1;lia
 have Ll:L.length<=9:=by rw[<- hL];have:=sk (λt=>!a.contains t) (bJ 0 x.length);rw[aU] at this;lia
 show gZ rfl (cP _ (fA (aH L) e1 rfl) (gJ ?_));show gE (L.map D.int) rfl (by rw[bj];lia) ?_;show fB D.int _ D.int L λt ht=>⟨[aa (.int t),aa (τ a),aa (aW x)],rfl,?_,λ_=>rfl⟩;obtain⟨t0,t1⟩:=Lr t ht;have rl:(row x t).length<=9:=by unfold row;rw[cj ∅];show hr _ (sx _)
 show jL (d:=.bl ((row x t).all λl=>a.contains l)) (fN (x:=.lst (((row x t).map λl=>a.contains l).map D.bl)) ?_ ?_) rfl
 .refine Eq.trans (gE ((row x t).map D.int) ?_ (by rw[bj];lia) (d9 D.int (λl=>.bl (a.contains l)) (row x t) λl _=>⟨[aa (.int l),aa (τ a)],rfl,aS (x:=.int l) (y:=τ a) rfl rfl aBC⟩)) (by rw[ft];rfl);unfold cU;rw[aS (x:=aW x) (y:=.int t) (z:=aa (τ (row x t))) rfl rfl (BJ t0 t1)];rfl
 .rw [lT,nh];rfl
def gR(h:t∈aI x a):(0<=t/\t<(x.length:Int))/\t∉a:=by unfold aI at h;have h1:=(gw.mp h).1;have h2:=gw.mp h1;have:=aX.mp h2.1;show⟨by lia,by simpa using h2.2⟩
def vL(n:Nat):(bJ 0 n).Nodup:=by show yf.mpr λi j hi hj hij=>?_;have e1:=pV (lo:=0) (n:=n) (i:=i) (by simpa[aU] using hi);have e2:=pV (lo:=0) (n:=n) (i:=j) (by simpa[aU] using hj);rw[cj hi] at e1;rw[cj hj] at e2;have e1:=fg e1;have e2:=fg e2;lia
def kZ(h:QD x a):(aI x a).length+a.length<=x.length:=by
 have nd:(aI x a++a).Nodup:=by show lr.mpr ⟨?_,h.1,λu hu v hv e=>(gR hu).2 (e▸hv)⟩;unfold aI;show qp _ (qp _ (vL x.length))
 have:=Ord.cQ _ (bJ 0 x.length) nd λt ht=>aX.mpr (by
  rcases gn.1 ht with z|z
  .have:=(gR z).1;lia
  .have:=h.2 t z;lia)
 rwa [dm,aU] at this
def Cc(h:QD x a):(∀b∈rdI x a,QD x b/\b.length=a.length+1)/\(rdI x a).length+a.length<=x.length:=by
 show⟨λb hb=>?_,by unfold rdI;rw[bj];show kZ h⟩;unfold rdI at hb;obtain⟨t,ht,rfl⟩:=gm.mp hb;obtain⟨hr,hn⟩:=gR ht;have p:=sortI_perm (a++[t]);show⟨⟨?_,λu hu=>?_⟩,?_⟩
 .unfold bC;show p.nodup_iff.mpr (lr.mpr ⟨h.1,by simp,λu hu v hv e=>?_⟩);rw[cu] at hv;subst hv;subst e;show hn hu
 .unfold bC at hu;rcases gn.1 (p.mem_iff.mp hu) with z|z
  .exact h.2 u z
  .rw [cu] at z;subst z;show hr
 .unfold bC;rw[p.length_eq];simp
def BM(h:QD x a):a.length<=x.length:=by have:=kZ h;lia
def J0:QD x []:=⟨qh,λt ht=>by cases ht⟩
end LL
namespace K24
noncomputable def fact:Nat->Int
 |0=>1
 |k+1=>fact k*(k+1)
noncomputable def ff(x:Int):Nat->Int
 |0=>1
 |k+1=>ff x k*(x-k)
--CUT
def C(x:Int)(m:Nat):Int:=ff x m/fact m
noncomputable def diffs:List Int->List Int
 |a::b::l=>(b-a)::diffs (b::l)
 |_=>[]
theorem pZ:∀l:Q0e,(diffs l).length=l.length-1
 |[]=>rfl
 |[_]=>rfl
 |a::b::l=>by rw[diffs,fu,pZ (b::l)];simp
def fd(l:Q0e):List Int:=match l with
 |[]=>[]
 |a::r=>a::fd (diffs (a::r))
termination_by l.length
decreasing_by rw[pZ];simp
noncomputable def vals(f:Int->Int):Nat->Int->List Int
 |0,_=>[]
 |n+1,x=>f x::vals f n (x+1)
def DV(n:Nat)(d:Int):List Int->Int->Int
 |[],_=>0
 |w::l,k=>w*C (k+n-1-d) n+DV n (d+1) l k
def Bg(b:Nat)(x:Int):Prop:=x.natAbs<2^b
def Bg.zero:Bg a 0:=Fd a
end K24
namespace LL
open L3 L4
def k6:n6:=dE 1 1
  (cB (cK 1 [] (cU (aB 0)) (g1 0) dJ (eP yD (aA (cK 1 [] (cU (aB 0)) (g1 0) dJ (aC A6 (eC (.int 1)) (aB 0))) aG))))
def mM{ks:List x5}{k k':x5}{v:D}:∀{ks:List x5} {ds:List D},ks.length=ds.length->bS (fT ks ds k v).1 (fT ks ds k v).2 k'=if k'=k then aa v else bS ks ds k':=by
 intro ks ds hl;unfold fT;split
 .rename_i hc;have go:∀(ks:List x5) (ds:List D),ks.length=ds.length->bS ks ((ks.zip ds).map λp=>if p.1=k then v else p.2) k'=if k'=k then(bS ks ds k').map (λ_=>v) else bS ks ds k':=by
   intro ks
   induction ks with
   |nil=>intro ds _;simp[bS]
   |cons q ks ih =>
    intro ds hl
    cases ds with
    |nil=>simp at hl
    |cons d ds =>
     have:=ih ds (by simpa using hl);unfold bS at this ⊢;by_cases h1:q=k'
     .subst h1;by_cases h2:q=k
      .simp [h2]
      .simp [h2]
     .simpa [h1] using this
  have hin:k∈ks:=by rw[Gi] at hc;obtain⟨q,hq,e⟩:=hc;rw[<- of_decide_eq_true e];show hq
  have some_of:∀(ks:List x5) (ds:List D),ks.length=ds.length->k∈ks ->∃d,bS ks ds k=aa d:=by
   intro ks
   induction ks with
   |nil=>intro ds _ h;cases h
   |cons q ks ih =>
    intro ds hl h
    cases ds with
    |nil=>simp at hl
    |cons d ds =>
     by_cases h1:q=k
     .exact ⟨d,by simp[bS,h1]⟩
     .obtain ⟨d',e⟩:=ih ds (by simpa using hl) ((bz.1 h).resolve_left (fj h1));show⟨d',by unfold bS at e ⊢;simpa[h1] using e⟩
  rw[go ks ds hl];by_cases h:k'=k
  .subst h;obtain⟨d,e⟩:=some_of ks ds hl hin;rw[e];simp
  .rw [Zz h,Zz h]
 .rename_i hc;have hn:k∉ks:=λh=>hc (Gi.2 ⟨k,h,by simp⟩);unfold bS;dsimp only;rw[a17 hl,List.find?_append];by_cases h:k'=k
  .subst h;have:((ks.zip ds).find? λp=>Zv (p.1=k'))=af:=by rw[List.find?_eq_none];intro p hp;have:=yh hp;simp only[decide_eq_true_eq];show λe=>hn (e▸this.1)
   rw[this];simp
  .rw [Zz h];have:([k].zip [v]).find? (λp=>Zv (p.1=k'))=af:=by simp[fj h]
   rw[this,Option.or_none]
def J1{ks:List x5}{ds:List D}{k:x5}{v:D}(h:ks.length=ds.length):(fT ks ds k v).1.length=(fT ks ds k v).2.length/\(fT ks ds k v).1.length<=ks.length+1:=by
 unfold fT;split
 .simp [h]
 .simp [h]
def MM{ks:List x5}{ds:List D}{k:x5}{v:D}(h:∀q∈ks,q.isLeft=ag)(hk:k.isLeft=ag):∀q∈(fT ks ds k v).1,q.isLeft=ag:=by
 unfold fT;split
 .exact h
 .intro q hq;rcases gn.1 hq with z|z
  .exact h q z
  .rw [cu.1 z];show hk
theorem lW(h:∀q∈ks,q.isLeft=ag)(hk:k.isLeft=ag):kindB ks k=ae:=by unfold kindB;rw[jh];intro q hq;rw[h q hq,hk];rfl
def yF(a b:Q0e):List Int:=(a.zip b).map λp=>p.1+p.2
def vM(l:Q0e):List Int:=0::l.dropLast
def QE(n:Nat):List Int:=1::cc (max n 1-1) 0
def QF(n:Nat):List Int:=cc (max n 1) 0
section
variable(x:Q0a)
def Sh:Nat->List Int->Int->List Int
 |0,_,_=>QE x.length
 |m+1,a,l=>(aI x a).foldl (λψ t=>yF ψ (if t<l then vM (Sh m (bC a t) t) else Sh m (bC a t) t)) (QF x.length)
end
def sU(h:a.length=b.length):(yF a b).length=a.length:=by unfold yF;simp[h]
def sV(h:1<=a.length):(vM a).length=a.length:=by unfold vM;simp;lia
def vN(n:Nat):(QF n).length=max n 1:=by simp[QF]
def DY(n:Nat):(QE n).length=max n 1:=by simp[QE];lia
theorem zA(x:Q0a):∀(m:Nat) (a:Q0e) (l:Int),(Sh x m a l).length=max x.length 1
 |0,a,l=>DY _
 |m+1,a,l=>by
  unfold Sh;have go:∀(ts:Q0e) (ψ:Q0e),ψ.length=max x.length 1->(ts.foldl (λψ t=>yF ψ (if t<l then vM (Sh x m (bC a t) t) else Sh x m (bC a t) t)) ψ).length=max x.length 1:=by
   intro ts
   induction ts with
   |nil=>intro ψ h;show h
   |cons t ts ih =>
    intro ψ h;rw[l_];show ih _ ?_;rw[sU]
    .exact h
    .rw [h];have:=zA x m (bC a t) t;split
     .rw [sV ∅];show this.symm
     .exact this.symm
  show go _ _ (vN _)
noncomputable def most:Nat->Nat
 |0=>1
 |m+1=>1+(m+1)*most m
def QG(kd yG:KD):Prop:=∀k,(bS kd.1 kd.2 k).isSome=ae->(bS yG.1 yG.2 k).isSome=ae
def DZ(h0:ρ[0]?=aa (aa (aW x)))(h1:ρ[1]?=aa (aa (τ a))):tV (aC kJ (eP eL (aA (aB 1) aG)) (eP eL (aA (aB 0) aG))) ρ=aa (Zv (a.length=x.length)):=by
 have e0:aB 0 ρ=aa (aW x):=by unfold aB;rw[h0];rfl
 have e1:aB 1 ρ=aa (τ a):=by unfold aB;rw[h1];rfl
 show jL (d:=.bl (Zv ((a.length:Int)=x.length))) (aS (fN e1 P8) (fN e0 g8) jE) ?_;rw[nL];congr 1;show decide_eq_decide.2 ∅
def zB(x:Q0a)(m:Nat)(a:Q0e)(l:Int)(ψ:Q0e)(t:Int):List Int:=yF ψ (if t<l then vM (Sh x m (bC a t) t) else Sh x m (bC a t) t)
def Zn:∀{n:Nat},n<=9->most n<=1000000:=by
 intro n h;have:∀n,n<=9->most n<=1000000:=by decide
 show this n h
def shares(x:Q0a):List Int:=Sh x x.length [] 0
open K24
theorem vy(h1:f (gQ ρ)=aa d)(h2:ρ[i]?=aa (.ow (.lst ds)))(hl:ds.length<16777216):sX (tQ i mE (b8 f)) ρ=.nx (ρ.set i (.ow (.lst (ds++[d])))):=by
 have e:tQ i mE (b8 f) ρ=aa (ρ.set i (.ow (.lst (ds++[d]))),.non):=by unfold tQ b8;rw[h2,h1];show((oB ρ[i]?).bind λds=>(mE ds d).map _)=_;rw[h2];show((mE ds d).map _)=_;rw[uH hl];rfl
 unfold sX;rw[e]
noncomputable def ev(k:Int):List Int->Int
 |[]=>0
 |a::l=>a+k*ev k l
def Zm(s:Int)(l:Q0e):List Int:=((l++[0]).zip (0::l)).map λp:Int×Int=>s*p.1+p.2
noncomputable def Ca(s t:Int):Nat->List Int
 |0=>[s]
 |n+1=>Zm (t-n) (Ca s t n)
def B_(n:Nat):List Int->Nat->List Int->List Int
 |[],_,ψ=>ψ
 |s::w,d,ψ=>B_ n w (d+1) (yF ψ (Ca s ((n:Int)-1-d) n))
def Zl(x:Q0a):List Int:=fd (vals (DV x.length 0 (shares x)) (x.length+1) 0)
def Zr(w:Q0e)(m:Nat):Prop:=∀(d:Nat) (y:Int),w[d]?=aa y->m<d->y=0
def Zr.mono(h:Zr w m)(hk:m<=k):Zr w k:=λd y e hd=>h d y e ∅
def Zr.add{a b:Q0e}{m:Nat}(ha:Zr a m)(hb:Zr b m):Zr (yF a b) m:=λd y e hd=>by unfold yF at e;rw[dj] at e;obtain⟨p,ep,rfl⟩:=jm.1 e;obtain⟨e1,e2⟩:=a2m.1 ep;rw[ha d _ e1 hd,hb d _ e2 hd];rfl
theorem Zr.shl(h:Zr w m):Zr (vM w) (m+1):=λd y e hd=>by
 cases d with
 |zero=>lia
 |succ d =>
  have e:w.dropLast[d]?=aa y:=e;rw[List.getElem?_dropLast] at e;split at e
  .exact h d y e ∅
  .cases e
def Zr.QF(n m:Nat):Zr (QF n) m:=λd y e _=>by
 unfold LL.QF at e;rw[jg] at e;split at e
 .cases e;rfl
 .cases e
theorem Zr.fold(h:∀t,Zr (if t<l then vM (Sh x m (bC a t) t) else Sh x m (bC a t) t) k):∀(ts ψ:Q0e),Zr ψ k->Zr (ts.foldl (zB x m a l) ψ) k
 |[],ψ,hz=>hz
 |t::ts,ψ,hz=>Zr.fold h ts _ (hz.add (h t))
def uK(x:Q0a)(m:Nat)(a:Q0e)(l:Int):Sh x (m+1) a l=(aI x a).foldl (zB x m a l) (QF x.length):=rfl
theorem QH(x:Q0a):∀(m:Nat) (a:Q0e) (l:Int),Zr (Sh x m a l) m
 |0,a,l=>λd y e hd=>by
  cases d with
  |zero=>lia
  |succ d =>
   have e:(cc (max x.length 1-1) (0:Int))[d]?=aa y:=e;rw[jg] at e;split at e
   .cases e;rfl
   .cases e
 |m+1,a,l=>by
  rw[uK];show Zr.fold (λt=>?_) _ _ (Zr.QF _ _);split
  .exact (QH x m _ _).shl
  .exact (QH x m _ _).mono ∅
def D0{x:Q0a}{a:Q0e}{t:Int}(h:t∈aI x a):0<=t:=(gR h).1.1
theorem fold_congr{α β:Type}{f g:β->α->β}:∀(l:List α) (b:β),(∀b,∀t∈l,f b t=g b t)->l.foldl f b=l.foldl g b
 |[],b,_=>rfl
 |t::l,b,h=>by rw[l_,l_,h b t cx];show fold_congr l _ λb u hu=>h b u (fq _ hu)
theorem Zk(x:Q0a)(m:Nat)(a:Q0e){l l':Int}(h:l<=0)(h':l'<=0):Sh x m a l=Sh x m a l':=by
 cases m with
 |zero=>rfl
 |succ m =>
  rw[uK,uK];show fold_congr _ _ λψ t ht=>?_;have:=D0 ht;unfold zB;rw[Zz ∅,Zz ∅]
def mO:u∈bC a t↔u∈a\/u=t:=by unfold bC;rw[(sortI_perm (a++[t])).mem_iff];simp
def vO(a:Q0e)(t:Int):(bC a t).length=a.length+1:=by unfold bC;rw[(sortI_perm (a++[t])).length_eq];simp
theorem G4:∀a b:Nat,a+b=(a ||| b)+(a &&& b):=by
 intro a
 induction a using Nat.strongRecOn with
 |ind a ih =>
  intro b;by_cases h:a=0
  .subst h;simp
  .have e:=ih (a/2) ∅ (b/2);have d1:(a ||| b)/2=(a/2 ||| b/2):=Nat.or_div_two ..;have d3:(a &&& b)/2=(a/2 &&& b/2):=Nat.and_div_two ..;have m1:(a ||| b)%2=(a%2 ||| b%2):=Nat.or_mod_two_pow (n:=1);have m3:(a &&& b)%2=(a%2 &&& b%2):=Nat.and_mod_two_pow (n:=1);have c:a%2+b%2=(a%2 ||| b%2)+(a%2 &&& b%2):=by rcases a1Z a with p|p<;>rcases a1Z b with q|q<;>rw[p,q]<;>decide
   lia
def J3(h:S.testBit b=ag):2^b+S=(2^b ||| S):=by
 have e:(2^b &&& S)=0:=by
  apply Fj;intro i;rw[Ff,Fe,Nat.zero_testBit];by_cases hi:b=i
  .subst hi;simp[h]
  .simp [hi]
 rw[G4,e,Fl]
def G5(S b i:Nat):(S ||| 2^b).testBit i=(S.testBit i||Zv (b=i)):=by rw[a1T,Fe]
def uL{M S:Nat}:(M &&& S=M) ↔ ∀i,M.testBit i=ae->S.testBit i=ae:=by
 constructor
 .intro h i hi;have:=congrArg (λz=>z.testBit i) h;simp only[Ff,hi,Gr] at this;show this
 .intro h;apply Fj;intro i;rw[Ff]
  cases e:M.testBit i with
  |false=>rfl
  |true=>rw[h i e];rfl
theorem Wc(h:S<2^n)(hb:b<n):(S ||| 2^b)<2^n:=Nat.or_lt_two_pow h (Nat.pow_lt_pow_right (by decide) hb)
noncomputable def MN:List Int->Nat
 |[]=>0
 |a::r=>2^a.toNat ||| MN r
theorem BN:∀{r:Q0e},(∀a∈r,0<=a)->((MN r).testBit i=ae↔(i:Int)∈r)
 |[],_=>by simp[MN]
 |a::r,h=>by
  have ih:=BN (i:=i) (r:=r) λb hb=>h b (fq _ hb);have h0:=h a cx;rw[MN,a1T,Fe,qr,ih,bz,decide_eq_true_eq]
  constructor
  .rintro (e|e)
   .exact .inl ∅
   .exact .inr e
  .rintro (e|e)
   .exact .inl ∅
   .exact .inr e
theorem J4:∀{r:Q0e},(∀a∈r,0<=a)->r.Nodup->(r.map λa=>(2:Int)^a.toNat).sum=(MN r:Int)
 |[],_,_=>rfl
 |a::r,h,nd=>by
  have h':∀b∈r,0<=b:=λb hb=>h b (fq _ hb);have ih:=J4 h' (jv.1 nd).2;have h0:=h a cx;have hb:(MN r).testBit a.toNat=ag:=by
   cases e:(MN r).testBit a.toNat with
   |false=>rfl
   |true =>
    have:=(BN h').1 e;rw[show((a.toNat:Nat):Int)=a by lia] at this;show Zw this (jv.1 nd).1
  rw[bt,gz,ih,MN,<- J3 hb]
  push_cast
  rfl
section
variable(x:Q0a)
def things(S:Nat):List Int:=(bJ 0 x.length).filter λt=>S.testBit t.toNat
def Mk(b:Nat):Nat:=MN (row x b)
def G6(b S:Nat):Bool:=!S.testBit b&&Zv (Mk x b &&& S=Mk x b)
end
section
variable{x:Q0a}
def gP{S:Nat}{t:Int}:t∈things x S↔(0<=t/\t<(x.length:Int))/\S.testBit t.toNat=ae:=by
 unfold things;rw[gw,aX]
 constructor
 .rintro ⟨h1,h2⟩;show⟨by lia,h2⟩
 .rintro ⟨h1,h2⟩;show⟨by lia,h2⟩
def mP(h:∀t,t∈a↔t∈b):aI x a=aI x b:=by
 have hc:∀t,a.contains t=b.contains t:=λt=>by rw[qt];simp[h t]
 unfold aI;simp only[hc]
def QI(hx:Ord.Rows x)(hb:b<x.length):(Mk x b).testBit i=ae↔(i:Int)∈row x b:=by
 show BN λa ha=>?_;have e:row x b=x[b]:=by unfold row;simp[hb]
 rw[e] at ha;obtain⟨c,rfl,_⟩:=(Ord.P9 hx (cj hb)).1 ha;lia
def QJ(hx:Ord.Rows x)(hb:b<x.length)(h:a∈row x b):0<=a/\a<(x.length:Int):=by
 have e:row x b=x[b]:=by unfold row;simp[hb]
 rw[e] at h;show hx.rng b _ (cj hb) a h
def jN:t∈aI x a↔(0<=t/\t<(x.length:Int))/\t∉a /\∀l∈row x t,l∈a:=by
 unfold aI;rw[gw,gw,aX,jh];simp only[a2z,List.contains_eq_mem,decide_eq_false_iff_not,decide_eq_true_eq]
 constructor
 .rintro ⟨⟨h1,h2⟩,h3⟩;show⟨by lia,h2,h3⟩
 .rintro ⟨h1,h2,h3⟩;show⟨⟨by lia,h2⟩,h3⟩
def WL(hx:Ord.Rows x){b S:Nat}(hb:b<x.length):G6 x b S=ae↔(b:Int)∈aI x (things x S):=by
 unfold G6;rw[ij,decide_eq_true_eq,uL,jN]
 constructor
 .rintro ⟨h1,h2⟩;show⟨by lia,λh=>?_,λl hl=>?_⟩
  .have:=(gP.1 h).2;rw[iz] at this;rw[this] at h1;cases h1
  .have r:=QJ hx hb hl;show gP.2 ⟨r,h2 _ ((QI hx hb).2 ?_)⟩;rw[show((l.toNat:Nat):Int)=l by lia];show hl
 .rintro ⟨_,h1,h2⟩;show⟨?_,λi hi=>?_⟩
  .cases e:S.testBit b with
   |false=>rfl
   |true=>show Zw (gP.2 ⟨by lia,by rw[iz];show e⟩) h1
  .have:=(gP.1 (h2 i ((QI hx hb).1 hi))).2
   rwa [iz] at this
def zC(S:Nat):(things x S).Nodup:=qp _ (vL x.length)
def len_eq{a b:Q0e}(ha:a.Nodup)(hb:b.Nodup)(h:∀t,t∈a↔t∈b):a.length=b.length :=
 Nat.le_antisymm (Ord.cQ a b ha λt ht=>(h t).1 ht) (Ord.cQ b a hb λt ht=>(h t).2 ht)
def zD{S b:Nat}(hb:b<x.length)(t:Int):t∈things x (S ||| 2^b)↔t∈bC (things x S) b:=by
 rw[mO,gP,gP,G5,qr,decide_eq_true_eq]
 constructor
 .rintro ⟨h1,h2|h2⟩
  .exact .inl ⟨h1,h2⟩
  .exact .inr ∅
 .rintro (⟨h1,h2⟩|h)
  .exact ⟨h1,.inl h2⟩
  .subst h;show⟨by lia,.inr ∅⟩
def vP(S:Nat):(things x S).length<=x.length:=by
 have:=sk (λt:Int=>S.testBit t.toNat) (bJ 0 x.length)
 rwa [aU] at this
def sW{S b:Nat}(hb:b<x.length)(h:S.testBit b=ag):(things x (S ||| 2^b)).length=(things x S).length+1:=by rw[<- vO (things x S) b];show len_eq (zC _) ?_ (zD hb);unfold bC;show(sortI_perm _).nodup_iff.2 (lr.2 ⟨zC S,by simp,λu hu v hv e=>?_⟩);rw[cu] at hv;subst hv;subst e;have:=(gP.1 hu).2;rw[iz,h] at this;cases this
end
abbrev Tab:=List (Nat×Int)
def tT(A:Tab)(h:Nat):Option Int:=(A.find? λq=>Zv (q.1=h)).map (·.2)
def yH(A:Tab)(h:Nat)(v:Int):Tab:=if A.any (λq=>Zv (q.1=h))=ae then A.map λq=>if q.1=h then(q.1,v) else q else A++[(h,v)]
def kN(h:Nat):x5:=.inl (.inl (h:Int))
def kdT(A:Tab):KD:=(A.map λq=>kN q.1,A.map λq=>D.int q.2)
def vQ:kN a=kN b↔a=b:=by
 unfold kN
 constructor
 .intro h;simp only[a0a] at h;lia
 .intro h;rw[h]
theorem G7(A:Tab)(h:Nat):bS (kdT A).1 (kdT A).2 (kN h)=(tT A h).map D.int:=by
 unfold kdT bS tT
 induction A with
 |nil=>rfl
 |cons q A ih =>
  simp only[bt,yd,g_];by_cases e:q.1=h
  .simp [e]
  .have e':¬ kN q.1=kN h:=λz=>e (vQ.1 z);simp only[Zy e,Zy e'];show ih
def Bz(A:Tab)(h:Nat)(v:Int):fT (kdT A).1 (kdT A).2 (kN h) (.int v)=kdT (yH A h v):=by
 have e:(kdT A).1.any (λq=>Zv (q=kN h))=A.any λq=>Zv (q.1=h):=by
  unfold kdT;rw[a2u];congr 1
  funext q
  show decide_eq_decide.2 vQ
 unfold fT yH;rw[e];split
 .unfold kdT;show a1P ?_ ?_
  .simp only[ft];show iy λq _=>?_;simp only[Gm];split<;>rfl
  .simp only[ft];have:((A.map λq=>kN q.1).zip (A.map λq=>D.int q.2))=A.map λq=>(kN q.1,D.int q.2):=by rw[List.zip_map']
   rw[this,ft];show iy λq _=>?_;simp only[Gm];by_cases z:q.1=h
   .rw [Z_ (vQ.2 z),Z_ z]
   .rw [Zz (λy=>z (vQ.1 y)),Zz z]
 .unfold kdT;simp
def QK(A:Tab)(h:Nat):kindB (kdT A).1 (kN h)=ae:=by unfold kindB kdT;rw[nh,jh];intro q _;rfl
structure Okt (n:Nat) (A:Tab):Prop where
 nd:(A.map (·.1)).Nodup
 lt:∀q∈A,q.1<2^n
def Okt.put(o:Okt n A)(hh:h<2^n)(v:Int):Okt n (yH A h v):=by
 unfold yH;split
 .refine ⟨?_,λq hq=>?_⟩
  .rw [ft];have:(A.map ((λq:Nat×Int=>q.1)∘λq=>if q.1=h then(q.1,v) else q))=A.map (·.1):=iy λq _=>by simp only[Gm];split<;>rfl
   rw[this];show o.nd
  .obtain ⟨p,hp,rfl⟩:=gm.1 hq;split
   .exact o.lt p hp
   .exact o.lt p hp
 .rename_i hc;show⟨?_,λq hq=>?_⟩
  .rw [gp,lr];show⟨o.nd,by simp,λa ha b hb e=>?_⟩;obtain⟨q,hq,rfl⟩:=gm.1 ha;simp only[ki,bt,cu] at hb;show hc (Gi.2 ⟨q,hq,by simp[e,hb]⟩)
  .rcases gn.1 hq with z|z
   .exact o.lt q z
   .rw [cu.1 z];show hh
def WM(o:Okt n A):A.length<=2^n:=by
 have h:=Ord.cQ (A.map λq=>(q.1:Int)) (bJ 0 (2^n)) ?_ ?_
 .rwa [bj,aU] at h
 .have e:A.map (λq=>(q.1:Int))=(A.map (·.1)).map λa:Nat=>(a:Int):=by rw[ft];rfl
  rw[e];show qo _ (λa b hab z=>hab ∅) o.nd
 .intro t ht;obtain⟨q,hq,rfl⟩:=gm.1 ht;have:=o.lt q hq;show aX.2 ⟨by lia,?_⟩;rw[qq];show Int.ofNat_lt.2 this
section
variable{x:Q0a}
def sY(hS:S<2^x.length):(things x S).length=x.length↔S=2^x.length-1:=by
 constructor
 .intro h;apply Fj;intro i;rw[a1S];by_cases hi:i<x.length
  .rw [Zx hi]
   cases e:S.testBit i with
   |true=>rfl
   |false =>
    have:=sW hi e;have:=vP (x:=x) (S ||| 2^i);lia
  .rw [Zy hi];show Nat.testBit_lt_two_pow (gj hS (a1X (by decide) ∅))
 .intro h;subst h;have e:things x (2^x.length-1)=bJ 0 x.length:=by unfold things;rw[Gb];intro t ht;have:=aX.1 ht;rw[a1S,Zx ∅]
  rw[e,aU]
def EA:things x 0=[]:=by unfold things;rw[Gd];intro t _;simp
end
def mQ(h:c i j=ae):jT c g (.int i) (.int j)=aa (g i j):=Z_ h
def J6(a b:Nat):nnC (a:Int) (b:Int)=ae:=by unfold nnC;rw[Zx ∅,Zx ∅];rfl
def EB(a b:Nat):mJ (.int a) (.int b)=aa (.int ((a &&& b:Nat):Int)):=by show(mQ (J6 a b)).trans ?_;rw[iz,iz]
def WN(a b:Nat):V6 (.int a) (.int b)=aa (.int ((a ||| b:Nat):Int)):=by show(mQ (J6 a b)).trans ?_;rw[iz,iz]
def WQ(a b:Nat):GV (.int a) (.int b)=aa (.int ((a >>> b:Nat):Int)):=by show(mQ (Zx (show(0:Int)<=(b:Int) by lia))).trans ?_;rw[iz,a1V];congr 2
def J8{a b:Nat}(ha:a<18446744073709551616)(hb:b<=1000000):A6 (.int a) (.int b)=aa (.int ((a <<< b:Nat):Int)):=by
 show(mQ (by
  show(Zv (0<=(b:Int))&&Zv ((b:Int).natAbs<=1000000)&&Zv ((a:Int).natAbs<18446744073709551616))=ae;rw[Zx ∅,Zx ∅,Zx ∅];rfl)).trans ?_
 rw[iz,a1W];congr 2
def J9(b:Nat):(1 <<< b:Nat)=2^b:=by rw[a1W,Nat.one_mul]
def WR(a b:Nat):(a >>> b &&& 1)=if a.testBit b=ae then 1 else 0:=by
 rw[Nat.and_one_is_mod,a1V,Nat.testBit_eq_decide_div_mod_eq];by_cases h:a/2^b%2=1
 .rw [Zx h,Z_ rfl];show h
 .rw [Zy h,Zz (by decide)];lia
def Qb{f g:EF}{ρ:cM}{h b:Nat}(hf:f ρ=aa (.int h))(hg:g ρ=aa (.int b)):aC mJ (aC GV f g) (eC (.int 1)) ρ=aa (.int (if h.testBit b=ae then 1 else 0)):=by show aS (x:=.int ((h >>> b:Nat):Int)) (y:=.int ((1:Nat):Int)) (aS hf hg (WQ h b)) rfl ?_;rw[EB,WR];split<;>rfl
section
variable{x:Q0a}
def tU(x:Q0a):List Int:=x.map λr=>(MN r:Int)
def QL(hx:Ord.Rows x)(hn:x.length<=9):k6 [aW x]=.ok (aH (tU x)):=by
 unfold k6 tU;have e5:aH (x.map λr=>(MN r:Int))=.lst (x.map λr=>D.int (MN r:Int)):=by unfold aH;rw[ft];rfl
 rw[e5];show gZ rfl (gJ (gE (x.map τ) rfl (by rw[bj];lia) (d9 τ (λr=>.int (MN r:Int)) x λr hr=>⟨[aa (τ r)],rfl,?_⟩)));obtain⟨b,hb,rfl⟩:=ly hr;have hnn:∀a∈x[b],0<=a/\a<(x.length:Int):=hx.rng b _ (cj hb);have hup:=hx.up b _ (cj hb);have hnd:(x[b]).Nodup:=hup.imp λh=>by lia
 have hsh:=Ord.Rows.short hx hr;rw[<- J4 (λa ha=>(hnn a ha).1) hnd];show fN (x:=aH ((x[b]).map λa:Int=>(2:Int)^a.toNat)) ?_ sum_ints;have e6:aH ((x[b]).map λa=>(2:Int)^a.toNat)=.lst ((x[b]).map λa=>D.int ((2:Int)^a.toNat)):=by unfold aH;rw[ft];rfl
 rw[e6];show gE ((x[b]).map D.int) rfl (by rw[bj];lia) (d9 D.int (λa=>.int ((2:Int)^a.toNat)) _ λa ha=>⟨[aa (.int a)],rfl,?_⟩);have r:=hnn a ha;show aS (x:=.int 1) (y:=.int a) rfl rfl ?_;show(mQ (by
  show(Zv (0<=a)&&Zv (a.natAbs<=1000000)&&Zv ((1:Int).natAbs<18446744073709551616))=ae;rw[Zx r.1,Zx ∅];rfl)).trans ?_
 rw[Int.one_mul]
def Zj(hb:b<x.length):dZ (aH (tU x)) (.int b)=aa (.int (Mk x b:Int)):=by
 unfold aH;rw[pR];show jI ?_;unfold tU;rw[dj,cj hb];have e:row x b=x[b]:=by unfold row;simp[hb]
 unfold Mk;rw[e];rfl
def Ar(h:Nat):mH (.int (h:Int))=aa (kN h):=rfl
def Aq(e:tT A h=aa v):A4 (.b7 q (kdT A).1 (kdT A).2) (.int (h:Int))=aa (.int v):=by show((mH (.int (h:Int))).bind λk=>if kindB (kdT A).1 k=ae then bS (kdT A).1 (kdT A).2 k else af)=_;rw[Ar,cq,Z_ (QK A h),G7,e];rfl
def dT(q:Nat->ax->Prop)(A:Tab):D:=.b7 q (kdT A).1 (kdT A).2
end
end LL
namespace K25
open L3 L4 K24 LL
section
variable{x:Q0a}
def Wb(x:Q0a):List Int:=B_ x.length (shares x) 0 (cc (x.length+1) 0)
end
abbrev st(ns:Q0e)(x:Q0a)(nr:Int)(v7 v8 v9:Sv):bT:=[.ro (.pJ ns),.ro (aW x),.ro (.int x.length),.ro (τ (shares x)),.ro (τ (Zl x)),.ro (τ (Wb x)),.ro (.int nr),v7,v8,v9]
end K25
namespace LL
open L3 L4 K24
section
variable(x:Q0a)
def cnt:Nat->List Int->Int
 |0,_=>1
 |m+1,a=>((aI x a).map λt=>cnt m (bC a t)).sum
end
section
variable{x:Q0a}
theorem EC:∀{a b:Q0e},a.length=b.length->(yF a b).sum=a.sum+b.sum
 |[],[],_=>rfl
 |[],_::_,h=>by simp at h
 |_::_,[],h=>by simp at h
 |y::a,z::b,h=>by have ih:=EC (a:=a) (b:=b) (by simpa using h);show y+z+(yF a b).sum=_;rw[ih,gz,gz];lia
def WU(h:w.getLast?=aa 0):(vM w).sum=w.sum:=by obtain⟨l,hl⟩:=List.getLast?_eq_some_iff.1 h;subst hl;unfold vM;simp
theorem QM:∀(m:Nat) (a:Q0e) (l:Int),a.length+m=x.length->(l=-1\/l∈a)->(Sh x m a l).sum=cnt x m a
 |0,a,l,_,_=>by
  show(QE x.length).sum=1;unfold QE;rw[gz];have:(cc (max x.length 1-1) (0:Int)).sum=0:=by simp
  rw[this];rfl
 |m+1,a,l,hl,hm=>by
  rw[uK];have go:∀(ts ψ:Q0e),(∀t∈ts,t∈aI x a)->ψ.length=max x.length 1->(ts.foldl (zB x m a l) ψ).sum=ψ.sum+(ts.map λt=>cnt x m (bC a t)).sum:=by
   intro ts
   induction ts with
   |nil=>intro ψ _ _;simp
   |cons t ts ih =>
    intro ψ ht h;have hS:=zA x m (bC a t) t;have tr:=ht t cx;have t0:=D0 tr;have tn:=(gR tr).2;have hlen:ψ.length=(if t<l then vM (Sh x m (bC a t) t) else Sh x m (bC a t) t).length:=by
     rw[h];split
     .rw [sV ∅];show hS.symm
     .exact hS.symm
    have es:(if t<l then vM (Sh x m (bC a t) t) else Sh x m (bC a t) t).sum=cnt x m (bC a t):=by
     rw[<- QM m (bC a t) t (by rw[vO];lia) (.inr (mO.2 (.inr rfl)))];split
     .rename_i h1;show WU ?_;have la:l∈a:=hm.resolve_left ∅
      have a1:1<=a.length:=by cases a with
       |nil=>cases la
       |cons _ _=>simp
      have hz:=QH x m (bC a t) t;rw[List.getLast?_eq_getElem?,hS];have hlt:max x.length 1-1<(Sh x m (bC a t) t).length:=by lia
      rw[cj hlt];congr 1;show hz _ _ (cj hlt) ∅
     .rfl
    rw[l_,ih _ (λu hu=>ht u (fq _ hu)) (by unfold zB;rw[sU hlen,h]),bt,gz];unfold zB;rw[EC hlen,es];lia
  have:=go (aI x a) (QF x.length) (λt h=>h) (vN _);rw[this];have e0:(QF x.length).sum=0:=by unfold QF;simp
  rw[e0,qq];rfl
theorem zE:∀(m:Nat) {a b:Q0e},(∀t,t∈a↔t∈b)->cnt x m a=cnt x m b
 |0,a,b,_=>rfl
 |m+1,a,b,h=>by show((aI x a).map λt=>cnt x m (bC a t)).sum=((aI x b).map λt=>cnt x m (bC b t)).sum;rw[mP h];congr 1;show iy λt _=>zE m λu=>?_;rw[mO,mO,h u]
end
theorem vR{α:Type}(p:α->Bool)(f:α->Int):∀L:List α,((L.filter p).map f).sum=(L.map λa=>if p a=ae then f a else 0).sum
 |[]=>rfl
 |a::L=>by
  have ih:=vR p f L;by_cases h:p a=ae
  .rw [List.filter_cons_of_pos h,bt,gz,bt,gz,ih,Z_ h]
  .rw [List.filter_cons_of_neg h,bt,gz,ih,Zz h,qq]
section
variable{x y:Q0a}
def k7{w:Q0e}(h:∀u t v,w=u++t::v->t∈aI x u):w.Nodup /\∀t∈w,0<=t/\t<(x.length:Int):=by
 have key:∀(r u:Q0e),(∀p t v,u++r=p++t::v->t∈aI x p)->u.Nodup->(u++r).Nodup:=by
  intro r
  induction r with
  |nil=>intro u _ hu;rw[gq];show hu
  |cons t r ih =>
   intro u hp hu;have ht:=(gR (hp u t r rfl)).2;have e:u++t::r=(u++[t])++r:=by simp
   rw[e];show ih (u++[t]) (λp s v e2=>hp p s v (by rw[e,e2])) ?_;rw[lr];show⟨hu,by simp,λa ha b hb e=>ht (by rw[cu] at hb;rw[<- hb,<- e];show ha)⟩
 show⟨key w [] h qh,λt ht=>?_⟩;obtain⟨u,v,rfl⟩:=oz ht;show(gR (h u t v rfl)).1
def zF(hl:w.length=x.length)(h:∀u t v,w=u++t::v->t∈aI x u)(h0:0<=b)(h1:b<(x.length:Int)):b∈w:=by
 obtain⟨nd,hr⟩:=k7 h;show o_ λhb=>?_;have:=Ord.cQ (b::w) (bJ 0 x.length) (jv.2 ⟨hb,nd⟩) λt ht=>by
  rcases bz.1 ht with z|z
  .rw [z];show aX.2 ⟨h0,by lia⟩
  .have:=hr t z;show aX.2 ⟨this.1,by lia⟩
 rw[fu,aU] at this;lia
def Turned(x y:Q0a):Prop:=y.length=x.length /\∀a b:Int,0<=b->b<(x.length:Int)->(a∈row y ((x.length:Int)-1-b)↔(x.length:Int)-1-a∈row x b)
def Turned.symm(h:Turned x y):Turned y x:=by show⟨h.1.symm,λa b h0 h1=>?_⟩;rw[h.1] at h1 ⊢;have e:=h.2 ((x.length:Int)-1-a) ((x.length:Int)-1-b) ∅ ∅;rw[show(x.length:Int)-1-((x.length:Int)-1-b)=b by lia,show(x.length:Int)-1-((x.length:Int)-1-a)=a by lia] at e;show e.symm
def G8(x z:Q0a):Prop:=z.length=x.length /\∀a b:Int,0<=a->a<(x.length:Int)->0<=b->b<(x.length:Int)->(a∈row x b↔b∈row z a)
def G8.symm(h:G8 x y):G8 y x:=⟨h.1.symm,λa b h0 h1 h2 h3=>by rw[h.1] at h1 h3;show(h.2 b a h2 h3 h0 h1).symm⟩
end
section
variable{x y z:Q0a}
structure Sd (x y z:Q0a):Prop where
 len:z.length=x.length+y.length
 lo:∀t:Int,0<=t->t<(x.length:Int) ->∀a,a∈row z t↔a∈row x t
 hi:∀t:Int,0<=t->t<(y.length:Int) ->∀a,a∈row z (t+x.length)↔a-x.length∈row y t
 rx:∀t:Int,0<=t->t<(x.length:Int) ->∀a∈row x t,0<=a/\a<(x.length:Int)
 ry:∀t:Int,0<=t->t<(y.length:Int) ->∀a∈row y t,0<=a/\a<(y.length:Int)
structure Cb (x y:Q0a) (a b c:Q0e):Prop where
 lo:∀t:Int,0<=t->t<(x.length:Int)->(t∈c↔t∈a)
 hi:∀t:Int,0<=t->t<(y.length:Int)->(t+x.length∈c↔t∈b)
def WV{a:Q0e}{t:Int}(h:QD x a)(ht:t∈aI x a):QD x (bC a t):=by
 obtain⟨r,n⟩:=gR ht;show⟨?_,λs hs=>?_⟩
 .unfold bC;show((sortI_perm (a++[t])).nodup_iff).2 ?_;rw[lr];show⟨h.1,by simp,λp hp q hq e=>n (by rw[cu] at hq;rw[<- hq,<- e];show hp)⟩
 .rcases mO.1 hs with q|q
  .exact h.2 s q
  .rw [q];show r
structure Av (x y z:Q0a) (s t:Int):Prop where
 len:z.length=x.length+y.length
 lo:∀a:Int,0<=a->a<(x.length:Int) ->∀b,b∈row z (a+s)↔b-s∈row x a
 hi:∀a:Int,0<=a->a<(y.length:Int) ->∀b,b∈row z (a+t)↔(s<=b/\b<s+x.length)\/b-t∈row y a
 rx:∀a:Int,0<=a->a<(x.length:Int) ->∀b∈row x a,0<=b/\b<(x.length:Int)
 ry:∀a:Int,0<=a->a<(y.length:Int) ->∀b∈row y a,0<=b/\b<(y.length:Int)
 st:(s=0/\t=x.length)\/(s=y.length/\t=0)
def zG:t∈aI x a↔0<=t/\t<(x.length:Int)/\t∉a /\∀l∈row x t,l∈a:=by
 unfold aI;rw[gw,gw,aX,jh]
 constructor
 .intro ⟨⟨⟨h0,h1⟩,h2⟩,h3⟩;show⟨h0,by lia,by simpa using h2,λl hl=>by simpa using h3 l hl⟩
 .intro ⟨h0,h1,h2,h3⟩;show⟨⟨⟨h0,by lia⟩,by simpa using h2⟩,λl hl=>by simpa using h3 l hl⟩
end
def Qa(h:f (gQ ρ)=aa d):oC i f ρ=.nx (ρ.set i (.ow d)):=by unfold oC;rw[h]
def Wa(h:f (bK ρ)=aa (aH l)):sP i f ρ=.nx (ρ.set i (.ow (aH l))):=by unfold sP;rw[h];show(if pK (l.map D.int)=ae then _ else _)=_;rw[nM,Z_ rfl]
def QN(h:x.length+y.length<=1000):dI (τ x) (τ y)=aa (τ (x++y)):=by unfold τ;rw[DL (by simp;lia),gp]
section
variable{x:Q0a}
def mR(h0:0<=t)(h1:t<(x.length:Int)):x[t.toNat]?=aa (row x t):=by unfold row;rw[cj ∅];rfl
def ED(hx:Ord.Rows x)(h0:0<=t)(h1:t<(x.length:Int))(hl:l∈row x t):(0<=l/\l<(x.length:Int))/\(row x l).length<(row x t).length:=by
 have hr:=hx.rng _ _ (mR h0 h1) l hl;show⟨hr,?_⟩;have e:((l.toNat:Nat):Int)=l:=by lia
 have sub:∀c∈l::row x l,c∈row x t:=λc hc=>by
  rcases bz.1 hc with q|q
  .rw [q];show hl
  .exact hx.tr t.toNat l.toNat _ _ (mR h0 h1) (by rw[e];show hl) (mR hr.1 hr.2) c q
 have nd:(l::row x l).Nodup:=jv.2 ⟨by have:=hx.PQ l.toNat _ (mR hr.1 hr.2);rwa [e] at this,(hx.up _ _ (mR hr.1 hr.2)).imp λ{a b} (q:a<b)=>by lia⟩;have:=Ord.cQ _ _ nd sub;rw[fu] at this;lia
def EE(hx:Ord.Rows x){a:Q0e}(ha:QD x a)(hl:a.length<x.length):∃t,t∈aI x a:=by
 have go:∀(n:Nat) (t:Int),(row x t).length<=n->0<=t->t<(x.length:Int)->t∉a ->∃t,t∈aI x a:=by
  intro n
  induction n with
  |zero =>
   intro t hn h0 h1 ht;show⟨t,zG.2 ⟨h0,h1,ht,λl hm=>?_⟩⟩;have:=(ED hx h0 h1 hm).2;lia
  |succ n ih =>
   intro t hn h0 h1 ht;by_cases c:∃l∈row x t,l∉a
   .obtain ⟨l,hm,hla⟩:=c;have:=ED hx h0 h1 hm;show ih l ∅ this.1.1 this.1.2 hla
   .exact ⟨t,zG.2 ⟨h0,h1,ht,λl hm=>o_ λq=>c ⟨l,hm,q⟩⟩⟩
 have:∃t∈bJ 0 x.length,t∉a:=by show o_ λq=>?_;have:=Ord.cQ (bJ 0 x.length) a (vL _) λt ht=>o_ λc=>q ⟨t,ht,c⟩;rw[aU] at this;lia
 obtain⟨t,ht,hta⟩:=this;have hr:=aX.1 ht;show go _ t (bp _) hr.1 ∅ hta
theorem QO{α:Type}{f:α->Int}:∀{l:List α} {a:α},(∀b∈l,0<=f b)->a∈l->f a<=(l.map f).sum
 |b::l,a,h,ha=>by
  have nn:∀{l:List α},(∀b∈l,0<=f b)->0<=(l.map f).sum:=λ{l} h=>by
   induction l with
   |nil=>show yq 0
   |cons c l ih =>
    rw[bt,gz];have:=h c cx;have:=ih λb hb=>h b (fq _ hb);lia
  rw[bt,gz];rcases bz.1 ha with q|q
  .rw [q];have:=nn λc hc=>h c (fq _ hc);lia
  .have:=h b cx;have:=QO (λc hc=>h c (fq _ hc)) q;lia
theorem QP:∀(m:Nat) (a:Q0e),0<=cnt x m a
 |0,a=>by show(0:Int)<=1;decide
 |m+1,a=>by
  show 0<=((aI x a).map λt=>cnt x m (bC a t)).sum;have nn:∀{l:Q0e},0<=(l.map λt=>cnt x m (bC a t)).sum:=λ{l}=>by
   induction l with
   |nil=>show yq 0
   |cons c l ih =>
    rw[bt,gz];have:=QP m (bC a c);lia
  show nn
theorem KA(hx:Ord.Rows x):∀(m:Nat) (a:Q0e),QD x a->a.length+m=x.length->1<=cnt x m a
 |0,a,_,_=>by show(1:Int)<=1;decide
 |m+1,a,ha,hl=>by obtain⟨t,ht⟩:=EE hx ha ∅;have h1:=KA hx m (bC a t) (WV ha ht) (by rw[vO];lia);have h2:=QO (f:=λt=>cnt x m (bC a t)) (λb _=>QP m _) ht;show 1<=((aI x a).map λt=>cnt x m (bC a t)).sum;lia
def KC:cnt x x.length []=(shares x).sum:=by rw[<- QM x.length [] (-1) (by simp) (.inl rfl),Zk x x.length [] (l:=-1) (l':=0) (by decide) (by decide)];rfl
def G9(hx:Ord.Rows x):1<=(shares x).sum:=by rw[<- KC];show KA hx _ [] J0 (by simp)
def MO(hx:Ord.Rows x)(S:Nat)(f:Int->Int):((aI x (things x S)).map f).sum=((bJ 0 x.length).map λt=>if G6 x t.toNat S=ae then f t else 0).sum:=by
 unfold aI;rw[a2n,vR];congr 1;show iy λt ht=>?_;have hr:=aX.1 ht;have hi:=WL hx (b:=t.toNat) (S:=S) ∅;rw[show((t.toNat:Nat):Int)=t by lia] at hi;have hm:t∈aI x (things x S)↔((LL.row x t).all λl=>(things x S).contains l)=ae/\(!(things x S).contains t)=ae:=by unfold aI;rw[gw,gw];show⟨λh=>⟨h.2,h.1.2⟩,λh=>⟨⟨ht,h.2⟩,h.1⟩⟩
 by_cases hc:G6 x t.toNat S=ae
 .rw [Z_ hc,Z_ (by have:=hm.1 (hi.1 hc);rw[ij];show this)]
 .rw [Zz hc,Zz];intro h;rw[ij] at h;show hc (hi.2 (hm.2 h))
def Cm(x:Q0a)(S:Nat):Int:=cnt x (x.length-(things x S).length) (things x S)
def WW(hx:Ord.Rows x)(hl:(things x S).length<x.length):Cm x S=((bJ 0 x.length).map λt=>if G6 x t.toNat S=ae then Cm x (S ||| 2^t.toNat) else 0).sum:=by
 obtain⟨m,hm⟩:∃m,x.length-(things x S).length=m+1:=⟨x.length-(things x S).length-1,by lia⟩;unfold Cm;rw[hm];show((aI x (things x S)).map λt=>cnt x m (bC (things x S) t)).sum=_;rw[MO hx];congr 1;show iy λt ht=>?_;have hr:=aX.1 ht;by_cases c:G6 x t.toNat S=ae
 .rw [Z_ c,Z_ c];have tb:S.testBit t.toNat=ag:=by unfold G6 at c;rw[ij] at c;simpa using c.1
  rw[sW ∅ tb,show x.length-((things x S).length+1)=m by lia];show zE m λu=>?_;have h:=zD (x:=x) (S:=S) (b:=t.toNat) ∅ u;rw[show((t.toNat:Nat):Int)=t by lia] at h;show h.symm
 .rw [Zz c,Zz c]
def V_(h1:f (bK ρ)=aa (.int v))(h2:ρ[i]?=aa (.ow (dT q F)))(h3:k (bK ρ)=aa (.int (h:Int)))(h6:F.length<16000000):mI i (pM f) k ρ=.nx (ρ.set i (.ow (dT (adr q) (yH F h v)))):=by unfold mI pM;rw[h1];simp only[cq,D.A1,if_true];rw[h2];simp only[DJ,dT,cq];rw[h3];simp only[cq];rw[Ar];simp only[cq];rw[Z_ ⟨QK F h,by unfold kdT lP;rw[bj];lia⟩,Bz]
end
def BO(hx:Ord.Rows x)(hn:x.length<=9):∀r∈x,r.length<=9:=λr hr=>iq (Ord.Rows.short hx hr) hn
def Vz(ds:List D)(h:f (bK ρ)=aa (.lst ds))(hi:pK ds=ae)(hr:ρ.set i (.ro (.lst ds))=ρ'):mB i f ρ=.nx ρ':=by unfold mB;rw[h];show(if pK ds=ae then _ else _)=_;rw[Z_ hi,hr]
def KG(hl:ds.length=np)(h:Rt (b (dW n ds)) λe=>e=d):dE n np b ds=.ok d:=by obtain⟨d',e,rfl⟩:=rK hl h;show e
def BP:eL [τ l]=aa (.int l.length):=by unfold τ;rw[kX,bj]
def WY:eL [aH l]=aa (.int l.length):=by unfold aH;rw[pS,bj]
def k8:n6:=dE 5 2
  (aM (oC 2 (iI aG))
  (aM (jV (cJ (aA (eP eL (aA (aB 0) aG)) aG)) (GH 3)
   (aM (mB 4 (cK 1 [2,0] (cJ (aA (eP eL (aA (aB 0) aG)) aG)) (g1 0) (uV (tV (aC (sN ae) (aB 0) (aB 1))) (tV (eP allM (aA (cK 1 [1] (cU (aC dZ (aB 2) (aB 0))) (g1 0) dJ (aC (sN ag) (aB 0) (aB 1))) aG)))) (aB 0)))
   (sX (tQ 2 mE (b8 (aC dZ (aB 4) (aC eS (aC dZ (aB 1) (aB 3)) (eP eL (aA (aB 4) aG)))))))))
  (cB (eP gO (aA (aB 2) aG)))))
def dF:n6:=dE 4 2
  (aM (iT (x9 (kB (tV (jD "tuple" (aB 1)))) (tV (aC V0 (eP eL (aA (aB 1) aG)) (eP eL (aA (aB 0) aG)))))
   (cB (eC (.bl ag)))
   eZ)
  (aM (oC 2 (iI aG))
  (aM (jV (cU (aB 1)) (GH 3)
   (aM (iT (x9 (kB (tV (jD "int" (aB 3)))) (x9 (tV (jD "bool" (aB 3))) (x9 (tV (aC O6 (aB 3) (eC (.int 0)))) (tV (aC geM (aB 3) (eP eL (aA (aB 0) aG)))))))
    (cB (eC (.bl ag)))
    eZ)
   (aM (iT (x9 (tV (aC (sN ag) (aB 3) (aB 2))) (kB (tV (eP allM (aA (cK 1 [2] (cU (aC dZ (aB 0) (aB 3))) (g1 0) dJ (aC (sN ag) (aB 0) (aB 1))) aG)))))
    (cB (eC (.bl ag)))
    eZ)
   (sX (tQ 2 mE (b8 (aB 3)))))))
  (cB (eC (.bl ae))))))
def Gg(x:Q0a)(w:Q0e):Prop:=w.length=x.length /\∀u t v,w=u++t::v->t∈aI x u
section
variable{x:Q0a}
def WZ(h:Gg x w):w.Perm (bJ 0 x.length):=by
 have nd:=k7 h.2;show(List.perm_ext_iff_of_nodup nd.1 (vL _)).2 λa=>⟨λha=>?_,λha=>?_⟩
 .have:=nd.2 a ha;show aX.2 ∅
 .have:=aX.1 ha;show zF h.1 h.2 ∅ ∅
theorem QQ(hx:Ord.Rows x)(hn:x.length<=9)(h0:benv 1 [2,0] ρ=[af,aa W,aa (aW x)])(hW:W=aH w)(he:aB 0 ρ=aa (aW x)):
  cK 1 [2,0] (cJ (aA (eP eL (aA (aB 0) aG)) aG)) (g1 0) (uV (tV (aC (sN ae) (aB 0) (aB 1))) (tV (eP allM (aA (cK 1 [1] (cU (aC dZ (aB 2) (aB 0))) (g1 0) dJ (aC (sN ag) (aB 0) (aB 1))) aG)))) (aB 0) ρ=aa (aH (aI x w)):=by
 subst hW;show gE ((bJ 0 x.length).map D.int) (DP (fN he g8) ∅) (by rw[bj,aU];lia) ?_;rw[h0];have e:aI x w=(bJ 0 x.length).filter λb=>!w.contains b&&(row x b).all λl=>w.contains l:=by unfold aI;rw[a2n];show List.filter_congr λa _=>Bool.and_comm _ _
 rw[e];show fB D.int (λb=>!w.contains b&&(row x b).all λl=>w.contains l) D.int _ λb hb=>⟨[aa (.int b),aa (aH w),aa (aW x)],rfl,?_,λ_=>rfl⟩;have hb:=aX.1 hb;have hr:=DW.QA hx (c:=b) ∅ ∅;show Cd (b:=!w.contains b) (jL (aS rfl rfl jF) rfl) (λh=>?_) λh=>by rw[h];rfl
 rw[h,Gr];show jL (d:=.bl ((row x b).all λl=>w.contains l)) (fN (x:=.lst (((row x b).map λl=>w.contains l).map D.bl)) ?_ ?_) rfl
 .rw [ft];show gE ((row x b).map D.int) ?_ (by rw[bj];lia) ?_
  .unfold cU;rw[aS (g:=dZ) (a:=aB 2) (b:=aB 0) (x:=aW x) (y:=.int b) rfl rfl (BJ ∅ ∅)];rfl
  .exact d9 D.int (λl=>.bl (w.contains l)) _ λl _=>⟨[aa (.int l),aa (aH w)],rfl,aS rfl rfl jF⟩
 .rw [lT];simp[nh,yr]
def W0(hx:Ord.Rows x)(hn:x.length<=9)(hd:x.length<=dr.length):∃w,Gg x w/\k8 [aW x,aH dr]=.ok (τ w):=by
 have main:∃d,k8 [aW x,aH dr]=.ok d /\∃w,Gg x w/\d=τ w:=by
  unfold k8;show rK rfl ?_;show aP [.ro (aW x),.ro (aH dr),.ow (aH []),.no,.no] rfl ?_;show lU (λρ=>∃(w:Q0e) (v3 v4:Sv),Gg x w/\ρ=[.ro (aW x),.ro (aH dr),.ow (aH w),v3,v4]) ?_ ?_
  .refine oK x.length (λi ρ=>∃(w:Q0e) (v3 v4:Sv),w.length=i/\(∀u t v,w=u++t::v->t∈aI x u)/\ρ=[.ro (aW x),.ro (aH dr),.ow (aH w),v3,v4]) (args1 (fN (x:=aW x) rfl g8)) ∅ ⟨[],.no,.no,rfl,(λu t v e=>by cases u<;>cases e),rfl⟩ (λi ρ hi ⟨w,v3,v4,h1,h2,e⟩=>?_) λρ ⟨w,v3,v4,h1,h2,e⟩=>⟨w,v3,v4,⟨h1,h2⟩,e⟩;subst e;show⟨[.ro (aW x),.ro (aH dr),.ow (aH w),.ro (.int i),v4],rfl,?_⟩;have nd:=k7 h2;obtain⟨t,ht⟩:=EE hx (a:=w) nd ∅;have hp:0<(aI x w).length:=a2j ht;show jG [.ro (aW x),.ro (aH dr),.ow (aH w),.ro (.int i),.ro (aH (aI x w))] (Vz ((aI x w).map D.int) (QQ hx hn (W:=aH w) rfl rfl rfl) (nM _) rfl) ?_;have m0:=ka (η dr i) (show((aI x w).length:Int)≠0 by lia);have m1:=k_ (η dr i) (show(0:Int)<(aI x w).length by lia);have hs:η (aI x w) (η dr i%((aI x w).length:Int))∈aI x w:=by unfold η;rw[cj (by unfold η at m0 m1;lia)];show sx _
   show⟨_,vy (d:=.int (η (aI x w) (η dr i%((aI x w).length:Int)))) (ds:=w.map D.int) ?_ rfl (by rw[bj];lia),w++[η (aI x w) (η dr i%((aI x w).length:Int))],.ro (.int i),.ro (aH (aI x w)),by simp[h1],λu t v e=>?_,?_⟩
   .exact aS (x:=aH (aI x w)) (y:=.int (η dr i%((aI x w).length:Int))) rfl (aS (x:=.int (η dr i)) (y:=.int ((aI x w).length:Int)) (aS (x:=aH dr) (y:=.int i) rfl rfl (QC ∅ ∅)) (fN (x:=aH (aI x w)) rfl WY) (bM ∅)) (QC m0 m1)
   .rcases Gh v with z|⟨v',q,z⟩
    .subst z;have:=yp e rfl;rw[<- this.1];have e2:η (aI x w) (η dr i%((aI x w).length:Int))=t:=(a2s this.2).1;rw[<- e2];show hs
    .subst z;rw[a2t] at e;have:=yp (e.trans (show u++t::(v'++[q])=(u++t::v')++[q] by simp)) rfl;show h2 u t v' this.1
   .unfold aH;rw[gp];rfl
  .rintro _ ⟨w,v3,v4,h,rfl⟩;show iK (τ w) (fN (x:=aH w) rfl rfl) ⟨w,h,rfl⟩
 obtain⟨d,e,w,h,rfl⟩:=main;show⟨w,h,e⟩
def EG(h:f ρ=.rt d):aM f g ρ=.rt d:=by unfold aM;rw[h]
def mS(hx:Ord.Rows x)(hn:x.length<=9)(hw:Gg x w):dF [aW x,τ w]=.ok (.bl ae):=by
 have nd:=k7 hw.2;unfold dF;show KG rfl ?_;show aP [.ro (aW x),.ro (τ w),.no,.no] (lQ (tS (b:=ag) (GI (b:=ae) (jL (d:=.bl ae) (isi (d:=τ w) rfl) rfl) rfl) (λ_=>jL (d:=.bl (!Zv ((w.length:Int)=x.length))) (aS (x:=.int w.length) (y:=.int x.length) (fN (x:=τ w) rfl BP) (fN (x:=aW x) rfl g8) rfl) (by rw[hw.1];simp[lR])) λh=>by cases h) rfl) ?_;show aP [.ro (aW x),.ro (τ w),.ow (aH []),.no] rfl ?_;show lU (λρ=>∃v2 v3:Sv,ρ=[.ro (aW x),.ro (τ w),v2,v3]) ?_ ?_
 .refine GX (w.map D.int) (λi ρ=>∃v3:Sv,ρ=[.ro (aW x),.ro (τ w),.ow (aH (w.take i)),v3]) rfl ⟨.no,rfl⟩ (λi d ρ hd ⟨v3,e⟩=>?_) λρ ⟨v3,e⟩=>⟨_,_,e⟩;subst e;rw[dj] at hd;obtain⟨b,hb,rfl⟩:∃b,w[i]?=aa b/\D.int b=d:=by
   cases e:w[i]? with
   |none=>rw[e] at hd;cases hd
   |some y=>rw[e] at hd;show⟨y,rfl,fg hd⟩
  have hi:i<w.length:=(cz.mp hb).1;have sp:w=w.take i++b::w.drop (i+1):=by have:=List.getElem_cons_drop (as:=w) (i:=i) hi;rw[(cz.mp hb).2] at this;rw[this,qf]
  have hr:=jN.1 (hw.2 _ b _ sp);have hrl:=DW.QA hx hr.1.1 hr.1.2;have hwl:=hw.1;show⟨[.ro (aW x),.ro (τ w),.ow (aH (w.take i)),.ro (.int b)],rfl,?_⟩;show jG _ (lQ (tS (b:=ag) (GI (b:=ae) (jL (d:=.bl ae) (isi (d:=.int b) rfl) rfl) rfl) (λ_=>tS (b:=ag) (jL (d:=.bl ag) (isi (d:=.int b) rfl) rfl) (λ_=>tS (b:=ag) (jL (d:=.bl (Zv (b<0))) (aS (x:=.int b) (y:=.int 0) rfl rfl rfl) (by rw[Zy ∅];rfl)) (λ_=>jL (d:=.bl (Zv ((x.length:Int)<=b))) (aS (x:=.int b) (y:=.int x.length) rfl (fN (x:=aW x) rfl g8) rfl) (by rw[Zy ∅];rfl)) λh=>by cases h) λh=>by cases h) λh=>by cases h) rfl) ?_;have c1:(w.take i).contains b=ag:=by simpa using hr.2.1
  have c2:((row x b).all λl=>(w.take i).contains l)=ae:=jh.2 λl hl=>by simpa using hr.2.2 l hl
  show jG _ (lQ (tS (b:=ag) (jL (d:=.bl ((w.take i).contains b)) (aS (x:=.int b) (y:=aH (w.take i)) rfl rfl jF) (by rw[c1];rfl)) (λ_=>GI (b:=ae) (jL (d:=.bl ((row x b).all λl=>(w.take i).contains l)) (fN (x:=.lst (((row x b).map λl=>(w.take i).contains l).map D.bl)) ?_ ?_) (by rw[c2];rfl)) rfl) λh=>by cases h) rfl) ?_
  .rw [ft];show gE ((row x b).map D.int) ?_ (by rw[bj];lia) ?_
   .unfold cU;rw[aS (g:=dZ) (a:=aB 0) (b:=aB 3) (x:=aW x) (y:=.int b) rfl rfl (BJ hr.1.1 hr.1.2)];rfl
   .exact d9 D.int (λl=>.bl ((w.take i).contains l)) _ λl _=>⟨[aa (.int l),aa (aH (w.take i))],rfl,aS rfl rfl jF⟩
  .rw [lT];simp[nh,yr]
  .refine ⟨_,vy (d:=.int b) (ds:=(w.take i).map D.int) rfl rfl (by rw[bj,ig];lia),.ro (.int b),?_⟩;rw[a2a,hb];unfold aH;rw[gp];rfl
 .rintro _ ⟨v2,v3,rfl⟩;show iK (.bl ae) rfl rfl
end
end LL
namespace L4
open L3
noncomputable def foldM(R:O8)(o:D):List D->KD->Option (List D×KD)
 |[],kd=>aa ([],kd)
 |v::l,kd=>match R [o,v] kd with
  |.ok r=>(foldM R o l r.2).map λp=>(r.1::p.1,p.2)
  |_=>af
noncomputable def Vy:D->Option (List D)
 |.lst l=>aa l
 |_=>af
def QR(R:O8)(io il j:Nat):XF:=λρ=>(aB io (gQ ρ)).bind λo=>(aB il (gQ ρ)).bind λl=>(Vy l).bind λvs=>(DJ ρ[j]?).bind λkd=>(foldM R o vs kd.2).bind λp=>(intsOf p.1).bind λns =>
 if vs.length<lP then aa (ρ.set j (.ow (.b7 (adr kd.1) p.2.1 p.2.2)),.int ns.sum) else af
def p5:List D->Option D
 |[.tup a]=>(intsOf a).bind λns=>if ns.length<=5000 then aa (.lst ((sortI ns).map D.int)) else af
 |_=>af
end L4
namespace LL
open L3 L4 K24
theorem oP{g:Int->Int}(hg:∀t,0<=g t):∀L:Q0e,0<=(L.map g).sum
 |[]=>yq 0
 |a::L=>by have:=oP hg L;have:=hg a;rw[bt,gz];lia
theorem zH:∀(L:Q0e) (ψ Θ:Int),ψ<=Θ->Θ<ψ+(L.map g).sum ->∃u t v,L=u++t::v/\ψ+(u.map g).sum<=Θ/\Θ<ψ+(u.map g).sum+g t
 |[],ψ,Θ,h1,h2=>by simp at h2;lia
 |a::L,ψ,Θ,h1,h2=>by
  rw[bt,gz] at h2;by_cases h:Θ<ψ+g a
  .exact ⟨[],a,L,rfl,by simpa using h1,by simpa using h⟩
  .obtain ⟨u,t,v,e,q1,q2⟩:=zH (g:=g) L (ψ+g a) Θ ∅ ∅;show⟨a::u,t,v,by rw[e];rfl,?_,?_⟩<;>rw[bt,gz]<;>lia
theorem filter_lt{u v:Q0e}{t:Int}(h:(u++t::v).Pairwise (·<·)):(u++t::v).filter (λs=>Zv (s<t))=u:=by
 obtain⟨_,h2,h3⟩:=qg.1 h;have hv:=(f_.1 h2).1;rw[a2o,Ge,Zz (by simp)];have e1:u.filter (λs=>Zv (s<t))=u:=Gb.2 λa ha=>by simpa using h3 a ha t cx
 have e2:v.filter (λs=>Zv (s<t))=[]:=Gd.2 λa ha=>by have:=hv a ha;simp;lia
 rw[e1,e2,gq]
section
variable(x:Q0a)(R:List Int->Int)
def Gn:Nat->List Int->Int
 |0,b=>R b
 |m+1,b=>((aI x b).map λt=>Gn m (b++[t])).sum
def nO(m:Nat)(b:Q0e)(t:Int):Int:=(((aI x b).filter λs=>Zv (s<t)).map λs=>Gn x R m (b++[s])).sum
def fO(b:Q0e):List Int->Int
 |[]=>0
 |t::w=>nO x R w.length b t+fO (b++[t]) w
def Way(b:Q0e):List Int->Prop
 |[]=>True
 |t::w=>t∈aI x b/\Way (b++[t]) w
end
section
variable{x:Q0a}{R:List Int->Int}
def KH(n:Nat):(bJ 0 n).Pairwise (·<·):=by unfold bJ;show qo _ (λa b h=>by lia) a2f
def nP(b:Q0e):(aI x b).Pairwise (·<·):=qp _ (qp _ (KH x.length))
theorem KI(hR:∀w,0<=R w):∀(m:Nat) (b:Q0e),0<=Gn x R m b
 |0,b=>hR b
 |m+1,b=>oP (λt=>KI hR m (b++[t])) _
def W2(hR:∀w,0<=R w){m:Nat}{b:Q0e}{Θ:Int}(h0:0<=Θ)(h1:Θ<Gn x R (m+1) b):∃t u v,aI x b=u++t::v/\nO x R m b t<=Θ/\Θ<nO x R m b t+Gn x R m (b++[t])/\(aI x b).filter (λs=>Zv (nO x R m b s<=Θ))=u++[t]:=by
 have hg:∀t,0<=Gn x R m (b++[t]):=λt=>KI hR m _;obtain⟨u,t,v,e,q1,q2⟩:=zH (g:=λt=>Gn x R m (b++[t])) (aI x b) 0 Θ h0 (by rw[qq];show h1);have inc:=nP (x:=x) b;have ea:∀{u t v},aI x b=u++t::v->nO x R m b t=(u.map λs=>Gn x R m (b++[s])).sum:=λ{u t v} e=>by unfold nO;rw[e] at inc ⊢;rw[filter_lt inc]
 have et:=ea e;show⟨t,u,v,e,by lia,by lia,?_⟩;rw[e] at inc;have eu:u.filter (λs=>Zv (nO x R m b s<=Θ))=u:=Gb.2 λs hs=>by obtain⟨u1,u2,rfl⟩:=oz hs;have:=ea (u:=u1) (t:=s) (v:=u2++t::v) (by rw[e];simp);have n2:=oP hg (s::u2);rw[gp,ye] at q1;simp only[decide_eq_true_eq];lia
 have ev:v.filter (λs=>Zv (nO x R m b s<=Θ))=[]:=Gd.2 λs hs=>by obtain⟨v1,v2,rfl⟩:=oz hs;have:=ea (u:=u++t::v1) (t:=s) (v:=v2) (by rw[e];simp);have n2:=oP hg v1;rw[gp,ye,bt,gz] at this;simp only[decide_eq_true_eq];lia
 rw[e,a2o,Ge,Z_ (by simp only[decide_eq_true_eq];lia),eu,ev]
theorem BQ(hR:∀w,0<=R w):∀(w b:Q0e),Way x b w->0<=fO x R b w/\fO x R b w+R (b++w)<=Gn x R w.length b
 |[],b,_=>by rw[gq];show⟨yq 0,by show 0+R b<=R b;lia⟩
 |t::w,b,h=>by
  obtain⟨h0,h1⟩:=BQ hR w (b++[t]) h.2;rw[ng] at h1;have hg:∀t,0<=Gn x R w.length (b++[t]):=λt=>KI hR _ _;obtain⟨u,v,e⟩:=oz h.1;have inc:=nP (x:=x) b;have ea:nO x R w.length b t=(u.map λs=>Gn x R w.length (b++[s])).sum:=by unfold nO;rw[e] at inc ⊢;rw[filter_lt inc]
  have n1:=oP hg u;have n2:=oP hg v;have eg:Gn x R (w.length+1) b=(u.map λs=>Gn x R w.length (b++[s])).sum+(Gn x R w.length (b++[t])+(v.map λs=>Gn x R w.length (b++[s])).sum):=by show((aI x b).map λt=>Gn x R w.length (b++[t])).sum=_;rw[e,gp,ye,bt,gz]
  show⟨?_,?_⟩
  .show 0<=nO x R w.length b t+fO x R (b++[t]) w;lia
  .show nO x R w.length b t+fO x R (b++[t]) w+R (b++t::w)<=Gn x R (w.length+1) b;rw[eg];have h1':fO x R (b++[t]) w+R (b++t::w)<=Gn x R w.length (b++[t]):=h1;lia
theorem QS(hR:∀w,0<=R w):∀(w z b:Q0e),w.length=z.length->Way x b w->Way x b z->dY w z=ae->fO x R b w+R (b++w)<=fO x R b z
 |[],[],_,_,_,_,h=>by cases h
 |s::w,t::z,b,hl,hw,hz,h=>by
  have hl2:w.length=z.length:=by simpa using hl
  by_cases e:s=t
  .subst e;have hx:dY w z=ae:=by unfold dY at h;rwa [Z_ rfl] at h
   have:=QS hR w z (b++[s]) hl2 hw.2 hz.2 hx;rw[ng] at this;show nO x R w.length b s+fO x R (b++[s]) w+R (b++s::w)<=nO x R z.length b s+fO x R (b++[s]) z;rw[hl2];have aKj:fO x R (b++[s]) w+R (b++s::w)<=fO x R (b++[s]) z:=this;lia
  .have hst:s<t:=by unfold dY at h;rw[Zz e] at h;simpa using h
   obtain⟨_,h1⟩:=BQ hR w (b++[s]) hw.2;obtain⟨h2,_⟩:=BQ hR z (b++[t]) hz.2;rw[ng] at h1;have hg:∀t,0<=Gn x R z.length (b++[t]):=λt=>KI hR _ _;have inc:=nP (x:=x) b;have key:nO x R z.length b s+Gn x R z.length (b++[s])<=nO x R z.length b t:=by
    obtain⟨u,v,e⟩:=oz hz.1;have hs:s∈u:=by
     have hm:=hw.1;rw[e] at hm inc;obtain⟨_,i2,_⟩:=qg.1 inc;rcases gn.1 hm with q|q
     .exact q
     .rcases bz.1 q with q|q
      .omega
      .have:=(f_.1 i2).1 s q;lia
    obtain⟨u1,u2,e2⟩:=oz hs;have a1:nO x R z.length b t=(u.map λs=>Gn x R z.length (b++[s])).sum:=by unfold nO;rw[e] at inc ⊢;rw[filter_lt inc]
    have a2:nO x R z.length b s=(u1.map λs=>Gn x R z.length (b++[s])).sum:=by
     have e3:aI x b=u1++s::(u2++t::v):=by rw[e,e2];simp
     unfold nO;rw[e3] at inc ⊢;rw[filter_lt inc]
    rw[a1,a2,e2,gp,ye,bt,gz];have:=oP hg u2;lia
   show nO x R w.length b s+fO x R (b++[s]) w+R (b++s::w)<=nO x R z.length b t+fO x R (b++[t]) z;rw[hl2] at h1 ⊢;have h1':fO x R (b++[s]) w+R (b++s::w)<=Gn x R z.length (b++[s]):=h1;lia
def zJ(x:Q0a)(b:Q0e):Prop:=∀u t v,b=u++t::v->t∈aI x u
def zJ.snoc(h:zJ x b)(ht:t∈aI x b):zJ x (b++[t]):=by
 intro u s r e;rcases Gh r with hr|⟨r',c,hr⟩
 .subst hr;obtain⟨e1,e2⟩:=yp e rfl;rw[<- e1];injection e2 with e2 _;rw[<- e2];show ht
 .subst hr;have e':b++[t]=(u++s::r')++[c]:=by rw[e];simp
  show h u s r' (yp e' rfl).1
def zJ.front(h:zJ x (b++[t])):zJ x b/\t∈aI x b:=⟨λu s r e=>h u s (r++[t]) (by rw[e];simp),h b t [] rfl⟩
def zJ.ok(h:zJ x b):QD x b:=k7 h
def zK(b:Q0e)(t:Int):bC (sortI b) t=sortI (b++[t]):=by unfold bC;show rM ((sortI_perm _).trans (((sortI_perm b).append_right [t]).trans (sortI_perm _).symm)) (g7 _) (g7 _)
end
end LL
namespace gK
open L3 L4
def eA:n6:=dE 2 1
  (aM (bP 1 (eC (.str "NoThing Looped NoOrder NoNumber TooGreat NoGoing NoRow NoFilling NotLoose NotForest NoShape")))
  (aM (bP 1 (aC dI (aB 1) (eC (.str " NoName NoLine"))))
  (aM (iT (x9 (tV (aC V0 (aC uE (aB 0) (eC (.bl ae))) (eC (.int 2)))) (kB (tV (aC dZ (aB 0) (eC (.int 13))))))
   (cB (eC (.str "other")))
   eZ)
  (cB (aC dZ (aC splitM (aB 1) (eC (.str " "))) (aC uF (aB 0) (eC (.bl ae))))))))
open K24 LL
def Zi(h:Nx (f ρ) Q):Nx (PM f ρ) Q:=by obtain⟨ρ',e,q⟩:=h;show⟨ρ',by unfold PM;rw[e],q⟩
def QT(ha:a ρ=aa x)(hb:b ρ=aa y)(hc:c ρ=aa w)(h1:f x y=aa (.bl ae))(h2:g y w=aa z):kH f g a b c ρ=aa z:=by unfold kH;rw[ha,hb,hc];simp only[cq,h1,l9,if_true,h2]
def Zh(ha:a ρ=aa x)(hb:b ρ=aa y)(h1:f x y=aa (.bl ag)):kH f g a b c ρ=aa (.bl ag):=by unfold kH;rw[ha,hb];simp only[cq,h1,l9];rfl
def fl(w:Q0e)(i:Nat):Int:=if η w i>η w ((i:Int)+1) then 1 else 0
def nms:aj:=("NoThing Looped NoOrder NoNumber TooGreat NoGoing NoRow NoFilling NotLoose NotForest NoShape":aj)++(" NoName NoLine":aj)
def MP:n_ nms (" ":aj)=[("NoThing":aj),"Looped","NoOrder","NoNumber","TooGreat","NoGoing","NoRow","NoFilling","NotLoose","NotForest","NoShape","NoName","NoLine"]:=by decide+kernel
def W3:nms.length+2<=lP/\((" ":aj).length == 0)=ag:=by decide+kernel
def QU(h:a.length+b.length<=lP):dI (.str a) (.str b)=aa (.str (a++b)):=Z_ h
def HA(h:a.length+2<=lP/\(b.length == 0)=ag):splitM (.str a) (.str b)=aa (.lst ((n_ a b).map D.str)):=Z_ h
def W4:dI (.str ("NoThing Looped NoOrder NoNumber TooGreat NoGoing NoRow NoFilling NotLoose NotForest NoShape":aj)) (.str (" NoName NoLine":aj))=aa (.str nms):=QU (by decide+kernel)
theorem vS{ks:D}{i:Nat}{c:aj}(h1:uE ks (.bl ae)=aa (.int 2))(h2:dZ ks (.int 13)=aa (.bl ae))(h3:uF ks (.bl ae)=aa (.int (i:Int)))
  (h4:[("NoThing":aj),"Looped","NoOrder","NoNumber","TooGreat","NoGoing","NoRow","NoFilling","NotLoose","NotForest","NoShape","NoName","NoLine"][i]?=aa c):eA [ks]=.ok (.str c):=by
 unfold eA;show gZ rfl (cP _ (fA _ rfl rfl) (cP [.ro ks,.ro (.str nms)] (fA (.str nms) (aS rfl rfl W4) rfl) (cP [.ro ks,.ro (.str nms)] (lQ (tS (b:=ag) (jL (d:=.bl ag) (aS (x:=.int 2) (y:=.int 2) (aS (x:=ks) (y:=.bl ae) rfl rfl h1) rfl rfl) rfl) (λ_=>GI (b:=ae) (jL (d:=.bl ae) (aS (x:=ks) (y:=.int 13) rfl rfl h2) rfl) rfl) λh=>by cases h) rfl) (gJ ?_))));show aS (x:=.lst ((n_ nms (" ":aj)).map D.str)) (y:=.int (i:Int)) (aS (x:=.str nms) (y:=.str (" ":aj)) rfl rfl (HA W3)) (aS (x:=ks) (y:=.bl ae) rfl rfl h3) ?_;rw[MP];show uJ ?_;rw[dj,h4];rfl
abbrev zf:D:=.lst [.bl ag,.bl ag,.bl ag,.bl ae,.bl ag,.bl ag,.bl ag,.bl ag,.bl ag,.bl ag,.bl ag,.bl ag,.bl ag,.bl ae]
def Zg:eA [zf]=.ok (.str "NoNumber"):=vS (i:=3) rfl rfl rfl rfl
def By(h:fb ρ=.nx ρ')(h2:fr ρ'=o):sR fb fh fr ρ=o:=by unfold sR;rw[h];show h2
def Bx(h:fb ρ=.ex c)(h1:fh c=aa ρ1)(h2:fr ρ1=.rt d):sR fb fh fr ρ=.rt d:=by unfold sR;rw[h];dsimp only;rw[h1];dsimp only;rw[h2]
def rcA(ha:t ρ=aa ds)(h:A_ (R ds)=c):DH R t ρ=c:=by unfold DH;rw[ha];show h
def Ap(l:Q0e)(lo hi:Option Int):∃l':Q0e,yE (l.map D.int) lo hi=l'.map D.int/\l'.length<=l.length:=by unfold yE;rw[<- List.map_drop,<- Fv];show⟨_,rfl,?_⟩;rw[ig,mz];lia
def slL(h:f ρ=aa (aH l))(h1:lo ρ=aa a)(h2:hi ρ=aa b):∃l':Q0e,u4 f lo hi ρ=aa (aH l')/\l'.length<=l.length:=by obtain⟨l',e,hl⟩:=Ap l a b;show⟨l',?_,hl⟩;unfold u4;rw[h,h1,h2];show aa (D.lst (yE (l.map D.int) a b))=_;rw[e];rfl
def slT(h:f ρ=aa (τ l))(h1:lo ρ=aa a)(h2:hi ρ=aa b):∃l':Q0e,u4 f lo hi ρ=aa (τ l')/\l'.length<=l.length:=by obtain⟨l',e,hl⟩:=Ap l a b;show⟨l',?_,hl⟩;unfold u4;rw[h,h1,h2];show aa (D.tup (yE (l.map D.int) a b))=_;rw[e];rfl
def Hf(h:f ρ=aa (.int i)):oE f ρ=aa (aa i):=by unfold oE;rw[h];rfl
def QV(h:a.length+b.length<=16777216):DB (aH a) (aH b)=aa (aH (a++b)):=by unfold aH;rw[gp];show Z_ (by rw[bj,bj];show h)
theorem EH(f:Int->D):∀(n:Nat) (a:Q0e),(cc n (a.map f)).flatten=(cc n a).flatten.map f
 |0,_=>rfl
 |n+1,a=>by rw[iw,nc,iw,nc,gp,EH f n a]
theorem mT:∀(n:Nat) (a:Q0e),(cc n a).flatten.length=n*a.length
 |0,_=>by simp
 |n+1,a=>by rw[iw,nc,dm,mT n a,xy];lia
def W5(h1:x ρ=aa (ρ,.int v))(h2:ρ[i]?=aa (.ow (aH l)))(h3:k (bK ρ)=aa (.int kk))(hj:O7 l.length kk=aa j):DF i x k ρ=.nx (ρ.set i (.ow (aH (l.set j v)))):=by unfold DF;rw[h1];simp only[cq];rw[h2,h3];simp only[aH,oB,cq,asInt,bj];rw[hj];simp only[mx,List.map_set]
def xrE(h:f (gQ ρ)=aa d):b8 f ρ=aa (ρ,d):=by unfold b8;rw[h];rfl
def xpE(h:f (bK ρ)=aa (.int i)):pM f ρ=aa (ρ,.int i):=by unfold pM;rw[h];rfl
def HB{l:Q0e}{p:Nat}(h:p<l.length):∃v,uC (l.map D.int) (p:Int)=aa (.int v)/\l[p]?=aa v:=⟨l[p],jI (cj h),cj h⟩
def BR(h:p<n):O7 n (p:Int)=aa p:=by unfold O7;rw[Z_ ∅,Z_ ∅];simp
def QW(h:f (gQ ρ)=aa (.tup [p,q])):GS (b8 f) (PK i j) ρ=.nx ((ρ.set i (.ro p)).set j (.ro q)):=by unfold GS;rw[xrE h];rfl
def MQ(h:r.length<=1000000):LL.cL 6 [.tup [.str "told",τ r],.tup [.str "told",τ r]]=.ok (.bl ae):=same_refl 6 _ ⟨Fh rfl,λd hd=>by
 rcases bz.1 hd with z|hd
 .rw [z];trivial
 .rcases bz.1 hd with z|hd
  .rw [z];show GZ h
  .cases hd⟩
def HC(N:Int):LL.cL 6 [.tup [.str "told",.int N],.tup [.str "told",.int N]]=.ok (.bl ae):=same_refl 6 _ ⟨Fh rfl,λd hd=>by
 rcases bz.1 hd with z|hd
 .rw [z];trivial
 .rcases bz.1 hd with z|hd
  .rw [z];trivial
  .cases hd⟩
def QX:LL.cL 6 [.tup [.str "refused",.str "NoNumber"],.tup [.str "refused",.str "NoNumber"]]=.ok (.bl ae):=same_refl 6 _ ⟨Fh rfl,λd hd=>by
 rcases bz.1 hd with z|hd
 .rw [z];trivial
 .rcases bz.1 hd with z|hd
  .rw [z];trivial
  .cases hd⟩
def QY(ha:a ρ=aa (.bl ae))(hb:b ρ=aa (.bl ae)):kG a b ρ=aa (.bl ae):=by unfold kG;rw[ha];show hb
def HD(h:dY a b=ae):MK (τ a) (τ b)=aa (.bl ae):=by show((intsOf (a.map D.int)).bind λx=>(intsOf (b.map D.int)).map λy=>D.bl (dY x y))=_;rw[bU,bU];show aa (D.bl (dY a b))=_;rw[h]
end gK
namespace K11
open L3 L4
def cD:Nat->O8
 |0=>λ_ _=>.no
 |n+1=>runM 4 3
  ((aM (iT (tV (aC kJ (eP eL (aA (aB 1) aG)) (eP eL (aA (aB 0) aG))))
   (mI 2 (b8 (eC (.int 1))) (aB 1))
   eZ)
  (iT (tV (aC (MJ ae) (aB 1) (aB 2)))
   (aM (bP 3 (cK 1 [1] (cU (aT LL.bY (aA (aB 0) (aA (aB 1) aG)))) (g1 0) dJ (aT LL.iW (aA (aB 1) (aA (aB 0) aG)))))
   (mI 2 (QR (cD n) 0 3 2) (aB 1)))
   eZ)))
  (aB 1)
def fZ:n6:=dE 2 1
  (aM (Ce 1)
  (aM (V5 (cD 11) (aA (aB 0) (aA (iH aG) aG)) 1)
  (cB (aB 1))))
def gL:n6:=dE 1 1
  (cB (aC A4 (aT fZ (aA (aB 0) aG)) (iH aG)))
def bV:n6:=dE 5 4
  (aM (bP 4 (cK 1 [3] (cU (aT LL.bY (aA (aB 0) (aA (aB 2) aG)))) (g1 0) (tV (aC O6 (aB 0) (aB 1))) (aB 0)))
  (cB (eP yD (aA (cK 1 [1,2] (cU (aB 4)) (g1 0) dJ (aC A4 (aB 1) (aT LL.iW (aA (aB 2) (aA (aB 0) aG))))) aG))))
def jW:n6:=dE 5 4
  (aM (bP 4 (aT LL.bY (aA (aB 0) (aA (aB 2) aG))))
  (cB (eP JY (aA (cK 1 [3,0,1,2] (cU (aB 4)) (g1 0) (tV (aC leM (aT bV (aA (aB 2) (aA (aB 3) (aA (aB 4) (aA (aB 0) aG))))) (aB 1))) (aB 0)) aG))))
def dM:n6:=dE 7 2
  (aM (bP 2 (aT fZ (aA (aB 0) aG)))
  (aM (iT (kB (tV (kH leM O6 (eC (.int 0)) (aB 1) (aC A4 (aB 2) (iH aG)))))
   (uD (aA (eC (.str "no going has this number")) aG) "NoNumber")
   eZ)
  (aM (bP 3 (iH aG))
  (aM (bP 4 (aB 1))
  (aM (PM (jV (cJ (aA (eP eL (aA (aB 0) aG)) aG)) (GH 5)
   (aM (bP 6 (aT jW (aA (aB 0) (aA (aB 2) (aA (aB 3) (aA (aB 4) aG))))))
   (aM (bP 4 (aC mD (aB 4) (aT bV (aA (aB 0) (aA (aB 2) (aA (aB 3) (aA (aB 6) aG)))))))
   (bP 3 (aC dI (aB 3) (iH (aA (aB 6) aG))))))))
  (cB (aB 3)))))))
def jX:n6:=dE 2 2
  (aM (iT (tV (aC MH (eP p5 (aA (aB 1) aG)) (qY (aA (eP eL (aA (aB 0) aG)) aG))))
   (cB (eC (.bl ag)))
   eZ)
  (cB (eP allM (aA (cK 2 [1] (cU (aT LL.iL (aA (aB 0) aG))) (g2 0 1) dJ (aC O6 (aC JZ (aB 2) (aB 0)) (aC JZ (aB 2) (aB 1)))) aG))))
def bZ:n6:=dE 3 2
  (aM (iT (kB (tV (aT jX (aA (aB 0) (aA (aB 1) aG)))))
   (uD (aA (eC (.str "no going of the order")) aG) "NoGoing")
   eZ)
  (aM (bP 2 (aT fZ (aA (aB 0) aG)))
  (cB (eP yD (aA (cK 2 [0,2,1] (pL (aA (aB 1) aG)) (g2 0 1) dJ (aT bV (aA (aB 2) (aA (aB 3) (aA (u4 (aB 4) u3 (oE (aB 0))) (aA (aB 1) aG)))))) aG)))))
def fV:n6:=dE 7 1
  (aM (bP 1 (aT LL.k6 (aA (aB 0) aG)))
  (aM (bP 2 (eP eL (aA (aB 0) aG)))
  (aM (A5 3 (aC mD (aC A6 (eC (.int 1)) (aB 2)) (eC (.int 1))) (eC (.int 1)))
  (aM (jV (cJ (aA (aC mD (aC A6 (eC (.int 1)) (aB 2)) (eC (.int 1))) aG)) (GH 4)
   (aM (bP 5 (aC mD (aC mD (aC A6 (eC (.int 1)) (aB 2)) (eC (.int 2))) (aB 4)))
   (iT (tV (eP allM (aA (cK 1 [5,1] (cJ (aA (aB 2) aG)) (g1 0) (tV (aC kJ (aC mJ (aC GV (aB 1) (aB 0)) (eC (.int 1))) (eC (.int 1)))) (aC kJ (aC mJ (aC dZ (aB 2) (aB 0)) (aB 1)) (aC dZ (aB 2) (aB 0)))) aG)))
    (aM (bP 6 (cK 1 [5,1] (cJ (aA (aB 2) aG)) (g1 0) (uV (tV (aC kJ (aC mJ (aC GV (aB 1) (aB 0)) (eC (.int 1))) (eC (.int 0)))) (tV (aC kJ (aC mJ (aC dZ (aB 2) (aB 0)) (aB 1)) (aC dZ (aB 2) (aB 0))))) (aB 0)))
    (mI 3 (pM (eP yD (aA (cK 1 [3,5] (cU (aB 6)) (g1 0) dJ (aC A4 (aB 1) (aC V6 (aB 2) (aC A6 (eC (.int 1)) (aB 0))))) aG))) (aB 5)))
    eZ)))
  (cB (aC A4 (aB 3) (eC (.int 0))))))))
def kL:n6:=dE 5 2
  (aM (bP 2 (eC .non))
  (aM (bP 3 (iI aG))
  (sR (DI (DH dM (aA (aB 0) (aA (aB 1) aG))) (bP 2 (aT dM (aA (aB 0) (aA (aB 1) aG))))) (λc=>if c="NoNumber" then aa [.no,.no,.no,.ro (.lst [.bl ag,.bl ag,.bl ag,.bl ae,.bl ag,.bl ag,.bl ag,.bl ag,.bl ag,.bl ag,.bl ag,.bl ag,.bl ag,.bl ae]),.no] else af)
  (aM (iT (tV (aC gtM (eP eL (aA (aB 3) aG)) (eC (.int 0))))
   (cB (iH (aA (eC (.str "refused")) (aA (aT gK.eA (aA (aB 3) aG)) aG))))
   eZ)
  (cB (iH (aA (eC (.str "told")) (aA (aB 2) aG))))))))
def fW:n6:=dE 5 2
  (aM (bP 2 (eC .non))
  (aM (bP 3 (iI aG))
  (sR (DI (DH bZ (aA (aB 0) (aA (aB 1) aG))) (bP 2 (aT bZ (aA (aB 0) (aA (aB 1) aG))))) (λc=>if c="NoGoing" then aa [.no,.no,.no,.ro (.lst [.bl ag,.bl ag,.bl ag,.bl ag,.bl ag,.bl ae,.bl ag,.bl ag,.bl ag,.bl ag,.bl ag,.bl ag,.bl ag,.bl ae]),.no] else af)
  (aM (iT (tV (aC gtM (eP eL (aA (aB 3) aG)) (eC (.int 0))))
   (cB (iH (aA (eC (.str "refused")) (aA (aT gK.eA (aA (aB 3) aG)) aG))))
   eZ)
  (cB (iH (aA (eC (.str "told")) (aA (aB 2) aG))))))))
def eM:n6:=dE 6 2
  (aM (bP 2 (eP eL (aA (aB 0) aG)))
  (aM (iT (tV (aC kJ (aC eS (aC dZ (aB 1) (eC (.int 0))) (eC (.int 7))) (eC (.int 6))))
   (cB (aC dI (aB 0) (u4 (aC dI (aC sO (aB 0) (eC (.int 290))) (aC sO (iH (aA (eC (.int 0)) aG)) (eC (.int 290)))) u3 (oE (aC dI (eC (.int 1)) (aC eS (aC dI (aC mulM (eC (.int 64)) (aC dZ (aB 1) (eC (.int 1)))) (aC dZ (aB 1) (eC (.int 2)))) (eC (.int 290))))))))
   eZ)
  (aM (iT (tV (aC kJ (aC eS (aC dZ (aB 1) (eC (.int 0))) (eC (.int 7))) (eC (.int 0))))
   (aM (bP 3 (aC eS (aC dZ (aB 1) (eC (.int 1))) (aC dI (aB 2) (eC (.int 1)))))
   (cB (aC dI (aC dI (u4 (aB 0) u3 (oE (aB 3))) (iH (aA (aC dZ (iI (aA (aB 2) (aA (yB (eC (.int 1))) (aA (eC (.int 0)) aG)))) (aC eS (aC dZ (aB 1) (eC (.int 2))) (eC (.int 3)))) aG))) (u4 (aB 0) (oE (aB 3)) u3))))
   eZ)
  (aM (iT (tV (aC kJ (aB 2) (eC (.int 0))))
   (cB (iH (aA (aC mD (aC eS (aC dZ (aB 1) (eC (.int 1))) (eC (.int 2))) (eC (.int 1))) aG)))
   eZ)
  (aM (bP 3 (aC eS (aC dZ (aB 1) (eC (.int 1))) (aB 2)))
  (aM (bP 4 (aC eS (aC dZ (aB 1) (eC (.int 2))) (aB 2)))
  (aM (oC 5 (eP DA (aA (aB 0) aG)))
  (aM (iT (tV (aC O6 (aC eS (aC dZ (aB 1) (eC (.int 0))) (eC (.int 7))) (eC (.int 3))))
   (aM (DF 5 (b8 (aC dZ (aB 0) (aB 4))) (aB 3))
   (DF 5 (b8 (aC dZ (aB 0) (aB 3))) (aB 4)))
   (iT (tV (aC kJ (aC eS (aC dZ (aB 1) (eC (.int 0))) (eC (.int 7))) (eC (.int 3))))
    (DF 5 (b8 (aC dZ (aB 0) (aB 4))) (aB 3))
    (iT (tV (aC kJ (aC eS (aC dZ (aB 1) (eC (.int 0))) (eC (.int 7))) (eC (.int 4))))
     (sP 5 (aC DB (u4 (aB 5) u3 (oE (aB 3))) (u4 (aB 5) (oE (aC dI (aB 3) (eC (.int 1)))) u3)))
     (DF 5 (pM (aC dZ (iI (aA (aB 2) (aA (yB (eC (.int 1))) (aA (yB (eC (.int 2))) (aA (aC mD (aC dZ (aB 5) (aB 3)) (aB 2)) aG))))) (aC eS (aC dZ (aB 1) (eC (.int 3))) (eC (.int 4))))) (aB 3)))))
  (cB (eP gO (aA (aB 5) aG)))))))))))
def zL:n6:=dE 12 1
  (aM (bP 1 (aT LL.kU (aA (aB 0) (aA (eC (.int 0)) (aA (eC (.int 9)) (aA (eC (.int 100003)) aG))))))
  (aM (bP 2 (aT LL.fK (aA (aT LL.gI (aA (aB 0) (aA (eC (.int 2)) aG))) (aA (eC (.int 2)) (aA (eC (.int 200017)) aG)))))
  (aM (bP 3 (aT LL.gI (aA (aB 0) (aA (eC (.int 3)) aG))))
  (aM (bP 4 (aT fV (aA (aB 1) aG)))
  (aM (iT (kB (tV (aT (LL.cL 6) (aA (aT gL (aA (aB 1) aG)) (aA (aB 4) aG)))))
   (cB (eC (.bl ag)))
   eZ)
  (aM (iT (tV (aC kJ (aC eS (aC dZ (aB 2) (eC (.int 0))) (eC (.int 4))) (eC (.int 0))))
   (aM (bP 5 (aT LL.jM (aA (aB 3) (aA (aC mD (aC JW (aC uW (eC (.int 10)) (eC (.int 60))) (eC (.int 10))) (aC uW (eC (.int 10)) (eC (.int 6)))) (aA (eC (.int 300007)) aG)))))
   (aM (bP 6 (aC dZ (iI (aA (yB (eC (.int 1))) (aA (aB 4) (aA (aC dI (aB 4) (aB 5)) (aA (aC mD (yB (eC (.int 1))) (aB 5)) aG))))) (aC eS (aC dZ (aB 2) (eC (.int 1))) (eC (.int 4)))))
   (cB (aT (LL.cL 6) (aA (aT kL (aA (aB 1) (aA (aB 6) aG))) (aA (iH (aA (eC (.str "refused")) (aA (eC (.str "NoNumber")) aG))) aG))))))
   eZ)
  (aM (iT (tV (aC kJ (aC eS (aC dZ (aB 2) (eC (.int 0))) (eC (.int 4))) (eC (.int 1))))
   (aM (bP 7 (aT LL.k8 (aA (aB 1) (aA (aT LL.fK (aA (aB 3) (aA (eC (.int 9)) (aA (eC (.int 300007)) aG)))) aG))))
   (aM (bP 8 (aT LL.fK (aA (aT LL.gI (aA (aB 0) (aA (eC (.int 4)) aG))) (aA (eC (.int 9)) (aA (eC (.int 400009)) aG)))))
   (aM (bP 7 (aT eM (aA (aB 7) (aA (aB 8) aG))))
   (aM (iT (tV (aC kJ (aC eS (aC dZ (aB 8) (eC (.int 8))) (eC (.int 2))) (eC (.int 1))))
    (bP 7 (u4 (aT eM (aA (aB 7) (aA (u4 (aB 8) (oE (eC (.int 4))) u3) aG))) u3 (oE (eC (.int 300)))))
    eZ)
   (aM (GS (b8 (aT fW (aA (aB 1) (aA (aB 7) aG)))) (PK 9 10))
   (aM (iT (kB (tV (aT LL.dF (aA (aB 1) (aA (aB 7) aG)))))
    (cB (kG (aC kJ (aB 9) (eC (.str "refused"))) (aC kJ (aB 10) (eC (.str "NoGoing")))))
    eZ)
   (cB (kG (aC kJ (aB 9) (eC (.str "told"))) (aT (LL.cL 6) (aA (aT kL (aA (aB 1) (aA (aB 10) aG))) (aA (iH (aA (eC (.str "told")) (aA (aB 7) aG))) aG)))))))))))
   eZ)
  (aM (bP 6 (aT LL.jM (aA (aB 3) (aA (aB 4) (aA (eC (.int 300007)) aG)))))
  (aM (iT (tV (aC kJ (aC eS (aC dZ (aB 2) (eC (.int 1))) (eC (.int 8))) (eC (.int 0))))
   (bP 6 (aC mD (aB 4) (eC (.int 1))))
   eZ)
  (aM (GS (b8 (aT kL (aA (aB 1) (aA (aB 6) aG)))) (PK 9 7))
  (aM (iT (x9 (tV (aC V0 (aB 9) (eC (.str "told")))) (kB (tV (aT LL.dF (aA (aB 1) (aA (aB 7) aG))))))
   (cB (eC (.bl ag)))
   eZ)
  (aM (iT (kB (tV (aT (LL.cL 6) (aA (aT fW (aA (aB 1) (aA (aB 7) aG))) (aA (iH (aA (eC (.str "told")) (aA (aB 6) aG))) aG)))))
   (cB (eC (.bl ag)))
   eZ)
  (aM (GS (b8 (aT kL (aA (aB 1) (aA (aC dI (aB 6) (eC (.int 1))) aG)))) (PK 9 11))
  (aM (iT (tV (aC kJ (aC dI (aB 6) (eC (.int 1))) (aB 4)))
   (cB (kG (aC kJ (aB 9) (eC (.str "refused"))) (aC kJ (aB 11) (eC (.str "NoNumber")))))
   eZ)
  (cB (kG (aC kJ (aB 9) (eC (.str "told"))) (kG (aT LL.dF (aA (aB 1) (aA (aB 11) aG))) (aC MK (aB 7) (aB 11)))))))))))))))))))
open K24 LL
section
variable{x:Q0a}
def kW(a:Q0e):x5:=.inr (a.map λt=>.inl (.inl t))
theorem KJ:∀a:Q0e,rA (a.map D.int)=aa (a.map λt=>.inl (.inl t))
 |[]=>rfl
 |t::a=>by rw[bt];unfold rA;rw[KJ a];rfl
def KL(a:Q0e):mH (τ a)=aa (kW a):=by show(rA (a.map D.int)).map jr=_;rw[KJ];rfl
theorem HE:∀{a b:Q0e},kW a=kW b->a=b
 |[],[],_=>rfl
 |[],_::_,h=>by simp[kW] at h
 |_::_,[],h=>by simp[kW] at h
 |s::a,t::b,h=>by unfold kW at h;simp only[bt,Sum.inr.injEq,a2r,a0a] at h;rw[h.1,HE (a:=a) (b:=b) (by unfold kW;rw[h.2])]
abbrev cW(x:Q0a)(a:Q0e):D:=.int (cnt x (x.length-a.length) a)
abbrev HF(kd:KD)(a:Q0e):Prop:=(bS kd.1 kd.2 (kW a)).isSome=ae
def iX(x:Q0a)(kd:KD):Prop:=kd.1.length=kd.2.length/\(∀q∈kd.1,q.isLeft=ag)/\(∀a d,bS kd.1 kd.2 (kW a)=aa d->d=cW x a) /\∀a,HF kd a->a.length<x.length ->∀t∈aI x a,HF kd (bC a t)
def p6(x:Q0a)(kd:KD)(a:Q0e):KD:=fT kd.1 kd.2 (kW a) (cW x a)
def KN{kd:KD}{a:Q0e}(h:iX x kd)(hs:a.length<x.length ->∀t∈aI x a,HF kd (bC a t)):iX x (p6 x kd a)/\(p6 x kd a).1.length<=kd.1.length+1/\bS (p6 x kd a).1 (p6 x kd a).2 (kW a)=aa (cW x a)/\QG kd (p6 x kd a):=by
 have up:QG kd (p6 x kd a):=λk e=>by
  unfold p6;rw[mM (ks:=[]) h.1];split
  .rfl
  .exact e
 show⟨⟨(J1 h.1).1,MM h.2.1 rfl,λb d e=>?_,λb e hb t ht=>?_⟩,(J1 h.1).2,by unfold p6;rw[mM (ks:=[]) h.1,Z_ rfl],up⟩
 .unfold p6 at e;rw[mM (ks:=[]) h.1] at e;split at e
  .rename_i hk;cases HE hk;show(fg e).symm
  .exact h.2.2.1 b d e
 .unfold HF p6 at e;rw[mM (ks:=[]) h.1] at e;split at e
  .rename_i hk;cases HE hk;show up _ (hs hb t ht)
  .exact up _ (h.2.2.2 b e hb t ht)
abbrev KO(x:Q0a)(a:Q0e)(q:Nat->ax->Prop)(kd:KD)(v:Sv):bT:=[.ro (aW x),.ro (τ a),.ow (.b7 q kd.1 kd.2),v]
def vx{a:Q0e}{q:Nat->ax->Prop}{kd:KD}{v:Sv}(h:iX x kd):tV (aC (MJ ae) (aB 1) (aB 2)) (bK (KO x a q kd v))=aa (!(bS kd.1 kd.2 (kW a)).isSome):=by show jL (d:=.bl (!(bS kd.1 kd.2 (kW a)).isSome)) (aS (x:=τ a) (y:=.b7 q kd.1 kd.2) rfl rfl ?_) rfl;show((mH (τ a)).bind _)=_;rw[KL];show(if _ then _ else _)=_;rw[Z_ (lW h.2.1 rfl)];rfl
def Vx{a:Q0e}{q q0:Nat->ax->Prop}{kd:KD}{v:Sv}{d:D}(h:iX x kd)(hq:∀b o,q b o ->∃o2,q0 b o2)(hl:bS kd.1 kd.2 (kW a)=aa d):V3 2 (aB 1) q0 (KO x a q kd v)=aa (d,kd):=by have e:V3 2 (aB 1) q0 (KO x a q kd v)=(mH (τ a)).bind λkk=>@ite _ (kindB kd.1 kk=ae /\∀b o,q b o ->∃o2,q0 b o2) (Gq _) ((bS kd.1 kd.2 kk).map λd=>(d,kd)) af:=rfl;rw[e,KL];show(Z_ ⟨lW h.2.1 rfl,hq⟩).trans (by rw[hl];rfl)
def Bw{a:Q0e}{q q1:Nat->ax->Prop}{kd kd1:KD}{v:Sv}{f:XF}(h:iX x kd1)(hc:kd1.1.length<16000000)(hf:f (KO x a q kd v)=aa (KO x a q1 kd1 v,cW x a)):mI 2 f (aB 1) (KO x a q kd v)=.nx (KO x a (adr q1) (p6 x kd1 a) v):=by
 unfold mI;rw[hf,cq]
 show(match ((mH (τ a)).bind λkk=>if kindB kd1.1 kk=ae/\kd1.2.length<lP then aa ((KO x a q1 kd1 v).set 2 (.ow (.b7 (adr q1) (fT kd1.1 kd1.2 kk (cW x a)).1 (fT kd1.1 kd1.2 kk (cW x a)).2))) else af) with
  |some ρ'=>Out.nx ρ'
  |none=>.no)=_
 rw[KL,cq,Z_ ⟨lW h.2.1 rfl,by rw[<- h.1];unfold lP;lia⟩];rfl
theorem QZ{n m:Nat}{a:Q0e}:∀(ts:Q0e) (kd:KD),iX x kd ->
  (∀t∈ts,∀kd,iX x kd->kd.1.length+most m<=10000000 ->∃yG,cD n [aW x,τ (bC a t)] kd=.ok (.int (cnt x m (bC a t)),yG)/\iX x yG/\yG.1.length<=kd.1.length+most m/\QG kd yG/\HF yG (bC a t)) ->
  kd.1.length+ts.length*most m<=10000000 ->
  ∃kd2,foldM (cD n) (aW x) (ts.map λt=>τ (bC a t)) kd=aa (ts.map λt=>.int (cnt x m (bC a t)),kd2)/\iX x kd2/\kd2.1.length<=kd.1.length+ts.length*most m/\QG kd kd2 /\∀t∈ts,HF kd2 (bC a t)
 |[],kd,hM,_,_=>⟨kd,rfl,hM,by simp,λ_ e=>e,λt ht=>(nomatch ht)⟩
 |t::ts,kd,hM,hR,hc=>by
  rw[fu,xy] at hc;obtain⟨kd1,e1,qy,hc1,sb1,in1⟩:=hR t cx kd hM ∅;obtain⟨kd2,e2,Hx,hc2,sb2,in2⟩:=QZ ts kd1 qy (λu hu=>hR u (fq _ hu)) ∅;show⟨kd2,?_,Hx,by rw[fu,xy];lia,λk e=>sb2 k (sb1 k e),λu hu=>?_⟩
  .rw [bt];unfold foldM;rw[e1];dsimp only;rw[e2];rfl
  .rcases bz.1 hu with e|hu
   .rw [e];show sb2 _ in1
   .exact in2 u hu
abbrev bW(n:Nat):L4.SF:=(aM (iT (tV (aC kJ (eP eL (aA (aB 1) aG)) (eP eL (aA (aB 0) aG))))
   (mI 2 (b8 (eC (.int 1))) (aB 1))
   eZ)
  (iT (tV (aC (MJ ae) (aB 1) (aB 2)))
   (aM (bP 3 (cK 1 [1] (cU (aT LL.bY (aA (aB 0) (aA (aB 1) aG)))) (g1 0) dJ (aT LL.iW (aA (aB 1) (aA (aB 0) aG)))))
   (mI 2 (QR (cD n) 0 3 2) (aB 1)))
   eZ))
def BS{n:Nat}{a:Q0e}{kd yG:KD}{d:D}(new:∀q,∃q2 v,(∀b o,q2 b o ->∃o2,q b o2)/\bW n (startM 4 [aW x,τ a] q kd)=.nx (KO x a q2 yG v))(hM:iX x yG)(hl:bS yG.1 yG.2 (kW a)=aa d):cD (n+1) [aW x,τ a] kd=.ok (d,yG):=by
 unfold cD;show V4 λq=>?_
 have e1:u6 4 3 (bW n) (aB 1) q [aW x,τ a] kd=(match bW n (startM 4 [aW x,τ a] q kd) with
  |.nx ρ=>V3 2 (aB 1) q ρ
  |_=>af):=rfl
 show e1.trans ?_;obtain⟨q2,v,hq,eb⟩:=new q;rw[eb];show Vx hM hq hl
theorem Q0(hx:x.length<=9)(hr:∀r∈x,r.length<=9):∀(m e:Nat) (a:Q0e) (kd:KD),QD x a->a.length+m=x.length->iX x kd->kd.1.length+most m<=10000000 ->
  ∃yG,cD (m+1+e) [aW x,τ a] kd=.ok (.int (cnt x m a),yG)/\iX x yG/\yG.1.length<=kd.1.length+most m/\bS yG.1 yG.2 (kW a)=aa (.int (cnt x m a))/\QG kd yG:=by
 intro m
 induction m with
 |zero =>
  intro e a kd ok hl hM hc;have hl:a.length=x.length:=hl;have m0:most 0=1:=rfl;have e0:x.length-a.length=0:=by lia
  rw[show 0+1+e=e+1 by lia];obtain⟨p1,p2,p3,p4⟩:=KN (a:=a) hM (λz=>by lia);have W6:=p3;unfold cW at W6;rw[e0] at W6;show⟨p6 x kd a,BS (λq=>⟨adr q,.no,λb o h=>h,?_⟩) p1 W6,p1,by lia,W6,p4⟩;have cw:cW x a=.int 1:=by unfold cW;rw[e0];rfl
  show cP (KO x a (adr q) (p6 x kd a) .no) (yW ((DZ (x:=x) (a:=a) rfl rfl).trans (by rw[Zx hl])) ?_) (lQ ?_ rfl)
  .exact Bw (q:=q) (q1:=q) (kd:=kd) hM ∅ (by rw[cw];rfl)
  .rw [vx p1,p3];rfl
 |succ m ih =>
  intro e a kd ok hl hM hc;have mm:most (m+1)=1+(m+1)*most m:=rfl;have e0:x.length-a.length=m+1:=by lia
  have hfew:=kZ ok;have ha:=BM ok;rw[show m+1+1+e=(m+1+e)+1 by lia];have lt:∀q,tV (aC kJ (eP eL (aA (aB 1) aG)) (eP eL (aA (aB 0) aG))) (bK (startM 4 [aW x,τ a] q kd))=aa ag:=λq=>(DZ (x:=x) (a:=a) rfl rfl).trans (by rw[Zy ∅])
  cases hk:bS kd.1 kd.2 (kW a) with
  |some d =>
   have ed:=hM.2.2.1 a d hk;unfold cW at ed;rw[e0] at ed;subst ed;show⟨kd,BS (λq=>⟨q,.no,λb o h=>⟨o,h⟩,cP (KO x a q kd .no) (lQ (lt q) rfl) (lQ (by rw[vx hM,hk];rfl) rfl)⟩) hM hk,hM,by lia,hk,λ_ e=>e⟩
  |none =>
   have hlen:(aI x a).length*most m<=(m+1)*most m:=Nat.mul_le_mul_right _ ∅;obtain⟨kd1,ef,qy,hc1,sb,inn⟩:=QZ (n:=m+1+e) (m:=m) (a:=a) (aI x a) kd hM (λt ht kd hM' hc'=>(ih e (bC a t) kd ((Cc ok).1 _ (Ft ht)).1 (by have:=((Cc ok).1 _ (Ft ht)).2;lia) hM' hc').imp λ_ h=>⟨h.1,h.2.1,h.2.2.1,h.2.2.2.2,by unfold HF;rw[h.2.2.2.1];rfl⟩) ∅;obtain⟨p1,p2,p3,p4⟩:=KN (a:=a) qy (λ_=>inn);have W6:=p3;unfold cW at W6;rw[e0] at W6
   let fl:D:=.lst ((aI x a).map λt=>τ (bC a t))
   show⟨p6 x kd1 a,BS (λq=>⟨adr (adr q),.ro fl,λb o ⟨o1,o2,h⟩=>⟨o2,h⟩,?_⟩) p1 W6,p1,by lia,W6,λk e=>p4 k (sb k e)⟩;show cP (KO x a q kd .no) (lQ (lt q) rfl) (yW (by rw[vx hM,hk];rfl) (cP (KO x a q kd (.ro fl)) (fA fl ?_ rfl) ?_))
   .refine gE ((aI x a).map D.int) ?_ (by rw[bj];lia) (d9 D.int (λt=>τ (bC a t)) (aI x a) λt ht=>⟨[aa (.int t),aa (τ a)],rfl,bX rfl rfl (y9 ∅)⟩);unfold cU;rw[bX (x:=aW x) (y:=τ a) rfl rfl (vK hx hr)];rfl
   .refine Bw (q:=q) (q1:=adr q) (kd:=kd) (kd1:=kd1) qy ∅ ?_;have en:intsOf ((aI x a).map λt=>D.int (cnt x m (bC a t)))=aa ((aI x a).map λt=>cnt x m (bC a t)):=by rw[<- bU,ft];rfl
    have cw:cW x a=.int (((aI x a).map λt=>cnt x m (bC a t)).sum):=by unfold cW;rw[e0];rfl
    rw[cw];show((foldM (cD (m+1+e)) (aW x) ((aI x a).map λt=>τ (bC a t)) (kd.1,kd.2)).bind λp=>(intsOf p.1).bind λns=>if((aI x a).map λt=>τ (bC a t)).length<lP then aa ((KO x a q kd (.ro fl)).set 2 (.ow (.b7 (adr q) p.2.1 p.2.2)),D.int ns.sum) else af)=_;rw[show(kd.1,kd.2)=kd from rfl,ef,cq,en,cq,Z_ (by rw[bj];unfold lP;lia)];rfl
def uM(hx:x.length<=9)(hr:∀r∈x,r.length<=9):∃kd,fZ [aW x]=.ok (.b7 (adr iV) kd.1 kd.2)/\iX x kd/\HF kd []:=by
 obtain⟨kd,e,hM,hc,hl,_⟩:=Q0 hx hr x.length (10-x.length) [] ([],[]) J0 (by simp) ⟨rfl,λq hq=>(by cases hq),λa d h=>(by simp[bS] at h),λa h=>(by simp[HF,bS] at h)⟩ (by have:=Zn hx;simp;lia);rw[show x.length+1+(10-x.length)=11 by lia] at e;show⟨kd,?_,hM,by unfold HF;rw[hl];rfl⟩;unfold fZ;show gZ rfl (cP [.ro (aW x),.ow (.b7 iV [] [])] rfl (cP [.ro (aW x),.ow (.b7 (adr iV) kd.1 kd.2)] ?_ (gJ rfl)));have e2:stepM (cD 11) (aA (aB 0) (aA (iH aG) aG)) 1 [.ro (aW x),.ow (.b7 iV [] [])]=aa (iV,.int (cnt x x.length []),kd):=by
  unfold stepM;rw[args2 (x:=aW x) (y:=τ []) rfl rfl,cq]
  show(match cD 11 [aW x,τ []] ([],[]) with
   |.ok r=>aa (iV,r)
   |_=>af)=_
  rw[e]
 unfold V5;rw[e2];rfl
abbrev R1:List Int->Int:=λ_=>1
theorem KP:∀(m:Nat) (b:Q0e),cnt x m (sortI b)=Gn x R1 m b
 |0,_=>rfl
 |m+1,b=>by show((aI x (sortI b)).map λt=>cnt x m (bC (sortI b) t)).sum=((aI x b).map λt=>Gn x R1 m (b++[t])).sum;rw[mP λs=>(sortI_perm b).mem_iff];show congrArg a2b (iy λt _=>by rw[zK,KP m])
theorem KQ{kd:KD}(hM:iX x kd)(h0:HF kd []):∀(n:Nat) (b:Q0e),b.length=n->zJ x b->HF kd (sortI b)
 |0,b,hl,_=>by rw[a2p hl];show h0
 |n+1,b,hl,hb=>by
  rcases Gh b with e|⟨u,t,e⟩
  .rw [e] at hl;cases hl
  .rw [a2t] at e;subst e;obtain⟨hu,ht⟩:=hb.front;have few:=BM hb.ok;rw[dm] at few hl;have few:u.length+1<=x.length:=few;have ih:=KQ hM h0 n u (by simpa using hl) hu;have:=hM.2.2.2 (sortI u) ih (by rw[(sortI_perm u).length_eq];lia) t (by rw[mP λs=>(sortI_perm u).mem_iff];show ht)
   rwa [zK] at this
theorem zM{kd:KD}(hM:iX x kd)(h0:HF kd []){b:Q0e}(hb:zJ x b):bS kd.1 kd.2 (kW (sortI b))=aa (.int (Gn x R1 (x.length-b.length) b)):=by
 have h:=KQ hM h0 b.length b rfl hb
 cases e:bS kd.1 kd.2 (kW (sortI b)) with
 |none=>unfold HF at h;rw[e] at h;cases h
 |some d =>
  have:=hM.2.2.1 _ d e;unfold cW at this;rw[(sortI_perm b).length_eq,KP] at this;rw[this]
def W7{kd:KD}(hM:iX x kd){q:Nat->ax->Prop}{a:Q0e}{d:D}(h:bS kd.1 kd.2 (kW a)=aa d):A4 (.b7 q kd.1 kd.2) (τ a)=aa d:=by show((mH (τ a)).bind λk=>if kindB kd.1 k=ae then bS kd.1 kd.2 k else af)=_;rw[KL,cq,Z_ (lW hM.2.1 rfl),h]
structure Tw (x:Q0a) (kd:KD):Prop where
 m:iX x kd
 o:HF kd []
def Q1(w:Q0e):0<=R1 w:=by show(0:Int)<=1;decide
abbrev nQ(x:Q0a):Int:=Gn x R1 x.length []
def EI(hn:x.length<=9)(hr:∀r∈x,r.length<=9){kd:KD}(T:Tw x kd){q:Nat->ax->Prop}{b:Q0e}(hb:zJ x b)(t:Int):bV [aW x,.b7 q kd.1 kd.2,τ b,.int t]=.ok (.int (nO x R1 (x.length-(b.length+1)) b t)):=by
 unfold bV
 let L:=(aI x b).filter λs=>Zv (s<t)
 have hf:=kZ hb.ok;have hL:L.length<=(aI x b).length:=sk _ _;have hl:=BM hb.ok;show gZ rfl (cP [.ro (aW x),.ro (.b7 q kd.1 kd.2),.ro (τ b),.ro (.int t),.ro (aH L)] (fA (aH L) ?_ rfl) (gJ (fN (x:=aH (L.map λs=>Gn x R1 (x.length-(b.length+1)) (b++[s]))) ?_ sum_ints)))
 .refine gE ((aI x b).map D.int) ?_ (by rw[bj];lia) ?_
  .unfold cU;rw[bX rfl rfl (vK hn hr)];rfl
  .exact fB D.int (λs=>Zv (s<t)) D.int (aI x b) λs hs=>⟨[aa (.int s),aa (.int t)],rfl,jL (aS (x:=.int s) (y:=.int t) rfl rfl rfl) rfl,λ_=>rfl⟩
 .unfold aH;rw[ft];show gE (L.map D.int) rfl (by rw[bj];lia) (d9 D.int (D.int∘λs=>Gn x R1 (x.length-(b.length+1)) (b++[s])) L λs hs=>⟨[aa (.int s),aa (.b7 q kd.1 kd.2),aa (τ b)],rfl,?_⟩);have hs:=(gw.1 hs).1;have e:=zM T.m T.o (hb.snoc hs);rw[dm,a2i] at e;show aS (x:=.b7 q kd.1 kd.2) (y:=τ (bC b s)) rfl (bX rfl rfl (y9 ∅)) (W7 T.m e)
theorem KR(hn:x.length<=9)(hr:∀r∈x,r.length<=9){kd:KD}(T:Tw x kd){q:Nat->ax->Prop}{b:Q0e}(hb:zJ x b){t:Int}{f1 f2 f3 f4:EF}{ρ:cM}(h1:f1 ρ=aa (aW x))(h2:f2 ρ=aa (.b7 q kd.1 kd.2))(h3:f3 ρ=aa (τ b))(h4:f4 ρ=aa (.int t)):
  aT bV (aA f1 (aA f2 (aA f3 (aA f4 aG)))) ρ=aa (.int (nO x R1 (x.length-(b.length+1)) b t)):=BI h1 h2 h3 h4 (EI hn hr T hb t)
theorem fold_lt{t:Int}:∀(l:Q0e) (a:Int),a<t->(∀b∈l,b<t)->l.foldl (λm b=>if m<b then b else m) a<t
 |[],a,h,_=>h
 |b::l,a,h,hl=>by rw[l_];have hb:=hl b cx;show fold_lt l _ (by split<;>assumption) λc hc=>hl c (fq _ hc)
theorem Q2{u:Q0e}{t:Int}(h:∀a∈u,a<t):GU (u++[t])=t:=by
 cases u with
 |nil=>rfl
 |cons a u =>
  show(u++[t]).foldl _ a=t;rw[List.foldl_append];show Z_ (fold_lt u a (h a cx) λb hb=>h b (fq _ hb))
theorem Q4(hn:x.length<=9)(hr:∀r∈x,r.length<=9){kd:KD}(T:Tw x kd){q:Nat->ax->Prop}{b:Q0e}(hb:zJ x b)(hl:b.length<x.length){Θ:Int}(h0:0<=Θ)(h1:Θ<Gn x R1 (x.length-b.length) b):
  ∃t,t∈aI x b/\nO x R1 (x.length-(b.length+1)) b t<=Θ/\Θ<nO x R1 (x.length-(b.length+1)) b t+Gn x R1 (x.length-(b.length+1)) (b++[t])/\jW [aW x,.b7 q kd.1 kd.2,τ b,.int Θ]=.ok (.int t):=by
 rw[show x.length-b.length=x.length-(b.length+1)+1 by lia] at h1;obtain⟨t,u,v,e,p1,p2,p3⟩:=W2 Q1 h0 h1;have inc:=nP (x:=x) b;show⟨t,by rw[e];simp,p1,p2,?_⟩;have hf:=kZ hb.ok;unfold jW;show gZ rfl (cP [.ro (aW x),.ro (.b7 q kd.1 kd.2),.ro (τ b),.ro (.int Θ),.ro (aH (aI x b))] (fA _ (bX rfl rfl (vK hn hr)) rfl) (gJ (fN (x:=aH (u++[t])) ?_ ?_)))
 .rw [<- p3];show gE ((aI x b).map D.int) rfl (by rw[bj];lia) (fB D.int (λs=>Zv (nO x R1 (x.length-(b.length+1)) b s<=Θ)) D.int (aI x b) λs hs=>⟨[aa (.int s),aa (.int Θ),aa (aW x),aa (.b7 q kd.1 kd.2),aa (τ b)],rfl,jL (aS (x:=.int (nO x R1 (x.length-(b.length+1)) b s)) (y:=.int Θ) (KR hn hr T hb rfl rfl rfl rfl) rfl rfl) rfl,λ_=>rfl⟩)
 .show ((intsOf ((u++[t]).map D.int)).bind λns=>if ns=[] then af else aa (D.int (GU ns)))=_;rw[bU,cq,Zz (by simp),Q2 λa ha=>?_];rw[e] at inc;show(qg.1 inc).2.2 a ha t cx
def KS:zJ x []:=λu t v e=>by cases u<;>cases e
def vT{kd:KD}(T:Tw x kd):bS kd.1 kd.2 (kW [])=aa (.int (nQ x)):=zM T.m T.o KS
def HG:nQ x=(shares x).sum:=by rw[<- KC];show(KP (x:=x) x.length []).symm
def Zf(hn:x.length<=9)(hr:∀r∈x,r.length<=9):gL [aW x]=.ok (.int (nQ x)):=by obtain⟨kd,et,hM,hl⟩:=uM hn hr;unfold gL;show gZ rfl (gJ (aS (x:=.b7 (adr iV) kd.1 kd.2) (y:=τ []) (kK rfl et) rfl (W7 hM (vT ⟨hM,hl⟩))))
abbrev S7(x:Q0a)(N:Int)(v2 v3 v4 v5 v6:Sv):bT:=[.ro (aW x),.ro (.int N),v2,v3,v4,v5,v6]
def Q5(hx:Ord.Rows x)(hn:x.length<=9){N:Int}(hN:0<=N)(zh:N<nQ x):∃w:Q0e,Gg x w/\N=fO x R1 [] w/\dM [aW x,.int N]=.ok (τ w):=by
 have hr:=BO hx hn;obtain⟨kd,et,hM,hl⟩:=uM hn hr;have T:Tw x kd:=⟨hM,hl⟩
 let tb:Sv:=.ro (.b7 (adr iV) kd.1 kd.2)
 have main:∃d,dM [aW x,.int N]=.ok d /\∃w:Q0e,Gg x w/\N=fO x R1 [] w/\d=τ w:=by
  unfold dM;show rK rfl ?_;show aP (S7 x N tb .no .no .no .no) (fA _ (kK rfl et) rfl) ?_;show aP (S7 x N tb .no .no .no .no) (lQ (GI (b:=ae) (jL (d:=.bl ae) (gK.QT (x:=.int 0) (y:=.int N) (w:=.int (nQ x)) rfl rfl (aS (x:=.b7 (adr iV) kd.1 kd.2) (y:=τ []) rfl rfl (W7 hM (vT T))) (show aa (D.bl (Zv (0<=N)))=_ by rw[Zx hN]) (show aa (D.bl (Zv (N<nQ x)))=_ by rw[Zx zh])) rfl) rfl) rfl) ?_;show aP (S7 x N tb (.ro (τ [])) .no .no .no) rfl ?_;show aP (S7 x N tb (.ro (τ [])) (.ro (.int N)) .no .no) rfl ?_;show lU (λρ=>∃(w:Q0e) (Θ:Int) (v5 v6:Sv),Gg x w/\0<=Θ/\Θ<R1 w/\N=fO x R1 [] w+Θ/\ρ=S7 x N tb (.ro (τ w)) (.ro (.int Θ)) v5 v6) (gK.Zi ?_) ?_
  .refine oK x.length (λi ρ=>∃(b:Q0e) (Θ:Int) (v5 v6:Sv),b.length=i/\zJ x b/\0<=Θ/\Θ<Gn x R1 (x.length-i) b/\(∀z:Q0e,z.length+i=x.length->fO x R1 [] (b++z)=N-Θ+fO x R1 b z)/\ρ=S7 x N tb (.ro (τ b)) (.ro (.int Θ)) v5 v6) (args1 (fN (x:=aW x) rfl g8)) ∅ ⟨[],N,.no,.no,rfl,KS,hN,zh,λz _=>by rw[oo];lia,rfl⟩ (λi ρ hi ⟨b,Θ,v5,v6,hbl,hb,r0,r1,hz,e⟩=>?_) λρ ⟨b,Θ,v5,v6,hbl,hb,r0,r1,hz,e⟩=>⟨b,Θ,v5,v6,⟨hbl,hb⟩,r0,by rw[ya] at r1;show r1,by
    have:=hz [] (by simp);rw[gq] at this;rw[this];show N=N-Θ+0+Θ;lia,e⟩
   subst e;subst hbl;obtain⟨t,ht,p1,p2,e1⟩:=Q4 (q:=adr iV) hn hr T hb hi r0 r1;have e2:=EI (q:=adr iV) hn hr T hb t;generalize hA:nO x R1 (x.length-(b.length+1)) b t=A at p1 p2 e2;show⟨S7 x N tb (.ro (τ b)) (.ro (.int Θ)) (.ro (.int b.length)) v6,rfl,?_⟩;show jG (S7 x N tb (.ro (τ b)) (.ro (.int Θ)) (.ro (.int b.length)) (.ro (.int t))) (fA (.int t) (BI rfl rfl rfl rfl e1) rfl) ?_;show jG (S7 x N tb (.ro (τ b)) (.ro (.int (Θ-A))) (.ro (.int b.length)) (.ro (.int t))) (fA (.int (Θ-A)) (aS (x:=.int Θ) (y:=.int A) rfl (BI rfl rfl rfl rfl e2) rfl) rfl) ?_;show GW (τ (b++[t])) (aS (x:=τ b) (y:=τ [t]) rfl rfl (QN (by simp;lia))) ⟨b++[t],Θ-A,.ro (.int b.length),.ro (.int t),by simp,hb.snoc ht,by lia,by lia,λz hz2=>?_,rfl⟩;have:=hz (t::z) (by simp;lia);rw[ng];show fO x R1 [] (b++t::z)=_;rw[this];show N-Θ+(nO x R1 z.length b t+fO x R1 (b++[t]) z)=_;rw[show z.length=x.length-(b.length+1) by lia,hA];lia
  .rintro _ ⟨w,Θ,v5,v6,hw,r0,r1,eN,rfl⟩;have r1:Θ<1:=r1;show iK (τ w) rfl ⟨w,hw,by lia,rfl⟩
 obtain⟨d,e,w,a1,a2,rfl⟩:=main;show⟨w,a1,a2,e⟩
def Bv(hx:Ord.Rows x)(hn:x.length<=9){N:Int}(hN:¬ (0<=N/\N<nQ x)):dM [aW x,.int N]=.ex "NoNumber":=by
 have hr:=BO hx hn;obtain⟨kd,et,hM,hl⟩:=uM hn hr
 let tb:Sv:=.ro (.b7 (adr iV) kd.1 kd.2)
 unfold dM;show Ax rfl (cP (S7 x N tb .no .no .no .no) (fA _ (kK rfl et) rfl) (Aw (yW (GI (b:=ag) (jL (d:=.bl ag) ?_ rfl) rfl) rfl)));by_cases h:0<=N
 .exact gK.QT (x:=.int 0) (y:=.int N) (w:=.int (nQ x)) rfl rfl (aS (x:=.b7 (adr iV) kd.1 kd.2) (y:=τ []) rfl rfl (W7 hM (vT ⟨hM,hl⟩))) (show aa (D.bl (Zv (0<=N)))=_ by rw[Zx h]) (show aa (D.bl (Zv (N<nQ x)))=_ by rw[Zy λq=>hN ⟨h,q⟩])
 .exact gK.Zh (x:=.int 0) (y:=.int N) rfl rfl (show aa (D.bl (Zv (0<=N)))=_ by rw[Zy h])
theorem BU:∀(w b:Q0e),zJ x (b++w)->Way x b w
 |[],_,_=>trivial
 |t::w,b,h=>⟨h b t w rfl,BU w (b++[t]) (by rw[ng];show h)⟩
def BV{w z:Q0e}(hw:Gg x w)(hz:Gg x z)(h:dY w z=ae):fO x R1 [] w<fO x R1 [] z:=by have:=QS Q1 w z [] (by rw[hw.1,hz.1]) (BU w [] hw.2) (BU z [] hz.2) h;have:fO x R1 [] w+1<=fO x R1 [] z:=this;lia
def Ze{w:Q0e}(hw:Gg x w):0<=fO x R1 [] w/\fO x R1 [] w<nQ x:=by obtain⟨a,b⟩:=BQ Q1 w [] (BU w [] hw.2);have b:fO x R1 [] w+1<=Gn x R1 w.length []:=b;rw[hw.1] at b;show⟨a,by show _<Gn x R1 x.length [];lia⟩
theorem W8{w z:Q0e}(hw:Gg x w)(hz:Gg x z)(h:fO x R1 [] w=fO x R1 [] z):w=z:=by
 cases q:dY w z with
 |true=>have:=BV hw hz q;lia
 |false =>
  cases q2:dY z w with
  |true=>have:=BV hz hw q2;lia
  |false=>show A3 _ _ q q2
theorem Zd{w z:Q0e}(hw:Gg x w)(hz:Gg x z)(h:fO x R1 [] w<fO x R1 [] z):dY w z=ae:=by
 cases q:dY w z with
 |true=>rfl
 |false =>
  cases q2:dY z w with
  |true=>have:=BV hz hw q2;lia
  |false=>rw[A3 _ _ q q2] at h;lia
def Vw{w:Q0e}:Gg x w↔w.length=x.length /\∀i (h:i<w.length),w[i]∈aI x (w.take i):=by
 show⟨λ⟨h1,h2⟩=>⟨h1,λi hi=>h2 (w.take i) w[i] (w.drop (i+1)) (by rw[<- ma hi,qf])⟩,λ⟨h1,h2⟩=>⟨h1,λu t v e=>?_⟩⟩;have hi:u.length<w.length:=by rw[e];simp
 have:=h2 u.length hi;have e1:w.take u.length=u:=by rw[e];simp
 have e2:w[u.length]=t:=by simp[e]
 rwa [e1,e2] at this
theorem vU{g:GSF}{b:L4.SF}{P:Nat->bT->Prop}{c:Nat->Prop}{d0:D}:∀(ds:List D) (i:Nat) (ρ:bT),P i ρ->(∀j d ρ,ds[j]?=aa d->P (i+j) ρ ->∃ρ1,g d ρ=aa ρ1/\(c (i+j)->b ρ1=.rt d0)/\(¬ c (i+j) ->∃ρ2,b ρ1=.nx ρ2/\P (i+j+1) ρ2))->(∃j,j<ds.length/\c (i+j))->i8 g b ds ρ=.rt d0
 |[],i,ρ,_,_,⟨j,hj,_⟩=>Zw hj (Fg j)
 |d::ds,i,ρ,h0,st,⟨j,hj,hc⟩=>by
  obtain⟨ρ1,e1,h1,h2⟩:=st 0 d ρ rfl h0
  have e:i8 g b (d::ds) ρ=(match g d ρ with
   |none=>.no
   |some ρ1=>match b ρ1 with
    |.nx ρ2=>i8 g b ds ρ2
    |o=>o):=rfl
  rw[e,e1];dsimp only;by_cases hc0:c (i+0)
  .rw [h1 hc0]
  .obtain ⟨ρ2,e2,h3⟩:=h2 hc0;rw[e2]
   cases j with
   |zero=>show Zw hc hc0
   |succ j =>
    show vU (P:=P) (c:=c) ds (i+1) ρ2 h3 (λj d ρ hd hp=>?_) ⟨j,by simpa using hj,by rw[show i+1+j=i+(j+1) by lia];show hc⟩;have:=st (j+1) d ρ hd (by rw[show i+(j+1)=i+1+j by lia];show hp);rw[show i+(j+1)=i+1+j by lia] at this;show this
def HH(hx:Ord.Rows x)(hn:x.length<=9){w:Q0e}(hw:¬ Gg x w):dF [aW x,τ w]=.ok (.bl ag):=by
 unfold dF;show KG rfl ?_;have e0:∀b:Bool,b=!Zv ((w.length:Int)=x.length)->x9 (kB (tV (jD "tuple" (aB 1)))) (tV (aC V0 (eP eL (aA (aB 1) aG)) (eP eL (aA (aB 0) aG)))) (bK [.ro (aW x),.ro (τ w),.no,.no])=aa b:=λb hb=>tS (b:=ag) (c:=b) (GI (b:=ae) (jL (d:=.bl ae) (isi (d:=τ w) rfl) rfl) rfl) (λ_=>jL (d:=.bl (!Zv ((w.length:Int)=x.length))) (aS (x:=.int w.length) (y:=.int x.length) (fN (x:=τ w) rfl BP) (fN (x:=aW x) rfl g8) rfl) (by rw[hb];rfl)) λh=>by cases h
 by_cases hl:w.length=x.length
 case neg=>show jH ⟨_,yW (e0 ae (by rw[Zy ∅];rfl)) (gJ rfl),rfl⟩
 show aP [.ro (aW x),.ro (τ w),.no,.no] (lQ (e0 ag (by rw[Zx ∅];rfl)) rfl) ?_;show aP [.ro (aW x),.ro (τ w),.ow (aH []),.no] rfl ?_;have bad:∃j,j<w.length/\¬ (w.getD j 0∈aI x (w.take j)):=by
  show o_ λz=>hw (Vw.2 ⟨hl,λi hi=>o_ λy=>z ⟨i,hi,?_⟩⟩)
  rwa [show w.getD i 0=w[i] by simp[hi]]
 show jH ⟨.bl ag,?_,rfl⟩;show wa (w.map D.int) rfl (vU (P:=λi ρ=>i<=w.length /\∃v3:Sv,ρ=[.ro (aW x),.ro (τ w),.ow (aH (w.take i)),v3]) (c:=λi=>¬ (w.getD i 0∈aI x (w.take i))) _ 0 _ ⟨jn _,.no,rfl⟩ (λj d ρ hd hP=>?_) (by simpa using bad));rw[qc] at hP ⊢;obtain⟨_,v3,rfl⟩:=hP;rw[dj] at hd;obtain⟨b,hb,rfl⟩:=jm.1 hd;obtain⟨hj,hbj⟩:=cz.1 hb;have eb:w.getD j 0=b:=by simp[hj,hbj]
 rw[eb];show⟨[.ro (aW x),.ro (τ w),.ow (aH (w.take j)),.ro (.int b)],rfl,?_⟩;have t1:∀r:Bool,r=(Zv (b<0)||Zv (b >= x.length))->x9 (kB (tV (jD "int" (aB 3)))) (x9 (tV (jD "bool" (aB 3))) (x9 (tV (aC O6 (aB 3) (eC (.int 0)))) (tV (aC geM (aB 3) (eP eL (aA (aB 0) aG)))))) (bK [.ro (aW x),.ro (τ w),.ow (aH (w.take j)),.ro (.int b)])=aa r:=λr hr=>tS (b:=ag) (c:=r) (GI (b:=ae) (jL (d:=.bl ae) (isi (d:=.int b) rfl) rfl) rfl) (λ_=>tS (b:=ag) (c:=r) (jL (d:=.bl ag) (isi (d:=.int b) rfl) rfl) (λ_=>tS (c:=r) (jL (d:=.bl (Zv (b<0))) (aS (x:=.int b) (y:=.int 0) rfl rfl rfl) rfl) (λh=>jL (d:=.bl (Zv (b >= x.length))) (aS (x:=.int b) (y:=.int x.length) rfl (fN (x:=aW x) rfl g8) rfl) (by rw[hr,h,Gs];rfl)) λh=>by rw[hr,h];rfl) λh=>by cases h) λh=>by cases h
 by_cases rg:0<=b/\b<(x.length:Int)
 case neg =>
  have hr:(Zv (b<0)||Zv (b >= x.length))=ae:=by rw[qr,decide_eq_true_eq,decide_eq_true_eq];lia
  show⟨λ_=>EG (yW (t1 ae hr.symm) (gJ rfl)),λh=>Zw (λz=>rg (jN.1 z).1) h⟩
 have hr:(Zv (b<0)||Zv (b >= x.length))=ag:=by rw[a2y,decide_eq_false_iff_not,decide_eq_false_iff_not];lia
 have hrl:=DW.QA hx rg.1 rg.2;have t2:∀r:Bool,r=((w.take j).contains b || !(row x b).all λl=>(w.take j).contains l)->x9 (tV (aC (sN ag) (aB 3) (aB 2))) (kB (tV (eP allM (aA (cK 1 [2] (cU (aC dZ (aB 0) (aB 3))) (g1 0) dJ (aC (sN ag) (aB 0) (aB 1))) aG)))) (bK [.ro (aW x),.ro (τ w),.ow (aH (w.take j)),.ro (.int b)])=aa r:=λr hr2=>by
  show tS (c:=r) (jL (d:=.bl ((w.take j).contains b)) (aS (x:=.int b) (y:=aH (w.take j)) rfl rfl jF) rfl) (λh=>GI (b:=(row x b).all λl=>(w.take j).contains l) (jL (d:=.bl ((row x b).all λl=>(w.take j).contains l)) (fN (x:=.lst (((row x b).map λl=>(w.take j).contains l).map D.bl)) ?_ ?_) rfl) (by rw[hr2,h,Gs])) λh=>by rw[hr2,h];rfl
  .rw [ft];show gE ((row x b).map D.int) ?_ (by rw[bj];lia) ?_
   .unfold cU;rw[aS (g:=dZ) (a:=aB 0) (b:=aB 3) (x:=aW x) (y:=.int b) rfl rfl (BJ rg.1 rg.2)];rfl
   .exact d9 D.int (λl=>.bl ((w.take j).contains l)) _ λl _=>⟨[aa (.int l),aa (aH (w.take j))],rfl,aS rfl rfl jF⟩
  .rw [lT];simp[nh,yr]
 have Ao:b∈aI x (w.take j)↔((w.take j).contains b || !(row x b).all λl=>(w.take j).contains l)=ag:=by rw[jN,a2y,Bool.not_eq_false',jh];simp only[rg,true_and,List.contains_iff_mem,a2B,ne_eq,and_true]
 show⟨λh=>?_,λh=>?_⟩
 .have:((w.take j).contains b || !(row x b).all λl=>(w.take j).contains l)=ae:=by
   cases q:((w.take j).contains b || !(row x b).all λl=>(w.take j).contains l) with
   |true=>rfl
   |false=>show Zw (Ao.2 q) h
  show cP _ (lQ (t1 ag hr.symm) rfl) (EG (yW (t2 ae this.symm) (gJ rfl)))
 .have:=Ao.1 (a3S.1 h);show⟨[.ro (aW x),.ro (τ w),.ow (aH (w.take (j+1))),.ro (.int b)],cP _ (lQ (t1 ag hr.symm) rfl) (cP _ (lQ (t2 ag this.symm) rfl) ?_),hj,.ro (.int b),rfl⟩;have:=vy (i:=2) (f:=aB 3) (ρ:=[.ro (aW x),.ro (τ w),.ow (aH (w.take j)),.ro (.int b)]) (d:=.int b) (ds:=(w.take j).map D.int) rfl rfl (by rw[bj,ig];lia);rw[this,a2a,hb];unfold aH;rw[gp];rfl
def W9{w u v:Q0e}{t l:Int}(e:w=u++t::v)(h:w.idxOf l<w.idxOf t)(ht:t∉u):l∈u:=by
 have e2:w.idxOf t=u.length:=by rw[e,yj,Zz ht];simp
 rw[e2,e,yj] at h;by_cases hl:l∈u
 .exact hl
 .rw [Zz hl] at h;lia
def Q6{w:Q0e}:Gg x w↔sortI w=bJ 0 x.length /\∀p∈DW.T x,w.idxOf p.1<w.idxOf p.2:=by
 show⟨λhw=>?_,λ⟨h1,h2⟩=>?_⟩
 .have nd:=k7 hw.2;show⟨rM ((sortI_perm w).trans (WZ hw)) (g7 _) ((KH _).imp λh=>by lia),λp hp=>?_⟩;obtain⟨b0,b1,ha⟩:=DW.QB.1 hp;obtain⟨u,v,e⟩:=oz (zF hw.1 hw.2 b0 b1);have hu:=(jN.1 (hw.2 u p.2 v e));have i1:w.idxOf p.1<u.length:=by rw[e,yj,Z_ (hu.2.2 _ ha)];show a2k.2 (hu.2.2 _ ha)
  have i2:w.idxOf p.2=u.length:=by rw[e,yj,Zz hu.2.1];simp
  lia
 .have pm:w.Perm (bJ 0 x.length):=by rw[<- h1];show(sortI_perm w).symm
  have nd:w.Nodup:=pm.nodup_iff.2 (vL _);show⟨by rw[pm.length_eq,aU],λu t v e=>?_⟩;have ht:t∉u:=λz=>by rw[e] at nd;show(lr.1 nd).2.2 t z t cx rfl
  have hr:=aX.1 (pm.mem_iff.1 (show t∈w by rw[e];simp));show jN.2 ⟨by lia,ht,λl hl=>W9 e (h2 (l,t) (DW.QB.2 ⟨by lia,by lia,hl⟩)) ht⟩
def Q7{w:Q0e}{a:Int}(h:a∈w):JZ (τ w) (.int a)=aa (.int (w.idxOf a:Nat)):=by show((intsOf (w.map D.int)).bind λns=>if ns.contains a=ae then aa (D.int ((ns.idxOf a:Nat):Int)) else af)=_;rw[bU,cq,Z_ (by simpa using h)]
def vV(hx:Ord.Rows x)(hn:x.length<=9){w:Q0e}(hl:w.length<=5000):∃b,jX [aW x,τ w]=.ok (.bl b)/\(b=ae↔Gg x w):=by
 have e0:∀ρ:cM,ρ[0]?=aa (aa (aW x))->ρ[1]?=aa (aa (τ w))->tV (aC MH (eP p5 (aA (aB 1) aG)) (qY (aA (eP eL (aA (aB 0) aG)) aG))) ρ=aa (!Zv (sortI w=bJ 0 x.length)):=λρ h0 h1=>by
  have v0:aB 0 ρ=aa (aW x):=by unfold aB;rw[h0];rfl
  have v1:aB 1 ρ=aa (τ w):=by unfold aB;rw[h1];rfl
  show jL (d:=.bl (!Zv (sortI w=bJ 0 x.length))) (aS (x:=aH (sortI w)) (y:=aH (bJ 0 x.length)) (fN v1 ?_) ?_ ?_) rfl
  .show ((intsOf (w.map D.int)).bind λns=>if ns.length<=5000 then aa (D.lst ((sortI ns).map D.int)) else af)=_;rw[bU,cq,Z_ hl];rfl
  .unfold qY;rw[args1 (fN v0 g8)];show(if((x.length:Int)).natAbs<=16777216 then aa (D.lst ((bJ 0 ((x.length:Int)).toNat).map D.int)) else af)=_;rw[Z_ ∅];rfl
  .show (((intsOf ((sortI w).map D.int)).bind λa=>(intsOf ((bJ 0 x.length).map D.int)).map λb=>Zv (a=b)).map λb=>D.bl (!b))=_;rw[bU,bU];rfl
 unfold jX;by_cases hs:sortI w=bJ 0 x.length
 case neg=>show⟨ag,gZ rfl (EG (yW (by rw[e0 _ rfl rfl,Zy hs];rfl) (gJ rfl))),⟨λh=>(by cases h),λh=>Zw (Q6.1 h).1 hs⟩⟩
 have pm:w.Perm (bJ 0 x.length):=by rw[<- hs];show(sortI_perm w).symm
 have inw:∀a:Int,0<=a->a<(x.length:Int)->a∈w:=λa h0 h1=>pm.mem_iff.2 (aX.2 ∅)
 let c:Int×Int->Bool:=λp=>Zv ((w.idxOf p.1:Int)<(w.idxOf p.2:Int))
 have tl:=DW.Wt hx hn;show⟨(DW.T x).all c,gZ rfl (cP [.ro (aW x),.ro (τ w)] (lQ (by rw[e0 _ rfl rfl,Zx hs];rfl) rfl) (gJ (fN (x:=.lst (((DW.T x).map c).map D.bl)) ?_ ?_))),?_⟩
 .rw [ft];show gE ((DW.T x).map pairD) ?_ (by rw[bj];lia) (d9 pairD (λp=>.bl (c p)) (DW.T x) λp hp=>⟨[aa (.int p.1),aa (.int p.2),aa (τ w)],rfl,?_⟩)
  .unfold cU;rw[kK rfl (oO hx hn)];rfl
  .obtain ⟨b0,b1,ha⟩:=DW.QB.1 hp;obtain⟨a0,a1⟩:=QJ hx (b:=p.2.toNat) ∅ (a:=p.1) (by rw[tw b0];show ha);show aS (x:=.int (w.idxOf p.1:Nat)) (y:=.int (w.idxOf p.2:Nat)) (aS (x:=τ w) (y:=.int p.1) rfl rfl (Q7 (inw _ a0 a1))) (aS (x:=τ w) (y:=.int p.2) rfl rfl (Q7 (inw _ b0 b1))) rfl
 .rw [lT];simp[nh,yr]
 .rw [Q6,jh];show⟨λh=>⟨hs,λp hp=>?_⟩,λh p hp=>?_⟩
  .have:=of_decide_eq_true (h p hp);lia
  .have:=h.2 p hp;show Zx ∅
theorem KU:∀(w b:Q0e),fO x R1 b w=((de w.length).map λi=>nO x R1 (w.length-(i+1)) (b++w.take i) (w.getD i 0)).sum
 |[],b=>rfl
 |t::w,b=>by rw[fu,a2c,bt,gz,ft];show nO x R1 w.length b t+fO x R1 (b++[t]) w=_;rw[KU w (b++[t]),a18,gq];congr 1;show congrArg a2b (iy λi hi=>?_);show _=nO x R1 (w.length+1-(i+1+1)) (b++t::w.take i) (w.getD i 0);rw[ng,show w.length+1-(i+1+1)=w.length-(i+1) by lia];rfl
def zJ.take{w:Q0e}(h:zJ x w)(j:Nat):zJ x (w.take j):=λu t v e=>h u t (v++w.drop j) (by
 conv=>lhs;rw[<- qf j w,e]
 simp)
def Q8{w:Q0e}{i:Nat}(h:i<=w.length):slM (τ w) af (aa (i:Int))=aa (τ (w.take i)):=by show aa (D.tup (yE (w.map D.int) af (aa (i:Int))))=_;unfold yE PH τ;dsimp only;rw[Zz ∅];rw[oy,bj,x_,show min ((i:Int)).toNat w.length=i by lia,Fv]
def zN(hx:Ord.Rows x)(hn:x.length<=9){w:Q0e}(hw:Gg x w):bZ [aW x,τ w]=.ok (.int (fO x R1 [] w)):=by
 have hr:=BO hx hn;obtain⟨kd,et,hM,hl⟩:=uM hn hr;have T:Tw x kd:=⟨hM,hl⟩;have wl:=hw.1;obtain⟨b,eb,hb⟩:=vV hx hn (w:=w) ∅;rw[hb.2 hw] at eb;unfold bZ;show gZ rfl (cP [.ro (aW x),.ro (τ w),.no] (lQ (GI (b:=ae) (jL (d:=.bl ae) (bX rfl rfl eb) rfl) rfl) rfl) (cP [.ro (aW x),.ro (τ w),.ro (.b7 (adr iV) kd.1 kd.2)] (fA _ (kK rfl et) rfl) (gJ ?_)));rw[KU];show fN (x:=aH ((de w.length).map λi=>nO x R1 (w.length-(i+1)) ([]++w.take i) (w.getD i 0))) ?_ sum_ints;unfold aH;rw[ft];have ei:(w.map D.int).zipIdx.map (λp=>D.tup [.int (p.2:Int),p.1])=(de w.length).map λi:Nat=>D.tup [.int (i:Int),.int (w.getD i 0)]:=tm λi=>by
  rw[dj,dj,Fz,dj];by_cases h:i<w.length
  .rw [sy h,cj h];simp[h]
  .rw [kz ∅,kz (by simpa using h)];rfl
 show gE _ (show _=aa ((de w.length).map λi:Nat=>D.tup [.int (i:Int),.int (w.getD i 0)]) from ?_) (by rw[bj,oq];lia) (d9 (λi:Nat=>D.tup [.int (i:Int),.int (w.getD i 0)]) _ (de w.length) λi hi=>⟨[aa (.int (i:Int)),aa (.int (w.getD i 0)),aa (aW x),aa (.b7 (adr iV) kd.1 kd.2),aa (τ w)],rfl,?_⟩)
 .unfold pL;rw[args1 (show aB 1 _=aa (τ w) from rfl),cq,<- ei];rfl
 .have hi:=my.1 hi;have:=KR (q:=adr iV) hn hr T (zJ.take (x:=x) hw.2 i) (t:=w.getD i 0) (f1:=aB 2) (f2:=aB 3) (f3:=u4 (aB 4) u3 (oE (aB 0))) (f4:=aB 1) (ρ:=[aa (.int (i:Int)),aa (.int (w.getD i 0)),aa (aW x),aa (.b7 (adr iV) kd.1 kd.2),aa (τ w)]) rfl rfl (Q8 ∅) rfl;rw[show(w.take i).length=i by rw[ig];lia,<- wl] at this;show this
def MR(hx:Ord.Rows x)(hn:x.length<=9){w:Q0e}(hl:w.length<=5000)(hw:¬ Gg x w):bZ [aW x,τ w]=.ex "NoGoing":=by
 obtain⟨b,eb,hb⟩:=vV hx hn hl;have:b=ag:=by
  cases b with
  |false=>rfl
  |true=>show Zw (hb.1 rfl) hw
 rw[this] at eb;unfold bZ;show Ax rfl (Aw (yW (GI (b:=ag) (jL (d:=.bl ag) (bX rfl rfl eb) rfl) rfl) rfl))
def BW{w n d:D}(h:dM [w,n]=.ok d):kL [w,n]=.ok (.tup [.str "told",d]):=by unfold kL;show gZ rfl (cP _ rfl (cP _ rfl (gK.By (ρ':=[.ro w,.ro n,.ro d,.ro (.lst []),.no]) (As (gK.rcA (ds:=[w,n]) rfl (by rw[h];rfl)) (fA _ (bX rfl rfl h) rfl)) ?_)));show cP _ rfl (gJ rfl)
def KW{w n:D}(h:dM [w,n]=.ex "NoNumber"):kL [w,n]=.ok (.tup [.str "refused",.str "NoNumber"]):=by unfold kL;show gZ rfl (cP _ rfl (cP _ rfl (gK.Bx (Au (gK.rcA (ds:=[w,n]) rfl (by rw[h];rfl))) (Z_ rfl) ?_)));show EG (yW rfl (gJ ?_));unfold iH;rw[args2 (x:=.str "refused") (y:=.str "NoNumber") rfl (kK (x:=gK.zf) rfl gK.Zg)];rfl
def sZ{w n d:D}(h:bZ [w,n]=.ok d):fW [w,n]=.ok (.tup [.str "told",d]):=by unfold fW;show gZ rfl (cP _ rfl (cP _ rfl (gK.By (ρ':=[.ro w,.ro n,.ro d,.ro (.lst []),.no]) (As (gK.rcA (ds:=[w,n]) rfl (by rw[h];rfl)) (fA _ (bX rfl rfl h) rfl)) ?_)));show cP _ rfl (gJ rfl)
abbrev zg:D:=.lst [.bl ag,.bl ag,.bl ag,.bl ag,.bl ag,.bl ae,.bl ag,.bl ag,.bl ag,.bl ag,.bl ag,.bl ag,.bl ag,.bl ae]
def Zc:gK.eA [zg]=.ok (.str "NoGoing"):=gK.vS (i:=5) rfl rfl rfl rfl
def EJ{w n:D}(h:bZ [w,n]=.ex "NoGoing"):fW [w,n]=.ok (.tup [.str "refused",.str "NoGoing"]):=by unfold fW;show gZ rfl (cP _ rfl (cP _ rfl (gK.Bx (Au (gK.rcA (ds:=[w,n]) rfl (by rw[h];rfl))) (Z_ rfl) ?_)));show EG (yW rfl (gJ ?_));unfold iH;rw[args2 (x:=.str "refused") (y:=.str "NoGoing") rfl (kK (x:=zg) rfl Zc)];rfl
def Q9(A:Tab)(h k:Nat)(v:Int):tT (yH A h v) k=if k=h then aa v else tT A k:=by
 have e:=G7 (yH A h v) k;rw[<- Bz,mM (ks:=[]) (by unfold kdT;simp)] at e;by_cases hk:k=h
 .rw [Z_ (by rw[hk])] at e;rw[Z_ hk]
  cases g:tT (yH A h v) k with
  |none=>rw[g] at e;cases e
  |some u=>rw[g] at e;injection e with e;injection e with e;rw[e]
 .rw [Zz (λz=>hk (vQ.1 z)),G7] at e;rw[Zz hk]
  cases g:tT (yH A h v) k with
  |none =>
   rw[g] at e
   cases g2:tT A k with
   |none=>rfl
   |some u=>rw[g2] at e;cases e
  |some u =>
   rw[g] at e
   cases g2:tT A k with
   |none=>rw[g2] at e;cases e
   |some u2=>rw[g2] at e;injection e with e;injection e with e;rw[e]
def XA(x:Q0a)(S:Nat):Bool:=((bJ 0 x.length).filter λb=>S.testBit b.toNat).all λb=>Zv (Mk x b.toNat &&& S=Mk x b.toNat)
def RA{S:Nat}:XA x S=ae ↔ ∀b,b<x.length->S.testBit b=ae->Mk x b &&& S=Mk x b:=by
 unfold XA;rw[jh];show⟨λh b hb hS=>?_,λh b hb=>?_⟩
 .have:=h (b:Int) (gw.2 ⟨aX.2 ∅,by simpa using hS⟩);simpa using this
 .obtain ⟨h1,h2⟩:=gw.1 hb;have:=aX.1 h1;show Zx (h b.toNat ∅ h2)
def Vv{S b:Nat}(h:XA x S=ae)(hr:G6 x b S=ae):XA x (S ||| 2^b)=ae:=by
 rw[RA] at h ⊢;unfold G6 at hr;rw[ij,decide_eq_true_eq] at hr;intro c hc hS;rw[G5,qr,decide_eq_true_eq] at hS;rw[uL];intro i hi;rw[G5,qr]
 left
 rcases hS with hS|rfl
 .exact uL.1 (h c hc hS) i hi
 .exact uL.1 hr.2 i hi
def Vu{S b:Nat}(h:S.testBit b=ag):S<(S ||| 2^b):=by have:=J3 h;rw[Nat.or_comm] at this;have:0<2^b:=Fd b;lia
abbrev SG(x:Q0a)(q:Nat->ax->Prop)(A:Tab)(v4 v5 v6:Sv):bT:=[.ro (aW x),.ro (aH (tU x)),.ro (.int x.length),.ow (dT q A),v4,v5,v6]
def HI(hx:Ord.Rows x)(hn:x.length<=9):fV [aW x]=.ok (.int (nQ x)):=by
 have p2:0<2^x.length:=Fd _;have p9:2^x.length<=2^9:=a1X (by decide) hn;have sh:∀ρ:cM,aB 2 ρ=aa (.int x.length)->aC A6 (eC (.int 1)) (aB 2) ρ=aa (.int ((2^x.length:Nat):Int)):=λρ h=>aS (x:=.int ((1:Nat):Int)) (y:=.int (x.length:Nat)) rfl h (by rw[J8 (by decide) ∅,J9]);have full:Cm x (2^x.length-1)=1:=by unfold Cm;rw[(sY (x:=x) ∅).2 rfl,ya];rfl
 have zero:Cm x 0=nQ x:=by unfold Cm;rw[EA];show KP (x:=x) x.length []
 unfold fV;show KG rfl ?_;show aP [.ro (aW x),.ro (aH (tU x)),.no,.no,.no,.no,.no] (fA _ (kK rfl (QL hx hn)) rfl) ?_;show aP [.ro (aW x),.ro (aH (tU x)),.ro (.int x.length),.no,.no,.no,.no] (fA (.int x.length) (fN (x:=aW x) rfl g8) rfl) ?_;show aP (SG x iV [(2^x.length-1,1)] .no .no .no) ?_ ?_
 .unfold A5;rw[aS (g:=mD) (x:=.int ((2^x.length:Nat):Int)) (y:=.int 1) (z:=aa (.int ((2^x.length-1:Nat):Int))) (sh _ rfl) rfl (by show aa (D.int _)=aa (D.int _);congr 2;lia)];rfl
 show lU (λρ=>∃q A v4 v5 v6,tT A 0=aa (nQ x)/\ρ=SG x q A v4 v5 v6) ?_ λρ hq0=>by obtain⟨q,A,v4,v5,v6,h,e⟩:=hq0;subst e;show iK _ (aS (x:=dT q A) (y:=.int ((0:Nat):Int)) rfl rfl (Aq h)) rfl
 show oK (2^x.length-1) (λt ρ=>∃q A v4 v5 v6,Okt x.length A/\(∀S,2^x.length-1-t<=S->S<2^x.length->XA x S=ae->tT A S=aa (Cm x S))/\ρ=SG x q A v4 v5 v6) (args1 (aS (x:=.int ((2^x.length:Nat):Int)) (y:=.int 1) (sh _ rfl) rfl (by show aa (D.int _)=aa (D.int _);congr 2;lia))) ∅ ⟨iV,_,.no,.no,.no,⟨by simp,λp hp=>by rw[cu.1 hp];show 2^x.length-1<_;lia⟩,λS h1 h2 _=>by rw[show S=2^x.length-1 by lia,full];simp[tT],rfl⟩ ?_ λρ ⟨q,A,v4,v5,v6,_,h,e⟩=>⟨q,A,v4,v5,v6,by rw[h 0 ∅ p2 (RA.2 λb _ z=>by simp at z),zero],e⟩
 rintro t _ ht ⟨q,A,v4,v5,v6,o,hA,rfl⟩;obtain⟨S,hS⟩:∃S,S=2^x.length-2-t:=⟨_,rfl⟩;have S2:S<2^x.length-1:=by lia
 show⟨SG x q A (.ro (.int t)) v5 v6,rfl,jG (SG x q A (.ro (.int t)) (.ro (.int (S:Int))) v6) (fA (.int (S:Int)) ?_ rfl) ?_⟩
 .refine aS (x:=.int ((2^x.length:Nat)-2:Int)) (y:=.int t) (aS (x:=.int ((2^x.length:Nat):Int)) (y:=.int 2) (sh _ rfl) rfl rfl) rfl ?_;show aa (D.int _)=aa (D.int _);congr 2;lia
 -- the things of the set,one by one
 have em:∀{b:Int} {ρ:cM},0<=b->b<(x.length:Int)->aB 0 ρ=aa (.int b)->aB 2 ρ=aa (aH (tU x))->aC dZ (aB 2) (aB 0) ρ=aa (.int (Mk x b.toNat:Int)):=λ{b ρ} b0 b1 h0 h2=>by show aS (x:=aH (tU x)) (y:=.int ((b.toNat:Nat):Int)) h2 (by rw[tw b0];show h0) (Zj ∅)
 have eb:∀{b:Int} {ρ:cM} (r:Int),0<=b->aB 0 ρ=aa (.int b)->aB 1 ρ=aa (.int (S:Int))->tV (aC kJ (aC mJ (aC GV (aB 1) (aB 0)) (eC (.int 1))) (eC (.int r))) ρ=aa (Zv ((if S.testBit b.toNat=ae then(1:Int) else 0)=r)):=λ{b ρ} r b0 h0 h1=>jL (d:=.bl (Zv ((if S.testBit b.toNat=ae then(1:Int) else 0)=r))) (aS (x:=.int (if S.testBit b.toNat=ae then 1 else 0)) (y:=.int r) (Qb h1 (b:=b.toNat) (by rw[tw b0];show h0)) rfl jE) rfl;have es:∀{b:Int} {ρ:cM},0<=b->b<(x.length:Int)->aB 0 ρ=aa (.int b)->aB 1 ρ=aa (.int (S:Int))->aB 2 ρ=aa (aH (tU x))->aC kJ (aC mJ (aC dZ (aB 2) (aB 0)) (aB 1)) (aC dZ (aB 2) (aB 0)) ρ=aa (.bl (Zv (Mk x b.toNat &&& S=Mk x b.toNat))):=λ{b ρ} b0 b1 h0 h1 h2=>by have:=em b0 b1 h0 h2;show aS (x:=.int ((Mk x b.toNat &&& S:Nat):Int)) (y:=.int (Mk x b.toNat:Int)) (aS this h1 (EB _ _)) this ?_;rw[jE];congr 2;show decide_eq_decide.2 ∅
 have rng:∀ρ:bT,aB 2 (gQ ρ)=aa (.int x.length)->cJ (aA (aB 2) aG) (gQ ρ)=aa ((bJ 0 x.length).map D.int):=λρ h=>DP h ∅;have tst:∀v6:Sv,tV (eP allM (aA (cK 1 [5,1] (cJ (aA (aB 2) aG)) (g1 0) (tV (aC kJ (aC mJ (aC GV (aB 1) (aB 0)) (eC (.int 1))) (eC (.int 1)))) (aC kJ (aC mJ (aC dZ (aB 2) (aB 0)) (aB 1)) (aC dZ (aB 2) (aB 0)))) aG)) (bK (SG x q A (.ro (.int t)) (.ro (.int (S:Int))) v6))=aa (XA x S):=λv6=>by
  show jL (d:=.bl (XA x S)) (fN (x:=.lst ((((bJ 0 x.length).filter λb=>S.testBit b.toNat).map λb=>Zv (Mk x b.toNat &&& S=Mk x b.toNat)).map D.bl)) ?_ ?_) rfl
  .rw [ft];show gE ((bJ 0 x.length).map D.int) (DP rfl ∅) (by rw[bj,aU];lia) (fB D.int (λb=>S.testBit b.toNat) _ (bJ 0 x.length) λb hb=>⟨[aa (.int b),aa (.int (S:Int)),aa (aH (tU x))],rfl,?_,λ_=>?_⟩)
   .have:=aX.1 hb;rw[eb 1 ∅ rfl rfl];cases S.testBit b.toNat<;>rfl
   .have:=aX.1 hb;show es ∅ ∅ rfl rfl rfl
  .rw [lT];unfold XA;rw[nh];rfl
 show vG (XA x S) (tst v6) (λhd=>?_) λhd=>BH ⟨q,A,_,_,_,o,λS' h1 h2 h3=>by
  by_cases e:S'=S
  .rw [e,hd] at h3;cases h3
  .exact hA S' ∅ h2 h3,rfl⟩
 let L:=(bJ 0 x.length).filter λb=>G6 x b.toNat S
 show jG (SG x q A (.ro (.int t)) (.ro (.int (S:Int))) (.ro (aH L))) (fA (aH L) ?_ rfl) ?_
 .refine gE ((bJ 0 x.length).map D.int) (DP rfl ∅) (by rw[bj,aU];lia) (fB D.int (λb=>G6 x b.toNat S) D.int (bJ 0 x.length) λb hb=>⟨[aa (.int b),aa (.int (S:Int)),aa (aH (tU x))],rfl,?_,λ_=>rfl⟩);have:=aX.1 hb;show Cd (eb 0 ∅ rfl rfl) (λh=>?_) λh=>?_
  .rw [jL (es ∅ ∅ rfl rfl rfl) rfl];unfold G6
   cases hS:S.testBit b.toNat with
   |true=>rw[hS] at h;cases h
   |false=>rfl
  .unfold G6
   cases hS:S.testBit b.toNat with
   |true=>rfl
   |false=>rw[hS] at h;cases h
 have hl:=WM o;have lL:L.length<=x.length:=by have:=sk (λb:Int=>G6 x b.toNat S) (bJ 0 x.length);rw[aU] at this;show this
 have tl:(things x S).length<x.length:=by have:=vP (x:=x) S;have:=(sY (x:=x) (S:=S) ∅).1;lia
 have step:=WW hx tl;have val:eP yD (aA (cK 1 [3,5] (cU (aB 6)) (g1 0) dJ (aC A4 (aB 1) (aC V6 (aB 2) (aC A6 (eC (.int 1)) (aB 0))))) aG) (bK (SG x q A (.ro (.int t)) (.ro (.int (S:Int))) (.ro (aH L))))=aa (.int (Cm x S)):=by
  have e:Cm x S=(L.map λb=>Cm x (S ||| 2^b.toNat)).sum:=by rw[step,<- vR]
  rw[e]
  clear e step
  obtain⟨M,hM⟩:∃M,M=L.map λb=>Cm x (S ||| 2^b.toNat):=⟨_,rfl⟩;rw[<- hM];show fN (x:=aH M) ?_ sum_ints;rw[hM];unfold aH;rw[ft];show gE (L.map D.int) rfl (by rw[bj];lia) (d9 D.int (λb=>.int (Cm x (S ||| 2^b.toNat))) L λb hb=>⟨[aa (.int b),aa (dT q A),aa (.int (S:Int))],rfl,?_⟩);obtain⟨h1,h2⟩:=gw.1 hb;have:=aX.1 h1;have nb:S.testBit b.toNat=ag:=by
   unfold G6 at h2
   cases z:S.testBit b.toNat with
   |false=>rfl
   |true=>rw[z] at h2;cases h2
  have g:=hA (S ||| 2^b.toNat) (by have:=Vu nb;lia) (Wc ∅ ∅) (Vv hd h2);show aS (x:=dT q A) (y:=.int ((S ||| 2^b.toNat:Nat):Int)) rfl (aS (x:=.int (S:Int)) (y:=.int ((2^b.toNat:Nat):Int)) rfl (aS (x:=.int ((1:Nat):Int)) (y:=.int ((b.toNat:Nat):Int)) rfl (by rw[tw ∅];rfl) (by rw[J8 (by decide) ∅,J9])) (WN _ _)) (Aq g)
 show⟨_,V_ (q:=q) (F:=A) (h:=S) (v:=Cm x S) val rfl rfl ∅,adr q,yH A S (Cm x S),_,_,_,o.put ∅ _,λS' h1 h2 h3=>?_,rfl⟩;rw[Q9];by_cases e:S'=S
 .rw [Z_ e,e]
 .rw [Zz e];show hA S' ∅ h2 h3
def EK{a:Q0e}(h:a.length<=4000):sO (τ a) (.int 290)=aa (τ (cc 290 a).flatten):=by unfold τ;rw[<- gK.EH];show Z_ ⟨?_,by decide⟩;rw[bj,show(290:Int).toNat=290 from rfl];unfold lP;lia
def KY{a b:Q0e}(h:a.length+b.length<=16777216):dI (τ a) (τ b)=aa (τ (a++b)):=by unfold τ;rw[gp];show Z_ (by rw[bj,bj];show h)
def RB{l:Q0e}{n:Int}(h0:0<=n)(h1:n<l.length):∃v,uC (l.map D.int) n=aa (.int v):=by obtain⟨v,e,_⟩:=gK.HB (l:=l) (p:=n.toNat) ∅;rw[tw h0] at e;show⟨v,e⟩
def zP{r dr:Q0e}{a b c e:Int}{Θ:Q0e}(hd:dr=a::b::c::e::Θ)(hr:r.length<=4000):∃r':Q0e,r'.length<=292*r.length+300/\eM [τ r,aH dr]=.ok (τ r'):=by
 have main:∃z,eM [τ r,aH dr]=.ok z /\∃r':Q0e,r'.length<=292*r.length+300/\z=τ r':=by
  have dx:∀{ρ:cM} (i:Nat) (y:Int),aB 1 ρ=aa (aH dr)->dr[i]?=aa y->aC dZ (aB 1) (eC (.int (i:Int))) ρ=aa (.int y):=λ{ρ} i y h hy=>aS (x:=aH dr) (y:=.int (i:Int)) h rfl (jI hy);have d0:dr[0]?=aa a:=by rw[hd];rfl
  have d1:dr[1]?=aa b:=by rw[hd];rfl
  have d2:dr[2]?=aa c:=by rw[hd];rfl
  have d3:dr[3]?=aa e:=by rw[hd];rfl
  have tk:∀(j:Int) (ρ:cM),aB 1 ρ=aa (aH dr)->tV (aC kJ (aC eS (aC dZ (aB 1) (eC (.int 0))) (eC (.int 7))) (eC (.int j))) ρ=aa (Zv (a%7=j)):=λj ρ h=>jL (d:=.bl (Zv (a%7=j))) (aS (x:=.int (a%7)) (y:=.int j) (aS (x:=.int a) (y:=.int 7) (dx 0 a h d0) rfl (bM (by decide))) rfl rfl) rfl;have tlt:∀(ρ:cM),aB 1 ρ=aa (aH dr)->tV (aC O6 (aC eS (aC dZ (aB 1) (eC (.int 0))) (eC (.int 7))) (eC (.int 3))) ρ=aa (Zv (a%7<3)):=λρ h=>jL (d:=.bl (Zv (a%7<3))) (aS (x:=.int (a%7)) (y:=.int 3) (aS (x:=.int a) (y:=.int 7) (dx 0 a h d0) rfl (bM (by decide))) rfl rfl) rfl;unfold eM;show rK rfl ?_
  let S:Sv->Sv->Sv->bT:=λv3 v4 v5=>[.ro (τ r),.ro (aH dr),.ro (.int r.length),v3,v4,v5]
  show aP (S .no .no .no) (fA (.int r.length) (fN (x:=τ r) rfl BP) rfl) ?_;by_cases h6:a%7=6
  .refine jH (DO ae (by rw[tk 6 _ rfl,Zx h6]) (λ_=>?_) λh=>by cases h);obtain⟨l',el,hl⟩:=gK.slT (f:=(aC dI (aC sO (aB 0) (eC (.int 290))) (aC sO (iH (aA (eC (.int 0)) aG)) (eC (.int 290))))) (lo:=u3) (hi:=oE (aC dI (eC (.int 1)) (aC eS (aC dI (aC mulM (eC (.int 64)) (aC dZ (aB 1) (eC (.int 1)))) (aC dZ (aB 1) (eC (.int 2)))) (eC (.int 290))))) (ρ:=gQ (S .no .no .no)) (l:=(cc 290 r).flatten++(cc 290 [0]).flatten) (a:=af) (b:=aa (1+(64*b+c)%290))
    (aS (x:=τ (cc 290 r).flatten) (y:=τ (cc 290 [0]).flatten) (aS (x:=τ r) (y:=.int 290) rfl rfl (EK hr)) (aS (x:=τ [0]) (y:=.int 290) rfl rfl (EK (by simp))) (KY (by rw[gK.mT,gK.mT];simp;lia)))
    rfl (gK.Hf (i:=1+(64*b+c)%290) (aS (x:=.int 1) (y:=.int ((64*b+c)%290)) rfl (aS (x:=.int (64*b+c)) (y:=.int 290) (aS (x:=.int (64*b)) (y:=.int c) (aS (x:=.int 64) (y:=.int b) rfl (dx 1 b rfl d1) (rJ (by decide))) (dx 2 c rfl d2) rfl) rfl (bM (by decide))) rfl))
   rw[dm,gK.mT,gK.mT] at hl;simp only[fu,jy] at hl;show iK (τ (r++l')) (aS (x:=τ r) (y:=τ l') rfl el (KY ∅)) ⟨r++l',by rw[dm];lia,rfl⟩
  show aP _ (lQ (by rw[tk 6 _ rfl,Zy h6]) rfl) ?_;by_cases h0:a%7=0
  .refine jH (DO ae (by rw[tk 0 _ rfl,Zx h0]) (λ_=>?_) λh=>by cases h);show aP (S (.ro (.int (b%(r.length+1)))) .no .no) (fA (.int (b%(r.length+1))) (aS (x:=.int b) (y:=.int (r.length+1)) (dx 1 b rfl d1) (aS (x:=.int r.length) (y:=.int 1) rfl rfl rfl) (bM ∅)) rfl) ?_;obtain⟨v,ev⟩:=RB (l:=[(r.length:Int),-1,0]) (n:=c%3) ∅ (by simp;lia);obtain⟨l1,e1,hl1⟩:=gK.slT (f:=aB 0) (lo:=u3) (hi:=oE (aB 3)) (ρ:=gQ (S (.ro (.int (b%(r.length+1)))) .no .no)) rfl rfl rfl;obtain⟨l2,e2,hl2⟩:=gK.slT (f:=aB 0) (lo:=oE (aB 3)) (hi:=u3) (ρ:=gQ (S (.ro (.int (b%(r.length+1)))) .no .no)) rfl rfl rfl;show iK (τ (l1++[v]++l2)) (aS (x:=τ (l1++[v])) (y:=τ l2) (aS (x:=τ l1) (y:=τ [v]) e1 ?_ (KY (by simp;lia))) e2 (KY (by simp;lia))) ⟨l1++[v]++l2,by simp;lia,rfl⟩;have e3:aC dZ (iI (aA (aB 2) (aA (yB (eC (.int 1))) (aA (eC (.int 0)) aG)))) (aC eS (aC dZ (aB 1) (eC (.int 2))) (eC (.int 3))) (bK (S (.ro (.int (b%(r.length+1)))) .no .no))=aa (.int v):=aS (x:=aH [(r.length:Int),-1,0]) (y:=.int (c%3)) rfl (aS (x:=.int c) (y:=.int 3) (dx 2 c rfl d2) rfl (bM (by decide))) ev;unfold iH;rw[args1 e3];rfl
  show aP _ (lQ (by rw[tk 0 _ rfl,Zy h0]) rfl) ?_;have tl:tV (aC kJ (aB 2) (eC (.int 0))) (bK (S .no .no .no))=aa (Zv ((r.length:Int)=0)):=jL (d:=.bl (Zv ((r.length:Int)=0))) (aS (x:=.int r.length) (y:=.int 0) rfl rfl rfl) rfl;by_cases hz:r.length=0
  .refine jH (DO ae (by rw[tl,Zx ∅]) (λ_=>?_) λh=>by cases h);show iK (τ [b%2-1]) ?_ ⟨[b%2-1],by simp,rfl⟩;have e3:aC mD (aC eS (aC dZ (aB 1) (eC (.int 1))) (eC (.int 2))) (eC (.int 1)) (bK (S .no .no .no))=aa (.int (b%2-1)):=aS (x:=.int (b%2)) (y:=.int 1) (aS (x:=.int b) (y:=.int 2) (dx 1 b rfl d1) rfl (bM (by decide))) rfl rfl;unfold iH;rw[args1 e3];rfl
  show aP _ (lQ (by rw[tl,Zy ∅]) rfl) ?_;obtain⟨p,ep,hp⟩:∃p:Nat,b%(r.length:Int)=p/\p<r.length:=by have q0:=ka b (show(r.length:Int)≠0 by lia);have q1:=k_ b (show(0:Int)<r.length by lia);show⟨(b%(r.length:Int)).toNat,by lia,by lia⟩
  obtain⟨q,eq,hq⟩:∃q:Nat,c%(r.length:Int)=q/\q<r.length:=by have q0:=ka c (show(r.length:Int)≠0 by lia);have q1:=k_ c (show(0:Int)<r.length by lia);show⟨(c%(r.length:Int)).toNat,by lia,by lia⟩
  show aP (S (.ro (.int p)) .no .no) (fA (.int p) (aS (x:=.int b) (y:=.int r.length) (dx 1 b rfl d1) rfl (by rw[bM ∅,ep])) rfl) ?_;show aP (S (.ro (.int p)) (.ro (.int q)) .no) (fA (.int q) (aS (x:=.int c) (y:=.int r.length) (dx 2 c rfl d2) rfl (by rw[bM ∅,eq])) rfl) ?_;show aP (S (.ro (.int p)) (.ro (.int q)) (.ow (aH r))) (Qa (d:=aH r) (fN (x:=τ r) rfl rfl)) ?_;obtain⟨u,eu,_⟩:=gK.HB hp;obtain⟨v,ev,_⟩:=gK.HB hq;have du:dZ (τ r) (.int p)=aa (.int u):=eu;have dv:dZ (τ r) (.int q)=aa (.int v):=ev;show lU (λρ=>∃l:Q0e,l.length<=2*r.length/\ρ=S (.ro (.int p)) (.ro (.int q)) (.ow (aH l))) ?_ ?_
  .refine vG (Zv (a%7<3)) (tlt _ rfl) (λ_=>?_) λ_=>vG (Zv (a%7=3)) (tk 3 _ rfl) (λ_=>?_) λ_=>vG (Zv (a%7=4)) (tk 4 _ rfl) (λ_=>?_) λ_=>?_
   .refine jG (S (.ro (.int p)) (.ro (.int q)) (.ow (aH (r.set p v)))) (gK.W5 (l:=r) (v:=v) (kk:=p) (j:=p) (gK.xrE (aS (x:=τ r) (y:=.int q) rfl rfl dv)) rfl rfl (gK.BR hp)) ?_;show⟨_,gK.W5 (l:=r.set p v) (v:=u) (kk:=q) (j:=q) (gK.xrE (aS (x:=τ r) (y:=.int p) rfl rfl du)) rfl rfl (gK.BR (by rw[gb];show hq)),(r.set p v).set q u,by rw[gb,gb];lia,rfl⟩
   .exact ⟨_,gK.W5 (l:=r) (v:=v) (kk:=p) (j:=p) (gK.xrE (aS (x:=τ r) (y:=.int q) rfl rfl dv)) rfl rfl (gK.BR hp),r.set p v,by rw[gb];lia,rfl⟩
   .obtain ⟨l1,e1,hl1⟩:=gK.slL (f:=aB 5) (lo:=u3) (hi:=oE (aB 3)) (ρ:=bK (S (.ro (.int p)) (.ro (.int q)) (.ow (aH r)))) rfl rfl rfl;obtain⟨l2,e2,hl2⟩:=gK.slL (f:=aB 5) (lo:=oE (aC dI (aB 3) (eC (.int 1)))) (hi:=u3) (ρ:=bK (S (.ro (.int p)) (.ro (.int q)) (.ow (aH r)))) rfl rfl rfl;show⟨_,Wa (l:=l1++l2) (aS (x:=aH l1) (y:=aH l2) e1 e2 (gK.QV ∅)),l1++l2,by rw[dm];lia,rfl⟩
   .obtain ⟨y,ey⟩:=RB (l:=[(r.length:Int),-1,-2,u-r.length]) (n:=e%4) ∅ (by simp;lia);show⟨_,gK.W5 (l:=r) (v:=y) (kk:=p) (j:=p) (gK.xpE (aS (x:=aH [(r.length:Int),-1,-2,u-r.length]) (y:=.int (e%4)) ?_ (aS (x:=.int e) (y:=.int 4) (dx 3 e rfl d3) rfl (bM (by decide))) ey)) rfl rfl (gK.BR hp),r.set p y,by rw[gb];lia,rfl⟩;unfold iI;have e5:aC mD (aC dZ (aB 5) (aB 3)) (aB 2) (bK (S (.ro (.int p)) (.ro (.int q)) (.ow (aH r))))=aa (.int (u-r.length)):=aS (x:=.int u) (y:=.int r.length) (aS (x:=aH r) (y:=.int p) rfl rfl eu) rfl rfl;unfold aA aG;rw[e5];rfl
  .rintro _ ⟨l,hl,rfl⟩;show iK (τ l) (fN (x:=aH l) rfl rfl) ⟨l,by lia,rfl⟩
 obtain⟨z,e,r',h1,rfl⟩:=main;show⟨r',h1,e⟩
abbrev SL(ns:Q0e)(x:Q0a)(h0 h1 c3:Int)(v5 v6 v7 v8 v9 v10 v11:Sv):bT:=[.ro (.pJ ns),.ro (aW x),.ro (aH [h0,h1]),.ro (.int c3),.ro (.int (nQ x)),v5,v6,v7,v8,v9,v10,v11]
def Zb(N:Int):LL.cL 6 [.int N,.int N]=.ok (.bl ae):=same_refl 6 (.int N) trivial
def RC(ns:Q0e)(hns:ns.length<=63):zL [.pJ ns]=.ok (.bl ae):=by
 obtain⟨_,ed,x,hxl,hx,rfl⟩:=P7 ns 0 9 100003 (by decide) (by decide);have hn:x.length<=9:=by lia
 have hr:=BO hx hn;obtain⟨c2,ec2⟩:=pW ns 2;obtain⟨hs,hsl,_,eh⟩:=mK c2 2 200017 (by decide) (by decide);obtain⟨h0,h1,rfl⟩:∃h0 h1,hs=[h0,h1]:=by
  match hs,hsl with
  |[h0,h1],_=>show⟨h0,h1,rfl⟩
 obtain⟨c3,ec3⟩:=pW ns 3;have T1:1<=nQ x:=by rw[HG];show G9 hx
 have eg:=HI hx hn;have em:=Zf hn hr;unfold zL;show KG rfl ?_;show aP [.ro (.pJ ns),.ro (aW x),.no,.no,.no,.no,.no,.no,.no,.no,.no,.no] (fA (aW x) (BI rfl rfl rfl rfl ed) rfl) ?_;show aP [.ro (.pJ ns),.ro (aW x),.ro (aH [h0,h1]),.no,.no,.no,.no,.no,.no,.no,.no,.no] (fA (aH [h0,h1]) (lV (bX rfl rfl ec2) rfl rfl eh) rfl) ?_;show aP [.ro (.pJ ns),.ro (aW x),.ro (aH [h0,h1]),.ro (.int c3),.no,.no,.no,.no,.no,.no,.no,.no] (fA (.int c3) (bX rfl rfl ec3) rfl) ?_;show aP (SL ns x h0 h1 c3 .no .no .no .no .no .no .no) (fA (.int (nQ x)) (kK rfl eg) rfl) ?_;show aP (SL ns x h0 h1 c3 .no .no .no .no .no .no .no) (lQ (GI (b:=ae) (jL (d:=.bl ae) (bX (x:=.int (nQ x)) (y:=.int (nQ x)) (kK rfl em) rfl (Zb _)) rfl) rfl) rfl) ?_;have m0:∀(j:Int) (ρ:cM),aB 2 ρ=aa (aH [h0,h1])->tV (aC kJ (aC eS (aC dZ (aB 2) (eC (.int 0))) (eC (.int 4))) (eC (.int j))) ρ=aa (Zv (h0%4=j)):=λj ρ h=>jL (d:=.bl (Zv (h0%4=j))) (aS (x:=.int (h0%4)) (y:=.int j) (aS (x:=.int h0) (y:=.int 4) (aS (x:=aH [h0,h1]) (y:=.int 0) h rfl rfl) rfl (bM (by decide))) rfl rfl) rfl;by_cases k0:h0%4=0
 .refine jH (DO ae (by rw[m0 0 _ rfl,Zx k0]) (λ_=>?_) λh=>by cases h);obtain⟨fr,fr0,_,efr⟩:=DX c3 300007 (most:=((10:Int)^60)^10-10^6) (by decide+kernel);have ep:∀ρ:cM,aC mD (aC JW (aC uW (eC (.int 10)) (eC (.int 60))) (eC (.int 10))) (aC uW (eC (.int 10)) (eC (.int 6))) ρ=aa (.int (((10:Int)^60)^10-10^6)):=λρ=>by show aS (x:=.int (((10:Int)^60)^10)) (y:=.int ((10:Int)^6)) (WK ρ) ?_ rfl;rw[G3 ρ (by decide+kernel)];rfl
  show aP (SL ns x h0 h1 c3 (.ro (.int fr)) .no .no .no .no .no .no) (fA (.int fr) (lV (x:=.int c3) (y:=.int (((10:Int)^60)^10-10^6)) (z:=.int 300007) rfl (ep _) rfl efr) rfl) ?_;obtain⟨N,hN,eN⟩:∃N:Int,¬ (0<=N/\N<nQ x)/\uC [D.int (-1),.int (nQ x),.int (nQ x+fr),.int (-1-fr)] (h1%4)=aa (.int N):=by
   rcases(show h1%4=0\/h1%4=1\/h1%4=2\/h1%4=3 by lia) with h|h|h|h
   .exact ⟨-1,by lia,by rw[h];rfl⟩
   .exact ⟨nQ x,by lia,by rw[h];rfl⟩
   .exact ⟨nQ x+fr,by lia,by rw[h];rfl⟩
   .exact ⟨-1-fr,by lia,by rw[h];rfl⟩
  show aP (SL ns x h0 h1 c3 (.ro (.int fr)) (.ro (.int N)) .no .no .no .no .no) (fA (.int N) (aS (x:=.lst [.int (-1),.int (nQ x),.int (nQ x+fr),.int (-1-fr)]) (y:=.int (h1%4)) rfl (aS (x:=.int h1) (y:=.int 4) (aS (x:=aH [h0,h1]) (y:=.int 1) rfl rfl rfl) rfl (bM (by decide))) eN) rfl) ?_;show iK _ (bX (x:=.tup [.str "refused",.str "NoNumber"]) (y:=.tup [.str "refused",.str "NoNumber"]) (bX rfl rfl (KW (Bv hx hn hN))) rfl gK.QX) rfl
 show aP (SL ns x h0 h1 c3 .no .no .no .no .no .no .no) (lQ (by rw[m0 0 _ rfl,Zy k0]) rfl) ?_;by_cases k1:h0%4=1
 .refine jH (DO ae (by rw[m0 1 _ rfl,Zx k1]) (λ_=>?_) λh=>by cases h);obtain⟨dw,dwl,_,edw⟩:=mK c3 9 300007 (by decide) (by decide);have dwl:dw.length=9:=dwl;obtain⟨w0,hw0,ew0⟩:=W0 hx hn (dr:=dw) ∅;have wl0:=hw0.1;obtain⟨c4,ec4⟩:=pW ns 4;obtain⟨dr,drl,_,edr⟩:=mK c4 9 400009 (by decide) (by decide);obtain⟨d0,d1,d2,d3,d4,d5,d6,d7,d8,hdr⟩:∃d0 d1 d2 d3 d4 d5 d6 d7 d8,dr=[d0,d1,d2,d3,d4,d5,d6,d7,d8]:=by
   match dr,drl with
   |[d0,d1,d2,d3,d4,d5,d6,d7,d8],_=>show⟨d0,d1,d2,d3,d4,d5,d6,d7,d8,rfl⟩
  obtain⟨w1,hw1,ew1⟩:=zP (r:=w0) hdr ∅;show aP (SL ns x h0 h1 c3 .no .no (.ro (τ w0)) .no .no .no .no) (fA (τ w0) (bX (x:=aW x) (y:=aH dw) rfl (lV rfl rfl rfl edw) ew0) rfl) ?_;show aP (SL ns x h0 h1 c3 .no .no (.ro (τ w0)) (.ro (aH dr)) .no .no .no) (fA (aH dr) (lV (bX rfl rfl ec4) rfl rfl edr) rfl) ?_;show aP (SL ns x h0 h1 c3 .no .no (.ro (τ w1)) (.ro (aH dr)) .no .no .no) (fA (τ w1) (bX rfl rfl ew1) rfl) ?_;show lU (λρ=>∃w:Q0e,w.length<=5000/\ρ=SL ns x h0 h1 c3 .no .no (.ro (τ w)) (.ro (aH dr)) .no .no .no) ?_ ?_
  .refine vG (Zv (d8%2=1)) (jL (d:=.bl (Zv (d8%2=1))) (aS (x:=.int (d8%2)) (y:=.int 1) (aS (x:=.int d8) (y:=.int 2) (aS (x:=aH dr) (y:=.int ((8:Nat):Int)) rfl rfl (jI (by rw[hdr];rfl))) rfl (bM (by decide))) rfl rfl) rfl) (λ_=>?_) λ_=>BH ⟨w1,by lia,rfl⟩;obtain⟨w2,hw2,ew2⟩:=zP (r:=w1) (rfl:[d4,d5,d6,d7,d8]=d4::d5::d6::d7::[d8]) ∅;have e8:u4 (aB 8) (oE (eC (.int 4))) u3 (gQ (SL ns x h0 h1 c3 .no .no (.ro (τ w1)) (.ro (aH dr)) .no .no .no))=aa (aH [d4,d5,d6,d7,d8]):=by rw[hdr];rfl
   have e9:aT eM (aA (aB 7) (aA (u4 (aB 8) (oE (eC (.int 4))) u3) aG)) (gQ (SL ns x h0 h1 c3 .no .no (.ro (τ w1)) (.ro (aH dr)) .no .no .no))=aa (τ w2):=bX (x:=τ w1) (y:=aH [d4,d5,d6,d7,d8]) rfl e8 ew2;have ec:u4 (aT eM (aA (aB 7) (aA (u4 (aB 8) (oE (eC (.int 4))) u3) aG))) u3 (oE (eC (.int 300))) (gQ (SL ns x h0 h1 c3 .no .no (.ro (τ w1)) (.ro (aH dr)) .no .no .no))=aa (τ (w2.take 300)):=by
    generalize aT eM (aA (aB 7) (aA (u4 (aB 8) (oE (eC (.int 4))) u3) aG))=fs at e9 ⊢;unfold u4;rw[e9];show aa (D.tup (yE (w2.map D.int) af (aa 300)))=_;unfold yE PH τ;dsimp only;rw[Zz (by decide),oy,bj,x_,Fv];congr 2;by_cases q:w2.length<=300
    .rw [qe (by rw[bj];lia),qe (by rw[bj];lia)]
    .rw [show min (300:Int).toNat w2.length=300 by lia]
   show GW (τ (w2.take 300)) ec ⟨w2.take 300,by rw[ig];lia,rfl⟩
  rintro _ ⟨w,hw,rfl⟩;by_cases hg:Gg x w
  .have e1:=sZ (zN hx hn hg);have e2:=mS hx hn hg;obtain⟨n0,n1⟩:=Ze hg;obtain⟨z,hz,ez,e3⟩:=Q5 hx hn n0 n1;have:w=z:=W8 hg hz ez;subst this;have wl:=hg.1;show aP (SL ns x h0 h1 c3 .no .no (.ro (τ w)) (.ro (aH dr)) (.ro (.str "told")) (.ro (.int (fO x R1 [] w))) .no) (gK.QW (bX rfl rfl e1)) ?_;show aP _ (lQ (GI (b:=ae) (jL (d:=.bl ae) (bX rfl rfl e2) rfl) rfl) rfl) ?_;show iK _ (gK.QY rfl (bX (x:=.tup [.str "told",τ w]) (y:=.tup [.str "told",τ w]) (bX rfl rfl (BW e3)) rfl (gK.MQ ∅))) rfl
  .have e1:=EJ (MR hx hn hw hg);have e2:=HH hx hn hg;show aP (SL ns x h0 h1 c3 .no .no (.ro (τ w)) (.ro (aH dr)) (.ro (.str "refused")) (.ro (.str "NoGoing")) .no) (gK.QW (bX rfl rfl e1)) ?_;show jH ⟨_,yW (GI (b:=ag) (jL (d:=.bl ag) (bX rfl rfl e2) rfl) rfl) (gJ (gK.QY rfl rfl)),rfl⟩
 show aP (SL ns x h0 h1 c3 .no .no .no .no .no .no .no) (lQ (by rw[m0 1 _ rfl,Zy k1]) rfl) ?_;obtain⟨N0,a0,a1,Hz⟩:=DX c3 300007 (most:=nQ x) ∅;show aP (SL ns x h0 h1 c3 .no (.ro (.int N0)) .no .no .no .no .no) (fA (.int N0) (lV rfl rfl rfl Hz) rfl) ?_;show lU (λρ=>∃N:Int,0<=N/\N<nQ x/\ρ=SL ns x h0 h1 c3 .no (.ro (.int N)) .no .no .no .no .no) ?_ ?_
 .exact vG (Zv (h1%8=0)) (jL (d:=.bl (Zv (h1%8=0))) (aS (x:=.int (h1%8)) (y:=.int 0) (aS (x:=.int h1) (y:=.int 8) (aS (x:=aH [h0,h1]) (y:=.int 1) rfl rfl rfl) rfl (bM (by decide))) rfl rfl) rfl) (λ_=>GW (.int (nQ x-1)) (aS (x:=.int (nQ x)) (y:=.int 1) rfl rfl rfl) ⟨nQ x-1,by lia,by lia,rfl⟩) λ_=>BH ⟨N0,a0,a1,rfl⟩
 rintro _ ⟨N,n0,n1,rfl⟩;obtain⟨w,hw,eN,e1⟩:=Q5 hx hn n0 n1;have wl:=hw.1;have e2:=mS hx hn hw;have e3:=sZ (zN hx hn hw);rw[<- eN] at e3;show aP (SL ns x h0 h1 c3 .no (.ro (.int N)) (.ro (τ w)) .no (.ro (.str "told")) .no .no) (gK.QW (bX rfl rfl (BW e1))) ?_;show aP _ (lQ (tS (b:=ag) (c:=ag) rfl (λ_=>GI (b:=ae) (jL (d:=.bl ae) (bX rfl rfl e2) rfl) rfl) λh=>by cases h) rfl) ?_;show aP _ (lQ (GI (b:=ae) (jL (d:=.bl ae) (bX (x:=.tup [.str "told",.int N]) (y:=.tup [.str "told",.int N]) (bX rfl rfl e3) rfl (gK.HC N)) rfl) rfl) rfl) ?_;have tl:∀v9 v11:Sv,tV (aC kJ (aC dI (aB 6) (eC (.int 1))) (aB 4)) (bK (SL ns x h0 h1 c3 .no (.ro (.int N)) (.ro (τ w)) .no v9 .no v11))=aa (Zv (N+1=nQ x)):=λv9 v11=>jL (d:=.bl (Zv (N+1=nQ x))) (aS (x:=.int (N+1)) (y:=.int (nQ x)) rfl rfl rfl) rfl;by_cases last:N+1=nQ x
 .have e4:=KW (Bv hx hn (N:=N+1) ∅);show aP (SL ns x h0 h1 c3 .no (.ro (.int N)) (.ro (τ w)) .no (.ro (.str "refused")) .no (.ro (.str "NoNumber"))) (gK.QW (bX (x:=aW x) (y:=.int (N+1)) rfl rfl e4)) ?_;show jH ⟨_,yW (by rw[tl,Zx last]) (gJ (gK.QY rfl rfl)),rfl⟩
 .obtain ⟨z,hz,ez,e4⟩:=Q5 hx hn (N:=N+1) ∅ ∅;have e5:=mS hx hn hz;have lx:=Zd hw hz ∅;show aP (SL ns x h0 h1 c3 .no (.ro (.int N)) (.ro (τ w)) .no (.ro (.str "told")) .no (.ro (τ z))) (gK.QW (bX (x:=aW x) (y:=.int (N+1)) rfl rfl (BW e4))) ?_;show aP _ (lQ (by rw[tl,Zy last]) rfl) ?_;show iK (.bl ae) (gK.QY rfl (gK.QY (bX rfl rfl e5) (aS (x:=τ w) (y:=τ z) rfl rfl (gK.HD lx)))) rfl
end
end K11
section
-- CHANGE: your row's module here,as the last of these rows
namespace L2
open PySem.Spec PyProof.Rows
abbrev Key:=Sum Int aj
noncomputable def zQ:Key->ai->Bool
 |.inl k,v=>a0Z k v
 |.inr x,v=>a0Y x v
noncomputable def Pr(w:az):Key->Int
 |.inl k=>hashInt k
 |.inr x=>hashStr w x
theorem cV:∀{k:Key} {v:ai},zQ k v=ae->(∃i t,k=c_ i/\v=ke i t)\/(∃x t,k=jr x/\v=w_ x t)
 |.inl i,v,h=>by obtain⟨t,e⟩:=Value.isInt_shape (k:=i) (v:=v) h;show .inl ⟨i,t,rfl,e⟩
 |.inr x,v,h=>by obtain⟨t,e⟩:=Value.isStrOf_shape (x:=x) (v:=v) h;show .inr ⟨x,t,rfl,e⟩
def MS(i:Int)(t:gy):zQ (.inl i) (.int i t)=ae:=by simp[zQ,a0Z]
def MT(x:aj)(t:gy):zQ (.inr x) (.str x t)=ae:=by simp[zQ,a0Y]
def Za(a b:Int):Zv ((c_ a:Key)=c_ b)=(a == b):=by
 by_cases e:a=b
 .subst e;simp
 .have h:¬ (c_ a:Key)=c_ b:=λq=>e (we q);rw[Zy h];show(beq_eq_false_iff_ne.mpr e).symm
def Y_(a b:aj):Zv ((jr a:Key)=jr b)=Zv (a=b):=by
 by_cases e:a=b
 .subst e;simp
 .have h:¬ (jr a:Key)=jr b:=λq=>e (Ct q);rw[Zy h,Zy e]
def Yz(a:Int)(b:aj):Zv ((c_ a:Key)=jr b)=ag:=Zy (λq=>nomatch q)
def Yy(a:aj)(b:Int):Zv ((jr a:Key)=c_ b)=ag:=Zy (λq=>nomatch q)
def bE(Ω:bh)(w:az):PySem.KeyKind Ω w Key where
 is:=zQ
 hash:=Pr w
 inj:=λv a b ha hb=>by
  rcases cV ha with⟨i,t,rfl,rfl⟩|⟨x,t,rfl,rfl⟩
  .rcases cV hb with⟨j,u,rfl,e⟩|⟨y,u,rfl,e⟩
   .injection e with e1 _;rw[e1]
   .exact nomatch e
  .rcases cV hb with⟨j,u,rfl,e⟩|⟨y,u,rfl,e⟩
   .exact nomatch e
   .injection e with e1 _;rw[e1]
 byValue:=λk v h=>by rcases cV h with⟨i,t,rfl,rfl⟩|⟨x,t,rfl,rfl⟩<;>rfl
 pyHash:=λhv h=>by
  rcases cV hv with⟨i,t,rfl,rfl⟩|⟨x,t,rfl,rfl⟩
  .exact wpAny_pyHash_int h
  .exact wpAny_pyHash_str h
 eqBool:=λhu hv h=>by
  rcases cV hu with⟨i,t,rfl,rfl⟩|⟨x,t,rfl,rfl⟩
  .rcases cV hv with⟨j,u,rfl,rfl⟩|⟨y,u,rfl,rfl⟩
   .rw [Za] at h;show a0p h
   .rw [Yz] at h;show a04 i t y u _ _ _ _ h
  .rcases cV hv with⟨j,u,rfl,rfl⟩|⟨y,u,rfl,rfl⟩
   .rw [Yy] at h;show a02 x t j u _ _ _ _ h
   .rw [Y_] at h;show wpAny_eqBool_str h
 «strs»:=λk x t v h=>by
  rcases cV h with⟨i,u,rfl,e⟩|⟨y,u,rfl,e⟩
  .exact nomatch e
  .injection e with e1 _;subst e1;cases v<;>rfl
def EL(Ω:bh)(w:az)(i:Int)(t:gy):(bE Ω w).is (.inl i) (.int i t)=ae:=MS i t
def EM(Ω:bh)(w:az)(x:aj)(t:gy):(bE Ω w).is (.inr x) (.str x t)=ae:=MT x t
abbrev N1:=List (Sum Key (List Key))
abbrev KX:=Sum Key N1
section
variable{Ω:bh}{w:az}{K:Type}[dK:DecidableEq K](knd:KeyKind Ω w K)
noncomputable def oQ(h:ba):Sum K (List K)->ai->Prop
 |.inl k,v=>knd.is k v=ae
 |.inr ks,v=>∃b,v=.ref b/\IsTupleKey knd h ks b
inductive g9 (h:ba):List (Sum K (List K))->List ai->Prop
 |nil:g9 h [] []
 |cons {k:Sum K (List K)} {v:ai} {ks:List (Sum K (List K))} {vs:Q0f}:oQ knd h k v->g9 h ks vs->g9 h (k::ks) (v::vs)
def iM(h:ba)(ks:List (Sum K (List K)))(a:ah):Prop:=∃o items n,h.get? a=aa o/\o.cls=.type "tuple" /\o.data=.seq items n/\g9 knd h ks items.toList
variable{knd}
theorem oQ.inj{h:ba}{v:ai}:∀{x y:Sum K (List K)},oQ knd h x v->oQ knd h y v->x=y
 |.inl a,.inl b,hx,hy=>by rw[knd.inj _ _ _ hx hy]
 |.inl a,.inr b,hx,⟨q,e,_⟩=>by subst e;show Zw (knd.byValue _ _ hx) (by simp[carriedByValue])
 |.inr a,.inl b,⟨q,e,_⟩,hy=>by subst e;show Zw (knd.byValue _ _ hy) (by simp[carriedByValue])
 |.inr a,.inr b,⟨q,e,hx⟩,⟨r,f,hy⟩=>by subst e;injection f with f;subst f;rw[hx.inj hy]
theorem g9.inj{h:ba}{x:List (Sum K (List K))}{vs:Q0f}(hx:g9 knd h x vs):∀{y},g9 knd h y vs->x=y:=by
 induction hx with
 |nil=>intro y hy;cases hy;rfl
 |cons h1 _ ih =>
  intro y hy
  cases hy with
  |cons h2 t2=>rw[h1.inj h2,ih t2]
def iM.typeIs{s:ak}{ks:List (Sum K (List K))}{a:ah}(x:iM knd s.heap ks a):s.TypeIs (.ref a) "tuple":=let ⟨o,_,_,ho,hc,_⟩:=x;⟨o,ho,hc⟩
def iM.inj{h:ba}{a:ah}{x y:List (Sum K (List K))}(hx:iM knd h x a)(hy:iM knd h y a):x=y:=by obtain⟨o,ι,n,ho,_,hd,hi⟩:=hx;obtain⟨o',its',n',ho',_,hd',hi'⟩:=hy;rw[ho] at ho';cases ho';rw[hd] at hd';cases hd';show hi.inj hi'
theorem iM.keeps{es ep}(x:iM knd h ks a)(ho:h.get? d=aa o)(hd:o.data=.dict es ep)(hs:mr d h h'):iM knd h' ks a:=by
 obtain⟨q,items,n,hq,hc,hi,his⟩:=x;have ne:a≠d:=λz=>by subst z;rw[hq] at ho;cases ho;rw[hi] at hd;cases hd
 show⟨q,items,n,(hs.2 a ne).trans hq,hc,hi,?_⟩;have go:∀{ks:List (Sum K (List K))} {vs:Q0f},g9 knd h ks vs->g9 knd h' ks vs:=by
  intro ks vs t
  induction t with
  |nil=>show .nil
  | @cons k v ks vs h1 _ ih =>
   show .cons ?_ ih
   cases k with
   |inl k=>show h1
   |inr k=>obtain⟨b,e,hb⟩:=h1;show⟨b,e,hb.keeps ho hd hs⟩
 show go his
noncomputable def p7(knd:KeyKind Ω w K):Sum K (List K)->Int
 |.inl k=>knd.hash k
 |.inr ks=>tupleKeyHash knd ks
noncomputable def k9:Sum K (List K)->Nat
 |.inl _=>1
 |.inr ks=>ks.length+1
def vW(knd:KeyKind Ω w K)(ks:List (Sum K (List K))):Int:=reduceHash (a1u (ks.map (p7 knd)))
def nR(ks:List (Sum K (List K))):Nat:=(ks.map k9).sum+1
variable{s:ak}{A:bu}{E:Q0c}
theorem MU(hu:A.units<cn)(hk:oQ knd s.heap k v)(h:Q (p7 knd k) {s with toks:=s.toks+k9 k}):ay (au Ω w) A (pyHash v) Q E s:=by
 cases k with
 |inl k=>show knd.pyHash hk h
 |inr k =>
  obtain⟨b,e,hb⟩:=hk;subst e;show wpAny_pyHash_tuple hu hb h
def vX(x:IsTupleKey knd h ks b):∃items,h.IsTuple b items:=by obtain⟨o,items,n,ho,hc,hd,_⟩:=x;show⟨items,o,ho,hc,n,hd⟩
end
section
variable{P:bh}{w:az}{A:bu}{E:Q0c}{s:ak}
theorem XB(hu:A.units<cn)(hx:oQ (bE P w) s.heap x u)(hy:oQ (bE P w) s.heap y v)(h:Q (Zv (x=y)) s):ay (au P w) A (eqBool u v) Q E s:=by
 cases x with
 |inl x =>
  cases y with
  |inl y =>
   show(bE P w).eqBool hx hy ?_;rw[show Zv (x=y)=Zv ((c_ x:Sum Key (List Key))=c_ y) by simp];show h
  |inr y =>
   obtain⟨b,e,hb⟩:=hy;subst e;obtain⟨ι,hb⟩:=vX hb;rw[show Zv ((c_ x:Sum Key (List Key))=jr y)=ag by simp] at h;rcases cV hx with⟨i,t,rfl,rfl⟩|⟨i,t,rfl,rfl⟩
   .exact a23 i t hb hu P w E Q h
   .exact a2W i t hb hu P w E Q h
 |inr x =>
  obtain⟨a,e,ha⟩:=hx;subst e
  cases y with
  |inl y =>
   obtain⟨ι,ha⟩:=vX ha;rw[show Zv ((jr x:Sum Key (List Key))=c_ y)=ag by simp] at h;rcases cV hy with⟨i,t,rfl,rfl⟩|⟨i,t,rfl,rfl⟩
   .exact a2V i t ha hu P w E Q h
   .exact a2U i t ha hu P w E Q h
  |inr y =>
   obtain⟨b,e,hb⟩:=hy;subst e;show wpAny_eqBool_tuple hu ha hb ?_;rw[show Zv (x=y)=Zv ((jr x:Sum Key (List Key))=jr y) by simp];show h
theorem zR:∀(Θ:Q0f) (left:List (Sum Key (List Key))) (b:Array Int) (s:ak) (R:Array Int->ak->Prop),A.units<cn->g9 (bE P w) s.heap left Θ ->
  (∀b':Array Int,b'.toList=b.toList++left.map (p7 (bE P w))->R b' {s with toks:=s.toks+(left.map k9).sum}) ->
  ay (au P w) A (forIn Θ b λx r=>do
   let r' <- pyHash x
   pure (kj (r.push r'))) R E s
 |[],left,b,s,R,hu,t,k=>by cases t;show a_ (k b (by simp))
 |v::Θ,left,b,s,R,hu,t,k=>by
  cases t with
  | @cons kk _ ks _ h1 h2 =>
   rw[m_];show aq (aq (MU hu h1 (a_ ?_)));show zR Θ ks _ _ _ hu h2 λb' e=>?_;have:=k b' (by rw[e];simp);simpa[Fm] using this
def MV{ks:List (Sum Key (List Key))}{a:ah}{Q:Int->ak->Prop}(hu:A.units+1<cn)(hk:iM (bE P w) s.heap ks a)(h:Q (vW (bE P w) ks) {s with toks:=s.toks+nR ks}):ay (au P w) A (pyHash (.ref a)) Q E s:=by
 have hT:=hk.typeIs;obtain⟨o,ι,n,ho,_,hd,hi⟩:=hk;have sl:=F.slot_tuple_hash;unfold pyHash pyHashByItsType
 wp_walk using wpAny_cRoomFor_or (.inr ∅),Cu hT sl.lookup,(wpAny_callSpecialIfBoundUnlessNone?_slot hT sl (lg sl hT F.entry_tuple_hash ?_ (F.args_tuple_hash_1 _)))
 rw[hd];show a_ (a_ (aq ?_));rw[<- a2J];show zR ι.toList ks #[] s _ hu hi λb eb=>?_;dsimp only;rw[eb,oo];unfold vW reduceHash at h;show wpAny_ret_mkInt ?_;have e2:s.toks+(ks.map k9).sum+1=s.toks+nR ks:=by unfold nR;lia
 show ay (au P w) A (pyHashByItsType.reduced _) Q E {s with toks:=s.toks+(ks.map k9).sum+1};rw[e2];unfold pyHashByItsType.reduced;generalize a1u (ks.map (p7 (bE P w)))=z at h ⊢;by_cases hz:(Zv (-(2^63:Int)<=z)&&Zv (z<2^63))=ae
 .rw [Z_ hz] at h ⊢;show a_ h
 .rw [Zz hz] at h ⊢;show aq (jj ?_);show a_ h
theorem eq_loop:∀(x y:List (Sum Key (List Key))) (xs ys:Q0f) (R:Option Fin×Unit->ak->Prop),A.units<cn->g9 (bE P w) s.heap x xs->g9 (bE P w) s.heap y ys ->
  (x≠y->R (aa (.done (.ret (.bool ag))),()) s)->((x=y↔xs.length=ys.length)->R (af,()) s) ->
  ay (au P w) A (forIn (xs.zip ys) ((af,()):Option Fin×Unit) λp _=>do
   let c <- eqBool p.1 p.2
   if(!c)=ae then do
    let q <- ret (kg ag)
    pure (Gp (aa q,()))
   else pure (kj (af,()))) R E s
 |[],y,xs,ys,R,hu,hx,hy,k1,k2=>by cases hx;show a_ (k2 ?_);cases hy<;>simp
 |kx::x,[],xs,ys,R,hu,hx,hy,k1,k2=>by cases hx;cases hy;show a_ (k2 (by simp))
 |kx::x,ky::y,xs,ys,R,hu,hx,hy,k1,k2=>by
  cases hx with
  | @cons _ u _ xs hx1 hx2 =>
   cases hy with
   | @cons _ v _ ys hy1 hy2 =>
    rw[yd,m_];show aq (aq (XB hu hx1 hy1 ?_));by_cases hk:kx=ky
    .subst hk;rw[Zx rfl,Zz (by decide)];show a_ (eq_loop x y xs ys R hu hx2 hy2 (λn=>k1 (by simpa using n)) λe=>k2 ?_);simpa using e
    .rw [Zy hk,Z_ (by decide)];show aq (a_ (a_ (a_ (k1 (by simp[hk])))))
def XD{x y:List (Sum Key (List Key))}{a b:ah}{Q:Bool->ak->Prop}(hu:A.units+1<cn)(hx:iM (bE P w) s.heap x a)(hy:iM (bE P w) s.heap y b)(h:Q (Zv (x=y)) s):ay (au P w) A (eqBool (.ref a) (.ref b)) Q E s:=by
 have tx:=hx.typeIs;have ty:=hy.typeIs;have sl:=a1d;by_cases hab:a=b
 .subst hab;rw[hx.inj hy,Zx rfl] at h;show a03 _ P w E Q h
 .obtain ⟨oa,xs,na,hoa,_,hda,hia⟩:=hx;obtain⟨oc,ys,nb,hob,_,hdb,hib⟩:=hy;unfold eqBool;rw[Zz (by simpa using hab)];have hu0:A.units<cn:=by lia
  apply h_;apply aq;show(wpAny_richCompare_same_room (op:=.Eq) tx ty sl (lg sl tx F.entry_tuple_eq ?_ (F.args_tuple_eq_2 _ _)) hu0);unfold Builtin.«tuple.__eq__»
  wp_walk using a0m ty a0B,a0b hoa hda,a0b hob hdb
  show eq_loop x y xs.toList ys.toList _ hu hia hib (λn=>?_) λe=>?_
  .rw [Zy n] at h;show a_ ⟨_,rfl,(λz=>nomatch z),kl h⟩
  .refine a_ ⟨_,rfl,(λz=>nomatch z),?_⟩;have e2:(xs.size == ys.size)=Zv (x=y):=by
    by_cases q:x=y
    .rw [Zx q];simpa using e.1 q
    .rw [Zy q];simpa using λz=>q (e.2 z)
   show ay (au P w) A (truthOfDropped (.bool (xs.size == ys.size))) Q E s;rw[e2];show kl h
theorem vY:∀(vs:Q0f) (R:Option Bool×Unit->ak->Prop),(∀v∈vs,∀Q:Bool->ak->Prop,Q ae s->ay (au P w) A (eqIsQuiet d v) Q E s)->R (af,()) s ->
  ay (au P w) A (forIn vs ((af,()):Option Bool×Unit) λy _=>do
   let c <- eqIsQuiet d y
   if(!c)=ae then pure (Gp (aa ag,()))
   else pure (kj (af,()))) R E s
 |[],R,hq,k=>a_ k
 |v::vs,R,hq,k=>by rw[m_];show aq (aq (hq v cx _ ?_));rw[Zz (by decide)];show a_ (vY vs R (λu hu=>hq u (fq _ hu)) k)
theorem zS(tx:s.TypeIs (df a) "tuple")(ho:s.heap.get? a=aa o)(hd:o.data=.seq xs n)(hq:∀v∈xs.toList,∀Q:Bool->ak->Prop,Q ae s->ay (au P w) A (eqIsQuiet d v) Q E s)(h:Q ae s):
  ay (au P w) A (eqIsQuiet (d+1) (.ref a)) Q E s:=by
 have sl:=a1d;unfold eqIsQuiet;show aq (Cu tx sl.lookup ?_);show ay (au P w) A (isInstance (.ref a) (.type "tuple") >>= _) _ _ s;show aq (a0m tx a0B ?_);rw[Zz (by decide)];dsimp only;show aq (wm ho hd (aq ?_));show ay _ _ (forIn xs _ _) _ _ s;rw[<- a2J];show vY xs.toList _ hq (a_ h)
def HJ{x:List (Sum Key (List Key))}{a:ah}{Q:Bool->ak->Prop}(hx:iM (bE P w) s.heap x a)(h:Q ae s):ay (au P w) A (eqIsQuiet 8 (.ref a)) Q E s:=by
 have tx:=hx.typeIs;obtain⟨o,xs,n,ho,_,hd,hi⟩:=hx;show zS (d:=7) tx ho hd ?_ h;have go:∀{ks:List (Sum Key (List Key))} {vs:Q0f},g9 (bE P w) s.heap ks vs ->∀v∈vs,∀Q:Bool->ak->Prop,Q ae s->ay (au P w) A (eqIsQuiet 7 v) Q E s:=by
  intro ks vs t
  induction t with
  |nil=>intro v hv;cases hv
  | @cons k v ks vs h1 _ ih =>
   intro u hu Q k0;rcases bz.1 hu with e|hu
   .subst e
    cases k with
    |inl k =>
     rw[a0F _ ((bE P w).byValue _ _ h1)];show a_ k0
    |inr k =>
     obtain⟨b,e,hb⟩:=h1;subst e;have tb:=hb.typeIs;obtain⟨o',xs',n',ho',_,hd',hi'⟩:=hb;show zS (d:=6) tb ho' hd' (λv' hv' Q' k'=>?_) k0;rw[a0F _ (hi'.byValue v' hv')];show a_ k'
   .exact ih u hu Q k0
 show go hi
def jY(P:bh)(w:az):HeapKind P w (List (Sum Key (List Key))) where
 is:=iM (bE P w)
 hash:=vW (bE P w)
 draws:=nR
 room:=λA=>A.units+1<cn
 inj:=λhx hy=>hx.inj hy
 keeps:=λx ho he hs=>x.keeps ho he hs
 pyHash:=λhu hk h=>MV hu hk h
 eqBool:=λhu hx hy h=>XD hu hx hy h
 quiet:=λhk h=>HJ hk h
def nest_room(hu:A.units+2<cn):(jY P w).room A.in1:=hu
end
inductive V where
 |non|bl (b:Bool)|int (i:Int)|str (x:aj)|MW (b:Array UInt8)|flt (b:UInt64)|ref (a:ah)|ty (n:String)
 deriving DecidableEq
noncomputable def Ψ:V->ai->Prop
 |.non,u=>u=kn
 |.bl b,u=>u=kg b
 |.int i,u=>∃t,u=ke i t
 |.str x,u=>∃t,u=w_ x t
 |.MW b,u=>∃t,u=Value.bytes b t
 |.flt b,u=>∃t,u=a00 b t
 |.ref a,u=>u=df a
 |.ty n,u=>u=nz n
abbrev θ:List V->List ai->Prop:=ik Ψ
def θ.length{xs:List V}{us:Q0f}(r:θ xs us):xs.length=us.length:=p_ r
theorem θ.get:∀{xs:List V} {us:Q0f} {i:Nat} {x:V},θ xs us->xs[i]?=aa x ->∃u,us[i]?=aa u/\Ψ x u
 |_,_,_,_,.nil,e=>by simp at e
 |_,_,0,_,.cons r _,e=>by simp at e;subst e;show⟨_,rfl,r⟩
 |_,_,i+1,x,.cons _ t,e=>by obtain⟨u,h1,h2⟩:=θ.get (i:=i) (x:=x) t (by simpa using e);show⟨u,by simpa using h1,h2⟩
theorem θ.set{x:V}{u:ai}(r:Ψ x u):∀{xs:List V} {us:Q0f} (i:Nat),θ xs us->θ (xs.set i x) (us.set i u)
 |_,_,_,.nil=>.nil
 |_,_,0,.cons _ t=>.cons r t
 |_,_,i+1,.cons q t=>.cons q (θ.set r i t)
theorem θ.append:∀{xs ys:List V} {us ws:Q0f},θ xs us->θ ys ws->θ (xs++ys) (us++ws)
 |_,_,_,_,.nil,s=>s
 |_,_,_,_,.cons r t,s=>.cons r (θ.append t s)
theorem θ.take:∀{xs:List V} {us:Q0f} (n:Nat),θ xs us->θ (xs.take n) (us.take n)
 |_,_,0,_=>.nil
 |_,_,_+1,.nil=>.nil
 |_,_,n+1,.cons r t=>.cons r (θ.take n t)
theorem θ.drop:∀{xs:List V} {us:Q0f} (n:Nat),θ xs us->θ (xs.drop n) (us.drop n)
 |_,_,0,r=>r
 |_,_,_+1,.nil=>.nil
 |_,_,n+1,.cons _ t=>θ.drop n t
def mU:Option V->Option ai->Prop
 |some v,aa u=>Ψ v u
 |none,af=>True
 |_,_=>False
def KV{κ:Type}:List (κ×V)->List (κ×ai)->Prop:=ik λ(p:κ×V) (q:κ×ai)=>p.1=q.1/\Ψ p.2 q.2
noncomputable def kV:Key->V
 |.inl i=>.int i
 |.inr x=>.str x
inductive HO where
 |lst (xs:List V)
 |tup (xs:List V)
 |dK (χ:List (Key×V))|dT (χ:List (List Key×V))
 |dX (o:ax) (χ:List (KX×V×V))
 |set (S:Int->Bool) (n:Nat)
 |ins (C dx:ah) (fs:List (aj×V))
 |own (x:ah)
 |xd (fs:List (aj×V))
 |met (f x:ah)
 |rng (lo hi:Int)
 |tW (o:ax) (u:HO)
 |KZ (q:aj)
 |ext (φ:ba->Prop)
abbrev Hp:=ah->Option HO
def upd(H:Hp)(a:ah)(o:HO):Hp:=λb=>if b=a then aa o else H b
def aO{H:Hp}{a:ah}{o:HO}:upd H a o a=aa o:=by unfold upd;rw[Z_ rfl]
def aQ{H:Hp}{a b:ah}{o:HO}(h:b≠a):upd H a o b=H b:=by unfold upd;rw[Zz h]
def Bu{H:Hp}{a b:ah}{o u:HO}(h:H a=aa o)(h':H b=aa u)(d:o≠u):a≠b:=by intro e;subst e;rw[h] at h';show d (fg h')
theorem aY{H:Hp}{a b:ah}{o:HO}(h:H a=aa o)(h':H b=af):a≠b:=by intro e;subst e;rw[h] at h';cases h'
def BX(H:Hp):Sum Key (List Key)->V->Prop
 |.inl k,v=>v=kV k
 |.inr ks,v=>∃b,v=.ref b/\H b=aa (.tup (ks.map kV))
def mV(H:Hp)(ks:N1)(a:ah):Prop:=∃vs,H a=aa (.tup vs)/\ik (BX H) ks vs
def BY(P:bh)(w:az)(H:Hp)(o:ax)(χ:List (KX×V×V)):Prop:=o.ExactDict /\∃es ep,o.data=.dict es ep /\
 ((∃vs:List (Key×ai),ik (λ(p:KX×V×V) (q:Key×ai)=>p.1=.inl q.1/\p.2.1=kV q.1/\Ψ p.2.2 q.2) χ vs/\KeysOf (bE P w) es/\Pairs (bE P w) es.toList vs/\(vs.map (·.1)).Nodup) \/
  ∃xs:List (N1×ah×ai),ik (λ(p:KX×V×V) (q:N1×ah×ai)=>p.1=.inr q.1/\p.2.1=.ref q.2.1/\mV H q.1 q.2.1/\Ψ p.2.2 q.2.2) χ xs/\es.toList=xs.map (entryOfKey (jY P w))/\(xs.map (·.1)).Nodup)
theorem Paired.vw{α β:Type}{F G:α->β->Prop}:∀{l₁:List α} {l₂:List β},ik F l₁ l₂->(∀a b,F a b->G a b)->ik G l₁ l₂
 |_,_,.nil,_=>.nil
 |_,_,.cons r t,f=>.cons (f _ _ r) (Paired.vw t f)
theorem mV.stay{H H':Hp}{ks:N1}{a:ah}(h:mV H ks a)(ht:∀b xs,H b=aa (.tup xs)->H' b=aa (.tup xs)):mV H' ks a:=by
 obtain⟨vs,e,r⟩:=h;show⟨vs,ht _ _ e,Paired.vw r λk v q=>?_⟩
 cases k with
 |inl k=>show q
 |inr k=>obtain⟨b,e,q⟩:=q;show⟨b,e,ht _ _ q⟩
def BY.stay{P:bh}{w:az}{H H':Hp}{o:ax}{χ:List (KX×V×V)}(h:BY P w H o χ)(ht:∀b xs,H b=aa (.tup xs)->H' b=aa (.tup xs)):BY P w H' o χ:=by
 obtain⟨x,es,ep,e,h⟩:=h;show⟨x,es,ep,e,?_⟩;rcases h with h|⟨xs,r,h1,h2⟩
 .exact .inl h
 .exact .inr ⟨xs,Paired.vw r λp q z=>⟨z.1,z.2.1,z.2.2.1.stay ht,z.2.2.2⟩,h1,h2⟩
def EN(h:ba)(a:ah):Prop:=∀o,h.get? a=aa o->o.dict=af
def EN.at{h h':ba}{a:ah}{o:ax}(n:EN h a)(e:h.get? a=aa o)(e':h'.get? a=aa o):EN h' a:=λu q=>by rw[e'] at q;cases q;show n _ e
def EN.new(h:ba)(ι:Array ai){n:Nat}:EN (h.push {cls:=.type "tuple",data:=.seq ι n}) h.objs.size:=λu q=>by rw[gf h rfl] at q;cases q;rfl
def EN.is(e:h.get? a=aa o)(d:o.dict=af):EN h a:=λu q=>by rw[e] at q;cases q;show d
abbrev aB0(oc:ax):HO:=.tW oc (.ext λ_=>True)
def K0(H:Hp)(q:aj)(ps:Array ai):Prop:=TriplesOk ps.toList /\
 ∀ν cv,codeAmong ν ps.toList=aa cv ->∃c oc vs t,cv=.ref c/\H c=aa (aB0 oc)/\oc.data=.fields vs/\vs[1]?=aa (.str q t)
theorem K0.stay{H H':Hp}{q:aj}{ps:Array ai}(h:K0 H q ps)(hf:∀b o u,H b=aa (.tW o u)->H' b=aa (.tW o u)):K0 H' q ps :=
 ⟨h.1,λν cv e=>let ⟨c,oc,vs,t,e1,e2,e3⟩:=h.2 ν cv e;⟨c,oc,vs,t,e1,hf _ _ _ e2,e3⟩⟩
section
variable(P:bh)(w:az)
def cZ(H:Hp)(h:ba)(a:ah):HO->Prop
 |.lst xs=>xs.length<=bg /\∃(ι:Q0f) (n:Nat),θ xs ι/\h.get? a=aa {cls:=.type "list",data:=.seq ι.toArray n}
 |.tup xs=>xs.length<=bg /\∃ι:Q0f,θ xs ι/\gi h a ι.toArray/\EN h a
 |.dK χ=>χ.length<=bg/\(a == sysModules)=ag /\∃vs,KV χ vs/\h.DictOf (bE P w) a vs
 |.dT χ=>χ.length<=bg/\(a == sysModules)=ag /\∃xs:List (List Key×ah×ai),
   ik (λ(p:List Key×V) (q:List Key×ah×ai)=>p.1=q.1/\H q.2.1=aa (.tup (p.1.map kV))/\Ψ p.2 q.2.2) χ xs /\
   ∃o es ep,h.get? a=aa o/\o.ExactDict/\o.data=.dict es ep/\es.toList=xs.map (entryOfKey (tupleKind (bE P w)))/\(xs.map (·.1)).Nodup
 |.dX o χ=>χ.length<=bg/\(a == sysModules)=ag/\h.get? a=aa o/\BY P w H o χ
 |.set S n=>h.SetOf (intKind P w) a S n
 |.ins C dx fs=>H dx=aa (.own a)/\fs.length<=1000/\dx≠a/\h.get? a=aa (instObj C dx) /\
   ∃mA,h.Ns1 dx mA/\(∀f,mU (fs.lookup f) (mA f))/\a0J mA (fs.map (·.1))
 |.own _=>∃o,h.get? a=aa o
 |.xd fs=>∃mA,h.Ns1 a mA /\∀f,mU (fs.lookup f) (mA f)
 |.rng lo hi=>∃t u v,h.get? a=aa {cls:=.type "range",data:=.fields #[.int lo t,.int hi u,.int 1 v]}
 |.tW o u=>h.get? a=aa o/\cZ H h a u
 |.KZ q=>∃ps:Array ai,h.get? a=aa {cls:=.none,data:=.fields ps}/\K0 H q ps
 |.met f x=>h.get? a=aa (methodObj (.ref f) (.ref x))
 |.ext φ=>φ h/\(∃o,h.get? a=aa o) /\∀h1 h2:ba,φ h1->(∀o,h1.get? a=aa o->h2.get? a=aa o)->φ h2
def n8(H:Hp)(h:ba):Prop:=∀a o,H a=aa o->cZ P w H h a o
end
section
variable{P:bh}{w:az}{H H':Hp}{h h':ba}{a:ah}{o:HO}
theorem cZ.lt(x:cZ P w H h a o):a<h.objs.size:=by
 cases o with
 |lst xs=>obtain⟨_,_,_,_,e⟩:=x;show b_ e
 |tup xs=>obtain⟨_,_,_,p,_⟩:=x;show p.lt
 |dK χ=>obtain⟨_,_,_,_,o,_,_,e,_⟩:=x;show b_ e
 |dT χ=>obtain⟨_,_,_,_,o,_,_,e,_⟩:=x;show b_ e
 |dX ob χ=>obtain⟨_,_,e,_⟩:=x;show b_ e
 |set S n=>obtain⟨o,_,_,_,e,_⟩:=x;show b_ e
 |ins C dx fs=>obtain⟨_,_,_,e,_⟩:=x;show b_ e
 |own y=>obtain⟨_,e⟩:=x;show b_ e
 |xd fs=>obtain⟨_,⟨_,_,_,e,_⟩,_⟩:=x;show b_ e
 |rng lo hi=>obtain⟨_,_,_,e⟩:=x;show b_ e
 |tW ob u=>obtain⟨e,_⟩:=x;show b_ e
 |KZ q=>obtain⟨ps,e,_⟩:=x;show b_ e
 |met f y=>show b_ (show h.get? a=aa _ from x)
 |ext φ=>obtain⟨_,⟨_,e⟩,_⟩:=x;show b_ e
theorem Paired.v_{α β:Type}{F G:α->β->Prop}:∀{l₁:List α} {l₂:List β},ik F l₁ l₂->(∀a b,F a b->G a b)->ik G l₁ l₂
 |_,_,.nil,_=>.nil
 |_,_,.cons r t,f=>.cons (f _ _ r) (Paired.v_ t f)
theorem cZ.stay(x:cZ P w H h a o)(k:∀b u,(b=a\/H b=aa (.own a))->h.get? b=aa u->h'.get? b=aa u)
  (ho:∀b,H b=aa (.own a)->H' b=aa (.own a)) (ht:∀b xs,H b=aa (.tup xs)->H' b=aa (.tup xs)) (hf:∀b o u,H b=aa (.tW o u)->H' b=aa (.tW o u):=by show λ_ _ _ q=>q):cZ P w H' h' a o:=by
 induction o with
 |lst xs=>obtain⟨z,ι,n,r,e⟩:=x;show⟨z,ι,n,r,k _ _ (.inl rfl) e⟩
 |tup xs=>obtain⟨z,ι,r,⟨ob,e,c⟩,nd⟩:=x;show⟨z,ι,r,⟨ob,k _ _ (.inl rfl) e,c⟩,nd.at e (k _ _ (.inl rfl) e)⟩
 |dK χ=>obtain⟨z,y,vs,r,ob,es,ep,e,c⟩:=x;show⟨z,y,vs,r,ob,es,ep,k _ _ (.inl rfl) e,c⟩
 |dT χ =>
  obtain⟨z,y,xs,r,ob,es,ep,e,c⟩:=x;show⟨z,y,xs,Paired.v_ r λp q z=>⟨z.1,ht _ _ z.2.1,z.2.2⟩,ob,es,ep,k _ _ (.inl rfl) e,c⟩
 |dX ob χ=>obtain⟨z,y,e,c⟩:=x;show⟨z,y,k _ _ (.inl rfl) e,c.stay ht⟩
 |set S n=>obtain⟨ob,es,ep,t,e,c⟩:=x;show⟨ob,es,ep,t,k _ _ (.inl rfl) e,c⟩
 |ins C dx fs =>
  obtain⟨d,z,ne,e,mA,⟨od,es,ep,e2,c⟩,r⟩:=x;show⟨ho _ d,z,ne,k _ _ (.inl rfl) e,mA,⟨od,es,ep,k _ _ (.inr d) e2,c⟩,r⟩
 |own y=>obtain⟨ob,e⟩:=x;show⟨ob,k _ _ (.inl rfl) e⟩
 |xd fs=>obtain⟨mA,⟨od,es,ep,e,c⟩,r⟩:=x;show⟨mA,⟨od,es,ep,k _ _ (.inl rfl) e,c⟩,r⟩
 |rng lo hi=>obtain⟨t,u,v,e⟩:=x;show⟨t,u,v,k _ _ (.inl rfl) e⟩
 |tW ob u ih=>obtain⟨e,q⟩:=x;show⟨k _ _ (.inl rfl) e,ih q⟩
 |KZ q=>obtain⟨ps,e,r⟩:=x;show⟨ps,k a _ (.inl rfl) e,r.stay hf⟩
 |met f y =>
  have e:h.get? a=aa (methodObj (.ref f) (.ref y)):=x;show h'.get? a=aa (methodObj (.ref f) (.ref y));show k a _ (.inl rfl) e
 |ext φ=>obtain⟨p,⟨o,e⟩,st⟩:=x;show⟨st _ _ p λo q=>k _ _ (.inl rfl) q,⟨o,k _ _ (.inl rfl) e⟩,st⟩
def n8.lt(x:n8 P w H h)(e:H a=aa o):a<h.objs.size:=(x a o e).lt
theorem n8.fresh(x:n8 P w H h)(e:h.objs.size<=a):H a=af:=by
 cases q:H a with
 |none=>rfl
 |some u=>show Zw (gj (x.lt q) e) (jf _)
def n8.kept(x:n8 P w H h)(k:∀b u,h.get? b=aa u->h'.get? b=aa u):n8 P w H h':=λa o e =>
 (x a o e).stay (λb u _ q=>k b u q) (λ_ q=>q) λ_ _ q=>q
def n8.laid(x:n8 P w H h)(k:∀b u,h.get? b=aa u->h'.get? b=aa u)(hp:h.objs.size<=a)(new:cZ P w (upd H a o) h' a o):n8 P w (upd H a o) h':=λb u e=>by
 have hn:=x.fresh hp;by_cases hb:b=a
 .subst hb;rw[aO] at e;cases e;show new
 .rw [aQ hb] at e;show(x b u e).stay (λc v _ q=>k c v q) (λc q=>by rw[aQ (aY q hn)];show q) (λc xs q=>by rw[aQ (aY q hn)];show q) λc o u q=>by rw[aQ (aY q hn)];show q
end
def Rd(H:Hp)(a:ah)(u:HO):Prop:=H a=aa u \/∃o,H a=aa (.tW o u)
theorem Rd.ok{P:bh}{w:az}{H:Hp}{h:ba}{a:ah}{u:HO}(r:Rd H a u)(x:n8 P w H h):cZ P w H h a u:=by
 rcases r with r|⟨o,r⟩
 .exact x a u r
 .obtain ⟨_,q⟩:=x a _ r;show q
noncomputable def Mut:Option HO->Prop
 |some (.lst _)=>True
 |some (.dK _)=>True
 |some (.dT _)=>True
 |some (.dX _ _)=>True
 |some (.set _ _)=>True
 |some (.ins _ _ _)=>True
 |some (.ext _)=>True
 |_=>False
section
variable{P:bh}{w:az}{H:Hp}{h h':ba}{x e:ah}{o':HO}
theorem n8.write(ok:n8 P w H h)(mu:Mut (H x))(he:e=x\/H e=aa (.own x))(k:∀b u,b≠e->h.get? b=aa u->h'.get? b=aa u)(heo:∃u,h'.get? e=aa u)
  (new:cZ P w (upd H x o') h' x o'):n8 P w (upd H x o') h':=λb u q=>by
 have An:∀c y,H c=aa (.own y)->c≠x:=λc y r z=>by subst z;rw[r] at mu;show mu
 have Pq:∀c xs,H c=aa (.tup xs)->c≠x:=λc xs r z=>by subst z;rw[r] at mu;show mu
 by_cases hb:b=x
 .subst hb;rw[aO] at q;cases q;show new
 .rw [aQ hb] at q;by_cases hbe:b=e
  .have q':H b=aa (.own x):=by
    rcases he with z|z
    .exact Zw (hbe.trans z) hb
    .rw [hbe];show z
   rw[q] at q';cases q';obtain⟨v,hv⟩:=heo;show⟨v,by rw[hbe];show hv⟩
  .refine (ok b u q).stay (λc v hc r=>k c v ?_ r) (λc r=>by rw[aQ (An c b r)];show r) (λc xs r=>by rw[aQ (Pq c xs r)];show r) λc o u r=>by rw[aQ λz=>by subst z;rw[r] at mu;show mu];show r
   rcases hc with rfl|hc
   .exact hbe
   .rintro rfl;rcases he with z|z
    .exact An c b hc z
    .rw [hc] at z;cases z;show hb rfl
end
structure Un (fs ex:List ah) (H H':Hp) (h h':ba):Prop where
 keep:∀b o,h.get? b=aa o->H b=af->b∉fs->b∉ex->h'.get? b=aa o
 slot:∀b o,h.get? b=aa o->H b=af->b∈fs->b∉ex ->∃sl,h'.get? b=aa {o with slots:=sl}
 free:∀b o,h.get? b=aa o->H b=af->b∉ex->H' b=af
 there:∀b o,h.get? b=aa o->b∉ex ->∃o',h'.get? b=aa o'
 tups:∀b xs,H b=aa (.tup xs)->H' b=aa (.tup xs)
 tX:∀b o u,H b=aa (.tW o u)->H' b=aa (.tW o u)
 rN:∀b q,H b=aa (.KZ q)->H' b=aa (.KZ q)
section
variable{fs fs' ex ex':List ah}{H H1 H2:Hp}{h h1 h2 h':ba}{a x e:ah}{o:HO}
def Un.any(u:Un fs ex H H1 h h1){b:ah}{ob:ax}(q:h.get? b=aa ob)(n:H b=af)(hx:b∉ex):∃sl,h1.get? b=aa {ob with slots:=sl}:=by
 by_cases hb:b∈fs
 .exact u.slot b ob q n hb hx
 .exact ⟨ob.slots,u.keep b ob q n hb hx⟩
def Un.kept(k:∀b u,h.get? b=aa u->h'.get? b=aa u):Un fs ex H H h h' :=
 ⟨λb ob q _ _ _=>k b ob q,λb ob q _ _ _=>⟨ob.slots,k b ob q⟩,λ_ _ _ n _=>n,λb ob q _=>⟨ob,k b ob q⟩,λ_ _ q=>q,λ_ _ _ q=>q,λ_ ps q=>q⟩
def Un.refl:Un fs ex H H h h:=Un.kept λ_ _ q=>q
theorem Un.laid(k:∀b u,h.get? b=aa u->h'.get? b=aa u)(hp:h.objs.size<=a)(hn:H a=af):Un fs ex H (upd H a o) h h' where
 keep:=λb u q _ _ _=>k b u q
 slot:=λb u q _ _ _=>⟨u.slots,k b u q⟩
 free:=λb u q n _=>by rw[aQ (fz (gj (b_ q) hp))];show n
 there:=λb u q _=>⟨u,k b u q⟩
 tups:=λb xs q=>by rw[aQ (aY q hn)];show q
 tX:=λb u xs q=>by rw[aQ (aY q hn)];show q
 rN:=λb ps q=>by rw[aQ (aY q hn),q]
def Un.write(mu:Mut (H x))(he:e=x\/H e=aa (.own x))(k:∀b u,b≠e->h.get? b=aa u->h'.get? b=aa u)(heo:∃u,h'.get? e=aa u):Un fs ex H (upd H x o) h h':=by
 have hx:∀b,H b=af->b≠x:=λb n z=>by subst z;rw[n] at mu;show mu
 have hb:∀b,H b=af->b≠e:=λb n z=>by
  subst z;rcases he with r|r
  .exact hx b n r
  .rw [n] at r;cases r
 have hm:∀b u,H b=aa u->¬ Mut (aa u)->b≠x:=λb u q nm z=>by subst z;rw[q] at mu;show nm mu
 show⟨λb u q n _ _=>k b u (hb b n) q,λb u q n _ _=>⟨u.slots,k b u (hb b n) q⟩,λb u q n _=>by rw[aQ (hx b n)];show n,λb u q _=>?_,
  λb xs q=>by rw[aQ (hm b _ q λz=>z)];show q,λb u xs q=>by rw[aQ (hm b _ q λz=>z)];show q,λb ps q=>by rw[aQ (hm b _ q λz=>z),q]⟩
 by_cases hbe:b=e
 .subst hbe;show heo
 .exact ⟨u,k b u hbe q⟩
end
def trk(h:ba)(H:Hp):List ah:=(de h.objs.size).filter λa=>(H a).isSome
def yI(h:ba)(H:Hp):ba:=hideAll h (trk h H)
def MX(h:ba)(H:Hp):(yI h H).objs.size=h.objs.size:=PySem.W.hideAll_size _ _
def RD(e:h.get? b=aa o)(n:H b=af):(yI h H).get? b=aa o :=
 rh _ e λhm=>by have q:(H b).isSome=ae:=(gw.mp hm).2;rw[n] at q;simp at q
theorem XE(e:(yI h H).get? b=aa o):h.get? b=aa o/\H b=af:=by
 have e':h.get? b=aa o:=Ds (trk h H) e;show⟨e',?_⟩
 cases q:H b with
 |none=>rfl
 |some x =>
  have hm:b∈trk h H:=gw.mpr ⟨my.mpr (b_ e'),by simp[q]⟩;have z:(yI h H).get? b=af:=rf (trk h H) hm;rw[z] at e;cases e
structure Mod (K:ao) (mg:Q0d) (ω:ba):Prop where
 kin:K.In ω
 glob:ω.Ns dq mg
 blt:∃mb,ω.Ns builtinsNs mb /\∀x:aj,x ≠ "__name__"->mb x=bootBuiltins x
 nolimit:ω.NoLimit
 bm:∃bm ob,mg "__builtins__"=aa (.ref bm)/\bm≠builtinsNs/\ω.get? bm=aa ob/\ob.cls=.type "module" /\ob.dict=aa builtinsNs/\ob.data=.plain
def RE:List aj:=["going_of","count_of_chain","cut_paper","downsets","strictest_chains"]
def XG(x:aj):aj:=x++".<locals>.<lambda>"
def fR(K:ao):List (aj×ah×ah):=RE.filterMap λx=>(Dr K x).map λp=>(x,p.1,p.2)
def XH(K:ao)(ω:ba)(H:Hp):Prop:=∀t∈fR K,CodeHd ω t.2.1 t.2.2/\H t.2.2=aa (.KZ (XG t.1))
structure Cx where
 Ω:bh
 w:az
 K:ao
 mg:aj->Option ai
 ω:ba
 A:bu
 N:List aj
 s₀:ak
 H₀:Hp
 env:d_
 Γ:List d_
 stack:List d_
 ex:List ah
 fn:aj->Bool
 calm:Bool
 pn:List (ah×ax)
 xe:ai->ak->Prop
abbrev Zu(x:aj):Prop:=(x == ("__debug__":aj))=ag
abbrev Zt(x:aj):Prop:=(x == ("__classdict__":aj))=ag
abbrev Zs(X:Cx)(e:av)(l:List av):Prop:=ar (e::l) X.env=(ag,eval e X.env)::ar l X.env
abbrev Zq(X:Cx)(x:aj):Prop:=X.fn x=ae\/X.env.scope.names.lookup x=aa .local
abbrev Zp(X:Cx)(cpos:br)(e:av):Prop:=((cp cpos (ar [e] X.env)).all (λx=>!x.1)&&(backToKw cpos (jt [] X.env)).all (λx=>x.1.isSome) && Zv ([e].length+([]:List fw).length+(if([]:List fw).isEmpty then 0 else 1)<30))=ae
abbrev Zo(X:Cx)(i:av):Prop:=∀x,foldedSetIterable i X.env x=pure x
abbrev Si(X:Cx)(e:av)(x:aj)(p q:br):Prop:=e_ e (aa (.Name x p)) q.line X.env=pure ag
abbrev Rv(X:Cx)(elt tg iter:av)(ifs:List av)(sc:gd)(ν:br)(x:aj)(pos' spos:br):Prop:=e_ (.ListComp elt [⟨tg,iter,ifs,0⟩] sc ν) (aa (.Name x pos')) spos.line X.env=pure ae
abbrev gV(X:Cx)(x y:aj)(px py:br):Prop:=(di [.Name x px,.Name y py] X.env).map (·.2)=assign (.Name x px) X.env::(di [.Name y py] X.env).map (·.2)
abbrev Q0h(X:Cx)(y:aj)(py:br):Prop:=(di [.Name y py] X.env).map (·.2)=assign (.Name y py) X.env::(di [] X.env).map (·.2)
abbrev Q0i(X:Cx)(x y:aj)(px py:br):Prop:=(di [.Name x px,.Name y py] X.env).findIdx? (·.1)=af
abbrev Q0j(X:Cx)(x y:aj)(px py:br):Prop:=(di [.Name x px,.Name y py] X.env).length=2
abbrev Q0k(p q:br):Prop:=(p.endLine == q.line)=ae
abbrev Q0l(X:Cx)(p:br)(l:List av):Prop:=(cp p (ar l X.env)).any (·.1)=ag
def frs(l:List d_):List ah:=l.filterMap (·.frame)
abbrev Cx.fs(X:Cx):List ah:=frs X.Γ
def x6(sc:gd)(x:aj):Prop:=sc.names.lookup x=aa .local\/sc.names.lookup x=aa .cell\/sc.names.lookup x=aa .free
def Loc(sc:gd)(x:aj):Prop:=sc.names.lookup x=aa .local\/sc.names.lookup x=aa .cell
def Look(env:d_)(h:ba)(m:Q0d)(x:aj)(u:ai):Prop :=
 (env.kindOf x=aa .local/\m x=aa u)\/((env.kindOf x=aa .cell\/env.kindOf x=aa .free) /\∃c,env.cells.lookup x=aa c/\h.IsCell c (aa u))
structure Cx.Ok (X:Cx):Prop where
 mod:Mod X.K X.mg X.ω
 kind:X.env.scope.kind=.function
 glob:X.env.globals=dq
 blt:X.env.builtins=builtinsNs
 above:X.s₀.heap.objs.size<=X.env.locals
 inj:∀x y c,X.env.cells.lookup x=aa c->X.env.cells.lookup y=aa c->x=y
 has:∀x,(X.env.kindOf x=aa .cell\/X.env.kindOf x=aa .free) ->∃c,X.env.cells.lookup x=aa c
 cab:∀x c,X.fn x=ae->X.env.cells.lookup x=aa c->X.s₀.heap.objs.size<=c
 hd:X.calm=ae->X.A.handled=af
 frames:X.A.frames=aa X.stack
 stk:X.stack=X.Γ\/(X.stack=X.env::X.Γ/\X.env.frame=aa X.env.locals)
 exf:∀b∈X.ex,b≠X.env.locals /\∀x c,X.env.cells.lookup x=aa c->c≠b
 bs:∀b o,X.ω.get? b=aa o->X.s₀.heap.get? b=aa o/\X.H₀ b=af
 RG:X.ω.objs.size<=X.s₀.heap.objs.size
 HK:∀b o,X.ω.get? b=aa o->b∉X.ex
 MY:∀b∈X.ex,b∉X.fs
 oR:X.s₀.heap.FunFrames X.ω X.Γ
 frf:∀b∈X.fs,X.H₀ b=af
 tab:XH X.K X.ω X.H₀
structure Φ (X:Cx) (π:Q0b) (σ:List (Option V)) (H:Hp) (s:ak):Prop where
 ok:X.Ok
 os:s.os=X.s₀.os
 bare:ku s.gens
 ω:Un X.fs X.ex X.H₀ H X.s₀.heap s.heap
 loc:∃m,s.heap.Ns X.env.locals m /\∀(i:Nat) (x:aj) (v:V),X.N[i]?=aa x->σ[i]?=aa (aa v)->x6 X.env.scope x ->∃u,Ψ v u/\Look X.env s.heap m x u
 cell:∀x c,X.env.cells.lookup x=aa c ->∃v,s.heap.IsCell c v
 free:H X.env.locals=af
 hJ:∀x c,X.env.cells.lookup x=aa c->H c=af
 pin:∀p∈X.pn++π,s.heap.get? p.1=aa p.2/\H p.1=af/\p.1≠X.env.locals/\p.1∉X.fs /\∀v,p.2.data≠.cell v
 hok:n8 X.Ω X.w H s.heap
 len:σ.length=X.N.length
section
variable{X:Cx}{π:Q0b}{σ:List (Option V)}{H H':Hp}{s:ak}{h':ba}
def Cx.Ok.Pp(ok:X.Ok)(e:X.ω.get? b=aa o):b∉X.fs:=λhb=>by have:=(ok.oR.mem hb).1;rw[e] at this;cases this
def Φ.bs(I:Φ X π σ H s):∀b o,X.ω.get? b=aa o->s.heap.get? b=aa o/\H b=af:=λb o e =>
 ⟨I.ω.keep b o (I.ok.bs b o e).1 (I.ok.bs b o e).2 (I.ok.Pp e) (I.ok.HK b o e),I.ω.free b o (I.ok.bs b o e).1 (I.ok.bs b o e).2 (I.ok.HK b o e)⟩
def Φ.bk(I:Φ X π σ H s):∀b o,X.ω.get? b=aa o->s.heap.get? b=aa o:=λb o e=>(I.bs b o e).1
def Φ.mod(I:Φ X π σ H s):Mod X.K X.mg X.ω:=I.ok.mod
def Φ.tab(I:Φ X π σ H s):XH X.K X.ω H:=λt ht=>⟨(I.ok.tab t ht).1,I.ω.rN _ _ (I.ok.tab t ht).2⟩
def Φ.uN(I:Φ X π σ H s):X.K.In s.heap:=I.ok.mod.kin.keeps I.bk
def Φ.fr(I:Φ X π σ H s):∃m,Fr X.ω X.env.locals s.heap m :=
 let ⟨m,hn,_⟩:=I.loc
 ⟨m,hn,I.bk,iq I.ok.RG I.ok.above⟩
def Φ.lt(I:Φ X π σ H s):X.env.locals<s.heap.objs.size:=let ⟨_,hn,_⟩:=I.loc;hn.lt
def Φ.sz(I:Φ X π σ H s):X.s₀.heap.objs.size<=s.heap.objs.size:=iq I.ok.above (ll I.lt)
def Φ.Po(I:Φ X π σ H s)(h:s.heap.objs.size<=a):a∉X.fs:=λhb=>by obtain⟨_,o,ho,_⟩:=I.ok.oR.mem hb;show Zw (gj (b_ ho) (iq I.sz h)) (jf _)
def Φ.XI(I:Φ X π σ H s):∀x c,X.env.cells.lookup x=aa c->c≠X.env.locals:=λx c e z=>by obtain⟨v,o,ho,hd⟩:=I.cell x c e;obtain⟨m,⟨o',es,ep,ho',hd',_⟩,_⟩:=I.loc;rw[z,ho'] at ho;cases ho;rw[hd'] at hd;cases hd
def Φ.oR(I:Φ X π σ H s):s.heap.FunFrames X.ω X.Γ:=by
 have all:∀(l:List d_),(∀b∈frs l,b∈X.fs)->X.s₀.heap.FunFrames X.ω l->s.heap.FunFrames X.ω l:=by
  intro l
  induction l with
  |nil=>intro _ _;trivial
  |cons env r ih =>
   intro hs hl;obtain⟨hk,⟨L,o,hf,hn,ho,hd⟩,hr⟩:=hl;have hL:L∈X.fs:=hs L (by unfold frs;rw[Gf,hf];show cx);obtain⟨sl,e⟩:=I.ω.slot L o ho (I.ok.frf L hL) hL λz=>I.ok.MY L z hL;show⟨hk,⟨L,_,hf,hn,e,hd⟩,ih (λb hb=>hs b (by unfold frs;rw[Gf,hf];show fq _ hb)) hr⟩
 show all X.Γ (λ_ hb=>hb) I.ok.oR
def Φ.stack(I:Φ X π σ H s):s.heap.FunFrames X.ω X.stack:=by
 rcases I.ok.stk with e|⟨e,hf⟩
 .rw [e];show I.oR
 .rw [e];obtain⟨m,hn,_⟩:=I.loc;show .cons (by rw[I.ok.kind];decide) hf hn ?_ I.oR;show a09 (iq I.ok.RG I.ok.above)
def Φ.oS(I:Φ X π σ H s):∀b∈frs X.stack,b∈X.env.locals::X.fs:=λb hb=>by
 rcases I.ok.stk with e|⟨e,hf⟩
 .rw [e] at hb;show fq _ hb
 .rw [e] at hb;unfold frs at hb;rw[Gf,hf] at hb;show hb
def Φ.BZ(I:Φ X π σ H s):∀b∈frs X.stack,H b=af:=λb hb=>by
 rcases bz.mp (I.oS b hb) with e|hb
 .rw [e];show I.free
 .obtain ⟨_,o,ho,_⟩:=I.ok.oR.mem hb;show I.ω.free b o ho (I.ok.frf b hb) λz=>I.ok.MY b z hb
theorem Φ.step{g':Array GenState}{t':Nat}{d':Drawn}{ch:List ah}(I:Φ X π σ H s)
  (hch:∀b∈ch,(b∈X.ex\/X.s₀.heap.objs.size<=b)/\b≠X.env.locals/\(∀x c,X.env.cells.lookup x=aa c->c≠b) /\∀p∈X.pn++π,p.1≠b)
  (keep:∀b o,b≠X.env.locals->b∉X.fs->b∉ch->s.heap.get? b=aa o->H b=af->h'.get? b=aa o)
  (slot:∀b o,b≠X.env.locals->b∈X.fs->b∉ch->s.heap.get? b=aa o->H b=af ->∃sl,h'.get? b=aa {o with slots:=sl}) (free:∀b o,b∉ch->s.heap.get? b=aa o->H b=af->H' b=af)
  (there:∀b o,b∉ch->s.heap.get? b=aa o ->∃o',h'.get? b=aa o')
  (tups:∀b xs,H b=aa (.tup xs)->H' b=aa (.tup xs)) (tX:∀b o u,H b=aa (.tW o u)->H' b=aa (.tW o u)) (rN:∀b q,H b=aa (.KZ q)->H' b=aa (.KZ q))
  (ns:∀m,s.heap.Ns X.env.locals m->h'.Ns X.env.locals m) (hok:n8 X.Ω X.w H' h') (hg:ku g'):
  Φ X π σ H' {s with heap:=h',gens:=g',drawn:=d',toks:=t' }:=by
 have neL:∀b o,X.s₀.heap.get? b=aa o->b≠X.env.locals:=λb o e=>fz (gj (b_ e) I.ok.above);have neC:∀b o,X.s₀.heap.get? b=aa o->b∉X.ex->b∉ch:=λb o e hx hb=>by
  rcases(hch b hb).1 with z|z
  .exact hx z
  .exact Zw (gj (b_ e) z) (jf _)
 have cellK:∀x c,X.env.cells.lookup x=aa c ->∀v,s.heap.IsCell c v->h'.IsCell c v:=λx c e v hq1=>by
  obtain⟨o,ho,hd⟩:=hq1;have nch:c∉ch:=λz=>(hch c z).2.2.1 x c e rfl;by_cases hc:c∈X.fs
  .obtain ⟨sl,q⟩:=slot c o (I.XI x c e) hc nch ho (I.hJ x c e);show⟨_,q,hd⟩
  .exact ⟨o,keep c o (I.XI x c e) hc nch ho (I.hJ x c e),hd⟩
 show⟨I.ok,I.os,hg,⟨λb o e n hb hx=>?_,λb o e n hb hx=>?_,λb o e n hx=>?_,λb o e hx=>?_,λb xs e=>tups b xs (I.ω.tups b xs e),λb o xs e=>tX b o xs (I.ω.tX b o xs e),λb ps e=>rN b ps (I.ω.rN b ps e)⟩,?_,λx c e=>?_,?_,λx c e=>?_,λp hp=>?_,hok,I.len⟩
 .exact keep b o (neL b o e) hb (neC b o e hx) (I.ω.keep b o e n hb hx) (I.ω.free b o e n hx)
 .obtain ⟨sl,e1⟩:=I.ω.slot b o e n hb hx;obtain⟨sl',e2⟩:=slot b _ (neL b o e) hb (neC b o e hx) e1 (I.ω.free b o e n hx);show⟨sl',e2⟩
 .obtain ⟨o',e1⟩:=I.ω.there b o e hx;show free b o' (neC b o e hx) e1 (I.ω.free b o e n hx)
 .obtain ⟨o',e1⟩:=I.ω.there b o e hx;show there b o' (neC b o e hx) e1
 .obtain ⟨m,hn,hl⟩:=I.loc;show⟨m,ns m hn,λi x v e1 e2 e3=>?_⟩;obtain⟨u,r,l⟩:=hl i x v e1 e2 e3;show⟨u,r,?_⟩;rcases l with l|⟨k,c,e,z⟩
  .exact .inl l
  .exact .inr ⟨k,c,e,cellK x c e _ z⟩
 .obtain ⟨v,z⟩:=I.cell x c e;show⟨v,cellK x c e v z⟩
 .obtain ⟨m,⟨o,_,_,ho,_⟩,_⟩:=I.loc;show free _ o (λz=>(hch _ z).2.1 rfl) ho I.free
 .obtain ⟨v,o,ho,hd⟩:=I.cell x c e;show free c o (λz=>(hch c z).2.2.1 x c e rfl) ho (I.hJ x c e)
 .obtain ⟨e,n,ne,nf,d⟩:=I.pin p hp;have nch:p.1∉ch:=λz=>(hch p.1 z).2.2.2 p hp rfl;show⟨keep p.1 p.2 ne nf nch e n,free p.1 p.2 nch e n,ne,nf,d⟩
def Φ.un{t':Nat}(I:Φ X π σ H s)(u:Un X.fs [] H H' s.heap h')(hok:n8 X.Ω X.w H' h'):Φ X π σ H' {s with heap:=h',toks:=t' }:=by
 obtain⟨m,⟨o,es,ep,ho,r⟩,_⟩:=id I.loc;obtain⟨sl,hL⟩:=u.any ho I.free (by simp);show I.step (g':=s.gens) (d':=s.drawn) (ch:=[]) (λ_ z=>nomatch z) (λb o _ hb _ e n=>u.keep b o e n hb (by simp)) (λb o _ hb _ e n=>u.slot b o e n hb (by simp)) (λb o _ e n=>u.free b o e n (by simp)) (λb o _ e=>u.there b o e (by simp)) u.tups u.tX u.rN (λm' hm=>by obtain⟨o',es',ep',ho',r'⟩:=hm;rw[ho] at ho';cases ho';show⟨_,es',ep',hL,r'⟩) hok I.bare
theorem Φ.call{g':Array GenState}{t':Nat}{d':Drawn}{ch:List ah}(I:Φ X π σ H s)(u:Un (frs X.stack) ch H H' s.heap h')(hok:n8 X.Ω X.w H' h')(hg:ku g')
  (hch:∀b∈ch,(b∈X.ex\/X.s₀.heap.objs.size<=b)/\b≠X.env.locals/\(∀x c,X.env.cells.lookup x=aa c->c≠b) /\∀p∈X.pn++π,p.1≠b):
  Φ X π σ H' {s with heap:=h',gens:=g',drawn:=d',toks:=t' }:=by
 obtain⟨m,⟨o,es,ep,ho,r⟩,_⟩:=id I.loc;obtain⟨sl,hL⟩:=u.any ho I.free λz=>(hch _ z).2.1 rfl;show I.step (ch:=ch) hch (λb o hL hb hc e n=>u.keep b o e n (λz=>(bz.mp (I.oS b z)).elim hL hb) hc) (λb o _ _ hc e n=>u.any e n hc) (λb o hc e n=>u.free b o e n hc) (λb o hc e=>u.there b o e hc) u.tups u.tX u.rN (λm' hm=>by obtain⟨o',es',ep',ho',r'⟩:=hm;rw[ho] at ho';cases ho';show⟨_,es',ep',hL,r'⟩) hok hg
theorem Φ.turned{t':Nat}{it:ah}(I:Φ X π σ H s)(k:∀b o,b≠it->s.heap.get? b=aa o->h'.get? b=aa o)(hn:H it=af)(hL:it≠X.env.locals)
  (h1:it∈X.ex\/X.s₀.heap.objs.size<=it) (h2:∀x c,X.env.cells.lookup x=aa c->c≠it) (h3:∀p∈X.pn++π,p.1≠it):Φ X π σ H {s with heap:=h',toks:=t' }:=by
 have nit:∀b u,H b=aa u->b≠it:=λb u e z=>by rw[z,hn] at e;cases e
 show I.step (g':=s.gens) (d':=s.drawn) (ch:=[it]) (λb hb=>?_) (λb o _ _ hc e _=>k b o (λz=>hc (by simp[z])) e) (λb o _ _ hc e _=>⟨o.slots,k b o (λz=>hc (by simp[z])) e⟩) (λ_ _ _ _ n=>n)
  (λb o hc e=>⟨o,k b o (λz=>hc (by simp[z])) e⟩) (λ_ _ e=>e) (λ_ _ _ e=>e) (λb ps e=>e) (λm hm=>?_) (λb u e=>?_) I.bare
 .have e:b=it:=by simpa using hb
  subst e;show⟨h1,hL,h2,h3⟩
 .obtain ⟨o,es,ep,ho,r⟩:=hm;show⟨o,es,ep,k _ o (fj hL) ho,r⟩
 .refine (I.hok b u e).stay (λc v hc q=>k c v ?_ q) (λ_ q=>q) λ_ _ q=>q;rcases hc with z|z
  .rw [z];show nit b u e
  .exact nit c _ z
def Φ.tok(I:Φ X π σ H s)(t:Nat):Φ X π σ H {s with toks:=t}:=I.un (h':=s.heap) (t':=t) Un.refl I.hok
def Φ.kept(I:Φ X π σ H s)(k:∀b u,s.heap.get? b=aa u->h'.get? b=aa u):Φ X π σ H {s with heap:=h',toks:=t' }:=I.un (Un.kept k) (I.hok.kept k)
theorem Φ.laid{a:ah}{o:HO}{t':Nat}(I:Φ X π σ H s)(k:∀b u,s.heap.get? b=aa u->h'.get? b=aa u)(hp:s.heap.objs.size<=a)(new:cZ X.Ω X.w (upd H a o) h' a o):
  Φ X π σ (upd H a o) {s with heap:=h',toks:=t' }:=I.un (Un.laid k hp (I.hok.fresh hp)) (I.hok.laid k hp new)
theorem Φ.write(I:Φ X π σ H s)(mu:Mut (H x))(he:e=x\/H e=aa (.own x))(k:∀b u,b≠e->s.heap.get? b=aa u->h'.get? b=aa u)(heo:∃u,h'.get? e=aa u)
  (new:cZ X.Ω X.w (upd H x o) h' x o):Φ X π σ (upd H x o) {s with heap:=h',toks:=t' }:=I.un (Un.write mu he k heo) (I.hok.write mu he k heo new)
def Φ.weak(I:Φ X π σ H s)(hl:σ'.length=σ.length)(w:∀(i:Nat) v,σ'[i]?=aa (aa v)->σ[i]?=aa (aa v)):Φ X π σ' H s :=
 ⟨I.ok,I.os,I.bare,I.ω,let ⟨m,hn,hl'⟩:=I.loc;⟨m,hn,λi x v e1 e2 e3=>hl' i x v e1 (w i v e2) e3⟩,I.cell,I.free,I.hJ,I.pin,I.hok,hl.trans I.len⟩
def Φ.K1(I:Φ X π σ H s)(h:∀p∈RH,s.heap.get? p.1=aa p.2/\H p.1=af/\p.1≠X.env.locals/\p.1∉X.fs /\∀v,p.2.data≠.cell v):Φ X RH σ H s :=
 ⟨I.ok,I.os,I.bare,I.ω,I.loc,I.cell,I.free,I.hJ,λp hp=>(gn.mp hp).elim (λz=>I.pin p (gx _ z)) (h p),I.hok,I.len⟩
def EO{N:Q0g}(hN:N.Nodup){i j:Nat}{x:aj}(a:N[i]?=aa x)(b:N[j]?=aa x):i=j:=by obtain⟨h1,e1⟩:=cz.mp a;obtain⟨h2,e2⟩:=cz.mp b;show(a2l hN).mp (e1.trans e2.symm)
theorem zT{M:lh}{A:bu}{E:Q0c}{i:Nat}{x:aj}{v:V}{u:ai}{Q:Unit->ak->Prop}(I:Φ X π σ H s)(hN:X.N.Nodup)(hi:X.N[i]?=aa x)(hx:Loc X.env.scope x)(r:Ψ v u)
  (h:∀s',Φ X π (σ.set i (aa v)) H s'->(∃a,mr a s.heap s'.heap/\(a=X.env.locals\/X.env.cells.lookup x=aa a))->Q () s') (hf:Zq X x:=by first|show .inl rfl|show .inr rfl|assumption):ay M A (storeName X.env x u) Q E s:=by
 obtain⟨m,hn,hl⟩:=id I.loc;have hcls:(X.env.scope.kind == .class||(X.env.scope.kind == .module&&X.env.locals !=X.env.globals))=ag:=by rw[I.ok.kind];rfl
 have hiσ:i<σ.length:=by rw[I.len];show(cz.mp hi).1
 have XI:=I.XI;have tracked:∀{a:ah} {h':ba},(∃o,s.heap.get? a=aa o/\H a=af)->mr a s.heap h'->n8 X.Ω X.w H h':=λ{a h'} ha hs b ob e=>by
  obtain⟨_,_,hfree⟩:=ha;show(I.hok b ob e).stay (λc w' hc q=>(hs.2 c ?_).trans q) (λ_ q=>q) λ_ _ q=>q;rintro rfl;rcases hc with rfl|hc
  .rw [hfree] at e;cases e
  .rw [hfree] at hc;cases hc
 rcases hx with hk|hk
 .refine wpAny_storeName_local hk hn (λh' hn' hs=>?_) hcls;obtain⟨oL,_,_,hoL,_⟩:=id hn;show h _ ⟨I.ok,I.os,I.bare,⟨λb o e n hb hx=>?_,λb o e n hb hx=>?_,I.ω.free,λb o e hx=>?_,I.ω.tups,I.ω.tX,I.ω.rN⟩,⟨_,hn',λj y v' e1 e2 e3=>?_⟩,λy c e=>?_,I.free,I.hJ,λp hp=>?_,tracked ⟨oL,hoL,I.free⟩ hs,by simpa using I.len⟩ ⟨_,hs,.inl rfl⟩
  .exact (hs.2 b (fz (gj (b_ e) I.ok.above))).trans (I.ω.keep b o e n hb hx)
  .obtain ⟨sl,e1⟩:=I.ω.slot b o e n hb hx;show⟨sl,(hs.2 b (fz (gj (b_ e) I.ok.above))).trans e1⟩
  .obtain ⟨o',e1⟩:=I.ω.there b o e hx;show⟨o',(hs.2 b (fz (gj (b_ e) I.ok.above))).trans e1⟩
  .by_cases hj:j=i
   .subst hj;rw[hi] at e1;cases e1;rw[lz hiσ] at e2;cases e2;show⟨u,r,.inl ⟨hk,by simp⟩⟩
   .rw [jo (fj hj)] at e2;obtain⟨u',r',q⟩:=hl j y v' e1 e2 e3;show⟨u',r',?_⟩;rcases q with⟨k,e⟩|⟨k,c,e,z⟩
    .refine .inl ⟨k,?_⟩;have:y≠x:=λe=>hj (EO hN e1 (e▸hi));simp[this,e]
    .exact .inr ⟨k,c,e,z.sameBut hs (XI y c e)⟩
  .obtain ⟨w',z⟩:=I.cell y c e;show⟨w',z.sameBut hs (XI y c e)⟩
  .obtain ⟨e,n,ne,nf,d⟩:=I.pin p hp;show⟨(hs.2 p.1 ne).trans e,n,ne,nf,d⟩
 .have hfn:X.fn x=ae:=by
   rcases hf with z|z
   .exact z
   .rw [z] at hk;cases hk
  obtain⟨c,hc⟩:=I.ok.has x (.inl hk);obtain⟨w',z⟩:=I.cell x c hc;show wpAny_storeName_cell I.ok.kind hk hc z (λh' hc' hs=>?_);obtain⟨oc,hoc,Pm⟩:=id z;show h {s with heap:=h' } ⟨I.ok,I.os,I.bare,⟨λb o e n hb hx=>?_,λb o e n hb hx=>?_,I.ω.free,λb o e hx=>?_,I.ω.tups,I.ω.tX,I.ω.rN⟩,⟨m,hn.sameBut hs (fj (XI x c hc)),λj y v' e1 e2 e3=>?_⟩,λy c' e=>?_,I.free,I.hJ,λp hp=>?_,tracked ⟨oc,hoc,I.hJ x c hc⟩ hs,by simpa using I.len⟩ ⟨c,hs,.inr hc⟩
  .exact (hs.2 b (fz (gj (b_ e) (I.ok.cab x c hfn hc)))).trans (I.ω.keep b o e n hb hx)
  .obtain ⟨sl,e1⟩:=I.ω.slot b o e n hb hx;show⟨sl,(hs.2 b (fz (gj (b_ e) (I.ok.cab x c hfn hc)))).trans e1⟩
  .obtain ⟨o',e1⟩:=I.ω.there b o e hx;show⟨o',(hs.2 b (fz (gj (b_ e) (I.ok.cab x c hfn hc)))).trans e1⟩
  .by_cases hj:j=i
   .subst hj;rw[hi] at e1;cases e1;rw[lz hiσ] at e2;cases e2;show⟨u,r,.inr ⟨.inl hk,c,hc,hc'⟩⟩
   .rw [jo (fj hj)] at e2;obtain⟨u',r',q⟩:=hl j y v' e1 e2 e3;show⟨u',r',?_⟩;rcases q with q|⟨k,c',e,z'⟩
    .exact .inl q
    .refine .inr ⟨k,c',e,z'.sameBut hs ?_⟩;rintro rfl;show hj (EO hN e1 (I.ok.inj _ _ _ e hc▸hi))
  .by_cases hcc:c'=c
   .subst hcc;show⟨_,hc'⟩
   .obtain ⟨w2,z2⟩:=I.cell y c' e;show⟨w2,z2.sameBut hs hcc⟩
  .obtain ⟨e,n,ne,nf,d⟩:=I.pin p hp;show⟨(hs.2 p.1 ?_).trans e,n,ne,nf,d⟩;intro q;rw[q,hoc] at e;have q':oc=p.2:=fg e;show d w' (by rw[<- q'];show Pm)
theorem vZ(I:Φ X π σ H s)(hN:X.N.Nodup)(hi:X.N[i]?=aa x)(hx:Loc X.env.scope x)(r:Ψ v u)
  (h:∀s',Φ X π (σ.set i (aa v)) H s'->Q () s') (hf:Zq X x:=by first|show .inl rfl|show .inr rfl|assumption):ay M A (storeName X.env x u) Q E s :=
 zT I hN hi hx r (λs' I' _=>h s' I') hf
theorem Φ.call'(I:Φ X π σ H s)(ho:s'.os=s.os)(u:Un (frs X.stack) ch H H' s.heap s'.heap)(hok:n8 X.Ω X.w H' s'.heap)(hg:ku s'.gens)
  (hch:∀b∈ch,(b∈X.ex\/X.s₀.heap.objs.size<=b)/\b≠X.env.locals/\(∀x c,X.env.cells.lookup x=aa c->c≠b) /\∀p∈X.pn++π,p.1≠b):Φ X π σ H' s':=by
 obtain⟨h',g',d',t',o'⟩:=s';have e:o'=s.os:=ho;subst e;show I.call (g':=g') (t':=t') (d':=d') u hok hg hch
end
abbrev XK:=ai->Option ah->Hp->Prop
abbrev St:=List (Option V)
abbrev VK:=V->Hp->Prop
abbrev TE:=St->Hp->VK->Prop
abbrev TT:=St->Hp->(Bool->Hp->Prop)->Prop
abbrev TA:=St->Hp->(List V->Hp->Prop)->Prop
structure Ends where
 nx:St->Hp->Prop
 rt:VK
 bk:St->Hp->Prop:=λ_ _=>False
 ct:St->Hp->Prop:=λ_ _=>False
abbrev TS:=Ends->St->Hp->Prop
def EP(X:Cx)(π:Q0b)(σ:St)(Q:VK)(u:ai)(s':ak):Prop:=∃v H',Φ X π σ H' s'/\Ψ v u/\Q v H'
def TP(X:Cx)(π:Q0b)(σ:St)(Q:Bool->Hp->Prop)(b:Bool)(s':ak):Prop:=∃H',Φ X π σ H' s'/\Q b H'
def AP(X:Cx)(π:Q0b)(σ:St)(Q:List V->Hp->Prop)(us:Q0f)(s':ak):Prop:=∃vs H',Φ X π σ H' s'/\θ vs us/\Q vs H'
def SP(X:Cx)(π:Q0b)(D:Ends)(f:Flow)(s':ak):Prop :=
 match f with
 |.next=>∃σ' H',Φ X π σ' H' s'/\D.nx σ' H'
 |.brk=>∃σ' H',Φ X π σ' H' s'/\D.bk σ' H'
 |.cont=>∃σ' H',Φ X π σ' H' s'/\D.ct σ' H'
 |.ret u=>∃v σ' H',Φ X π σ' H' s'/\Ψ v u/\D.rt v H'
def PE(X:Cx)(e:av)(t:TE):Prop :=
 ∀(π:Q0b) (s:ak) (σ:St) (H:Hp) (Q:VK),Φ X π σ H s->t σ H Q->ay (au X.Ω X.w) X.A (eval e X.env) (EP X π σ Q) X.xe s
def PT(X:Cx)(e:av)(t:TT):Prop :=
 ∀(π:Q0b) (s:ak) (σ:St) (H:Hp) (Q:Bool->Hp->Prop),Φ X π σ H s->t σ H Q->ay (au X.Ω X.w) X.A (isTrue e X.env (eval e X.env)) (TP X π σ Q) X.xe s
def PW(X:Cx)(e:av)(t:TT):Prop :=
 ∀(whole:fm ai) (π:Q0b) (s:ak) (σ:St) (H:Hp) (Q:Bool->Hp->Prop),Φ X π σ H s->t σ H Q->ay (au X.Ω X.w) X.A (isTrue e X.env whole) (TP X π σ Q) X.xe s
def PW.pt(h:PW X e t):PT X e t:=h _
def PA(X:Cx)(es:List av)(t:TA):Prop :=
 ∀(ν:br) (π:Q0b) (s:ak) (σ:St) (H:Hp) (Q:List V->Hp->Prop),Φ X π σ H s->t σ H Q->ay (au X.Ω X.w) X.A (spliced (cp ν (ar es X.env))) (AP X π σ Q) X.xe s
def PS(X:Cx)(st:cf)(t:TS):Prop :=
 ∀(π:Q0b) (s:ak) (σ:St) (H:Hp) (D:Ends),Φ X π σ H s->t D σ H->ay (au X.Ω X.w) X.A (exec st X.env) (SP X π D) X.xe s
def zU(X:Cx)(st:List cf)(t:TS):Prop :=
 ∀(π:Q0b) (s:ak) (σ:St) (H:Hp) (D:Ends),Φ X π σ H s->t D σ H->ay (au X.Ω X.w) X.A (execs st X.env) (SP X π D) X.xe s
def eQ{α:Type}{t:fm α}{Q Q':α->ak->Prop}{M:lh}{A:bu}{E:Q0c}{s:ak}(h:ay M A t Q E s)(hQ:∀a s,Q a s->Q' a s):ay M A t Q' E s:=ja h hQ λ_ _ x=>x
section
variable{X:Cx}
def tY(i:Nat):TE:=λσ H Q=>∃v,σ[i]?=aa (aa v)/\Q v H
def tC(v:V):TE:=λ_ H Q=>Q v H
def jZ(hN:X.N[i]?=aa x)(hv:x6 X.env.scope x)(hd:Zu x:=by decide)(hcd:Zt x:=by decide):PE X (.Name x ν) (tY i):=by
 intro π s σ H Q I h;obtain⟨v,e,h⟩:=h;obtain⟨m,hn,hl⟩:=I.loc;obtain⟨u,r,l⟩:=hl i x v hN e hv;have fin:EP X π σ Q u s:=⟨v,H,I,r,h⟩;rcases l with⟨hk,hm⟩|⟨hk,c,hc,hcell⟩
 .exact C_ (wpAny_loadName_local I.ok.kind hk hn hm fin) hd
 .rcases hk with hk|hk
  .exact C_ (wpAny_loadName_cell I.ok.kind hk hc hcell fin) hd
  .exact C_ (wpAny_loadName_free I.ok.kind hk hc hcell fin hcd) hd
def aB3{i j ν}:PE X (.Constant (.int i) j ν) (tC (.int i)):=λ_ _ _ H _ I h=>wpAny_Constant_int ⟨.int i,H,I.tok _,⟨_,rfl⟩,h⟩
def Vt{b j ν}:PE X (.Constant (.bool b) j ν) (tC (.bl b)):=λ_ _ _ H _ I h=>Constant_bool ⟨.bl b,H,I,rfl,h⟩
def aB4{j ν}:PE X (.Constant .none j ν) (tC .non):=λ_ _ _ H _ I h=>Constant_none ⟨.non,H,I,rfl,h⟩
def aB5{x j ν}:PE X (.Constant (.str x) j ν) (tC (.str x)):=λ_ _ _ H _ I h=>Calls.Constant_str ⟨.str x,H,I.tok _,⟨_,rfl⟩,h⟩
def Gl(X:Cx)(x:aj):Prop:=X.env.kindOf x=aa .globalImplicit
theorem uO(I:Φ X π σ H s)(hg:Gl X x)(hm:X.mg x=aa u)(h:Q u s)
  (hd:Zu x:=by decide):ay (au X.Ω X.w) X.A (eval (.Name x ν) X.env) Q E s :=
 a1s I.ok.kind hg (Calls.loadGlobal_global (by rw[I.ok.glob];show I.mod.glob.keeps I.bk) hm h) hd
theorem rO(I:Φ X π σ H s)(hg:Gl X x)(hm:X.mg x=af)(hv:bootBuiltins x=aa u)(h:Q u s)
  (hn:x ≠ "__name__":=by decide) (hd:Zu x:=by decide):ay (au X.Ω X.w) X.A (eval (.Name x ν) X.env) Q E s:=by
 obtain⟨mb,h1,h2⟩:=I.mod.blt;show a1s I.ok.kind hg (Calls.loadGlobal_builtin (by rw[I.ok.glob];show I.mod.glob.keeps I.bk) hm (by rw[I.ok.blt];show h1.keeps I.bk) ((h2 x hn).trans hv) h) hd
def XJ(hg:Gl X x)(hm:X.mg x=aa u)(r:Ψ v u)(hd:Zu x:=by decide):PE X (.Name x ν) (tC v) :=
 λ_ _ _ H _ I h=>uO I hg hm ⟨v,H,I,r,h⟩ hd
def K2(hg:Gl X x)(hm:X.mg x=af)(hv:bootBuiltins x=aa u)(r:Ψ v u)(hn:x ≠ "__name__":=by decide)(hd:Zu x:=by decide):PE X (.Name x ν) (tC v) :=
 λ_ _ _ H _ I h=>rO I hg hm hv ⟨v,H,I,r,h⟩ hn hd
variable{a b:av}{ta tb:TE}{ν:br}
def PC(X:Cx)(op:CmpOp)(a b:av)(t:TE):Prop :=
 ∀(π:Q0b) (s:ak) (σ:St) (H:Hp) (Q:VK),Φ X π σ H s->t σ H Q ->
  ay (au X.Ω X.w) X.A (eval a X.env) (λv s₁=>ay (au X.Ω X.w) X.A (eval b X.env) (λu s₂=>ay (au X.Ω X.w) X.A (compareOp op v u) (EP X π σ Q) X.xe s₂) X.xe s₁) X.xe s
def tB(t:TE):TT:=λσ H Q=>t σ H λx H1=>∃c,x=.bl c/\Q c H1
def aB6{op:CmpOp}{t:TE}(h:PC X op a b t)(h1:behindInMarks op b=ag:=by first|show aDv _ (by decide) (by decide)|rfl):PT X (.Compare a [op] [b] ν) (tB t):=by intro π s σ H Q I hw;show a0l (eQ (h π s σ H _ I hw) λv s1 h1=>eQ h1 λu s2 h2=>eQ h2 λc s3 ⟨x,H1,I1,r1,q1⟩=>?_) h1;obtain⟨d,rfl,q⟩:=q1;cases r1;show kl ⟨H1,I1,q⟩
variable{tA tB':TT}{Θ:List av}
def uV(t u:TT):TT:=λσ H Q=>t σ H λc H1=>if c=ae then u σ H1 Q else Q ag H1
def x9(t u:TT):TT:=λσ H Q=>t σ H λc H1=>if c=ae then Q ae H1 else u σ H1 Q
def kB(t:TT):TT:=λσ H Q=>t σ H λc H1=>Q (!c) H1
theorem XM(ha:PT X a tA):PW X (.BoolOp .And [a] ν) tA:=by
 intro wh π s σ H Q I h;show isTrue_and (eQ (ha π s σ H Q I h) λc s1 e=>?_)
 cases c with
 |true=>show isTrue_and_nil e
 |false=>show e
theorem aB7(ha:PT X a tA):PW X (.BoolOp .Or [a] ν) tA:=by
 intro wh π s σ H Q I h;show isTrue_or (eQ (ha π s σ H Q I h) λc s1 e=>?_)
 cases c with
 |false=>show isTrue_or_nil e
 |true=>show e
theorem aB8(ha:PT X a tA)(hb:PW X (.BoolOp .And (b::Θ) ν) tB'):PW X (.BoolOp .And (a::b::Θ) ν) (uV tA tB'):=by
 intro wh π s σ H Q I h;show isTrue_and (eQ (ha π s σ H _ I h) λc s1 ⟨H1,I1,q1⟩=>?_)
 cases c with
 |true=>show hb wh π s1 σ H1 Q I1 q1
 |false=>show⟨H1,I1,q1⟩
theorem Vs(ha:PT X a tA)(hb:PW X (.BoolOp .Or (b::Θ) ν) tB'):PW X (.BoolOp .Or (a::b::Θ) ν) (x9 tA tB'):=by
 intro wh π s σ H Q I h;show isTrue_or (eQ (ha π s σ H _ I h) λc s1 ⟨H1,I1,q1⟩=>?_)
 cases c with
 |true=>show⟨H1,I1,q1⟩
 |false=>show hb wh π s1 σ H1 Q I1 q1
def aB9(ha:PT X a tA):PT X (.UnaryOp .Not a ν) (kB tA):=by intro π s σ H Q I h;show isTrue_not (ha π s σ H (λc H1=>Q (!c) H1) I h)
def Vr(ta tb:TE):TE:=λσ H Q=>ta σ H λx H1=>∃c,x=.bl c/\if c=ae then tb σ H1 Q else Q (.bl ag) H1
def Vq(ta:TE):TE:=λσ H Q=>ta σ H λx H1=>∃c,x=.bl c/\Q (.bl (!c)) H1
def Yx{op}(h:PE X a t):PE X (.BoolOp op [a] ν) t:=λπ s σ H Q I hw=>BoolOp_one (h π s σ H Q I hw)
theorem Yw(ha:PE X a ta)(hb:PE X (.BoolOp .And (b::Θ) ν) tb):PE X (.BoolOp .And (a::b::Θ) ν) (Vr ta tb):=by
 intro π s σ H Q I h;show BoolOp_and (eQ (ha π s σ H _ I h) λv s1 ⟨x,H1,I1,r1,q1⟩=>?_);obtain⟨c,rfl,q1⟩:=q1;cases r1;show kl ?_
 cases c with
 |true=>show hb π s1 σ H1 Q I1 q1
 |false=>show⟨.bl ag,H1,I1,rfl,q1⟩
def Yv(ha:PE X a ta):PE X (.UnaryOp .Not a ν) (Vq ta):=by intro π s σ H Q I h;show UnaryOp_ (eQ (ha π s σ H _ I h) λv s1 ⟨x,H1,I1,r1,q1⟩=>?_);obtain⟨c,rfl,q1⟩:=q1;cases r1;show not_of (kl ⟨.bl (!c),H1,I1,rfl,q1⟩)
end
def fP(K:ao)(H:Hp)(a:ah)(xs:List V):Prop :=
 Rd H a (.lst xs) \/
  ∃(o:ax) (ι:Array ai) (n:Nat),K.lookup a=aa o/\o.cls=.type "list" /\o.dict=af/\o.data=.seq ι n/\ι.size<=bg/\θ xs ι.toList
def fX(K:ao)(H:Hp)(a:ah)(xs:List V):Prop :=
 Rd H a (.tup xs) \/
  ∃(o:ax) (ι:Array ai) (n:Nat),K.lookup a=aa o/\o.cls=.type "tuple" /\o.data=.seq ι n/\ι.size<=bg/\θ xs ι.toList
noncomputable def Pl:ai->Option V
 |.none=>aa .non
 |.bool b=>aa (.bl b)
 |.int i _=>aa (.int i)
 |.str x _=>aa (.str x)
 |.bytes b _=>aa (.MW b)
 |.float b _=>aa (.flt b)
 |.ref a=>aa (.ref a)
 |.type n=>aa (.ty n)
 |_=>af
theorem Ψ.abs(r:Ψ x u):Pl u=aa x:=by
 cases x with
 |non=>cases r;rfl
 |bl _=>cases r;rfl
 |int _=>obtain⟨t,rfl⟩:=r;rfl
 |str _=>obtain⟨t,rfl⟩:=r;rfl
 |MW _=>obtain⟨t,rfl⟩:=r;rfl
 |flt _=>obtain⟨t,rfl⟩:=r;rfl
 |ref _=>cases r;rfl
 |ty _=>cases r;rfl
def Ψ.inj{x y:V}{u:ai}(r:Ψ x u)(q:Ψ y u):x=y:=fg (r.abs.symm.trans q.abs)
theorem θ.inj:∀{xs ys:List V} {us:Q0f},θ xs us->θ ys us->xs=ys
 |_,_,_,.nil,.nil=>rfl
 |_,_,_,.cons r t,.cons r' t'=>by rw[r.inj r',θ.inj t t']
section
variable{X:Cx}{π:Q0b}{σ:St}{H:Hp}{s:ak}{a:ah}{xs ys:List V}
def fP.of{K:ao}(h:H a=aa (.lst xs)):fP K H a xs:=.inl (.inl h)
def fX.of{K:ao}(h:H a=aa (.tup xs)):fX K H a xs:=.inl (.inl h)
def Φ.list(I:Φ X π σ H s)(h:fP X.K H a xs):∃ι:Q0f,θ xs ι/\PlainL s.heap a ι.toArray/\xs.length<=bg:=by
 rcases h with h|⟨o,ι,n,hk,hc,hd,hs,hz,r⟩
 .obtain ⟨z,ι,n,r,e⟩:=h.ok I.hok;show⟨ι,r,⟨_,n,e,rfl,rfl,rfl⟩,z⟩
 .refine ⟨ι.toList,r,⟨o,n,I.uN a o hk,hc,hd,by simpa using hs⟩,?_⟩;have e:=r.length;simp only[gk] at e;lia
def Φ.tuple(I:Φ X π σ H s)(h:fX X.K H a xs):∃ι:Q0f,θ xs ι/\gi s.heap a ι.toArray/\xs.length<=bg:=by
 rcases h with h|⟨o,ι,n,hk,hc,hs,hz,r⟩
 .obtain ⟨z,ι,r,p,_⟩:=h.ok I.hok;show⟨ι,r,p,z⟩
 .refine ⟨ι.toList,r,⟨o,I.uN a o hk,hc,n,by simpa using hs⟩,?_⟩;have e:=r.length;simp only[gk] at e;lia
def Φ.p8(I:Φ X π σ H s)(h:fP X.K H a xs)(h':fP X.K H a ys):xs=ys:=by
 obtain⟨ι,r,⟨o,n,e,_,_,d⟩,_⟩:=I.list h;obtain⟨its',r',⟨o',n',e',_,_,d'⟩,_⟩:=I.list h';rw[e] at e';cases e';rw[d] at d';injection d' with d1 _;have:ι=its':=by simpa using congrArg a2F d1
 subst this;show r.inj r'
def Φ.nU(I:Φ X π σ H s)(h:fX X.K H a xs)(h':fX X.K H a ys):xs=ys:=by
 obtain⟨ι,r,⟨o,e,_,n,d⟩,_⟩:=I.tuple h;obtain⟨its',r',⟨o',e',_,n',d'⟩,_⟩:=I.tuple h';rw[e] at e';cases e';rw[d] at d';injection d' with d1 _;have:ι=its':=by simpa using congrArg a2F d1
 subst this;show r.inj r'
end
abbrev Cx.wish(X:Cx)(E:Q0c):Cx:={X with xe:=E}
abbrev Cx.RI(X:Cx):Cx:=X.wish λ_ _=>False
def Cx.Ok.wish{X:Cx}(ok:X.Ok)(E:Q0c):(X.wish E).Ok :=
 ⟨ok.mod,ok.kind,ok.glob,ok.blt,ok.above,ok.inj,ok.has,ok.cab,ok.hd,ok.frames,ok.stk,ok.exf,ok.bs,ok.RG,ok.HK,ok.MY,ok.oR,ok.frf,ok.tab⟩
def Cx.Ok.lX{X:Cx}{E:Q0c}(ok:(X.wish E).Ok):X.Ok :=
 ⟨ok.mod,ok.kind,ok.glob,ok.blt,ok.above,ok.inj,ok.has,ok.cab,ok.hd,ok.frames,ok.stk,ok.exf,ok.bs,ok.RG,ok.HK,ok.MY,ok.oR,ok.frf,ok.tab⟩
section
variable{X:Cx}{π:Q0b}{σ:St}{H:Hp}{s:ak}{E:Q0c}
def Φ.wish(I:Φ X π σ H s)(E:Q0c):Φ (X.wish E) π σ H s:=⟨I.ok.wish E,I.os,I.bare,I.ω,I.loc,I.cell,I.free,I.hJ,I.pin,I.hok,I.len⟩
def Φ.lX(I:Φ (X.wish E) π σ H s):Φ X π σ H s:=⟨I.ok.lX,I.os,I.bare,I.ω,I.loc,I.cell,I.free,I.hJ,I.pin,I.hok,I.len⟩
theorem SP.lX{D:Ends}{f:Flow}{s':ak}(h:SP (X.wish E) π D f s'):SP X π D f s':=by
 cases f with
 |next=>obtain⟨σ',H',I,q⟩:=h;show⟨σ',H',I.lX,q⟩
 |brk=>obtain⟨σ',H',I,q⟩:=h;show⟨σ',H',I.lX,q⟩
 |cont=>obtain⟨σ',H',I,q⟩:=h;show⟨σ',H',I.lX,q⟩
 |ret u=>obtain⟨v,σ',H',I,r,q⟩:=h;show⟨v,σ',H',I.lX,r,q⟩
def zU.RI{st:List cf}{t:TS}(h:zU X.RI st t):zU X st t:=λπ s σ H D I hw =>
 ja (h π s σ H D (I.wish _) hw) (λ_ _ q=>q.lX) λ_ _ z=>jq z
variable{st:cf}{Θ:List cf}{t u:TS}{e:av}{te:TE}{ν:br}
def Vp:TS:=λD σ H=>D.nx σ H
def MZ(t u:TS):TS:=λD σ H=>t {D with nx:=u D} σ H
def K3:zU X [] Vp:=λ_ _ σ H _ I h=>Cv ⟨σ,H,I,h⟩
theorem wB(h1:PS X st t)(h2:zU X Θ u):zU X (st::Θ) (MZ t u):=by
 intro π s σ H D I h;show Cw (eQ (h1 π s σ H {D with nx:=u D} I h) λf s1 q=>?_)
 cases f with
 |next =>
  obtain⟨σ',H',I',q⟩:=q;show h2 π s1 σ' H' D I' q
 |ret v=>show q
 |brk=>show q
 |cont=>show q
theorem K4(h1:PS X st t):zU X [st] t:=by
 intro π s σ H D I h;show Cw (eQ (h1 π s σ H D I h) λf s1 q=>?_)
 cases f with
 |next=>show Cv q
 |ret v=>show q
 |brk=>show q
 |cont=>show q
def Φ.quiet(I:Φ X π σ H s):interactive X.env=ag:=by simp[interactive,I.ok.kind]
def Vh(te:TE):TS:=λD σ H=>te σ H λ_ H1=>D.nx σ H1
def K5(he:PE X e te)(hs:e_ e af ν.line X.env=pure ag:=by rfl):PS X (.Expr e ν) (Vh te):=by intro π s σ H D I h;show wpAny_Expr_any (eQ (he π s σ H _ I h) λv s1 ⟨x,H1,I1,r1,q1⟩=>⟨σ,H1,I1,q1⟩) I.quiet hs
def Aj(te:TE):TS:=λD σ H=>te σ H D.rt
def RJ(he:PE X e te):PS X (.Return (aa e) ν) (Aj te):=by intro π s σ H D I h;show wpAny_Return_some (eQ (he π s σ H _ I h) λv s1 ⟨x,H1,I1,r1,q1⟩=>⟨x,σ,H1,I1,r1,q1⟩)
def Pk(c:TT)(t u:TS):TS:=λD σ H=>c σ H λb H1=>if b=ae then t D σ H1 else u D σ H1
theorem Vg(hc:PT X c tc)(ha:zU X a t)(hb:zU X b u):PS X (.If c a b ν) (Pk tc t u):=by
 intro π s σ H D I h;show wpAny_If (eQ (hc π s σ H _ I h) λd s1 ⟨H1,I1,q1⟩=>?_)
 cases d with
 |true=>show ha π s1 σ H1 D I1 q1
 |false=>show hb π s1 σ H1 D I1 q1
end
abbrev TG:=V->St->Hp->(St->Hp->Prop)->Prop
abbrev TGs:=List V->St->Hp->(St->Hp->Prop)->Prop
def PG(X:Cx)(target:av)(t:TG):Prop :=
 ∀(π:Q0b) (s:ak) (σ:St) (H:Hp) (v:V) (u:ai) (Q:St->Hp->Prop),Φ X π σ H s->Ψ v u->t v σ H Q ->
  ay (au X.Ω X.w) X.A (assign target X.env u) (λ_ s'=>∃σ' H',Φ X π σ' H' s'/\Q σ' H') X.xe s
def PGs(X:Cx)(ts:List av)(t:TGs):Prop :=
 ∀(π:Q0b) (s:ak) (σ:St) (H:Hp) (vs:List V) (us:Q0f) (Q:St->Hp->Prop),Φ X π σ H s->θ vs us->t vs σ H Q ->
  ay (au X.Ω X.w) X.A (assignInOrder ((di ts X.env).map (·.2)) us) (λ_ s'=>∃σ' H',Φ X π σ' H' s'/\Q σ' H') X.xe s
abbrev Ai:=V->V->V->Hp->(Hp->Prop)->Prop
def Ah(X:Cx)(t:Ai):Prop :=
 ∀(π:Q0b) (s:ak) (σ:St) (H:Hp) (o i v:V) (ov iv u:ai) (Q:Hp->Prop),Φ X π σ H s->Ψ o ov->Ψ i iv->Ψ v u->t o i v H Q ->
  ay (au X.Ω X.w) X.A (setItem ov iv u) (λ_ s'=>∃H',Φ X π σ H' s'/\Q H') X.xe s
section
variable{X:Cx}{ν:br}
def zV(i:Nat):TG:=λv σ H Q=>Q (σ.set i (aa v)) H
def lY(hN:X.N.Nodup)(hi:X.N[i]?=aa x)(hx:Loc X.env.scope x)(hf:Zq X x:=by first|show .inl rfl|show .inr rfl|assumption):PG X (.Name x ν) (zV i):=by intro π s σ H v u Q I r h;show a0q (vZ I hN hi hx r (λs' I'=>⟨_,H,I',h⟩) hf)
def Pj:TGs:=λvs σ H Q=>vs=[]/\Q σ H
def Vf(t:TG)(u:TGs):TGs:=λvs σ H Q=>∃v r,vs=v::r/\t v σ H λσ' H'=>u r σ' H' Q
def K6:PGs X [] Pj:=by intro π s σ H vs us Q I r h;obtain⟨e,h⟩:=h;subst e;cases r;show assignInOrder_nil ⟨σ,H,I,h⟩
theorem qA(h1:PG X e t)(h2:PGs X es u)
  (hs:(di (e::es) X.env).map (·.2)=assign e X.env::(di es X.env).map (·.2):=by rfl):PGs X (e::es) (Vf t u):=by
 intro π s σ H vs us Q I r h;obtain⟨v,vr,e1,h⟩:=h;subst e1
 cases r with
 |cons r rr =>
  rw[hs];show assignInOrder_cons (eQ (h1 π s σ H _ _ _ I r h) λ_ s1 ⟨σ1,H1,I1,q1⟩=>?_);show h2 π s1 σ1 H1 _ _ Q I1 rr q1
def Ph(K:ao)(n:Nat)(t:TGs):TG:=λv σ H Q=>∃a xs,v=.ref a/\fX K H a xs/\xs.length=n/\t xs σ H Q
theorem RK(hc:X.calm=ae)(h:PGs X es t)
  (hn:(di es X.env).length=n:=by rfl) (hst:(di es X.env).findIdx? (·.1)=af:=by rfl):PG X (.Tuple es k ν) (Ph X.K n t):=by
 intro π s σ H v u Q I r hw;obtain⟨a,xs,e1,hq,hl,hw⟩:=hw;subst e1;cases r;obtain⟨ι,rv,ht,hz⟩:=I.tuple hq;show assign_Tuple_tuple (I.ok.hd hc) ht (by simp[hn,<- hl,rv.length]) hst λh' hx=>?_;have I1:Φ X π σ H {s with heap:=h' }:=I.kept (t':=s.toks) λb o e=>hx b o (fz (b_ e)) e;show h π _ σ H xs _ Q I1 (by simpa using rv) hw
def Pg(to ti:TE)(t:Ai):TG:=λv σ H Q=>to σ H λo H1=>ti σ H1 λi H2=>t o i v H2 λH3=>Q σ H3
theorem Yu(ho:PE X o to)(hi:PE X i ti)(hs:Ah X t)
  (ha:∀v,assign (.Subscript o i ν) X.env v=(do
   let ov <- holding [v] (eval o X.env)
   let iv <- holding [v,ov] (eval i X.env)
   standAt ν
   holding [v,ov,iv] (setItem ov iv v)
   release [v,ov,iv] []):=by intro _;rfl):PG X (.Subscript o i ν) (Pg to ti t):=by
 intro π s σ H v u Q I r h;rw[ha];show aq (h_ (eQ (ho π s σ H _ I h) λov s1 ⟨x,H1,I1,r1,q1⟩=>?_));show aq (h_ (eQ (hi π s1 σ H1 _ I1 q1) λiv s2 ⟨y,H2,I2,r2,q2⟩=>?_));show aq (wj (aq (h_ (eQ (hs π s2 σ H2 x y v ov iv u _ I2 r1 r2 r q2) λ_ s3 ⟨H3,I3,q3⟩=>?_))));show wpAny_release ⟨σ,H3,I3,q3⟩
def vv(te:TE)(g:TG):TS:=λD σ H=>te σ H λx H1=>g x σ H1 D.nx
def RL(he:PE X e te)(hg:PG X tg g)(hs:swapsWithSole [tg] e ν.line X.env=pure ag:=by rfl)(hw:swappedStores [tg] e X.env=pure af:=by rfl)
  (h1:(di [tg] X.env).map (·.2)=[assign tg X.env]:=by rfl):PS X (.Assign [tg] e ν) (vv te g):=by
 intro π s σ H D I h;show wpAny_Assign_stores (eQ (he π s σ H _ I h) λv s1 ⟨x,H1,I1,r1,q1⟩=>?_) hs hw;rw[h1];show eQ (hg π s1 σ H1 x v _ I1 r1 q1) λ_ s2 q=>q
def mW(hN:X.N.Nodup)(hi:X.N[i]?=aa x)(hx:Loc X.env.scope x)(he:PE X e te)(hs:Si X e x pos' ν:=by rfl)(hf:Zq X x:=by first|show .inl rfl|show .inr rfl|assumption):
  PS X (.Assign [.Name x pos'] e ν) (vv te (zV i)):=by
 intro π s σ H D I h;show wpAny_Assign_Name (eQ (he π s σ H _ I h) λv s1 ⟨y,H1,I1,r1,q1⟩=>?_) hs;show vZ I1 hN hi hx r1 (λs2 I2=>⟨_,H1,I2,q1⟩) hf
end
structure It where
 go:Nat->Hp->Prop
 yld:Nat->Hp->V->Hp->Prop
 stop:Nat->Hp->Prop
def oU(X:Cx)(π:Q0b)(H:Hp)(b:ah):Prop :=
 H b=af/\b≠X.env.locals/\b∉X.fs/\(b∈X.ex\/X.s₀.heap.objs.size<=b)/\(∀x c,X.env.cells.lookup x=aa c->c≠b) /\∀p∈X.pn++π,p.1≠b
def Φ.HL(I:Φ X π σ H s)(hb:s.heap.objs.size<=b)(hn:H' b=af):oU X π H' b:=by
 show⟨hn,oj (gj I.lt hb),I.Po hb,.inr (iq I.sz hb),λx c e z=>?_,λp hp z=>?_⟩
 .obtain ⟨v,q⟩:=I.cell x c e;show Zw (gj q.lt (by rw[z];show hb)) (jf _)
 .exact Zw (gj (b_ (I.pin p hp).1) (by rw[z];show hb)) (jf _)
structure Turn (P:bh) (w:az) (K:ao) (tg:av) (J:It) (fp:List ah) (it:ah) (tn:Nat->ba->Prop):Prop where
 mem:it∈fp
 obj:∀i h,tn i h ->∀b∈fp,∃o,h.get? b=aa o /\∀v,o.data≠.cell v
 keep:∀i h h',tn i h->(∀b∈fp,∀o,h.get? b=aa o->h'.get? b=aa o)->tn i h'
 item:∀(X:Cx),X.Ω=P->X.w=w->X.K=K->X.calm=ae ->∀(i:Nat) (π:Q0b) (s:ak) (σ:St) (H:Hp) (E:Q0c),Φ X π σ H s->(∀b∈fp,oU X π H b)->tn i s.heap->J.go i H ->
  ay (au P w) X.A (pyNext (.ref it)) (λr s1=>∃u,r=aa u /\
   ay (au P w) X.A (letOwnedTupleGo tg (.ref it) u) (λ_ s2=>∃x H',Φ X π σ H' s2/\Ψ x u/\J.yld i H x H'/\tn (i+1) s2.heap /\∀b∈fp,H' b=af) E s1) E s
 done:∀(X:Cx),X.Ω=P->X.w=w->X.K=K->X.calm=ae ->∀(i:Nat) (π:Q0b) (s:ak) (σ:St) (H:Hp) (E:Q0c),Φ X π σ H s->(∀b∈fp,oU X π H b)->tn i s.heap->J.stop i H ->
  ay (au P w) X.A (pyNext (.ref it)) (λr s1=>r=af/\Φ X π σ H s1) E s
 self:∀(A:bu) (i:Nat) (s:ak) (Q:Q0c) (E:Q0c),tn i s.heap->Q (.ref it) s->ay (au P w) A (pyIter (.ref it)) Q E s
abbrev TI:=St->Hp->(It->Hp->Prop)->Prop
def PIE(X:Cx)(π:Q0b)(σ:St)(tg:av)(R:It->Hp->Prop)(itv:ai)(s2:ak):Prop :=
 ∃(it:ah) (fp:List ah) (tn:Nat->ba->Prop) (J:It) (H':Hp),itv=.ref it/\Φ X π σ H' s2/\Turn X.Ω X.w X.K tg J fp it tn/\tn 0 s2.heap/\(∀b∈fp,oU X π H' b)/\R J H'
def PI(X:Cx)(tg iter:av)(wi:TI):Prop :=
 ∀(π:Q0b) (s:ak) (σ:St) (H:Hp) (R:It->Hp->Prop),Φ X π σ H s->wi σ H R ->
  ay (au X.Ω X.w) X.A (eval iter X.env) (λv s1=>ay (au X.Ω X.w) X.A (pyIter v) (PIE X π σ tg R) X.xe s1) X.xe s
theorem RM(ho:s.heap.get? it=aa o)(hc:o.cls=.type n)(hd:o.data=.fields vs)
  (hn:["enumerate","zip","dict_itemiterator","dict_reverseitemiterator","odict_iterator","itertools.zip_longest","itertools.pairwise"].contains n=ag) (hQ:Q () s):ay M A (letOwnedTupleGo tg (.ref it) u) Q E s:=by
 unfold letOwnedTupleGo;cases tg<;>first
  |show a_ hQ
  | (cases u<;>first
    |show a_ hQ
    | (show aq (wpAny_load ho ?_)
       rw[hc,hd];show ay M A (if(["enumerate","zip","dict_itemiterator","dict_reverseitemiterator","odict_iterator","itertools.zip_longest","itertools.pairwise"].contains n&&vs[0]? == aa (rawInt _))=ae then _ else _) Q E s;rw[Zz (by intro h;rw[hn,Gu] at h;cases h)];show a_ hQ))
def Itl(K:ao)(a:ah):It :=
 ⟨λi H=>∃xs x,fP K H a xs/\xs[i]?=aa x,λi H x H'=>H'=H /\∀xs,fP K H a xs->xs[i]?=aa x,λi H=>∃xs,fP K H a xs/\xs.length<=i⟩
def Itt(K:ao)(a:ah):It :=
 ⟨λi H=>∃xs x,fX K H a xs/\xs[i]?=aa x,λi H x H'=>H'=H /\∀xs,fX K H a xs->xs[i]?=aa x,λi H=>∃xs,fX K H a xs/\xs.length<=i⟩
def Itr(lo:Int)(n:Nat):It:=⟨λi _=>i<n,λi H x H'=>H'=H/\x=.int (lo+i),λi _=>n<=i⟩
theorem zW{P:bh}{w:az}{K:ao}{tg:av}(a it:ah):Turn P w K tg (Itl K a) [it] it (λi h=>h.IsListIter it a i) where
 mem:=by simp
 obj:=λi h st b hb=>by
  have e:b=it:=by simpa using hb
  subst e;obtain⟨o,e,c,d⟩:=st;show⟨o,e,λv z=>by rw[d] at z;cases z⟩
 keep:=λi h h' st k=>st.at λo e=>k it (by simp) o e
 item:=by intro X hP hw hK hc i π s σ H E I hf st hg;subst hP hw hK;obtain⟨xs,x,hq,hx⟩:=hg;obtain⟨ι,rv,p,hz⟩:=I.list hq;obtain⟨u,hu,ru⟩:=rv.get hx;obtain⟨f0,f1,f2,f3,f4,f5⟩:=hf it (by simp);show wpAny_pyNext_list_item st p.isList (x:=u) (by simpa using hu) λh' st' sb=>?_;have I1:Φ X π σ H {s with heap:=h' }:=I.turned (t':=s.toks) (λb o hb e=>(sb.2 b hb).trans e) f0 f1 f3 f4 f5;obtain⟨o,e,c,d⟩:=id st';show⟨u,rfl,RM (s:={s with heap:=h' }) e c d (by decide) ⟨x,H,I1,ru,⟨rfl,λys hy=>by rw[I.p8 hy hq];show hx⟩,st',λb hb=>(hf b hb).1⟩⟩
 done:=by intro X hP hw hK hc i π s σ H E I hf st hg;subst hP hw hK;obtain⟨xs,hq,hx⟩:=hg;obtain⟨ι,rv,p,hz⟩:=I.list hq;obtain⟨f0,f1,f2,f3,f4,f5⟩:=hf it (by simp);have hl:=rv.length;show wpAny_pyNext_list_end (I.ok.hd hc) st p.isList (by simp;lia) λh' eb=>⟨rfl,I.turned (t':=s.toks) (λb o hb e=>eb b o hb e) f0 f1 f3 f4 f5⟩
 self:=λ_ _ _ _ _ st h=>wpAny_pyIter_listiter st h
theorem HM{P:bh}{w:az}{K:ao}{tg:av}(a it:ah):Turn P w K tg (Itt K a) [it] it (λi h=>h.IsTupleIter it a i) where
 mem:=by simp
 obj:=λi h st b hb=>by
  have e:b=it:=by simpa using hb
  subst e;obtain⟨o,e,c,d⟩:=st;show⟨o,e,λv z=>by rw[d] at z;cases z⟩
 keep:=λi h h' st k=>st.at λo e=>k it (by simp) o e
 item:=by intro X hP hw hK hc i π s σ H E I hf st hg;subst hP hw hK;obtain⟨xs,x,hq,hx⟩:=hg;obtain⟨ι,rv,p,hz⟩:=I.tuple hq;obtain⟨u,hu,ru⟩:=rv.get hx;obtain⟨f0,f1,f2,f3,f4,f5⟩:=hf it (by simp);show wpAny_pyNext_tuple_item st (show s.heap.IsTuple a ι.toArray from p) (x:=u) (by simpa using hu) λh' st' sb=>?_;have I1:Φ X π σ H {s with heap:=h' }:=I.turned (t':=s.toks) (λb o hb e=>(sb.2 b hb).trans e) f0 f1 f3 f4 f5;obtain⟨o,e,c,d⟩:=id st';show⟨u,rfl,RM (s:={s with heap:=h' }) e c d (by decide) ⟨x,H,I1,ru,⟨rfl,λys hy=>by rw[I.nU hy hq];show hx⟩,st',λb hb=>(hf b hb).1⟩⟩
 done:=by intro X hP hw hK hc i π s σ H E I hf st hg;subst hP hw hK;obtain⟨xs,hq,hx⟩:=hg;obtain⟨ι,rv,p,hz⟩:=I.tuple hq;obtain⟨f0,f1,f2,f3,f4,f5⟩:=hf it (by simp);have hl:=rv.length;show wpAny_pyNext_tuple_end (I.ok.hd hc) st (show s.heap.IsTuple a ι.toArray from p) (by simp;lia) λh' eb=>⟨rfl,I.turned (t':=s.toks) (λb o hb e=>eb b o hb e) f0 f1 f3 f4 f5⟩
 self:=λ_ _ _ _ _ st h=>wpAny_pyIter_tupleiter st h
theorem HN{P:bh}{w:az}{K:ao}{tg:av}(it:ah)(lo:Int)(n:Nat):Turn P w K tg (Itr lo n) [it] it (λi h=>a08 h it (lo+(i:Nat)*1) ((n:Int)-(i:Nat)) 1) where
 mem:=by simp
 obj:=λi h st b hb=>by
  have e:b=it:=by simpa using hb
  subst e;show⟨_,st,λv z=>by have z':Data.fields _=Data.cell v:=z;cases z'⟩
 keep:=λi h h' st k=>k it (by simp) _ st
 item:=by intro X hP hw hK hc i π s σ H E I hf st hg;subst hP hw hK;obtain⟨f0,f1,f2,f3,f4,f5⟩:=hf it (by simp);have W:=Walks.range (prog:=X.Ω) (w:=X.w) (I.ok.hd hc) it lo 1 n;show W.item i s _ _ hg st λv h' tk hv st' kk=>?_;obtain⟨t,rfl⟩:=hv;have I1:Φ X π σ H {s with heap:=h',toks:=tk}:=I.turned (λb o hb e=>kk b o (by simpa using hb) e) f0 f1 f3 f4 f5;show⟨_,rfl,RM (s:={s with heap:=h',toks:=tk}) (n:="range_iterator") st' rfl rfl (by decide) ⟨.int (lo+i),H,I1,⟨t,?_⟩,⟨rfl,rfl⟩,st',λb hb=>(hf b hb).1⟩⟩;rw[a2w]
 done:=by intro X hP hw hK hc i π s σ H E I hf st hg;subst hP hw hK;obtain⟨f0,f1,f2,f3,f4,f5⟩:=hf it (by simp);show wpAny_pyNext_range_end (I.ok.hd hc) st (by have:n<=i:=hg;lia) λh' eb=>⟨rfl,I.turned (t':=s.toks) (λb o hb e=>eb b o hb e) f0 f1 f3 f4 f5⟩
 self:=λ_ _ _ _ _ st h=>wpAny_pyIter_rangeiter st h
section
variable{X:Cx}{tg:av}
def RN(K:ao)(tl:TE):TI:=λσ H R=>tl σ H λx H1=>∃a,x=.ref a/\(∃xs,fP K H1 a xs)/\R (Itl K a) H1
def XN{l:av}{tl:TE}(hl:PE X l tl):PI X tg l (RN X.K tl):=by
 intro π s σ H R I h;show eQ (hl π s σ H _ I h) λv s1 hq2=>?_;obtain⟨x,H1,I1,r1,q1⟩:=hq2;obtain⟨a,e,⟨xs,hq⟩,q⟩:=q1;subst e;cases r1;obtain⟨ι,rv,p,hz⟩:=I1.list hq;show wq p.isList ?_;show⟨s1.heap.objs.size,[s1.heap.objs.size],_,_,H1,rfl,I1.kept (t':=s1.toks) λb o e=>dg _ e,zW a _,⟨_,gf _ rfl,rfl,rfl⟩,λb hb=>?_,q⟩;have e:b=s1.heap.objs.size:=by simpa using hb
 subst e;show I1.HL (bp _) (I1.hok.fresh (bp _))
theorem RO{π:Q0b}{σ:St}{H:Hp}{s:ak}{R:It->Hp->Prop}{E:Q0c}{lo hi:Int}{t u v:gy}{tk:Nat}(I:Φ X π σ H s)(h1:-(2^62)<=lo)(h2:lo<2^62)(h3:-(2^62)<=hi)(h4:hi<2^62)
  (q:R (Itr lo (hi-lo).toNat) H):ay (au X.Ω X.w) X.A (pyIter (.ref s.heap.objs.size)) (PIE X π σ tg R) E {s with heap:=s.heap.push {cls:=.type "range",data:=.fields #[.int lo t,.int hi u,.int 1 v]},toks:=tk}:=by
 show wpAny_pyIter_range (IsRange.new ..) (small_one h1 h2 h3 h4) ?_;have I1:Φ X π σ H {s with heap:=s.heap.push {cls:=.type "range",data:=.fields #[.int lo t,.int hi u,.int 1 v]},toks:=tk}:=I.kept λb o e=>dg _ e;show⟨(s.heap.push {cls:=.type "range",data:=.fields #[.int lo t,.int hi u,.int 1 v]}).objs.size,[(s.heap.push {cls:=.type "range",data:=.fields #[.int lo t,.int hi u,.int 1 v]}).objs.size],_,_,H,rfl,
  I1.kept (t':=tk) λb o e=>dg _ e,HN _ lo (hi-lo).toNat,?_,λb hb=>?_,q⟩
 .have e1:lo+((0:Nat):Int)*1=lo:=by simp
  have e2:(((hi-lo).toNat:Nat):Int)-((0:Nat):Int)=a1x lo hi 1:=by rw[a0x];split<;>lia
  show a08 _ _ (lo+((0:Nat):Int)*1) ((((hi-lo).toNat:Nat):Int)-((0:Nat):Int)) 1;rw[e1,e2];show gf _ rfl
 .have e:b=(s.heap.push {cls:=.type "range",data:=.fields #[.int lo t,.int hi u,.int 1 v]}).objs.size:=by simpa using hb
  subst e;show I1.HL (bp _) (I1.hok.fresh (bp _))
def Ve(ta:TA):TI:=λσ H R=>ta σ H λvs H1=>∃j:Int,vs=[.int j] /\ -(2^62)<=j/\j<2^62/\R (Itr 0 j.toNat) H1
theorem M4{a:av}{ta:TA}{p ν:br}(hg:Gl X "range")(hm:X.mg "range"=af)(ha:PA X [a] ta)(hs:ar [a] X.env=[(ag,eval a X.env)]:=by rfl):PI X tg (.Call (.Name "range" p) [a] [] ν) (Ve ta):=by
 intro π s σ H R I h;show Call_ (rO I hg hm a1M (xt (eQ (ha ν π s σ H _ I h) λus s1 ⟨vs,H1,I1,r1,q1⟩=>?_) hs rfl));obtain⟨j,e,q1,q2,q⟩:=q1;subst e
 cases r1 with
 |cons r rr =>
  cases rr;obtain⟨t,rfl⟩:=r;show a0H (RO I1 ∅ ∅ q1 q2 (by simpa using q))
def Pf(wi:TI)(g:TG)(tb:TS):TS:=λD σ H=>wi σ H λJ H1=>∃W:Nat->Nat->St->Hp->Prop,(∃m,W 0 m σ H1) /\∀i m σ H,W i m σ H ->
 (J.stop i H/\D.nx σ H)\/(J.go i H /\∃N:St->Hp->Prop,(∀σ' H',N σ' H' ->∃m',m'<m/\W (i+1) m' σ' H') /\∀x H',J.yld i H x H'->g x σ H' λσ2 H2=>tb {D with nx:=N,ct:=N,bk:=D.nx} σ2 H2)
def wD(fp:List ah)(h:ba):List (ah×ax):=fp.filterMap λb=>(h.get? b).map λo=>(b,o)
def lZ(hb:b∈fp)(e:h.get? b=aa o):(b,o)∈wD fp h:=qj.mpr ⟨b,hb,by rw[e];rfl⟩
theorem M5(hp:p∈wD fp h):p.1∈fp/\h.get? p.1=aa p.2:=by
 obtain⟨b,hb,e⟩:=qj.mp hp
 cases q:h.get? b with
 |none=>rw[q] at e;cases e
 |some o =>
  rw[q] at e;have e':(b,o)=p:=fg e;subst e';show⟨hb,q⟩
def Φ.pinned(I:Φ X π σ H s)(hf:∀b∈fp,oU X π H b)(ho:∀b∈fp,∃o,s.heap.get? b=aa o /\∀v,o.data≠.cell v):Φ X (π++wD fp s.heap) σ H s :=
 I.K1 λp hp=>(gn.mp hp).elim (λz=>I.pin p (ir _ z)) λz=>by obtain⟨hb,e⟩:=M5 z;obtain⟨f0,f1,f2,_⟩:=hf p.1 hb;obtain⟨o,e',d⟩:=ho p.1 hb;rw[e] at e';cases e';show⟨e,f0,f1,f2,d⟩
def Φ.qB(I:Φ X (π++pl) σ H s):Φ X π σ H s:=I.K1 λp hp=>I.pin p (ir _ (gx _ hp))
theorem Yt(hp:Dz (au X.Ω X.w) X.A X.env X.xe)(hc:X.calm=ae)(hi:PI X tg iter wi)(hg:PG X tg g)(hb:zU X body tb)
  (hs:Zo X iter:=by intro _;rfl):PS X (.For tg iter body [] ν) (Pf wi g tb):=by
 intro π s σ H D I h;show wpAny_For (eQ (hi π s σ H _ I h) λv s1 h1=>eQ h1 λitv s2 h2=>?_) hs;obtain⟨it,fp,tn,J,H2,e,I2,T,st2,f2,W,⟨m0,w0⟩,turn⟩:=h2;subst e
 -- what stays ae of the iterator's objects through the loop
 have stat:∀{H':Hp},(∀b∈fp,H' b=af) ->∀b∈fp,oU X π H' b:=λhn b hb=>⟨hn b hb,(f2 b hb).2⟩;show codeAny_forLoop_any (λn s'=>∃i σ' H',Φ X π σ' H' s'/\tn i s'.heap/\(∀b∈fp,H' b=af)/\W i n σ' H') ?_ m0 ⟨0,σ,H2,I2,st2,λb hb=>(f2 b hb).1,w0⟩;rintro n s3 ⟨i,σ3,H3,I3,st3,fr3,w3⟩;rcases turn i n σ3 H3 w3 with⟨stop,qn⟩|⟨go,N,hN,step⟩
 .refine qz hp (eQ (T.done X rfl rfl rfl hc i π s3 σ3 H3 X.xe I3 (stat fr3) st3 stop) λr s4 ⟨hr,I4⟩=>?_);subst hr;show Cv ⟨σ3,H3,I4,qn⟩
 .refine qz hp (eQ (T.item X rfl rfl rfl hc i π s3 σ3 H3 X.xe I3 (stat fr3) st3 go) λr s4 ⟨u,hr,h4⟩=>?_);subst hr;show qz hp (eQ h4 λ_ s5 ⟨x,H5,I5,r5,y5,st5,fr5⟩=>?_);have I5':=I5.pinned (stat fr5) (T.obj _ _ st5);show qz hp (eQ (hg _ s5 σ3 H5 x u _ I5' r5 (step x H5 y5)) λ_ s6 ⟨σ6,H6,I6,q6⟩=>?_);show qz hp (eQ (hb _ s6 σ6 H6 _ I6 q6) λf s7 q7=>?_);have again:∀{σ7:St} {H7:Hp},Φ X (π++wD fp s5.heap) σ7 H7 s7->N σ7 H7 ->∃m,m<n /\∃i σ' H',Φ X π σ' H' s7/\tn i s7.heap/\(∀b∈fp,H' b=af)/\W i m σ' H':=λ{σ7 H7} I7 n7=>by obtain⟨m',hm,w7⟩:=hN σ7 H7 n7;show⟨m',hm,i+1,σ7,H7,I7.qB,T.keep _ _ _ st5 λb hb o e=>(I7.pin (b,o) (ir _ (ir _ (lZ hb e)))).1,λb hb=>?_,w7⟩;obtain⟨o,e,d⟩:=T.obj _ _ st5 b hb;show(I7.pin (b,o) (ir _ (ir _ (lZ hb e)))).2.1
  cases f with
  |next=>obtain⟨σ7,H7,I7,n7⟩:=q7;show again I7 n7
  |cont=>obtain⟨σ7,H7,I7,n7⟩:=q7;show again I7 n7
  |brk=>obtain⟨σ7,H7,I7,q7⟩:=q7;show⟨σ7,H7,I7.qB,q7⟩
  |ret v=>obtain⟨x7,σ7,H7,I7,r7,q7⟩:=q7;show⟨x7,σ7,H7,I7.qB,r7,q7⟩
end
abbrev R2:=V->V->Hp->VK->Prop
def i9(X:Cx)(f:ai->ai->fm ai)(r:R2):Prop :=
 ∀(π:Q0b) (s:ak) (σ:St) (H:Hp) (x y:V) (v u:ai) (Q:VK),Φ X π σ H s->Ψ x v->Ψ y u->r x y H Q ->
  ay (au X.Ω X.w) X.A (f v u) (EP X π σ Q) X.xe s
def UnR(X:Cx)(f:ai->fm ai)(r:V->Hp->VK->Prop):Prop :=
 ∀(π:Q0b) (s:ak) (σ:St) (H:Hp) (x:V) (v:ai) (Q:VK),Φ X π σ H s->Ψ x v->r x H Q ->
  ay (au X.Ω X.w) X.A (f v) (EP X π σ Q) X.xe s
def gM(X:Cx)(f:ai)(r:List V->Hp->VK->Prop):Prop :=
 ∀(π:Q0b) (s:ak) (σ:St) (H:Hp) (xs:List V) (us:Q0f) (Q:VK),Φ X π σ H s->θ xs us->r xs H Q ->
  ay (au X.Ω X.w) X.A (call f us) (EP X π σ Q) X.xe s
def Pe(X:Cx)(r:V->Hp->(Bool->Hp->Prop)->Prop):Prop :=
 ∀(π:Q0b) (s:ak) (σ:St) (H:Hp) (x:V) (v:ai) (Q:Bool->Hp->Prop),Φ X π σ H s->Ψ x v->r x H Q ->
  ay (au X.Ω X.w) X.A (truthy v) (TP X π σ Q) X.xe s
def pk(r:R2)(ta tb:TE):TE:=λσ H Q=>ta σ H λx H1=>tb σ H1 λy H2=>r x y H2 Q
def G_(r:V->Hp->VK->Prop)(ta:TE):TE:=λσ H Q=>ta σ H λx H1=>r x H1 Q
def rI(C:Int->Int->Prop)(g:Int->Int->V):R2:=λx y H Q=>∃i j,x=.int i/\y=.int j/\C i j/\Q (g i j) H
def M6(g:Int->Int->V):R2:=λx y H Q=>∃i j,x=.int i/\y=.int j/\Q (g i j) H
def rU(g:Int->V):V->Hp->VK->Prop:=λx H Q=>∃i,x=.int i/\Q (g i) H
section
variable{X:Cx}{a b c:av}{ta tb tc:TE}{ν:br}
theorem vt(ha:PE X a ta)(hb:PE X b tb){π:Q0b}{s:ak}{σ:St}{H:Hp}{R:V->V->Hp->Prop}(I:Φ X π σ H s)
  (h:ta σ H λx H1=>tb σ H1 λy H2=>R x y H2) {Q:Q0c} {f:ai->ai->fm ai}
  (hf:∀v u s2 x y H2,Φ X π σ H2 s2->Ψ x v->Ψ y u->R x y H2->ay (au X.Ω X.w) X.A (f v u) Q X.xe s2):
  ay (au X.Ω X.w) X.A (eval a X.env) (λv s₁=>ay (au X.Ω X.w) X.A (eval b X.env) (λu s₂=>ay (au X.Ω X.w) X.A (f v u) Q X.xe s₂) X.xe s₁) X.xe s:=by
 show eQ (ha π s σ H _ I h) λv s1 hq3=>?_;obtain⟨x,H1,I1,r1,q1⟩:=hq3;show eQ (hb π s1 σ H1 _ I1 q1) λu s2 hq4=>?_;obtain⟨y,H2,I2,r2,q2⟩:=hq4;show hf v u s2 x y H2 I2 r1 r2 q2
def RP{op:Operator}{r:R2}(ho:i9 X (binaryOp op) r)(ha:PE X a ta)(hb:PE X b tb):PE X (.BinOp a op b ν) (pk r ta tb):=by intro π s σ H Q I h;show wpAny_BinOp (vt ha hb I h λv u s2 x y H2 I2 rx ry q=>ho π s2 σ H2 x y v u Q I2 rx ry q)
def Vd(ho:UnR X (unaryOp op) r)(ha:PE X a ta):PE X (.UnaryOp op a ν) (G_ r ta):=by intro π s σ H Q I h;show UnaryOp_ (eQ (ha π s σ H _ I h) λv s1 ⟨x,H1,I1,r1,q1⟩=>ho π s1 σ H1 x v Q I1 r1 q1)
theorem XO{f:ai->ai->fm ai}{C:Int->Int->Prop}{g:Int->Int->Int}
  (rule:∀(i j:Int) (t u:gy) (s:ak) (Q:Q0c) (E:Q0c),C i j->Q (.int (g i j) s.toks) {s with toks:=s.toks+1}->ay (au X.Ω X.w) X.A (f (.int i t) (.int j u)) Q E s):
  i9 X f (rI C λi j=>.int (g i j)):=by
 intro π s σ H x y v u Q I rx ry h;obtain⟨i,j,rfl,rfl,hc,q⟩:=h;obtain⟨t,rfl⟩:=rx;obtain⟨t',rfl⟩:=ry;show rule i j t t' s _ _ hc ⟨.int (g i j),H,I.tok _,⟨_,rfl⟩,q⟩
theorem Ag{f:ai->ai->fm ai}{g:Int->Int->Int}
  (rule:∀(i j:Int) (t u:gy) (s:ak) (Q:Q0c) (E:Q0c),Q (.int (g i j) s.toks) {s with toks:=s.toks+1}->ay (au X.Ω X.w) X.A (f (.int i t) (.int j u)) Q E s):
  i9 X f (M6 λi j=>.int (g i j)):=by
 intro π s σ H x y v u Q I rx ry h;obtain⟨i,j,rfl,rfl,q⟩:=h;obtain⟨t,rfl⟩:=rx;obtain⟨t',rfl⟩:=ry;show rule i j t t' s _ _ ⟨.int (g i j),H,I.tok _,⟨_,rfl⟩,q⟩
theorem XQ{f:ai->ai->fm ai}{g:Int->Int->Bool}
  (rule:∀(i j:Int) (t u:gy) (s:ak) (Q:Q0c) (E:Q0c),Q (.bool (g i j)) s->ay (au X.Ω X.w) X.A (f (.int i t) (.int j u)) Q E s):
  i9 X f (M6 λi j=>.bl (g i j)):=by
 intro π s σ H x y v u Q I rx ry h;obtain⟨i,j,rfl,rfl,q⟩:=h;obtain⟨t,rfl⟩:=rx;obtain⟨t',rfl⟩:=ry;show rule i j t t' s _ _ ⟨.bl (g i j),H,I,rfl,q⟩
def Af(i j:Int):Prop:=0<j/\j<1073741824
def vq(i j:Int):Prop:=0<=j/\j<=1000000/\i.natAbs<2^64
def XR(i j:Int):Prop:=(-(2^64)<i/\i<2^64)\/(-(2^64)<j/\j<2^64)
def XR.ok{i j:Int}(h:XR i j):rz i j:=by
 rcases h with⟨h1,h2⟩|⟨h1,h2⟩
 .exact .of_left (a0D h1 h2)
 .exact .of_right (a0D h1 h2)
def HP(k:Nat):(0:Int)<=2^k:=by rw[two_pow_cast];show Int.natCast_nonneg _
def Ys:i9 X (binaryOp .Add) (M6 λi j=>.int (i+j)):=Ag λ_ _ _ _ _ _ _ q=>add_int q
def Yr:i9 X (binaryOp .Sub) (M6 λi j=>.int (i-j)):=Ag λ_ _ _ _ _ _ _ q=>sub_int q
def XS:i9 X (binaryOp .FloorDiv) (rI Af λi j=>.int (i/j)):=XO λi j _ _ _ _ _ hc q=>by have h1:(0:Int)<j:=hc.1;have h2:j<1073741824:=hc.2;show floordiv_int ∅ (by rw[a2x i ∅];show q) (.inl (PyProof.noPylong_small ∅))
def Yq:i9 X (binaryOp .Mod) (rI (λ_ j=>0<j) λi j=>.int (i%j)):=XO λi j _ _ _ _ _ hc q=>by have h1:(0:Int)<j:=hc;show mod_int' ∅ (by rw[Int.fmod_eq_emod_of_nonneg i ∅];show q)
def Yp:i9 X (binaryOp .Pow) (rI vq λi j=>.int (i^j.toNat)):=XO λ_ _ _ _ _ _ _ hc q=>pow_int_small hc.1 hc.2.1 hc.2.2 q
def Yo:i9 X (binaryOp .LShift) (rI vq λi j=>.int (i*2^j.toNat)):=XO λ_ _ _ _ _ _ _ hc q=>lshift_int_small hc.1 hc.2.1 hc.2.2 q
def Yn:i9 X (binaryOp .RShift) (rI (λ_ j=>0<=j) λi j=>.int (i/2^j.toNat)):=XO λi j _ _ _ _ _ hc q =>
 rshift_int hc (by rw[a2x i (HP _)];show q)
theorem unI{f:ai->fm ai}{g:Int->Int}
  (rule:∀(i:Int) (t:gy) (s:ak) (Q:Q0c) (E:Q0c),Q (.int (g i) s.toks) {s with toks:=s.toks+1}->ay (au X.Ω X.w) X.A (f (.int i t)) Q E s):
  UnR X f (rU λi=>.int (g i)):=by
 intro π s σ H x v Q I rx h;obtain⟨i,rfl,q⟩:=h;obtain⟨t,rfl⟩:=rx;show rule i t s _ _ ⟨.int (g i),H,I.tok _,⟨_,rfl⟩,q⟩
def Ym:UnR X (unaryOp .USub) (rU λi=>.int (-i)):=unI λ_ _ _ _ _ q=>neg_int q
end
noncomputable def vp:V->V->Bool
 |.non,.non=>ae | .non,.int _=>ae | .int _,.non=>ae | .non,.bl _=>ae | .bl _,.non=>ae | .non,.str _=>ae | .str _,.non=>ae
 |.int _,.int _=>ae | .bl _,.bl _=>ae | .str _,.str _=>ae | .MW _,.MW _=>ae
 |.int _,.str _=>ae | .str _,.int _=>ae | .bl _,.str _=>ae | .str _,.bl _=>ae
 |_,_=>ag
def yx:R2:=λx y H Q=>vp x y=ae/\Q (.bl (Zv (x=y))) H
def yw:R2:=λx y H Q=>vp x y=ae/\Q (.bl (!Zv (x=y))) H
def B0:Zv (V.int i=V.int j)=(i == j):=by rw[qt];simp
def HQ:Zv (V.bl i=V.bl j)=(i == j):=by rw[qt];simp
def B1:Zv (V.str i=V.str j)=(i == j):=by rw[qt];simp
def K7:Zv (V.MW i=V.MW j)=(i.toList == j.toList):=by rw[qt];cases i;cases j;simp
section
variable{X:Cx}{a b c:av}{ta tb tc:TE}{ν:br}
def b9(I:Φ X π σ H s)(q:Q (.bl k) H)(e:k=k'):EP X π σ Q (.bool k') s:=by subst e;show⟨.bl k,H,I,rfl,q⟩
theorem Bt:i9 X (compareOp .Eq) yx:=by
 intro π s σ H x y v u Q I rx ry h;obtain⟨hs,q⟩:=h
 cases x with
 |non =>
  cases rx
  cases y with
  |non=>cases ry;show a3m (b9 I q (by simp))
  |bl j=>cases ry;show a3o (b9 I q (by simp))
  |int j=>obtain⟨t',rfl⟩:=ry;show a3n (b9 I q (by simp))
  |str j=>obtain⟨t',rfl⟩:=ry;show a3l (b9 I q (by simp))
  |_=>show Zw (show ag=ae from hs) bx
 |bl i =>
  cases rx
  cases y with
  |non=>cases ry;show a3q (b9 I q (by simp))
  |bl j=>cases ry;show eq_bool (b9 I q HQ)
  |str j=>obtain⟨t',rfl⟩:=ry;show a3y (b9 I q (by simp))
  |_=>show Zw (show ag=ae from hs) bx
 |int i =>
  obtain⟨t,rfl⟩:=rx
  cases y with
  |non=>cases ry;show a3p (b9 I q (by simp))
  |int j=>obtain⟨t',rfl⟩:=ry;show eq_int (b9 I q B0)
  |str j=>obtain⟨t',rfl⟩:=ry;show a3x (b9 I q (by simp))
  |_=>show Zw (show ag=ae from hs) bx
 |str i =>
  obtain⟨t,rfl⟩:=rx
  cases y with
  |non=>cases ry;show a3k (b9 I q (by simp))
  |bl j=>cases ry;show a3w (b9 I q (by simp))
  |int j=>obtain⟨t',rfl⟩:=ry;show a3v (b9 I q (by simp))
  |str j=>obtain⟨t',rfl⟩:=ry;show eq_str (b9 I q B1)
  |_=>show Zw (show ag=ae from hs) bx
 |MW i =>
  obtain⟨t,rfl⟩:=rx
  cases y with
  |MW j=>obtain⟨t',rfl⟩:=ry;show PySem.W.eq_bytes (b9 I q K7)
  |_=>show Zw (show ag=ae from hs) bx
 |_=>cases y<;>show Zw (show ag=ae from hs) bx
theorem Vc:i9 X (compareOp .NotEq) yw:=by
 intro π s σ H x y v u Q I rx ry h;obtain⟨hs,q⟩:=h
 cases x with
 |non =>
  cases rx
  cases y with
  |non=>cases ry;show a3f (b9 I q (by simp))
  |bl j=>cases ry;show a3h (b9 I q (by simp))
  |int j=>obtain⟨t',rfl⟩:=ry;show a3g (b9 I q (by simp))
  |str j=>obtain⟨t',rfl⟩:=ry;show a3e (b9 I q (by simp))
  |_=>show Zw (show ag=ae from hs) bx
 |bl i =>
  cases rx
  cases y with
  |non=>cases ry;show a3j (b9 I q (by simp))
  |bl j=>cases ry;show ne_bool (b9 I q (congrArg not HQ))
  |str j=>obtain⟨t',rfl⟩:=ry;show a3u (b9 I q (by simp))
  |_=>show Zw (show ag=ae from hs) bx
 |int i =>
  obtain⟨t,rfl⟩:=rx
  cases y with
  |non=>cases ry;show a3i (b9 I q (by simp))
  |int j=>obtain⟨t',rfl⟩:=ry;show ne_int (b9 I q (congrArg not B0))
  |str j=>obtain⟨t',rfl⟩:=ry;show a3t (b9 I q (by simp))
  |_=>show Zw (show ag=ae from hs) bx
 |str i =>
  obtain⟨t,rfl⟩:=rx
  cases y with
  |non=>cases ry;show a3d (b9 I q (by simp))
  |bl j=>cases ry;show a3s (b9 I q (by simp))
  |int j=>obtain⟨t',rfl⟩:=ry;show a3r (b9 I q (by simp))
  |str j=>obtain⟨t',rfl⟩:=ry;show ne_str (b9 I q (congrArg not B1))
  |_=>show Zw (show ag=ae from hs) bx
 |MW i =>
  obtain⟨t,rfl⟩:=rx
  cases y with
  |MW j=>obtain⟨t',rfl⟩:=ry;show PySem.W.ne_bytes (b9 I q (congrArg not K7))
  |_=>show Zw (show ag=ae from hs) bx
 |_=>cases y<;>show Zw (show ag=ae from hs) bx
def RQ:i9 X (compareOp .Lt) (M6 λi j=>.bl (Zv (i<j))):=XQ λ_ _ _ _ _ _ _ q=>lt_int q
def Bs:i9 X (compareOp .LtE) (M6 λi j=>.bl (Zv (i<=j))):=XQ λ_ _ _ _ _ _ _ q=>le_int q
def Vb:i9 X (compareOp .Gt) (M6 λi j=>.bl (Zv (j<i))):=XQ λ_ _ _ _ _ _ _ q=>gt_int q
def Va:i9 X (compareOp .GtE) (M6 λi j=>.bl (Zv (j<=i))):=XQ λ_ _ _ _ _ _ _ q=>ge_int q
def RR:i9 X (compareOp .Is) (λx y H Q=>y=.non/\Q (.bl (Zv (x=.non))) H):=by
 intro π s σ H x y v u Q I rx ry h;obtain⟨rfl,q⟩:=h;cases ry;show is_none_gen (b9 I q ?_);cases x<;>first
  | (cases rx;rfl)
  | (obtain⟨t,rfl⟩:=rx;rfl)
def i9.or(h:i9 X f r)(h':i9 X f r'):i9 X f (λx y H Q=>r x y H Q\/r' x y H Q):=by
 intro π s σ H x y v u Q I rx ry q;rcases q with q|q
 .exact h π s σ H x y v u Q I rx ry q
 .exact h' π s σ H x y v u Q I rx ry q
def i7(b:av)(h:op≠.In:=by decide)(h2:op≠.NotIn:=by decide):behindInMarks op b=ag:=by
 have e1:(op == CmpOp.In)=ag:=by cases op<;>first|rfl|show Zw rfl h
 have e2:(op == CmpOp.NotIn)=ag:=by cases op<;>first|rfl|show Zw rfl h2
 cases b<;>simp[behindInMarks,e1,e2]
def XT{op:CmpOp}{r:R2}(ho:i9 X (compareOp op) r)(ha:PE X a ta)(hb:PE X b tb)(hm:behindInMarks op b=ag):PE X (.Compare a [op] [b] ν) (pk r ta tb):=by intro π s σ H Q I h;show wpAny_Compare1 (vt ha hb I h λv u s2 x y H2 I2 rx ry q=>ho π s2 σ H2 x y v u Q I2 rx ry q) hm
def ER(t:TE):TT:=λσ H Q=>t σ H λx H'=>∃k,x=.bl k/\Q k H'
def XU(ho:i9 X (compareOp op) r)(ha:PE X a ta)(hb:PE X b tb)(hm:behindInMarks op b=ag):PT X (.Compare a [op] [b] ν) (ER (pk r ta tb)):=by
 intro π s σ H Q I h;show a0l (eQ (ha π s σ H _ I h) λv s1 ⟨x,H1,I1,r1,q1⟩=>eQ (hb π s1 σ H1 _ I1 q1) λu s2 ⟨y,H2,I2,r2,q2⟩ =>
  eQ (ho π s2 σ H2 x y v u _ I2 r1 r2 q2) λc s3 ⟨z,H3,I3,r3,k,e,q3⟩=>?_) hm
 subst e;cases r3;show kl ⟨H3,I3,q3⟩
def RS(r r':R2)(ta tb tc:TE):TE:=λσ H Q=>ta σ H λx H1=>tb σ H1 λy H2=>r x y H2 λz H3=>∃k,z=.bl k /\
 (if k=ae then tc σ H3 λw' H4=>r' y w' H4 Q else Q (.bl ag) H3)
theorem RT(ho:i9 X (compareOp op) r)(ho':i9 X (compareOp op') r')(ha:PE X a ta)(hb:PE X b tb)(hc:PE X c tc)
  (hm:lastMarks [op,op'] [b,c]=ag:=by with_unfolding_all rfl):PT X (.Compare a [op,op'] [b,c] ν) (ER (RS r r' ta tb tc)):=by
 intro π s σ H Q I h;show isTrue_chain (eQ (ha π s σ H _ I h) λv s1 ⟨x,H1,I1,r1,q1⟩=>test_link (eQ (hb π s1 σ H1 _ I1 q1) λu s2 ⟨y,H2,I2,r2,q2⟩ =>
  eQ (ho π s2 σ H2 x y v u _ I2 r1 r2 q2) λd s3 ⟨z,H3,I3,r3,k,e,q3⟩=>?_)) hm
 subst e;cases r3;show kl ?_
 cases k with
 |false =>
  obtain⟨k',e',q'⟩:=q3;cases e';show ite_ff ⟨H3,I3,q'⟩
 |true =>
  show ite_tt (test_last (eQ (hc π s3 σ H3 _ I3 q3) λw' s4 ⟨z',H4,I4,r4,q4⟩=>eQ (ho' π s4 σ H4 y z' u w' _ I4 r2 r4 q4) λd' s5 ⟨z2,H5,I5,r5,k2,e2,q5⟩=>?_));subst e2;cases r5;show kl ⟨H5,I5,q5⟩
noncomputable def Ae(K:ao)(x:V)(H:Hp)(k:Bool):Prop :=
 match x with
 |.non=>k=ag
 |.bl b=>k=b
 |.int i=>k=(i !=0)
 |.str y=>y.length<=bg/\k=((y.length:Int) !=0)
 |.MW y=>y.size<=bg/\k=((y.size:Int) !=0)
 |.ref p=>(∃xs,fP K H p xs/\k=!xs.isEmpty)\/(∃xs,fX K H p xs/\k=!xs.isEmpty) \/∃χ,H p=aa (.dK χ)/\k=!χ.isEmpty
 |_=>False
def HR{κ:Type}{χ:List (κ×V)}{vs:List (κ×ai)}(r:KV χ vs):(!vs.isEmpty)=!χ.isEmpty:=by cases r<;>rfl
def l0{xs:List V}{ι:Q0f}(r:θ xs ι):(!ι.toArray.isEmpty)=!xs.isEmpty:=by cases r<;>simp
def wF:(bg:Nat)<2^63:=by rw[gc];decide
theorem Yl:Pe X (λx H Q=>∃k,Ae X.K x H k/\Q k H):=by
 intro π s σ H x v Q I rx h;obtain⟨k,e,q⟩:=h;have hl:=wF;have hs:bg=16777216:=gc
 cases x with
 |non =>
  cases rx;have e':k=ag:=e;subst e';show truthy_none ⟨H,I,q⟩
 |bl b =>
  cases rx;have e':k=b:=e;subst e';show kl ⟨H,I,q⟩
 |int i =>
  obtain⟨t,rfl⟩:=rx;have e':k=(i !=0):=e;subst e';show PySem.P.truthy_int ⟨H,I,q⟩
 |str y =>
  obtain⟨t,rfl⟩:=rx;obtain⟨hy,e'⟩:y.length<=bg/\k=((y.length:Int) !=0):=e;subst e';show PySem.P.truthy_str ∅ ⟨H,I.tok _,q⟩
 |MW y =>
  obtain⟨t,rfl⟩:=rx;obtain⟨hy,e'⟩:y.size<=bg/\k=((y.size:Int) !=0):=e;subst e';show PySem.W.truthy_bytes ∅ ⟨H,I.tok _,q⟩
 |ref p =>
  cases rx;have e':(∃xs,fP X.K H p xs/\k=!xs.isEmpty)\/(∃xs,fX X.K H p xs/\k=!xs.isEmpty) \/∃χ,H p=aa (.dK χ)/\k=!χ.isEmpty:=e;rcases e' with⟨xs,hx,e'⟩|⟨xs,hx,e'⟩|⟨χ,hx,e'⟩
  .subst e';obtain⟨ι,r,pl,hz⟩:=I.list hx;have hlen:=r.length;show a0c pl.isList (by simp only[ck];lia) ⟨H,I.tok _,by rw[l0 r];show q⟩
  .subst e';obtain⟨ι,r,pl,hz⟩:=I.tuple hx;have hlen:=r.length;show a1z pl (by simp only[ck];lia) ⟨H,I.tok _,by rw[l0 r];show q⟩
  .subst e';obtain⟨hz,hS,vs,r,m⟩:χ.length<=bg/\(p == sysModules)=ag /\∃vs,KV χ vs/\s.heap.DictOf (bE X.Ω X.w) p vs:=I.hok p _ hx;have hlen:χ.length=vs.length:=p_ r;show wpAny_truthy_dict hS m ∅ ⟨H,I.tok _,by rw[HR r];show q⟩
 |_=>show(show False from e).elim
theorem RU(ha:PE X a ta)(he:∀whole,isTrue a X.env whole=(do let v <- whole;standAt a.pos;holding [v] (truthy v))):
  PT X a (λσ H Q=>ta σ H λx H'=>∃k,Ae X.K x H' k/\Q k H'):=by
 intro π s σ H Q I h;show isTrue_plain (eQ (ha π s σ H _ I h) λv s1 ⟨x,H1,I1,r1,q1⟩=>Yl π s1 σ H1 x v Q I1 r1 q1) (he _)
def HS:i9 X (binaryOp .Add) (λx y H Q=>∃i j,x=.str i/\y=.str j/\i.length+j.length<=bg/\Q (.str (i++j)) H):=by intro π s σ H x y v u Q I rx ry h;obtain⟨i,j,rfl,rfl,hz,q⟩:=h;obtain⟨t,rfl⟩:=rx;obtain⟨t',rfl⟩:=ry;show add_str (λt' tk=>⟨.str (i++j),H,I.tok _,⟨_,rfl⟩,q⟩) hz
theorem vals1(r:θ [x] us):∃u,us=[u]/\Ψ x u:=by
 cases r with
 |cons r1 r2=>cases r2;show⟨_,rfl,r1⟩
theorem vals2(r:θ [x,y] us):∃u w',us=[u,w']/\Ψ x u/\Ψ y w':=by
 cases r with
 |cons r1 r2 =>
  cases r2 with
  |cons r3 r4=>cases r4;show⟨_,_,rfl,r1,r3⟩
end
structure vn (h:ba) (x dx C:ah) (mA:Q0d):Prop where
 obj:h.get? x=aa (instObj C dx)
 ns:h.Ns1 dx mA
 ne:dx≠x
def M7{h:ba}{dx:ah}{mA:Q0d}(n:h.Ns1 dx mA):∃od,h.get? dx=aa od /\∀name,lookIn name od=aa (mA name):=by
 obtain⟨o,es,ep,ho,hd,hk,_,hm⟩:=n;show⟨o,ho,λname=>?_⟩;have e:=hm name;unfold nsFind findBy at e;rw[<- Array.find?_toList] at e;unfold lookIn;rw[hd];dsimp only;split
 .rename_i y q;rw[q] at e;show congrArg aa e
 .rename_i q;rw[q] at e;have a:es.toList.any (·.refKey)=ag:=by rw[List.any_eq_false];intro y hy;obtain⟨z,t,hkey⟩:=hk y (Array.mem_toList_iff.mp hy);simp[a3z,hkey]
  have a':¬ es.toList.any (·.refKey)=ae:=by rw[a];show bx
  rw[Zz a'];show congrArg aa e
def vn.look(I:vn h x dx C mA):∃od,PySem.W.InstAt h x (instObj C dx) C (aa od) /\∀name,lookIn name od=aa (mA name) :=
 let ⟨od,ho,hl⟩:=M7 I.ns
 ⟨od,⟨I.obj,rfl,rfl,ho⟩,hl⟩
theorem mU.some_of(r:mU (aa v) o):∃u,o=aa u/\Ψ v u:=by
 cases o with
 |none=>show(show False from r).elim
 |some u=>show⟨u,rfl,r⟩
section
variable{P:bh}{w:az}{H H':Hp}{h h':ba}{a C dx:ah}{fs fs':List (aj×V)}
def XW(hok:n8 P w H h)(e:H a=aa (.ins C dx fs)):∃mA,vn h a dx C mA/\(∀f,mU (fs.lookup f) (mA f))/\a0J mA (fs.map (·.1))/\fs.length<=1000/\H dx=aa (.own a):=by obtain⟨d,z,ne,ob,mA,n,r,q⟩:=(show cZ P w H h a (.ins C dx fs) from hok a _ e);show⟨mA,⟨ob,n,ne⟩,r,q,z,d⟩
end
structure Cls (K:ao) (C:ah):Prop where
 pg:a0M K C Str.empty=ae
 hd:PySem.W.hasDictIn K C=ae
 po:PySem.W.plainOver K C=ae
 sa:a0R K (.ref C) "__setattr__"=aa (aa (.builtin "object.__setattr__"))
def Cls.get{K:ao}{C:ah}(c:Cls K C)(f:aj):a0M K C f=ae:=c.pg
section
variable{X:Cx}{π:Q0b}{σ:St}{H:Hp}{s:ak}{A:bu}{E:Q0c}{Q:Q0c}{c:ai}{b:Bool}
inductive qC (K:ao) (H:Hp):V->ai->Prop where
 |non:qC K H .non (.type "NoneType")
 |bl (x:Bool):qC K H (.bl x) (.type "bool")
 |int (i:Int):qC K H (.int i) (.type "int")
 |str (x:aj):qC K H (.str x) (.type "str")
 |flt (x:UInt64):qC K H (.flt x) (.type "float")
 |lst {a:ah} {xs:List V} (e:H a=aa (.lst xs)):qC K H (.ref a) (.type "list")
 |tW {a:ah} {o:ax} {xs:List V} (e:H a=aa (.tW o (.lst xs))):qC K H (.ref a) (.type "list")
 |tup {a:ah} {xs:List V} (e:H a=aa (.tup xs)):qC K H (.ref a) (.type "tuple")
 |dK {a:ah} {χ:List (Key×V)} (e:H a=aa (.dK χ)):qC K H (.ref a) (.type "dict")
 |dT {a:ah} {χ:List (List Key×V)} (e:H a=aa (.dT χ)):qC K H (.ref a) (.type "dict")
 |ins {a C dx:ah} {fs:List (aj×V)} (e:H a=aa (.ins C dx fs)) (cl:Cls K C) (ha:a0R K (.ref C) "__class__"=aa (aa (.builtin "object.__class__")))
   (hn:PySem.W.specialIn K (.builtin "object.__class__") "__get__"=aa (aa (.builtin "getset_descriptor.__get__"))) (htk:PySem.W.takesIn K (.builtin "object.__class__")=aa ae)
   (hm:PySem.W.mroIn K C (.type "object")=aa ae):qC K H (.ref a) (.ref C)
theorem M8(I:Φ X π σ H s)(rx:Ψ x u)(ty:qC X.K H x t)(e:pz X.K t c=aa b)(h:∀tk,Q (.bool b) {s with toks:=tk}):
  ay (au X.Ω X.w) A (call (.builtin "isinstance") [u,c]) Q E s:=by
 cases ty with
 |non=>cases (show u=kn from rx);show jb PySem.W.kitx_none I.uN ji e (λz=>nomatch z) h
 |bl y=>cases (show u=kg y from rx);show jb PySem.W.kitx_bool I.uN ji e (λz=>nomatch z) h
 |int i=>obtain⟨t,q⟩:=(show ∃t,u=ke i t from rx);cases q;show jb PySem.W.kitx_int I.uN ji e (λz=>nomatch z) h
 |str y=>obtain⟨t,q⟩:=(show ∃t,u=w_ y t from rx);cases q;show jb PySem.W.kitx_str I.uN ji e (λz=>nomatch z) h
 |flt y=>obtain⟨t,q⟩:=(show ∃t,u=a00 y t from rx);cases q;show jb PySem.W.kitx_float I.uN ji e (λz=>nomatch z) h
 | @lst a xs ea =>
  cases (show u=df a from rx);obtain⟨_,_,n,_,h1⟩:=(show cZ X.Ω X.w H s.heap a (.lst xs) from I.hok a _ ea);show jb Du I.uN ⟨_,h1,rfl⟩ e (λz=>nomatch z) h
 | @tW a ob xs ea =>
  cases (show u=df a from rx);obtain⟨_,_,_,n,_,h1⟩:=(show cZ X.Ω X.w H s.heap a (.tW ob (.lst xs)) from I.hok a _ ea);show jb Du I.uN ⟨_,h1,rfl⟩ e (λz=>nomatch z) h
 | @tup a xs ea =>
  cases (show u=df a from rx);obtain⟨_,_,_,p,_⟩:=(show cZ X.Ω X.w H s.heap a (.tup xs) from I.hok a _ ea);obtain⟨o,h1,h2,_⟩:=p;show jb a0N I.uN ⟨o,h1,h2⟩ e (λz=>nomatch z) h
 | @dK a χ ea =>
  cases (show u=df a from rx);obtain⟨_,_,vs,_,p⟩:=(show cZ X.Ω X.w H s.heap a (.dK χ) from I.hok a _ ea);obtain⟨o,es,ep,h1,h2,_⟩:=p;show jb a0O I.uN ⟨o,h1,h2.1⟩ e (λz=>nomatch z) h
 | @dT a χ ea =>
  cases (show u=df a from rx);obtain⟨_,_,xs,_,o,es,ep,h1,h2,_⟩:=(show cZ X.Ω X.w H s.heap a (.dT χ) from I.hok a _ ea);show jb a0O I.uN ⟨o,h1,h2.1⟩ e (λz=>nomatch z) h
 | @ins a C dx fs ea cl ha hn htk hm =>
  cases (show u=df a from rx);obtain⟨mA,O,_⟩:=XW I.hok ea;obtain⟨od,J,_⟩:=O.look;show jb (PySem.W.kitx_own (cl.get _) cl.hd ha hn htk hm) I.uN J e (λz=>nomatch z) h
end
structure gF (k:Nat) (A:bu):Prop where
 hd:A.handled=af
 dp:A.depth+3*k+5<recursionLimit
 un:A.units+16*k+200<cn
def gF.mono(r:gF k A)(h:j<=k):gF j A:=⟨r.hd,by have:=r.dp;lia,by have:=r.un;lia⟩
def gF.deeper(r:gF (k+1) A)(env:d_):gF k (A.deeper env) :=
 ⟨r.hd,by have:=r.dp;show A.depth+1+3*k+5<_;lia,by have:=r.un;show A.units+3+16*k+200<_;lia⟩
def gF.depth(r:gF k A):A.depth<recursionLimit:=by have:=r.dp;lia
def gF.units(r:gF k A):A.units+64<cn:=by have:=r.un;lia
def XX:TA:=λ_ H Q=>Q [] H
def tD(ta:TE)(tr:TA):TA:=λσ H Q=>ta σ H λx H1=>tr σ H1 λxs H2=>Q (x::xs) H2
section
variable{X:Cx}{e:av}{es:List av}{te:TE}{t:TA}{ν:br}
def iN:PA X [] XX:=λ_ _ _ _ H Q I h=>Calls.spliced_nil ⟨[],H,I,.nil,h⟩
def dG(ha:PE X e te)(hr:PA X es t)(hs:Zs X e es:=by rfl):PA X (e::es) (tD te t):=by intro ν π s σ H Q I h;rw[hs];show ay _ _ (spliced ((ag,eval e X.env)::cp ν (ar es X.env))) _ _ s;show Calls.spliced_cons (eQ (ha π s σ H _ I h) λu s1 ⟨x,H1,I1,r1,q1⟩=>?_);show eQ (hr ν π s1 σ H1 _ I1 q1) λus s2 hq5=>by obtain⟨xs,H2,I2,r2,q2⟩:=hq5;show⟨x::xs,H2,I2,.cons r1 r2,q2⟩
def Pd(t:TA):TE:=λσ H Q=>t σ H λxs H1=>xs.length<=bg /\∀p,H1 p=af->Q (.ref p) (upd H1 p (.tup xs))
def Pc(t:TA):TE:=λσ H Q=>t σ H λxs H1=>xs.length<=bg /\∀p,H1 p=af->Q (.ref p) (upd H1 p (.lst xs))
def Yk{x1}(h:PA X es t):PE X (.Tuple es x1 ν) (Pd t):=by intro π s σ H Q I hq;show wpAny_Tuple_spliced (eQ (h ν π s σ H _ I hq) λus s1 ⟨xs,H1,I1,r,z,q⟩=>⟨by rw[<- r.length];show z,?_⟩);have hf:H1 s1.heap.objs.size=af:=I1.hok.fresh (bp _);show⟨.ref s1.heap.objs.size,upd H1 s1.heap.objs.size (.tup xs),I1.laid (t':=s1.toks) (λb u e=>dg _ e) (bp _) ?_,rfl,q _ hf⟩;show⟨z,us,r,⟨_,gf _ rfl,rfl,_,rfl⟩,EN.new _ _⟩
def Yj(h:PA X es t):PE X (.List es ν) (Pc t):=by intro π s σ H Q I hq;show wpAny_List_spliced (eQ (h ν π s σ H _ I hq) λus s1 ⟨xs,H1,I1,r,z,q⟩=>⟨by rw[<- r.length];show z,?_⟩);have hf:H1 s1.heap.objs.size=af:=I1.hok.fresh (bp _);show⟨.ref s1.heap.objs.size,upd H1 s1.heap.objs.size (.lst xs),I1.laid (t':=s1.toks) (λb u e=>dg _ e) (bp _) ?_,rfl,q _ hf⟩;show⟨z,us,0,r,gf _ rfl⟩
end
abbrev Sp:=List V->Hp->VK->XK->Prop
abbrev HU:=List d_->Hp->ak->XK->ai->ak->Prop
structure XY (P:bh) (w:az) (K:ao) (mg:Q0d) (ω:ba) (A:bu) (Γ:List d_) (s:ak) (H:Hp):Prop where
 frames:A.frames=aa Γ
 mod:Mod K mg ω
 bs:∀b o,ω.get? b=aa o->s.heap.get? b=aa o/\H b=af
 RG:ω.objs.size<=s.heap.objs.size
 oR:s.heap.FunFrames ω Γ
 frf:∀b∈frs Γ,H b=af
 hok:n8 P w H s.heap
 bare:ku s.gens
 tab:XH K ω H
def CE(Γ:List d_)(P:bh)(w:az)(H:Hp)(s:ak)(Q:VK)(u:ai)(s':ak):Prop :=
 ∃v H',s'.os=s.os/\ku s'.gens/\Un (frs Γ) [] H H' s.heap s'.heap/\n8 P w H' s'.heap/\Ψ v u/\Q v H'
def CR(CX:HU)(Γ:List d_)(P:bh)(w:az)(H:Hp)(s:ak)(Q:VK)(E:XK)(r:xb)(s':ak):Prop :=
 match r with
 |.ok (.ret u)=>CE Γ P w H s Q u s'
 |.ok _=>False
 |.error e=>CX Γ H s E e s'
structure lA (P:bh) (w:az) (K:ao) (mg:Q0d) (ω:ba) (CX:HU) (k:Nat) (f:ah) (fd:gg) (ps:Q0g) (sp:Sp):Prop where
 len:∀vs H Q E,sp vs H Q E->vs.length=ps.length
 run:∀(A:bu) (Γ:List d_) (s:ak) (H:Hp) (args:Args) (us:Q0f) (vs:List V) (Q:VK) (E:XK),gF k A->XY P w K mg ω A Γ s H->qb s fd args (ps.zip us)->θ vs us->sp vs H Q E ->
  ml (au P w) A (.call (.ref f) args) (CR CX Γ P w H s Q E) s
theorem lA.mono{P:bh}{w:az}{K:ao}{mg:Q0d}{ω:ba}{CX:HU}{j k:Nat}{f:ah}{fd:gg}{ps:Q0g}{sp:Sp}(F:lA P w K mg ω CX j f fd ps sp)(h:j<=k):
  lA P w K mg ω CX k f fd ps sp:=⟨F.len,λA Γ s H args us vs Q E hr=>F.run A Γ s H args us vs Q E (hr.mono h)⟩
section
variable{X:Cx}{π:Q0b}{σ:St}{H:Hp}{s s':ak}
def Φ.env0(I:Φ X π σ H s):XY X.Ω X.w X.K X.mg X.ω X.A X.stack s H :=
 ⟨I.ok.frames,I.ok.mod,I.bs,iq I.ok.RG I.sz,I.stack,I.BZ,I.hok,I.bare,I.tab⟩
def Φ.after(I:Φ X π σ H s)(h:CE X.stack X.Ω X.w H s Q u s'):EP X π σ Q u s':=by obtain⟨v,H',os,bare,un,hok,r,q⟩:=h;obtain⟨hh,g,d,t,os'⟩:=s';obtain rfl:os'=s.os:=os;show⟨v,H',I.call (h':=hh) (g':=g) (d':=d) (t':=t) (ch:=[]) un hok bare (λb z=>Zw z (by simp)),r,q⟩
end
def RV(sp:Sp)(dvs:List V)(E:XK)(t:TA):TE:=λσ H Q=>t σ H λvs H1=>sp (vs++dvs) H1 Q E
def Binds(K:ao)(fd:gg)(ps:Q0g)(ds:Q0f):Prop :=
 ∀(s:ak) (us:Q0f),K.In s.heap->(us++ds).length=ps.length->qb s fd ⟨us,[]⟩ (ps.zip (us++ds))
def Binds.all{K:ao}{fd:gg}{ps:Q0g}(h:∀us:Q0f,us.length=ps.length->bindArgs fd ⟨us,[]⟩=pure (ps.zip us)):Binds K fd ps []:=λs us _ hl=>by rw[gq] at hl ⊢;show .of_eq (h us hl)
def Passes(CX:HU)(X:Cx)(E:XK):Prop:=∀(π:Q0b) (σ:St) (H:Hp) (s:ak) (e:ai) (s':ak),Φ X π σ H s->CX X.stack H s E e s'->X.xe e s'
section
variable{X:Cx}{CX:HU}{k:Nat}{f C:ah}{fd:gg}{ps:Q0g}{sp:Sp}{dvs:List V}{ds:Q0f}{E:XK}{x m:aj}{p ν apos:br}{e o:av}{es:List av}{ta:TE}{t:TA}
theorem Yi(F:lA X.Ω X.w X.K X.mg X.ω CX k f fd ps sp)(hr:gF k X.A)(hb:Binds X.K fd ps ds)(hd:θ dvs ds)(hx:Passes CX X E)
  (I:Φ X π σ H s) (r:θ vs us) (h:sp (vs++dvs) H Q E):ay (au X.Ω X.w) X.A (call (.ref f) us) (EP X π σ Q) X.xe s:=by
 have r2:θ (vs++dvs) (us++ds):=r.append hd;have hl:(us++ds).length=ps.length:=by rw[<- r2.length];show F.len _ _ _ _ h
 show Cy (Dm (F.run X.A X.stack s H ⟨us,[]⟩ (us++ds) (vs++dvs) Q E hr I.env0 (hb s us I.uN hl) r2 h) λr s' hq=>?_)
 cases r with
 |error e=>show hx π σ H s e s' I hq
 |ok fl =>
  cases fl with
  |ret u=>show I.after hq
  |next=>show jq hq
  |brk=>show jq hq
  |cont=>show jq hq
theorem qD(F:lA X.Ω X.w X.K X.mg X.ω CX k f fd ps sp)(hr:gF k X.A)(hg:Gl X x)(hm:X.mg x=aa (.ref f))(hk:keepIn X.K (.ref f)=ae)(hb:Binds X.K fd ps ds)(hd:θ dvs ds)(hx:Passes CX X E)
  (ha:PA X (e::es) t) (hdb:Zu x:=by decide) (he:Zs X e es:=by rfl) (hpl:Q0l X ν es:=by rfl):
  PE X (.Call (.Name x p) (e::es) [] ν) (RV sp dvs E t):=by
 intro π s σ H Q I h;show Dc (uO I hg hm ?_ hdb);show PySem.W.callWith_K (h₀:=X.ω) I.ok.mod.kin hk (eQ (ha ν π s σ H _ I h) λus s1 ⟨vs,H1,I1,r,q⟩=>⟨I1.uN,?_⟩) he hpl;show Yi F hr hb hd hx I1 r q
end
structure hZ (N P:Q0g) (sc:gd):Prop where
 kind:sc.kind=.function
 co:sc.isCoroutine=ag
 gen:sc.isGenerator=ag
 nd:N.Nodup
 pre:N.take P.length=P
 par:∀x∈P,sc.names.lookup x=aa .local\/sc.names.lookup x=aa .cell
 Yh:∀y∈sc.names,y.2≠.free
theorem zX{kindOf:aj->Option jd}{x:aj}:∀{binds:List (aj×ai)} {m:Q0d},(∀v,(x,v)∉binds)->bindL kindOf binds m x=m x
 |[],_,_=>rfl
 | (n,v)::r,m,h=>by
  unfold bindL;rw[zX λw hw=>h w (fq _ hw)];split
  .have:x≠n:=by rintro rfl;show h v cx
   simp[this]
  .rfl
theorem zY{kindOf:aj->Option jd}{x:aj}:∀{binds:List (aj×ai)} {m:Q0d},(∀v,(x,v)∉binds)->bindC kindOf binds m x=m x
 |[],_,_=>rfl
 | (n,v)::r,m,h=>by
  unfold bindC;rw[zY λw hw=>h w (fq _ hw)];split
  .rfl
  .have:x≠n:=by rintro rfl;show h v cx
   simp[this]
theorem zZ{kindOf:aj->Option jd}{x:aj}{v:ai}:∀{P:Q0g} {vs:Q0f} {i:Nat} {m:Q0d},P.Nodup->P[i]?=aa x->vs[i]?=aa v->kindOf x=aa .local ->
  bindL kindOf (P.zip vs) m x=aa v
 |[],_,_,_,_,h,_,_=>by simp at h
 |_::_,[],_,_,_,_,h,_=>by simp at h
 |p::P,w::vs,0,m,nd,h1,h2,hk=>by simp at h1 h2;subst h1;subst h2;show bindL kindOf ((p,w)::P.zip vs) m p=_;unfold bindL;rw[zX λv hv=>(jv.mp nd).1 (yh hv).1,Z_ hk];simp
 |p::P,w::vs,i+1,m,nd,h1,h2,hk=>by show bindL kindOf ((p,w)::P.zip vs) m x=_;unfold bindL;show zZ (i:=i) (jv.mp nd).2 (by simpa using h1) (by simpa using h2) hk
theorem z4{kindOf:aj->Option jd}{x:aj}{v:ai}:∀{P:Q0g} {vs:Q0f} {i:Nat} {m:Q0d},P.Nodup->P[i]?=aa x->vs[i]?=aa v->kindOf x≠aa .local ->
  bindC kindOf (P.zip vs) m x=aa v
 |[],_,_,_,_,h,_,_=>by simp at h
 |_::_,[],_,_,_,_,h,_=>by simp at h
 |p::P,w::vs,0,m,nd,h1,h2,hk=>by simp at h1 h2;subst h1;subst h2;show bindC kindOf ((p,w)::P.zip vs) m p=_;unfold bindC;rw[zY λv hv=>(jv.mp nd).1 (yh hv).1,Zz hk];simp
 |p::P,w::vs,i+1,m,nd,h1,h2,hk=>by show bindC kindOf ((p,w)::P.zip vs) m x=_;unfold bindC;show z4 (i:=i) (jv.mp nd).2 (by simpa using h1) (by simpa using h2) hk
def start(N:Q0g)(vs:List V):St:=vs.map aa++cc (N.length-vs.length) af
def mX(CX:HU)(P:bh)(w:az)(K:ao)(mg:Q0d)(ω:ba)(N:Q0g)(qual:aj)(scope:gd)(f:ah)(cd:ai)(A:bu)(Γ:List d_)(s:ak)(H:Hp)(E:XK):Cx where
 Ω:=P
 w:=w
 K:=K
 mg:=mg
 ω:=ω
 A:=A.deeper (envOfC qual scope s.heap.objs.size f cd)
 N:=N
 s₀:=s
 H₀:=H
 env:=envOfC qual scope s.heap.objs.size f cd
 Γ:=Γ
 stack:=envOfC qual scope s.heap.objs.size f cd::Γ
 ex:=[]
 calm:=ae
 fn:=λ_=>ae
 pn:=[]
 xe:=λe s'=>ay (au P w) (A.deeper (envOfC qual scope s.heap.objs.size f cd)) (leaving (envOfC qual scope s.heap.objs.size f cd) e) (λ_ s''=>CX Γ H s E e s'') (λe' s''=>CX Γ H s E e' s'') s'
def ES{sc:gd}{n:Nat}{x:aj}(h:sc.names.lookup x=aa .cell):∃c,(cellsFrom n sc.names []).lookup x=aa c:=by have q:=a0T sc.names n [] (.inl h);show Option.isSome_iff_exists.mp q
theorem M9{CX:HU}{P:bh}{w:az}{K:ao}{mg:Q0d}{ω:ba}{N ps:Q0g}{qual:aj}{scope:gd}{f:ah}{cd:ai}{A:bu}{Γ:List d_}{s s1:ak}{H:Hp}{E:XK}{us:Q0f}{vs:List V}
  (S:hZ N ps scope) (hd:A.handled=af) (e0:XY P w K mg ω A Γ s H) (hl:vs.length=ps.length) (r:θ vs us)
  (x:InCallC s s.heap.objs.size (bindL (envOfC qual scope s.heap.objs.size f cd).kindOf (ps.zip us) λ_=>af) (cellsFrom (s.heap.objs.size+1) scope.names []) (bindC (envOfC qual scope s.heap.objs.size f cd).kindOf (ps.zip us) λ_=>af) s1):
  Φ (mX CX P w K mg ω N qual scope f cd A Γ s H E) [] (start N vs) H s1:=by
 have hpl:ps.length<=N.length:=by have:=congrArg sr S.pre;rw[ig] at this;lia
 obtain⟨h1,tk,rfl,hk⟩:=x.done;have noA:∀b:ah,b∉(mX CX P w K mg ω N qual scope f cd A Γ s H E).ex:=λb z=>Zw (show b∈([]:List ah) from z) (by simp);show⟨⟨e0.mod,S.kind,rfl,rfl,bp _,λy z c h1 h2=>?_,λy hy=>?_,λy c _ h=>?_,λ_=>hd,Around.frames_deeper e0.frames,.inr ⟨rfl,rfl⟩,λb z=>Zw z (noA b),e0.bs,e0.RG,λb _ _=>noA b,λb z=>Zw z (noA b),e0.oR,e0.frf,e0.tab⟩,
  rfl,e0.bare,Un.kept hk,⟨_,x.toInCall.ns,λi y v h1 h2 h3=>?_⟩,λy c h=>⟨_,x.cell y c h⟩,e0.hok.fresh (bp _),λy c h=>?_,λp hp=>Zw (show p∈([]:Q0b) from hp) (by simp),e0.hok.kept hk,?_⟩
 .exact a0A x.apart (km h1) (km h2)
 .have hy:scope.names.lookup y=aa .cell\/scope.names.lookup y=aa .free:=hy;rcases hy with hy|hy
  .exact ES hy
  .exact Zw rfl (S.Yh _ (km hy))
 .exact ll (x.above y c (km h))
 .have hi:i<vs.length:=by
   unfold start at h2;by_cases hi:i<vs.length
   .exact hi
   .rw [jz (by simpa using hi)] at h2;rw[jg] at h2;split at h2<;>cases h2
  have ha:vs[i]?=aa v:=by
   unfold start at h2;rw[j_ (by simpa using hi),dj] at h2
   cases e:vs[i]? with
   |none=>rw[e] at h2;cases h2
   |some a=>rw[e] at h2;cases h2;rfl
  obtain⟨u,hu,rv⟩:=r.get ha;have hp:ps[i]?=aa y:=by rw[<- S.pre,F_ ∅];show h1
  have ndP:ps.Nodup:=by rw[<- S.pre];show S.nd.sublist (a19 _ _)
  show⟨u,rv,?_⟩;rcases S.par y (qi hp) with k|k
  .exact .inl ⟨k,zZ ndP hp hu k⟩
  .obtain ⟨c,e⟩:=ES (n:=s.heap.objs.size+1) k;show .inr ⟨.inl k,c,e,?_⟩;have q:=x.cell y c e;rw[z4 ndP hp hu (by show scope.names.lookup y≠_;rw[k];decide)] at q;show q
 .exact e0.hok.fresh (ll (x.above y c (km h)))
 .unfold start;show _=N.length;rw[dm,bj,jw];lia
theorem Br{CX:HU}{P:bh}{w:az}{K:ao}{mg:Q0d}{ω:ba}{k:Nat}{f:ah}{name qual:aj}{params:Arguments}{body:List cf}{scope:gd}{dV kV doc pm cdv ct oc:ai}{an od:Option ah}
  {osl:Array (Option ai)} {N ps:Q0g} {sp:Sp} (lk:K.lookup f=aa ⟨oc,od,.func (fnOf name qual params body scope dV kV doc pm an cdv ct),osl⟩) (hcd:codeIn K cdv qual=ae) (S:hZ N ps scope)
  (len:∀vs H Q E,sp vs H Q E->vs.length=ps.length)
  (hbody:∀(A:bu) (Γ:List d_) (s:ak) (H:Hp) (vs:List V) (Q:VK) (E:XK),gF k (A.deeper (envOfC qual scope s.heap.objs.size f cdv))->sp vs H Q E ->
   ∃t,zU (mX CX P w K mg ω N qual scope f cdv A Γ s H E) body t/\t {nx:=λ_ H'=>Q .non H',rt:=Q} (start N vs) H):
  lA P w K mg ω CX (k+1) f (fnOf name qual params body scope dV kV doc pm an cdv ct) ps sp:=by
 show⟨len,λA Γ s H args us vs Q E hr e0 hb r hsp=>?_⟩;have hl:=len _ _ _ _ hsp;have KX:K.In s.heap:=e0.mod.kin.keeps λb o e=>(e0.bs b o e).1;have lim:s.heap.NoLimit:=e0.mod.nolimit.keeps λb o e=>(e0.bs b o e).1;have hkind:∀y∈ps.zip us,scope.names.lookup y.1=aa .local\/(scope.names.lookup y.1=aa .cell/\((cellsFrom (s.heap.objs.size+1) scope.names []).lookup y.1).isSome=ae):=λ⟨n,v⟩ hy=>by
  rcases S.par n (yh hy).1 with q|q
  .exact .inl q
  .exact .inr ⟨q,a0T _ _ _ (.inl q)⟩
 show codeAny_call_function hr.depth (KX _ _ lk) rfl S.co S.gen rfl (PySem.W.codeRec_of KX hcd) (hb _ _ _ _ ?_);show wpAny_newFunctionEnv_cells S.kind hkind λenv he s1 x=>?_;subst he;show⟨lim.keeps x.toInCall.keep,codeAny_func ?_⟩;obtain⟨t,ht,hq⟩:=hbody A Γ s H vs Q E (hr.deeper _) hsp;have I:Φ (mX CX P w K mg ω N qual scope f cdv A Γ s H E) [] (start N vs) H s1:=M9 S hr.hd e0 hl r x;show ja (ht [] s1 (start N vs) H _ I hq) (λfl s' hs=>?_) λe s' hs=>hs;have fin:∀{σ':St} {H':Hp} {v:V} {u:ai},Φ (mX CX P w K mg ω N qual scope f cdv A Γ s H E) [] σ' H' s'->Ψ v u->Q v H'->CE Γ P w H s Q u s' :=
  λ{σ' H' v u} J rv q=>⟨v,H',J.os,J.bare,J.ω,J.hok,rv,q⟩
 cases fl with
 |ret u =>
  obtain⟨v,σ',H',J,rv,q⟩:=hs;show fin J rv q
 |next =>
  obtain⟨σ',H',J,q⟩:=hs;show fin (v:=V.non) (u:=kn) J rfl q
 |brk =>
  obtain⟨_,_,_,q⟩:=hs;show jq q
 |cont =>
  obtain⟨_,_,_,q⟩:=hs;show jq q
section
variable{X:Cx}{x:aj}{p ν:br}{e:av}{es:List av}{t:TA}{id T:String}{r:List V->Hp->VK->Prop}
def qv(r:List V->Hp->VK->Prop)(t:TA):TE:=λσ H Q=>t σ H λvs H1=>r vs H1 Q
def iY(hc:gM X (.builtin id) r)(hg:Gl X x)(hm:X.mg x=af)(hv:bootBuiltins x=aa (.builtin id))(ha:PA X (e::es) t)(hn:x ≠ "__name__":=by decide)(hdb:Zu x:=by decide)
  (he:Zs X e es:=by rfl) (hpl:Q0l X ν es:=by rfl):PE X (.Call (.Name x p) (e::es) [] ν) (qv r t):=by
 intro π s σ H Q I h;show Dc (rO I hg hm hv ?_ hn hdb);show a3L (eQ (ha ν π s σ H _ I h) λus s1 ⟨vs,H1,I1,r1,q1⟩=>hc π s1 σ H1 vs us Q I1 r1 q1) he hpl
def rP(hc:gM X (.type T) r)(hg:Gl X x)(hm:X.mg x=af)(hv:bootBuiltins x=aa (.type T))(ha:PA X (e::es) t)(hn:x ≠ "__name__":=by decide)(hdb:Zu x:=by decide)
  (he:Zs X e es:=by rfl) (hpl:Q0l X ν es:=by rfl):PE X (.Call (.Name x p) (e::es) [] ν) (qv r t):=by
 intro π s σ H Q I h;show Dc (rO I hg hm hv ?_ hn hdb);show xt (eQ (ha ν π s σ H _ I h) λus s1 ⟨vs,H1,I1,r1,q1⟩=>hc π s1 σ H1 vs us Q I1 r1 q1) he hpl
end
end L2
namespace HT
open PyProof.Rows
section
open PySem.SeqAt

open PySem.MeetsSeq PySem.MeetsSeq2 PySem.MeetsSeq3
end
section
variable{Ω:bh}{w:az}{A:bu}{E:Q0c}{s:ak}
theorem XZ(ht:gi s.heap t vs.toArray)(hb:gi s.heap b ws.toArray)(hv:vs≠[])
  (h1:ws=[]->Q (.ref t) s) (h2:ws≠[]->Q (.ref s.heap.objs.size) {s with heap:=s.heap.push {cls:=.type "tuple",data:=.seq (vs++ws).toArray} })
  (hsz:vs.length+ws.length<=bg):ay (au Ω w) A (binaryOp .Add (.ref t) (.ref b)) Q E s:=by
 obtain⟨⟨cls,dd,data,sl⟩,ho,hc,n,hd⟩:=id ht;obtain⟨⟨cls2,dd2,data2,sl2⟩,ho2,hc2,n2,hd2⟩:=id hb;simp only at hc hd hc2 hd2;subst hc hd hc2 hd2;have e:vs.toArray++ws.toArray=(vs++ws).toArray:=by simp
 by_cases hw:ws=[]
 .exact Dl ⟨_,ho,rfl⟩ ⟨_,ho2,rfl⟩ Dk De Eb Ed (Ee _ _)
   (tuple_addW1 t b vs.toArray ws.toArray n n2 dd dd2 sl sl2 (by simpa using hv) (by simp[hw])) ⟨ho,ho2,h1 hw⟩
 .refine Dl ⟨_,ho,rfl⟩ ⟨_,ho2,rfl⟩ Dk De Eb Ed (Ee _ _)
   (tuple_addW2 t b vs.toArray ws.toArray n n2 dd dd2 sl sl2 (by simpa using hv) (by simpa using hw) (by rw[ck,ck];show hsz)) ⟨ho,ho2,?_⟩
  rw[e];show h2 hw
noncomputable def gY(n d:Nat):Option Int->Nat
 |none=>d
 |some v=>if v<0 then(v+(n:Int)).toNat else min v.toNat n
theorem Yg(n d:Nat)(hd:d<=n)(o:Option Int):gY n d o<=n:=by
 cases o with
 |none=>show hd
 |some v =>
  show(if v<0 then(v+(n:Int)).toNat else min v.toNat n)<=n;by_cases hv:v<0
  .rw [Z_ hv];lia
  .rw [Zz hv];show Nat.min_le_right _ _
def K8(v:Int)(n d:Nat):(if v<0 then max (v+(n:Int)) 0 else min v (n:Int))=((gY n d (aa v):Nat):Int):=by
 show(if v<0 then max (v+(n:Int)) 0 else min v (n:Int))=(((if v<0 then(v+(n:Int)).toNat else min v.toNat n):Nat):Int);by_cases hv:v<0
 .simp only[Z_ hv];lia
 .simp only[Zz hv];lia
def HV(lo hi:Option Int)(n:Nat):Ei lo hi 1 (n:Int)=(((gY n 0 lo:Nat):Int),((gY n n hi:Nat):Int)):=by
 have h1:¬ ((1:Int)<0):=by lia
 unfold Ei;simp only[h1,if_false];show a1P ?_ ?_
 .cases lo with
  |none=>rfl
  |some v=>show K8 v n 0
 .cases hi with
  |none=>rfl
  |some v=>show K8 v n n
def HW(i j:Nat):xm (i:Int) (j:Int) 1=j-i:=by
 unfold xm;have h1:(1:Int)>0:=by lia
 simp only[h1,if_true,Int.ediv_one];split<;>lia
theorem wH(p:kq v o)(h:Q o s):ay (au Ω w) A (a3D v) Q E s:=by
 cases p with
 |none=>show a1F h
 |int i t=>show slicePart_int h
theorem lB{sl:ah}{vl vu:ai}{lo hi:Option Int}{n:Nat}{Q:Int×Int×Nat->ak->Prop}(hs:s.heap.IsSliceOf sl vl vu .none)(pl:kq vl lo)(pu:kq vu hi)
  (h:Q (((gY n 0 lo:Nat):Int),1,gY n n hi-gY n 0 lo) s):ay (au Ω w) A (a1w (.ref sl) (pure (n:Int))) Q E s:=by
 obtain⟨os,hos,hcs,hds⟩:=id hs;unfold a1w a3E;show aq (aq (mj hos hds (x:=vl) rfl (aq (mj hos hds (x:=vu) rfl (aq (mj hos hds (x:=.none) rfl (a_ ?_)))))));show aq (a1F ?_);show ay _ _ (if((1:Int) == 0)=ae then _ else _) _ _ s;rw[Zz (by decide)];show aq (wH pl (aq (wH pu (aq (a_ ?_)))));show ay _ _ (match Ei lo hi 1 (n:Int) with|(lo,hi)=>pure (lo,(1:Int),xm lo hi 1)) _ _ s;rw[HV lo hi n];show ay _ _ (pure (((gY n 0 lo:Nat):Int),(1:Int),xm ((gY n 0 lo:Nat):Int) ((gY n n hi:Nat):Int) 1)) _ _ s;rw[HW];show a_ h
def RW(xs:Array ai)(i k:Nat):((de k).filterMap λ(m:Nat)=>xs[((i:Int)+(m:Int)*1).toNat]?).toArray=((xs.toList.drop i).take k).toArray:=by
 have e:(λ(m:Nat)=>xs[((i:Int)+(m:Int)*1).toNat]?)=λm=>xs[i+m]?:=by
  funext m
  have:((i:Int)+(m:Int)*1).toNat=i+m:=by lia
  rw[this]
 rw[e];have:=pick_run xs i k;rw[List.filterMap_map] at this;have e2:((λx=>xs[x]?)∘λx=>i+x)=λm=>xs[i+m]?:=rfl;rw[e2] at this;rw[this]
theorem qE{t sl:ah}{items:Array ai}{vl vu:ai}{lo hi:Option Int}{Q:Q0c}(ht:gi s.heap t items)(hs:s.heap.IsSliceOf sl vl vu .none)(pl:kq vl lo)(pu:kq vu hi)
  (hw:¬ (gY items.size 0 lo=0/\gY items.size items.size hi=items.size))
  (h:Q (.ref s.heap.objs.size) {s with heap:=s.heap.push {cls:=.type "tuple",data:=.seq ((items.toList.drop (gY items.size 0 lo)).take (gY items.size items.size hi-gY items.size 0 lo)).toArray} })
  (hsz:items.size<=bg):ay (au Ω w) A (getItem (.ref t) (.ref sl)) Q E s:=by
 have K9:sizeOk (.seq ((items.toList.drop (gY items.size 0 lo)).take (gY items.size items.size hi-gY items.size 0 lo)).toArray):=by show((items.toList.drop (gY items.size 0 lo)).take (gY items.size items.size hi-gY items.size 0 lo)).toArray.size<=bg;rw[ck,ig,mz,gk];lia
 have hj:gY items.size items.size hi<=items.size:=Yg _ _ (bp _) hi;obtain⟨os,hos,hcs,hds⟩:=id hs;have Hv:s.TypeIs (.ref sl) "slice":=⟨os,hos,hcs⟩;unfold getItem
 try with_reducible show h_ ?_
 first|show aq (a_ ?_)|skip
 show aq (a0h ht.typeIs (by decide) ?_);show aq (wu (name:=Str.ofString "__getitem__") ht.typeIs oh
  (lg oh ht.typeIs a1K ?_ (a1O _ _)))
 show ay _ _ (Eh (.ref t) >>= _) _ _ s;show aq (a1y ht ?_);show aq (wg Hv ?_);rw[Z_ (by decide)];show aq (lB hs pl pu ?_);have hno:¬ ((((gY items.size 0 lo:Nat):Int) == 0&&(1:Int) == 1&&(gY items.size items.size hi-gY items.size 0 lo) == items.size)=ae):=by intro q;rw[ij,ij] at q;have q1:((gY items.size 0 lo:Nat):Int)=0:=eq_of_beq q.1.1;have q2:gY items.size items.size hi-gY items.size 0 lo=items.size:=eq_of_beq q.2;show hw ⟨by lia,by lia⟩
 show ay _ _ (if(((gY items.size 0 lo:Nat):Int) == 0&&(1:Int) == 1&&(gY items.size items.size hi-gY items.size 0 lo) == items.size)=ae then _ else _) _ _ s;rw[Zz hno,RW]
 first
  |show aq (m:=xl _) (nq (a_ ⟨_,rfl,a_ h⟩) K9)
  |show aq (m:=xl _) (nq (aq (a_ (a_ ⟨_,rfl,a_ h⟩))) K9)
  |show aq (aq (m:=xl _) (nq (a_ (a_ ⟨_,rfl,a_ h⟩)) K9))
  |show aq (aq (m:=xl _) (nq (a_ ⟨_,rfl,a_ h⟩) K9))
end
end HT
namespace L2
open PySem.Spec PyProof.Rows
abbrev TO:=St->Hp->(Option Int->Hp->Prop)->Prop
def PO(X:Cx)(e:Option av)(t:TO):Prop :=
 ∀(π:Q0b) (s:ak) (σ:St) (H:Hp) (Q:Option Int->Hp->Prop),Φ X π σ H s->t σ H Q ->
  ay (au X.Ω X.w) X.A (evalPart e X.env) (λu s'=>∃o H',Φ X π σ H' s'/\kq u o/\Q o H') X.xe s
def X0:TO:=λ_ H Q=>Q af H
def U_(t:TE):TO:=λσ H Q=>t σ H λx H1=>∃i,x=.int i/\Q (aa i) H1
theorem intsAre_of:∀{us:Q0f},θ (ns.map V.int) us->gu us ns:=by
 induction ns with
 |nil=>intro us r;rw[ki] at r;cases r;show .nil
 |cons n ns ih =>
  intro us r;rw[bt] at r
  cases r with
  |cons r1 r2 =>
   obtain⟨t,e⟩:=r1;subst e;show .cons n t (ih r2)
section
variable{X:Cx}{e:av}{te:TE}{lo hi:Option av}{tl th:TO}{ν p2:br}
def X1:PO X af X0:=by intro π s σ H Q I h;rw[a0E];show a_ ⟨af,H,I,.none,h⟩
def X2(h:PE X e te):PO X (aa e) (U_ te):=by intro π s σ H Q I hw;rw[evalPart_some];show eQ (h π s σ H _ I hw) λu s1 hq6=>?_;obtain⟨x,H1,I1,r1,q1⟩:=hq6;obtain⟨i,rfl,q⟩:=q1;obtain⟨t,rfl⟩:=r1;show⟨aa i,H1,I1,.int i t,q⟩
def SlR(X:Cx)(r:V->Option Int->Option Int->Hp->VK->Prop):Prop :=
 ∀(π:Q0b) (s:ak) (σ:St) (H:Hp) (x:V) (v vl vu:ai) (lo hi:Option Int) (sl:ah) (Q:VK),Φ X π σ H s->Ψ x v->s.heap.IsSliceOf sl vl vu .none->kq vl lo->kq vu hi->r x lo hi H Q ->
  ∃T id,typeLookup (.type T) "__getitem__"=pure (aa (.builtin id))/\s.TypeIs v T/\ay (au X.Ω X.w) X.A (getItem v (.ref sl)) (EP X π σ Q) X.xe s
def SlR.or(h:SlR X r)(h':SlR X r'):SlR X (λx lo hi H Q=>r x lo hi H Q\/r' x lo hi H Q):=by
 intro π s σ H x v vl vu lo hi sl Q I rx hs pl pu q;rcases q with q|q
 .exact h π s σ H x v vl vu lo hi sl Q I rx hs pl pu q
 .exact h' π s σ H x v vl vu lo hi sl Q I rx hs pl pu q
def Ha(r:V->Option Int->Option Int->Hp->VK->Prop)(te:TE)(tl th:TO):TE:=λσ H Q=>te σ H λx H1=>tl σ H1 λl H2=>th σ H2 λu H3=>r x l u H3 Q
def RX(hr:SlR X r)(he:PE X e te)(hl:PO X lo tl)(hu:PO X hi th):PE X (.Subscript e (.Slice lo hi af p2) ν) (Ha r te tl th):=by intro π s σ H Q I h;show Ex (eQ (he π s σ H _ I h) λv s1 ⟨x,H1,I1,r1,q1⟩=>?_);show wpAny_Slice (eQ (hl π s1 σ H1 _ I1 q1) λvl s2 ⟨l,H2,I2,pl,q2⟩=>eQ (hu π s2 σ H2 _ I2 q2) λvu s3 ⟨u,H3,I3,pu,q3⟩=>?_);rw[a0E];show a_ ?_;have I4:Φ X π σ H3 {s3 with heap:=s3.heap.push {cls:=.type "slice",data:=.fields #[vl,vu,.none]} }:=I3.kept (t':=s3.toks) λb ob q=>dg _ q;obtain⟨T,id,hT,ht,hg⟩:=hr π {s3 with heap:=s3.heap.push {cls:=.type "slice",data:=.fields #[vl,vu,.none]} } σ H3 x v vl vu l u s3.heap.objs.size Q I4 r1 (a3b ..) pl pu q3;show ay (au X.Ω X.w) X.A (subscriptTail e (.Slice lo hi af p2) v (.ref s3.heap.objs.size)) (EP X π σ Q) X.xe {s3 with heap:=s3.heap.push {cls:=.type "slice",data:=.fields #[vl,vu,.none]} };show tail_any (ops:=[.ref s3.heap.objs.size,v]) ht hT hg (by with_unfolding_all rfl)
def ET(xs:List V)(lo hi:Option Int):List V:=(xs.drop (HT.gY xs.length 0 lo)).take (HT.gY xs.length xs.length hi-HT.gY xs.length 0 lo)
def tE(xs:List V)(lo hi:Option Int):(ET xs lo hi).length<=xs.length:=by unfold ET;rw[ig,mz];lia
def Pb(K:ao):V->Option Int->Option Int->Hp->VK->Prop:=λx lo hi H Q=>∃a xs,x=.ref a/\fX K H a xs /\
 ¬ (HT.gY xs.length 0 lo=0/\HT.gY xs.length xs.length hi=xs.length) /\∀p,H p=af->Q (.ref p) (upd H p (.tup (ET xs lo hi)))
def Yf:SlR X (Pb X.K):=by
 intro π s σ H x v vl vu lo hi sl Q I rx hs pl pu h;obtain⟨a,xs,rfl,hx,hw,q⟩:=h;cases rx;obtain⟨ι,r,ht,hz⟩:=I.tuple hx;have hlen:ι.toArray.size=xs.length:=by rw[ck];show r.length.symm
 show⟨"tuple",_,oh.lookup,ht.typeIs,?_⟩;show HT.qE ht hs pl pu (by rw[hlen];show hw) ?_ (by rw[hlen];show hz);rw[hlen];show⟨.ref s.heap.objs.size,_,I.laid (t':=s.toks) (o:=.tup (ET xs lo hi)) (λb ob q=>dg _ q) (bp _) ?_,rfl,q _ (I.hok.fresh (bp _))⟩;show⟨iq (tE xs lo hi) hz,_,(r.drop (HT.gY xs.length 0 lo)).take (HT.gY xs.length xs.length hi-HT.gY xs.length 0 lo),Ey _ _,EN.new _ _⟩
def Uz(K:ao):R2:=λx y H Q=>∃a b xs ys,x=.ref a/\y=.ref b/\fX K H a xs/\fX K H b ys/\xs≠[]/\xs.length+ys.length<=bg /\
 (ys=[]->Q (.ref a) H)/\(ys≠[] ->∀p,H p=af->Q (.ref p) (upd H p (.tup (xs++ys))))
theorem θ.B3(r:θ xs us):us=[]↔xs=[]:=by
 cases r with
 |nil=>simp
 |cons _ _=>simp
def X3:i9 X (binaryOp .Add) (Uz X.K):=by intro π s σ H x y v u Q I rx ry h;obtain⟨a,b,xs,ys,rfl,rfl,ha,hb,hx,hz,q1,q2⟩:=h;cases rx;cases ry;obtain⟨ι,r1,p1,_⟩:=I.tuple ha;obtain⟨its2,r2,p2,_⟩:=I.tuple hb;show HT.XZ p1 p2 (λz=>hx (r1.B3.mp z)) (λz=>⟨.ref a,H,I,rfl,q1 (r2.B3.mp z)⟩) (λz=>?_) (by rw[<- r1.length,<- r2.length];show hz);show⟨.ref s.heap.objs.size,_,I.laid (t':=s.toks) (o:=.tup (xs++ys)) (λb ob q=>dg _ q) (bp _) ?_,rfl,q2 (λw=>z (r2.B3.mpr w)) _ (I.hok.fresh (bp _))⟩;show⟨by rw[dm];show hz,_,r1.append r2,Ey _ _,EN.new _ _⟩
end
def NA(n:Nat)(i:Int):Option Nat:=if 0<=i then(if i<n then aa i.toNat else af) else if -(n:Int)<=i then aa (i+n).toNat else af
def tZ{α:Type}(xs:List α)(i:Int):Option α:=(NA xs.length i).bind λj=>xs[j]?
def B4(h:NA n i=aa j):seqIndex? i n=aa j/\j<n /\ -(n:Int)<=i/\i<n:=by
 unfold NA at h;by_cases h0:0<=i
 .rw [Z_ h0] at h;by_cases h1:i<n
  .rw [Z_ h1] at h;have e:i.toNat=j:=fg h;show⟨by rw[Dg h0 h1,e],by lia,by lia,h1⟩
  .rw [Zz h1] at h;cases h
 .rw [Zz h0] at h;by_cases h1:-(n:Int)<=i
  .rw [Z_ h1] at h;have e:(i+n).toNat=j:=fg h;show⟨by rw[Dh ∅ h1,e],by lia,h1,by lia⟩
  .rw [Zz h1] at h;cases h
theorem LA{α:Type}{xs:List α}{i:Int}{v:α}(h:tZ xs i=aa v):∃j,seqIndex? i xs.length=aa j/\xs[j]?=aa v/\j<xs.length /\ -(xs.length:Int)<=i/\i<xs.length:=by
 unfold tZ at h
 cases e:NA xs.length i with
 |none=>rw[e] at h;cases h
 |some j =>
  rw[e] at h;obtain⟨h1,h2,h3,h4⟩:=B4 e;show⟨j,h1,h,h2,h3,h4⟩
def B5(b:av):Prop:=∀o i,subscripted b ag o i=operate [o,i] (getItem o i)
def IxR(X:Cx)(r:R2):Prop :=
 ∀(value slice:av) (π:Q0b) (s:ak) (σ:St) (H:Hp) (x y:V) (v u:ai) (Q:VK),Φ X π σ H s->Ψ x v->Ψ y u->r x y H Q ->
  subscripted slice ag v u=operate [v,u] (getItem v u)->ay (au X.Ω X.w) X.A (subscriptTail value slice v u) (EP X π σ Q) X.xe s
def MtR(X:Cx)(id:String)(r:V->List V->Hp->VK->Prop):Prop :=
 ∀(π:Q0b) (s:ak) (σ:St) (H:Hp) (x:V) (xs:List V) (v:ai) (us:Q0f) (Q:VK),Φ X π σ H s->Ψ x v->θ xs us->r x xs H Q ->
  ay (au X.Ω X.w) X.A (call (.builtin id) (v::us)) (EP X π σ Q) X.xe s
section
variable{X:Cx}{a b:av}{ta tb:TE}{ν:br}
def IxR.or(h:IxR X r)(h':IxR X r'):IxR X (λx y H Q=>r x y H Q\/r' x y H Q):=by
 intro value slice π s σ H x y v u Q I rx ry q hs;rcases q with q|q
 .exact h value slice π s σ H x y v u Q I rx ry q hs
 .exact h' value slice π s σ H x y v u Q I rx ry q hs
def Uy(hr:IxR X r)(ha:PE X a ta)(hb:PE X b tb)(hs:B5 b):PE X (.Subscript a b ν) (pk r ta tb):=by intro π s σ H Q I h;show Ex (vt ha hb I h λv u s2 x y H2 I2 rx ry q=>hr a b π s2 σ H2 x y v u Q I2 rx ry q (hs _ _))
def Ad(K:ao):R2:=λx y H Q=>∃p xs i v,x=.ref p/\y=.int i/\fP K H p xs/\tZ xs i=aa v/\Q v H
def Ac(K:ao):R2:=λx y H Q=>∃p xs i v,x=.ref p/\y=.int i/\fX K H p xs/\tZ xs i=aa v/\Q v H
def X4:IxR X (Ad X.K):=by
 intro value slice π s σ H x y v u Q I rx ry h hs;obtain⟨p,xs,i,z,rfl,rfl,hq,he,q⟩:=h;cases rx;obtain⟨t,rfl⟩:=ry;obtain⟨ι,r,pl,hz⟩:=I.list hq;obtain⟨j,h1,h2,h3,h4,h5⟩:=LA he;obtain⟨w,ew,HX⟩:=r.get h2;have hl:=r.length;have hn:=wF;have fin:EP X π σ Q w s:=⟨z,H,I,HX,q⟩;by_cases h0:0<=i
 .have hj:i.toNat=j:=by rw[Dg h0 h5] at h1;show fg h1
  show item_listR pl.isList h0 ∅ (by rw[hj];simpa using ew) fin hs
 .have hj:(i+(ι.toArray.size:Int)).toNat=j:=by rw[Dh ∅ h4] at h1;rw[ck,<- hl];show fg h1
  show a1A (x:=w) pl.isList.typeIs a0v.lookup
   (wpAny_getItem_list_neg (Q:=λr s'=>r=w/\EP X π σ Q r s') pl.isList ∅ (by rw[ck]<;>lia) ∅ (by rw[hj];simpa using ew) ⟨rfl,fin⟩) hs
def Xy:IxR X (Ac X.K):=by
 intro value slice π s σ H x y v u Q I rx ry h hs;obtain⟨p,xs,i,z,rfl,rfl,hq,he,q⟩:=h;cases rx;obtain⟨t,rfl⟩:=ry;obtain⟨ι,r,pl,hz⟩:=I.tuple hq;obtain⟨j,h1,h2,h3,h4,h5⟩:=LA he;obtain⟨w,ew,HX⟩:=r.get h2;have hl:=r.length;have hn:=wF;have fin:EP X π σ Q w s:=⟨z,H,I,HX,q⟩;show a1A (x:=w) pl.typeIs oh.lookup
  (getItem_tuple (j:=j) (Q:=λr s'=>r=w/\EP X π σ Q r s') pl ∅ ∅ (by rw[ck,<- hl];show h1) (by simpa using ew) ⟨rfl,fin⟩) hs
def HY(ι:Q0f)(n j:Nat)(u:ai):jl (·.setIfInBounds j u) {cls:=.type "list",data:=.seq ι.toArray n}={cls:=.type "list",data:=.seq (ι.set j u).toArray n}:=by simp[jl]
theorem Φ.lst{π:Q0b}{σ:St}{H:Hp}{s:ak}{p:ah}{xs:List V}(I:Φ X π σ H s)(h:H p=aa (.lst xs)):
  ∃(ι:Q0f) (n:Nat),θ xs ι/\s.heap.get? p=aa {cls:=.type "list",data:=.seq ι.toArray n}/\xs.length<=bg:=by
 obtain⟨z,ι,n,r,e⟩:=I.hok p _ h;show⟨ι,n,r,e,z⟩
theorem Φ.Xx{π:Q0b}{σ:St}{H:Hp}{s:ak}{p:ah}{xs ys:List V}{ι its':Q0f}{n n':Nat}{f:ax->ax}(I:Φ X π σ H s)(h:H p=aa (.lst xs))
  (ho:s.heap.get? p=aa {cls:=.type "list",data:=.seq ι.toArray n}) (hf:f {cls:=.type "list",data:=.seq ι.toArray n}={cls:=.type "list",data:=.seq its'.toArray n' }) (r:θ ys its') (hz:ys.length<=bg) (t:Nat):
  Φ X π σ (upd H p (.lst ys)) {s with heap:=s.heap.update p f,toks:=t}:=by
 have e:(s.heap.update p f).get? p=aa {cls:=.type "list",data:=.seq its'.toArray n' }:=by rw[xh f ho (by rw[hf]<;>rfl),hf]
 show I.write (x:=p) (e:=p) (by rw[h];trivial) (.inl rfl) (λb u hb q=>(D_ _ _ (fj hb)).trans q) ⟨_,e⟩ ?_;show⟨hz,its',n',r,e⟩
def Ux:V->V->V->Hp->(Hp->Prop)->Prop:=λo i v H Q=>∃p xs k j,o=.ref p/\i=.int k/\H p=aa (.lst xs)/\NA xs.length k=aa j/\Q (upd H p (.lst (xs.set j v)))
def set_list:Ah X Ux:=by
 intro π s σ H o i v ov iv u Q I ro ri rv h;obtain⟨p,xs,k,j,rfl,rfl,hp,hj,q⟩:=h;cases ro;obtain⟨t,rfl⟩:=ri;obtain⟨ι,n,r,ho,hz⟩:=I.lst hp;obtain⟨h1,h2,h3,h4⟩:=B4 hj;have hl:=r.length;have hn:=wF;have I':Φ X π σ (upd H p (.lst (xs.set j v))) {s with heap:=s.heap.update p (jl (·.setIfInBounds j u))} :=
  I.Xx hp ho (HY ι n j u) (r.set rv j) (by rw[gb];show hz) s.toks
 by_cases h0:0<=k
 .have hk:k.toNat=j:=by rw[Dg h0 h4] at h1;show fg h1
  show PySem.W.ki_setAt ho h0 ∅ (by rw[ck,<- hl];show h4) (by rw[hk];show⟨_,I',q⟩)
 .have hk:(k+(ι.toArray.size:Int)).toNat=j:=by rw[Dh ∅ h3] at h1;rw[ck,<- hl];show fg h1
  show PySem.W.ki_setBack ho ∅ (by rw[ck,<- hl];show h3) ∅ (by rw[hk];show⟨_,I',q⟩)
def B6(lo hi:Option Int)(n:Nat):(sliceBounds lo hi af n).1=((HT.gY n 0 lo:Nat):Int)/\(sliceBounds lo hi af n).2.1=((HT.gY n n hi:Nat):Int)/\(sliceBounds lo hi af n).2.2=1:=by
 show⟨?_,?_,rfl⟩
 .cases lo with
  |none=>simp[sliceBounds,HT.gY]
  |some i =>
   simp only[sliceBounds,HT.gY,a1R,show(1:Int)>0 by decide,if_true];by_cases h:i<0
   .simp only[h,if_true]<;>lia
   .simp only[h,if_false]<;>lia
 .cases hi with
  |none=>simp[sliceBounds,HT.gY]
  |some i =>
   simp only[sliceBounds,HT.gY,a1R,show(1:Int)>0 by decide,if_true];by_cases h:i<0
   .simp only[h,if_true]<;>lia
   .simp only[h,if_false]<;>lia
def yJ(ι:Q0f)(lo hi:Option Int):slicePick ι.toArray lo hi af=((ι.drop (HT.gY ι.length 0 lo)).take (HT.gY ι.length ι.length hi-HT.gY ι.length 0 lo)).toArray:=by obtain⟨h1,h2,h3⟩:=B6 lo hi ι.toArray.size;unfold slicePick;rw[h1,h2,h3];simp only[sliceRange_one,pick_run,ck]<;>rfl
def Pa(K:ao):V->Option Int->Option Int->Hp->VK->Prop:=λx lo hi H Q=>∃a xs,x=.ref a/\fP K H a xs /\∀p,H p=af->Q (.ref p) (upd H p (.lst (ET xs lo hi)))
theorem X5:SlR X (Pa X.K):=by intro π s σ H x v vl vu lo hi sl Q I rx hs pl pu h;obtain⟨a,xs,rfl,hx,q⟩:=h;cases rx;obtain⟨ι,r,ht,hz⟩:=I.list hx;have hlen:=r.length;show⟨"list",_,a0v.lookup,ht.isList.typeIs,?_⟩;show wpAny_getItem_list_slice ht.isList hs pl pu .none (by simp) ?_ (by rw[ck]<;>lia);rw[yJ,<- hlen];show⟨.ref s.heap.objs.size,_,I.laid (t':=s.toks) (o:=.lst (ET xs lo hi)) (λb ob q=>dg _ q) (bp _) ?_,rfl,q _ (I.hok.fresh (bp _))⟩;show⟨iq (tE xs lo hi) hz,_,0,(r.drop (HT.gY xs.length 0 lo)).take (HT.gY xs.length xs.length hi-HT.gY xs.length 0 lo),gf _ rfl⟩
noncomputable def qF:V->Bool
 |.non=>ae
 |.bl _=>ae
 |.int _=>ae
 |.str _=>ae
 |_=>ag
noncomputable def eqV:V->V->Bool
 |.non,.non=>ae
 |.bl a,.bl b=>a == b
 |.bl a,.int b=>(if a then 1 else 0) == b
 |.int a,.bl b=>a == (if b then 1 else 0)
 |.int a,.int b=>a == b
 |.str a,.str b=>a == b
 |_,_=>ag
theorem Xw(ry:Ψ y u)(rx:Ψ x v)(fy:qF y=ae)(fx:qF x=ae):rk A s u v (eqV y x):=by
 cases y with
 |non =>
  cases ry
  cases x with
  |non=>cases rx;show a03 _
  |bl b=>cases rx;show a22 b
  |int b=>obtain⟨t,rfl⟩:=rx;show a21 b t
  |str b=>obtain⟨t,rfl⟩:=rx;show a20 b t
  |_=>show Zw (show ag=ae from fx) bx
 |bl a =>
  cases ry
  cases x with
  |non=>cases rx;show a27 a
  |bl b=>cases rx;show a05 a b
  |int b=>obtain⟨t,rfl⟩:=rx;show a28 a b t
  |str b=>obtain⟨t,rfl⟩:=rx;show a26 a b t
  |_=>show Zw (show ag=ae from fx) bx
 |int a =>
  obtain⟨t',rfl⟩:=ry
  cases x with
  |non=>cases rx;show a24 a t'
  |bl b=>cases rx;show a25 a t' b
  |int b=>obtain⟨t,rfl⟩:=rx;show xa a t' b t
  |str b=>obtain⟨t,rfl⟩:=rx;show a04 a t' b t
  |_=>show Zw (show ag=ae from fx) bx
 |str a =>
  obtain⟨t',rfl⟩:=ry
  cases x with
  |non=>cases rx;show a2Y a t'
  |bl b=>cases rx;show a2Z a t' b
  |int b=>obtain⟨t,rfl⟩:=rx;show a02 a t' b t
  |str b=>obtain⟨t,rfl⟩:=rx;show a2X a t' b t
  |_=>show Zw (show ag=ae from fx) bx
 |_=>show Zw (show ag=ae from fy) bx
def HZ(x:V)(u:ai):Bool:=match u with
 |.none=>eqV .non x
 |.bool b=>eqV (.bl b) x
 |.int i _=>eqV (.int i) x
 |.str z _=>eqV (.str z) x
 |_=>ag
theorem RY(r:Ψ y u)(f:qF y=ae):HZ x u=eqV y x:=by
 cases y with
 |non=>cases r;rfl
 |bl b=>cases r;rfl
 |int i=>obtain⟨t,rfl⟩:=r;rfl
 |str z=>obtain⟨t,rfl⟩:=r;rfl
 |_=>show Zw (show ag=ae from f) bx
theorem qG:∀{xs:List V} {us:Q0f},θ xs us->xs.all qF=ae->us.any (HZ x)=xs.any λy=>eqV y x
 |_,_,.nil,_=>rfl
 |y::xs,u::us,.cons r t,f=>by rw[qm,ij] at f;rw[md,md,RY r f.1,qG t f.2]
theorem mY(rx:Ψ x v)(fx:qF x=ae):∀{xs:List V} {us:Q0f},θ xs us->xs.all qF=ae ->∀u∈us,rk A s u v (HZ x u)
 |_,_,.nil,_=>λu hu=>by cases hu
 |y::xs,u::us,.cons r t,f=>λu' hu=>by
  rw[qm,ij] at f;rcases bz.mp hu with rfl|hu
  .rw [RY r f.1];show Xw r rx f.1 fx
  .exact mY rx fx t f.2 u' hu
def inV(x:V)(xs:List V):Bool:=xs.any λy=>eqV y x
def uh(K:ao)(neg:Bool):R2:=λx y H Q=>∃p xs,y=.ref p/\(fP K H p xs\/fX K H p xs)/\qF x=ae/\xs.all qF=ae/\Q (.bl (if neg then !inV x xs else inV x xs)) H
def z5:i9 X (compareOp .In) (uh X.K ag):=by
 intro π s σ H x y v u Q I rx ry h;obtain⟨p,xs,rfl,hq,fx,fs,q⟩:=h;cases ry;rcases hq with hq|hq
 .obtain ⟨ι,r,pl,hz⟩:=I.list hq;show SeqAt.in_listAt (HZ x) pl.isList (λw hw=>mY rx fx r fs w (by simpa using hw)) ⟨.bl _,H,I,rfl,?_⟩;rw[show ι.toArray.any (HZ x)=ι.any (HZ x) by simp,qG r fs];show q
 .obtain ⟨ι,r,pl,hz⟩:=I.tuple hq;show SeqAt.in_tupleAt (HZ x) pl (λw hw=>mY rx fx r fs w (by simpa using hw)) ⟨.bl _,H,I,rfl,?_⟩;rw[show ι.toArray.any (HZ x)=ι.any (HZ x) by simp,qG r fs];show q
def B7:i9 X (compareOp .NotIn) (uh X.K ae):=by
 intro π s σ H x y v u Q I rx ry h;obtain⟨p,xs,rfl,hq,fx,fs,q⟩:=h;cases ry;rcases hq with hq|hq
 .obtain ⟨ι,r,pl,hz⟩:=I.list hq;show SeqAt.notIn_listAt (HZ x) pl.isList (λw hw=>mY rx fx r fs w (by simpa using hw)) ⟨.bl _,H,I,rfl,?_⟩;rw[show ι.toArray.any (HZ x)=ι.any (HZ x) by simp,qG r fs];show q
 .obtain ⟨ι,r,pl,hz⟩:=I.tuple hq;show SeqAt.notIn_tupleAt (HZ x) pl (λw hw=>mY rx fx r fs w (by simpa using hw)) ⟨.bl _,H,I,rfl,?_⟩;rw[show ι.toArray.any (HZ x)=ι.any (HZ x) by simp,qG r fs];show q
def B8:gM X (.builtin "len") (λxs H Q=>∃p ys,xs=[.ref p]/\(fP X.K H p ys\/fX X.K H p ys)/\Q (.int ys.length) H):=by
 intro π s σ H xs us Q I r h;obtain⟨p,ys,rfl,hq,q⟩:=h;obtain⟨u,rfl,rx⟩:=vals1 r;cases rx;have hn:=wF;rcases hq with hq|hq
 .obtain ⟨ι,r',pl,hz⟩:=I.list hq;have hlen:=r'.length;show Calls.call_len_list pl.isList (by simp only[ck]<;>lia) ⟨.int ys.length,H,I.tok _,⟨s.toks+1,by rw[ck,hlen]⟩,q⟩
 .obtain ⟨ι,r',pl,hz⟩:=I.tuple hq;have hlen:=r'.length;show len_tuple pl (by simp only[ck]<;>lia) ⟨.int ys.length,H,I.tok _,⟨s.toks+1,by rw[ck,hlen]⟩,q⟩
def CA:gM X (.type "list") (λxs H Q=>∃p ys,xs=[.ref p]/\(fP X.K H p ys\/fX X.K H p ys) /\∀l,H l=af->Q (.ref l) (upd H l (.lst ys))):=by
 intro π s σ H xs us Q I r h;obtain⟨p,ys,rfl,hq,q⟩:=h;obtain⟨u,rfl,rx⟩:=vals1 r;cases rx;have fin:∀(ι:Q0f),θ ys ι->ys.length<=bg ->∀(h':ba) (c':Nat),(∀b o',s.heap.get? b=aa o'->h'.get? b=aa o') ->
   h'.get? s.heap.objs.size=aa {cls:=.type "list",dict:=af,data:=.seq ι.toArray c',slots:=#[]}->EP X π σ Q (.ref s.heap.objs.size) {s with heap:=h' }:=λι r' hz h' c' kp e =>
  ⟨.ref s.heap.objs.size,_,I.laid (t':=s.toks) kp (bp _) (show cZ X.Ω X.w _ h' _ (.lst ys) from⟨hz,ι,c',r',e⟩),rfl,q _ (I.hok.fresh (bp _))⟩
 rcases hq with hq|hq
 .obtain ⟨ι,r',pl,hz⟩:=I.list hq;have hlen:=r'.length;obtain⟨o,ho,hc,n,hd⟩:=pl.isList;show a0I p (.inl rfl) ho hc hd (λh' c' kp e=>fin ι r' hz h' c' kp e) (by simp only[ck]<;>lia)
 .obtain ⟨ι,r',pl,hz⟩:=I.tuple hq;have hlen:=r'.length;obtain⟨o,ho,hc,n,hd⟩:=pl;show a0I p (.inr rfl) ho hc hd (λh' c' kp e=>fin ι r' hz h' c' kp e) (by simp only[ck]<;>lia)
theorem yK:gM X (.type "tuple") (λxs H Q=>∃p ys,xs=[.ref p]/\((fP X.K H p ys /\∀l,H l=af->Q (.ref l) (upd H l (.tup ys)))\/(fX X.K H p ys/\Q (.ref p) H))):=by
 intro π s σ H xs us Q I r h;obtain⟨p,ys,rfl,h⟩:=h;obtain⟨u,rfl,rx⟩:=vals1 r;cases rx;rcases h with⟨hq,q⟩|⟨hq,q⟩
 .obtain ⟨ι,r',pl,hz⟩:=I.list hq;have hlen:=r'.length;show call_tuple_list pl.isList (λh' kp=>?_) (by simp only[ck]<;>lia);have I1:Φ X π σ H {s with heap:=h' }:=I.kept (t':=s.toks) kp;have I2:Φ X π σ (upd H h'.objs.size (.tup ys)) {s with heap:=h'.push {cls:=.type "tuple",data:=.seq ι.toArray} } :=
   I1.laid (t':=s.toks) (λb o e=>dg _ e) (bp _) (show cZ X.Ω X.w _ _ _ (.tup ys) from⟨hz,ι,r',Ey _ _,EN.new _ _⟩)
  show⟨.ref h'.objs.size,_,I2,rfl,q _ (I1.hok.fresh (bp _))⟩
 .obtain ⟨ι,r',pl,hz⟩:=I.tuple hq;show call_tuple_same pl ⟨.ref p,H,I,rfl,q⟩
def tyV(K:ao)(T:String)(x:V)(H:Hp):Prop:=match x with
 |.str _=>T="str"
 |.int _=>T="int"
 |.ref p=>(T="list" /\∃xs,fP K H p xs)\/(T="tuple" /\∃o,K.lookup p=aa o/\o.cls=.type "tuple" /\o.dict=af) \/
   (T="dict" /\((∃χ,H p=aa (.dK χ)) \/∃χ,H p=aa (.dT χ)))\/(T="set" /\∃S n,H p=aa (.set S n))\/(T="tuple" /\∃xs,H p=aa (.tup xs))
 |_=>False
theorem Xv(I:Φ X π σ H s)(r:Ψ x v)(ty:tyV X.K T x H):
  s.TypeIs v T /\∀a,v=.ref a ->∃ob,s.heap.get? a=aa ob/\ob.dict=af:=by
 cases x with
 |str z =>
  obtain⟨t,rfl⟩:=r;cases (show T="str" from ty);show⟨typeIs_str s z t,λ_ e=>nomatch e⟩
 |int i =>
  obtain⟨t,rfl⟩:=r;cases (show T="int" from ty);show⟨Dd s i t,λ_ e=>nomatch e⟩
 |ref p =>
  cases r;rcases ty with⟨rfl,xs,hq⟩|⟨rfl,o,hk,hc,hd⟩|⟨rfl,hk⟩|⟨rfl,S,n,hk⟩|⟨rfl,xs,hk⟩
  .obtain ⟨ι,_,pl,_⟩:=I.list hq;show⟨pl.isList.typeIs,λa e=>?_⟩;cases e;obtain⟨o,n,e,c,hd,_⟩:=pl;show⟨o,e,hd⟩
  .refine ⟨⟨o,I.uN p o hk,hc⟩,λa e=>?_⟩;cases e;show⟨o,I.uN _ o hk,hd⟩
  .have z:∃o,s.heap.get? p=aa o/\o.ExactDict:=by
    rcases hk with⟨χ,hk⟩|⟨χ,hk⟩
    .obtain ⟨_,_,_,_,o,_,_,e,ex,_⟩:=I.hok p _ hk;show⟨o,e,ex⟩
    .obtain ⟨_,_,_,_,o,_,_,e,ex,_⟩:=I.hok p _ hk;show⟨o,e,ex⟩
   obtain⟨o,e,ex⟩:=z;show⟨⟨o,e,ex.1⟩,λa e2=>?_⟩;cases e2;show⟨o,e,ex.2.1⟩
  .obtain ⟨o,_,_,_,e,ex,_⟩:=I.hok p _ hk;show⟨⟨o,e,ex.1⟩,λa e2=>?_⟩;cases e2;show⟨o,e,ex.2.1⟩
  .obtain ⟨_,_,_,⟨o,e,c,_⟩,nd⟩:=I.hok p _ hk;show⟨⟨o,e,c⟩,λa e2=>?_⟩;cases e2;show⟨o,e,nd _ e⟩
 |_=>show jq ty
def yu(K:ao)(T:String)(r:V->List V->Hp->VK->Prop)(to:TE)(t:TA):TE:=λσ H Q=>to σ H λx H1=>tyV K T x H1/\t σ H1 λxs H2=>r x xs H2 Q
variable{o e:av}{es:List av}{to:TE}{t:TA}{name:aj}{apos cpos:br}{T id:String}{r:V->List V->Hp->VK->Prop}
theorem EU(pa:PlainAttrs T)(slot:Slot T name id)(hty:typeOf (.builtin id)=pure (.type "method_descriptor"))(hm:MtR X id r)(ho:PE X o to)(ha:PA X (e::es) t)
  (hbase:attributeBase o name X.env (eval o X.env)=eval o X.env:=by rfl)
  (hfew:((cp cpos (ar (e::es) X.env)).all (λx=>!x.1)&&(backToKw cpos (jt [] X.env)).all (λx=>x.1.isSome)
   && Zv ((e::es).length+([]:List fw).length+(if([]:List fw).isEmpty then 0 else 1)<30))=ae:=by rfl)
  (hline:Q0k apos cpos:=by rfl) (hs:Zs X e es:=by rfl) (hplain:Q0l X cpos es:=by rfl):
  PE X (.Call (.Attribute o name apos) (e::es) [] cpos) (yu X.K T r to t):=by
 intro π s σ H Q I h;show wpAny_Call_method_late hbase hfew hline rfl (eQ (ho π s σ H _ I h) λv s1 ⟨x,H1,I1,r1,ty,q1⟩=>?_);obtain⟨h1,h2⟩:=Xv I1 r1 ty;show⟨T,id,pa,slot,hty,h1,h2,?_⟩;have hA:=ha cpos π s1 σ H1 _ I1 q1;rw[hs] at hA ⊢;show Calls.callWith_builtin (by show(ag||(cp cpos (ar es X.env)).any (·.1))=ag;rw[hplain]<;>rfl) (a1r ?_);show eQ hA λus s2 hq7=>by obtain⟨vs,H2,I2,r2,q2⟩:=hq7;show hm π s2 σ H2 x vs v us Q I2 r1 r2 q2
end
def MtM(X:Cx)(id:String)(r:V->List V->Hp->VK->Prop):Prop :=
 ∀(π:Q0b) (s:ak) (σ:St) (H:Hp) (x:V) (xs:List V) (v:ai) (us:Q0f) (Q:VK),Φ X π σ H s->Ψ x v->θ xs us->r x xs H Q ->
  ay (au X.Ω X.w) X.A (call (.builtin id) (v::us)) (EP X π σ Q) X.xe s
theorem θ.one:∀{x:V} {us:Q0f},θ [x] us ->∃u,us=[u]/\Ψ x u
 |_,_,.cons r .nil=>⟨_,rfl,r⟩
theorem θ.zero:∀{us:Q0f},θ [] us->us=[]
 |_,.nil=>rfl
theorem θ.eraseIdx:∀{xs:List V} {us:Q0f} (i:Nat),θ xs us->θ (xs.eraseIdx i) (us.eraseIdx i)
 |_,_,_,.nil=>.nil
 |_,_,0,.cons _ t=>t
 |_,_,i+1,.cons r t=>.cons r (θ.eraseIdx i t)
theorem θ.rep(h:θ xs us):∀k:Nat,θ (cc k xs).flatten (cc k us).flatten
 |0=>.nil
 |k+1=>by rw[iw,iw,nc,nc];show θ.append h (θ.rep h k)
theorem z6{α:Type}:∀(l:List α) (i:Nat),(l.eraseIdx i).length<=l.length
 |[],_=>bp _
 |_::_,0=>om _
 |_::r,i+1=>Nat.succ_le_succ (z6 r i)
section
variable{X:Cx}{π:Q0b}{σ:St}{H:Hp}{s:ak}{l b:ah}{xs ys zs:List V}
theorem Φ.vj{ι its':Q0f}{n:Nat}{f:Array ai->Array ai}{t':Nat}(I:Φ X π σ H s)(hH:H l=aa (.lst xs))
  (e:s.heap.get? l=aa {cls:=.type "list",data:=.seq ι.toArray n}) (hf:f ι.toArray=its'.toArray) (hv:θ ys its') (hz:ys.length<=bg):
  Φ X π σ (upd H l (.lst ys)) {s with heap:=s.heap.update l (jl f),toks:=t' }:=by
 have q:=a3a e f;rw[hf] at q;show I.write (x:=l) (e:=l) (by rw[hH];show trivial) (.inl rfl) (λb' u hb hu=>(D_ s.heap (jl f) (fj hb)).trans hu) ⟨_,q⟩ ?_;show⟨hz,its',_,hv,q⟩
theorem Φ.O_(I:Φ X π σ H s)(hv:θ ys ι)(hz:ys.length<=bg):
  Φ X π σ (upd H s.heap.objs.size (.lst ys)) {s with heap:=s.heap.push {cls:=.type "list",data:=.seq ι.toArray},toks:=t' } :=
 I.laid (λ_ _ q=>dg _ q) (bp _) ⟨hz,ι,0,hv,gf _ rfl⟩
def Φ.fresh(I:Φ X π σ H s):H s.heap.objs.size=af:=I.hok.fresh (bp _)
def Φ.EV(I:Φ X π σ H s)(hH:H l=aa (.lst xs)):xs.length<=bg /\∃(ι:Q0f) (n:Nat),θ xs ι/\xs.length=ι.length/\s.heap.get? l=aa {cls:=.type "list",data:=.seq ι.toArray n}:=by obtain⟨z,ι,n,r,e⟩:=I.hok l _ hH;show⟨z,ι,n,r,r.length,e⟩
def RZ{n:Nat}(h:n<=bg):Ej n=ag:=by unfold Ej;show Zy ∅
def LB:V->List V->Hp->VK->Prop:=λx vs H Q=>∃l xs y,x=.ref l/\vs=[y]/\H l=aa (.lst xs)/\xs.length<bg/\Q .non (upd H l (.lst (xs++[y])))
def z7:MtM X "list.append" LB:=by intro π s σ H x vs v us Q I rx rv h;obtain⟨l,xs,y,rfl,rfl,hH,hz,q⟩:=h;cases rx;obtain⟨u,rfl,ru⟩:=rv.one;obtain⟨z,ι,n,r,hl,e⟩:=I.EV hH;show mn a1i ⟨_,e,rfl⟩ F.entry_list_append (F.args_list_append_2 _ _) (PySem.list_append l ι.toArray n u (by rw[ck];lia)) ⟨e,?_⟩;show⟨.non,_,I.vj (its':=ι++[u]) hH e (by simp) (r.append (.cons ru .nil)) ?_,rfl,q⟩;rw[dm,a2i];lia
def LC:V->List V->Hp->VK->Prop:=λx vs H Q=>∃l b xs zs,x=.ref l/\vs=[.ref b]/\H l=aa (.lst xs)/\H b=aa (.lst zs)/\xs.length+zs.length<=bg/\Q .non (upd H l (.lst (xs++zs)))
def NB:MtM X "list.extend" LC:=by
 intro π s σ H x vs v us Q I rx rv h;obtain⟨l,b,xs,zs,rfl,rfl,hH,hB,hz,q⟩:=h;cases rx;obtain⟨u,rfl,ru⟩:=rv.one;cases ru;obtain⟨z,ι,n,r,hl,e⟩:=I.EV hH;obtain⟨z2,its2,n2,r2,hl2,e2⟩:=I.EV hB;have hsz:ι.toArray.size+its2.toArray.size<=bg:=by rw[ck,ck];lia
 have Uw:¬ (!ι.toArray.isEmpty&&Ej (ι.toArray.size+its2.toArray.size))=ae:=by rw[RZ hsz,a2C];show bx
 show mn a1g ⟨_,e,rfl⟩ F.entry_list_extend (F.args_list_extend_2 _ _)
  (a3I l ι.toArray n b its2.toArray n2 Uw (by rw[ck];lia) ∅) ⟨e,e2,?_⟩
 show⟨.non,_,I.vj (its':=ι++its2) hH e (by simp) (r.append r2) ?_,rfl,q⟩;rw[dm];lia
def R3:V->List V->Hp->VK->Prop:=λx vs H Q=>∃l xs i k y,x=.ref l/\vs=[.int i]/\H l=aa (.lst xs) /\ -(2^63)<=i/\i<2^63/\seqIndex? i xs.length=aa k/\xs[k]?=aa y/\Q y (upd H l (.lst (xs.eraseIdx k)))
def R4:MtM X "list.pop" R3:=by
 intro π s σ H x vs v us Q I rx rv h;obtain⟨l,xs,i,k,y,rfl,rfl,hH,h1,h2,hk,hy,q⟩:=h;cases rx;obtain⟨u,rfl,ru⟩:=rv.one;obtain⟨t,rfl⟩:=ru;obtain⟨z,ι,n,r,hl,e⟩:=I.EV hH;obtain⟨w,hw,HX⟩:=r.get hy;show mn a1e ⟨_,e,rfl⟩ F.entry_list_pop (F.args_list_pop_2 _ _)
  (a29 l ι.toArray n i t k w (fitsIndex_both h1 h2) (by rw[ck,<- hl];show hk) (by rw[<- pf];show hw) (by rw[ck];lia)) ⟨e,?_⟩
 show⟨y,_,I.vj (its':=ι.eraseIdx k) hH e ?_ (r.eraseIdx k) ?_,HX,q⟩
 .show ι.toArray.eraseIdxIfInBounds k=(ι.eraseIdx k).toArray;rw[List.eraseIdxIfInBounds_toArray]
 .have:=z6 xs k;lia
def Ab:R2:=λx y H Q=>∃l b xs zs,x=.ref l/\y=.ref b/\H l=aa (.lst xs)/\H b=aa (.lst zs)/\xs.length+zs.length<=bg /\∀p,H p=af->Q (.ref p) (upd H p (.lst (xs++zs)))
def R5:i9 X (binaryOp .Add) Ab:=by
 intro π s σ H x y v u Q I rx ry h;obtain⟨l,b,xs,zs,rfl,rfl,hH,hB,hz,q⟩:=h;cases rx;cases ry;obtain⟨z,ι,n,r,hl,e⟩:=I.EV hH;obtain⟨z2,its2,n2,r2,hl2,e2⟩:=I.EV hB;show PySem.P.add_list e e2 ?_ (by rw[ck,ck];lia);have ea:ι.toArray++its2.toArray=(ι++its2).toArray:=by simp
 rw[ea];show⟨.ref _,_,I.O_ (t':=s.toks) (r.append r2) (by rw[dm];lia),rfl,q _ I.fresh⟩
end
section
variable{Ω:bh}{w:az}{A:bu}{E:Q0c}{s:ak}
set_option maxRecDepth 100000 in
end
end L2
namespace Att
open PySem.W PySem.Calls PyProof.Rows
theorem t6:∀(ns:Q0e) (vs:Q0f),WellAll P h vs (ns.map a0V)->gu vs ns:=by
 intro ns
 induction ns with
 |nil =>
  intro vs w;rw[ki] at w;cases w;show .nil
 |cons n ns ih =>
  intro vs w;rw[bt] at w
  cases w with
  |cons a b =>
   cases a;show .cons _ _ (ih _ b)
theorem NC{l:p0}{n:Nat}(hn:l.most=aa n){P:Params}{h:ba}{args:List WData}{vals:Q0f}
  (hpre:l.row.toRowW.claim.pre args=ae) (hwl:WellAll P h vals args):
  ∃a vs ns,vals=[df a]/\args=[WData.list (ns.map a0V)]/\h.get? a=aa {cls:=.type "list",data:=.seq vs.toArray}/\gu vs ns/\ns.length<=n:=by
 have hsh:WShape.hasAll [] args [.list .int]=ae:=(pre_splitW hpre).1;have hc:l.pre.holds [] {args:=args}=ae:=(pre_splitW hpre).2;obtain⟨d,r,rfl,h1,h2⟩:=hasAllW_cons hsh;obtain rfl:=hasAllW_nil h2;obtain⟨xs,rfl,h3⟩:=hasW_list h1;obtain⟨ns,rfl⟩:=items_int h3;have hlen:ns.length<=n:=by
  unfold OpenLaw.pre at hc;have h4:(WTm.not (.lt (.lit (.int (n:Int))) (.len (.arg 0)))).holds [] {args:=[.list (ns.map .int)]}=ae:=by have h4:=(holds_andW hc).1;rw[hn] at h4;show h4
  have h5:=condW_of h4 (w_not (w_lt w_lit (w_len_list (w_arg rfl))));rw[bj] at h5;show Nat.le_of_not_lt λq=>?_;have q':(n:Int)<((ns.length:Nat):Int):=by lia
  first
   | (rw[Zx q'] at h5;show Zw h5 (by decide))
   | (simp at h5;lia)
 cases hwl with
 |cons w1 w2 =>
  cases w2
  cases w1 with
  |list ho hall=>show⟨_,_,ns,rfl,rfl,ho,t6 ns _ hall,hlen⟩
def ND(l:p0)(args:List WData):l.row.toRowW.claim.post args (.bool ae) args=ae :=
 postW_of (r:=l.row.toRowW) (X:=(ae == ae))
  (show a0U [] (.bool ae) .bool=ae by first|rfl|decide|simp[a0U,WShape.arms,WShape.armsAll])
  (show(WTm.eq .res (.lit (.bool ae))).value [] {args:=args,res:=aa (.bool ae),after:=args}=aa (.bool (ae == ae)) from w_eq_bool (w_res rfl) w_lit) rfl
theorem EW{l:p0}{n:Nat}{q:bh}{loose:Q0g}{XP:(aj->Option ai)->ba->Prop}{YP:az->ba->Prop}{d:DefRec}
  (hn:l.most=aa n) (hdf:d.params.defaults=[])
  (call:∀(w:az) (s₀ s₁:ak) (mg mb:Q0d) (fa:ah) (o:ax) (pm cd doc:ai) (a:ah) (vs:Q0f) (ns:Q0e),
   Ground q loose [] XP w s₀ mg mb s₁.heap->YP w s₁.heap ->
   s₁.heap.get? fa=aa o->o.data=.func (docDef d.name d.params d.body d.scope pm cd doc)->s₁.heap.CodeRec cd d.name->mg d.name=aa (.ref fa) ->
   s₁.heap.get? a=aa {cls:=.type "list",data:=.seq vs.toArray}->gu vs ns->ns.length<=n->s₁.gens=#[] ->
   ml (au l.prog w) callerA (.call (.ref fa) ⟨[.ref a],[]⟩) (λr s'=>r=.ok (.ret (.bool ae))/\OldK s₁.heap s'.heap/\s'.os=s₁.os/\ku s'.gens) s₁):
  Dy q loose XP YP l.row.toRowW d [] (λf vs=>Dp f vs):=by
 intro w s₀ s₁ mg mb G Y fa o pm cd doc dV kV ho hd hcd hD hmg hg args vals as hpre hlay hrd hwl hlo;obtain rfl:dV=.none:=Dflts.none hD hdf;obtain rfl:kV=.none:=Dflts.noKw hD;obtain⟨a,vs,ns,rfl,rfl,hobj,hints,hlen⟩:=NC hn hpre hwl;show enter_call (Dm (call w s₀ s₁ mg mb fa o pm cd doc a vs ns G Y ho (fd_plain hd) hcd hmg hobj hints hlen hg) λr s' hq=>?_);obtain⟨rfl,h2,h3,h4⟩:=hq;show⟨.inl ⟨.bool ae,.bool ae,[],rfl,λ_=>rfl,.bool ae,ND l _,λ_=>⟨Gj,λ_ hm=>(nomatch hm)⟩⟩,h2,h3,h4⟩
section
variable{Ω:bh}{w:az}{A:bu}{E:Q0c}{s:ak}{K:ao}
def wJ(h:ba):ba:={h with objs:=#[]}
theorem oV(h:ba)(b:ah):(wJ h).get? b=af:=by
 cases e:(wJ h).get? b with
 |none=>rfl
 |some o=>show Zw (b_ e) (Fg _)
def ledger(h:ba)(L d:ah):List (ah×ax):=(de h.objs.size).filterMap λa=>if a=L\/a=d then af else(h.get? a).map λo=>(a,o)
def iO:(a,o)∈ledger h L d↔a≠L/\a≠d/\h.get? a=aa o:=by
 unfold ledger;rw[qj]
 constructor
 .rintro ⟨b,_,e⟩;split at e
  .cases e
  .rename_i hb;obtain⟨o',ho,e'⟩:=jm.mp e;cases e';show⟨λq=>hb (.inl q),λq=>hb (.inr q),ho⟩
 .rintro ⟨n1,n2,ho⟩;show⟨a,my.mpr (b_ ho),?_⟩;rw[Zz (show ¬ (a=L\/a=d) from λq=>q.elim n1 n2),ho]<;>rfl
def R6(n:h.Ns L m):Fr (wJ h) L h m :=
 ⟨n,λb o e=>(by rw[oV] at e;cases e),jn _⟩
end
end Att
namespace L2
open PySem.Spec PyProof.Rows
theorem f7:∀{vs:Q0f} {ns:Q0e},gu vs ns->θ (ns.map V.int) vs
 |_,_,.nil=>.nil
 |_,_,.cons n t h=>.cons ⟨t,rfl⟩ (f7 h)
def Only(H:Hp):Prop:=∀b,H b=af\/(∃o xs,H b=aa (.tW o (.lst xs))) \/∃q,H b=aa (.KZ q)
structure TabsOk (K:ao) (q:bh):Prop where
 nd:((fR K).map (·.2.2)).Nodup
 rc:∀t∈fR K,∃e,(recsOf q).find? (λe=>e.name == t.1)=aa e
theorem IA{K:ao}{t:aj×ah×ah}(h:t∈fR K):Dr K t.1=aa (t.2.1,t.2.2):=by
 obtain⟨x,_,e⟩:=qj.mp h
 cases q:Dr K x with
 |none=>rw[q] at e;cases e
 |some p=>rw[q] at e;cases e;show q
def IB(K:ao)(a:ah)(u:Option HO):Hp:=λb=>if b=a then u else((fR K).find? λt=>t.2.2 == b).map λt=>.KZ (XG t.1)
theorem NF{l:List (aj×ah×ah)}(nd:(l.map (·.2.2)).Nodup){t:aj×ah×ah}(h:t∈l):l.find? (λu=>u.2.2 == t.2.2)=aa t:=by
 induction l with
 |nil=>cases h
 |cons u l ih =>
  rw[bt,jv] at nd;rw[g_];by_cases e:(u.2.2 == t.2.2)=ae
  .rw [e];rcases bz.1 h with z|z
   .rw [z]
   .exact Zw (gm.2 ⟨t,z,(eq_of_beq e).symm⟩) nd.1
  .rw [a2A] at e;rw[e];rcases bz.1 h with z|z
   .rw [z,beq_self_eq_true] at e;cases e
   .exact ih nd.2 z
theorem R7{P:bh}{w:az}{K:ao}{mg mb:Q0d}{CX:HU}{k:Nat}{fa a:ah}{fd:gg}{x:aj}{sp:Sp}{s₁:ak}{vs:Q0f}{ns:Q0e}
  (KX:K.In s₁.heap) (hns:s₁.heap.Ns dq mg) (hb:s₁.heap.Ns builtinsNs mb) (hbb:∀x:aj,x ≠ "__name__"->mb x=bootBuiltins x) (hlim:s₁.heap.NoLimit)
  (hbm:∃bm ob,mg "__builtins__"=aa (.ref bm)/\bm≠builtinsNs/\s₁.heap.get? bm=aa ob/\ob.cls=.type "module" /\ob.dict=aa builtinsNs/\ob.data=.plain)
  (hT:∀t∈fR K,CodeHd s₁.heap t.2.1 t.2.2/\s₁.heap.get? t.2.2=aa (tabObj #[])) (hnd:((fR K).map (·.2.2)).Nodup) (hnt:noTabs K=ae) (hg:s₁.gens=#[])
  (ha:s₁.heap.get? a=aa {cls:=.type "list",data:=.seq vs.toArray}) (hi:gu vs ns) (hl:ns.length<=bg) (hr:gF k callerA)
  (F:∀ω:ba,K.In ω->ω.Ns dq mg->lA P w K mg ω CX k fa fd [x] sp) (hbind:∀(s:ak) (u:ai),qb s fd ⟨[u],[]⟩ [(x,u)])
  (hsp:∀H:Hp,Only H->fP K H a (ns.map V.int)->sp [.ref a] H (λv _=>v=.bl ae) λ_ _ _=>False)
  (uj:∀H e s',CX [] H s₁ (λ_ _ _=>False) e s'->False):
  ml (au P w) callerA (.call (.ref fa) ⟨[.ref a],[]⟩) (λr s'=>r=.ok (.ret (.bool ae))/\OldK s₁.heap s'.heap/\s'.os=s₁.os/\ku s'.gens) s₁:=by
 have rv:=f7 hi;have lenV:=hi.length;have neA:∀t∈fR K,t.2.2≠a:=λt ht z=>by have e:=(hT t ht).2;rw[z,ha] at e;cases e
 -- a tracked address: the script or a table
 have core:∀u:Option HO,(u=af \/∃o xs,u=aa (.tW o (.lst xs)))->fP K (IB K a u) a (ns.map V.int)->(∀v,u=aa v->cZ P w (IB K a u) s₁.heap a v)->(u≠af->K.lookup a=af) ->
   ml (au P w) callerA (.call (.ref fa) ⟨[.ref a],[]⟩) (λr s'=>r=.ok (.ret (.bool ae))/\OldK s₁.heap s'.heap/\s'.os=s₁.os/\ku s'.gens) s₁:=by
  intro u hu hS Am hK;obtain⟨H,eH⟩:∃H,IB K a u=H:=⟨_,rfl⟩;have uC:∀t∈fR K,H t.2.2=aa (.KZ (XG t.1)):=λt ht=>by rw[<- eH];unfold IB;rw[Zz (neA t ht),NF hnd ht];rfl
  have rQ:∀b,H b=af\/(b=a/\H b=u/\u≠af) \/∃t∈fR K,t.2.2=b/\H b=aa (.KZ (XG t.1)):=λb=>by
   by_cases hb:b=a
   .cases hu2:u with
    |none=>left;rw[<- eH];unfold IB;rw[Z_ hb,hu2]
    |some v=>right;left;show⟨hb,?_,by simp⟩;rw[<- eH];unfold IB;rw[Z_ hb,hu2]
   .cases q:(fR K).find? λt=>t.2.2 == b with
    |none=>left;rw[<- eH];unfold IB;rw[Zz hb,q];rfl
    |some t =>
     have e1:t.2.2=b:=eq_of_beq (List.find?_some (p:=λt:aj×ah×ah=>t.2.2 == b) q);have e2:=List.mem_of_find?_eq_some q;show .inr (.inr ⟨t,e2,e1,by rw[<- e1];show uC t e2⟩)
  rw[eH] at hS Am;have hO:Only H:=λb=>by
   rcases rQ b with z|⟨_,z,_⟩|⟨t,_,_,z⟩
   .exact .inl z
   .rcases hu with y|⟨o,xs,y⟩
    .exact .inl (z.trans y)
    .exact .inr (.inl ⟨o,xs,z.trans y⟩)
   .exact .inr (.inr ⟨_,z⟩)
  have hok:n8 P w H s₁.heap:=λb v e=>by
   rcases rQ b with z|⟨rfl,z,_⟩|⟨t,ht,rfl,z⟩
   .rw [z] at e;cases e
   .exact Am v (by rw[<- z];show e)
   .rw [z] at e;cases e;show⟨#[],(hT t ht).2,trivial,λν cv e=>by cases e⟩
  -- an object that is neither the script nor a table is not tracked
  have R8:∀{b:ah} {o:ax},s₁.heap.get? b=aa o->o.cls≠.none->(∀ys n,o.data≠.seq ys n)->H b=af:=λ{b o} e hc hs=>by
   rcases rQ b with z|⟨rfl,_,_⟩|⟨t,ht,rfl,z⟩
   .exact z
   .rw [ha] at e;cases e;show Zw rfl (hs _ _)
   .rw [(hT t ht).2] at e;cases e;show Zw rfl hc
  have nsN:∀{b:ah} {o:ax} {es:Array DictEntry} {ep:Nat},s₁.heap.get? b=aa o->o.data=.dict es ep->H b=af:=λ{b o es ep} e d=>by
   rcases rQ b with z|⟨rfl,_,_⟩|⟨t,ht,rfl,z⟩
   .exact z
   .rw [ha] at e;cases e;cases d
   .rw [(hT t ht).2] at e;cases e;cases d
  have uP:∀{b:ah} {o:ax},s₁.heap.get? b=aa o->H b=af->(yI s₁.heap H).get? b=aa o:=λe n=>RD e n;have nsK:∀{b:ah} {m:Q0d},s₁.heap.Ns b m->(yI s₁.heap H).Ns b m:=λ{b m} ⟨o,es,ep,e,d,r⟩=>⟨o,es,ep,uP e (nsN e d),d,r⟩;have zi:K.In (yI s₁.heap H):=λb o e=>uP (KX b o e) (by
   rcases rQ b with z|⟨rfl,_,z⟩|⟨t,ht,rfl,z⟩
   .exact z
   .rw [hK z] at e;cases e
   .have e2:=KX _ o e;rw[(hT t ht).2] at e2;cases e2;have h2:=jh.mp hnt (t.2.2,tabObj #[]) (PySem.W.mem_of_lookupK e);show Zw (show ag=ae from h2) bx)
  have hM:Mod K mg (yI s₁.heap H):=⟨zi,nsK hns,⟨mb,nsK hb,hbb⟩,let ⟨mc,h1,h2⟩:=hlim;⟨mc,nsK h1,h2⟩,
   let ⟨bm,ob,b1,b2,b3,b4,b5,b6⟩:=hbm;⟨bm,ob,b1,b2,uP b3 (R8 b3 (by rw[b4];nofun) λys n z=>by rw[b6] at z;cases z),b4,b5,b6⟩⟩
  have P_:XH K (yI s₁.heap H) H:=λt ht=>by obtain⟨o,vs',file,tf,flags,tg,inF,text,tt,e1,r1,r2,r3⟩:=(hT t ht).1;show⟨⟨o,vs',file,tf,flags,tg,inF,text,tt,uP e1 (R8 e1 (by rw[r1];nofun) λys n z=>by rw[r2] at z;cases z),r1,r2,r3⟩,uC t ht⟩
  have e0:XY P w K mg (yI s₁.heap H) callerA [] s₁ H:=⟨rfl,hM,λb o e=>XE e,lp (MX _ _),trivial,λb hb=>Zw (show b∈([]:List ah) from hb) (by simp),hok,.of_eq hg,P_⟩;show Dm ((F _ zi (nsK hns)).run callerA [] s₁ H ⟨[.ref a],[]⟩ [.ref a] [.ref a] _ _ hr e0 (hbind s₁ (.ref a)) (.cons rfl .nil) (hsp H hO hS)) λr s' h=>?_
  cases r with
  |error e=>show(uj H e s' h).elim
  |ok fl =>
   cases fl with
   |next=>show jq h
   |brk=>show jq h
   |cont=>show jq h
   |ret v =>
    obtain⟨y,H',os,bare,un,hok',r',q⟩:=h;have q':y=.bl ae:=q;subst q';obtain rfl:v=kg ae:=r';have old:∀b o,s₁.heap.get? b=aa o->asItWas s₁.heap s'.heap b o /\∃o',s'.heap.get? b=aa o':=λb o e=>by
     rcases rQ b with z|⟨rfl,z,hne⟩|⟨t,ht,rfl,z⟩
     .have k:=un.keep b o e z (by intro z;show Zw (show b∈([]:List ah) from z) (by simp)) (by simp);show⟨.inl k,o,k⟩
     .rcases hu with y|⟨ob,xs,y⟩
      .exact Zw y hne
      .have z1:=z.trans y;have z2:=un.tX b ob _ z1;obtain⟨e1,_⟩:=hok b _ z1;obtain⟨e2,_⟩:=hok' b _ z2;rw[e] at e1;cases e1;show⟨.inl e2,o,e2⟩
     .obtain ⟨ps,e2,_⟩:=hok' _ _ (un.rN _ _ z);have e1:=(hT t ht).2;rw[e] at e1;cases e1;show⟨.inr (.inl ⟨((hT t ht).1.tab (hT t ht).2).isCodeTable,rfl,#[],ps,rfl,by rw[e2,a2N]⟩),_,e2⟩
    show⟨rfl,⟨λb o e=>(old b o e).1,λb o e=>(old b o e).2⟩,os,bare⟩
 cases hk:K.lookup a with
 |some o =>
  -- the script is one of the module's own objects
  have e:=KX a o hk;rw[ha] at e;cases e;show core af (.inl rfl) (.inr ⟨_,vs.toArray,_,hk,rfl,rfl,rfl,by rw[ck,lenV];show hl,by simpa using rv⟩) (λv z=>by cases z) λz=>Zw rfl z
 |none =>
  show core (aa (.tW {cls:=.type "list",data:=.seq vs.toArray} (.lst (ns.map V.int)))) (.inr ⟨_,_,rfl⟩) (.inl (.inr ⟨{cls:=.type "list",data:=.seq vs.toArray},Z_ rfl⟩)) (λv z=>?_) λ_=>hk;cases z;show⟨ha,by rw[bj];show hl,vs,_,rv,ha⟩
abbrev KOf{K:ao}{h:ba}(_:K.In h):ao:=K
theorem X6{l:p0}{n k:Nat}{q:bh}{loose:Q0g}{XP:(aj->Option ai)->ba->Prop}{YP:az->ba->Prop}{d:DefRec}{K:Params->ao}{CX:az->HU}{sp:az->Sp}{x:aj}
  (hn:l.most=aa n) (hn2:n<=bg) (hdf:d.params.defaults=[]) (hr:gF k callerA)
  (hY:∀(w:az) (h:ba),YP w h->(K w.params).In h)
  (qw:∀w:az,TabsOk (K w.params) q) (hnt:∀w:az,noTabs (K w.params)=ae)
  (F:∀(w:az) (mg:Q0d) (fa:ah) (h:ba),(K w.params).In h->h.Ns dq mg->mg d.name=aa (.ref fa) ->
   ∃fd:gg,(∀(s:ak) (u:ai),qb s fd ⟨[u],[]⟩ [(x,u)]) /\
    ∀ω:ba,(K w.params).In ω->ω.Ns dq mg->lA l.prog w (K w.params) mg ω (CX w) k fa fd [x] (sp w))
  (hsp:∀(w:az) (H:Hp) (a:ah) (ns:Q0e),ns.length<=n->Only H->fP (K w.params) H a (ns.map V.int)->sp w [.ref a] H (λv _=>v=.bl ae) λ_ _ _=>False)
  (uj:∀(w:az) (H:Hp) (s:ak) (e:ai) (s':ak),CX w [] H s (λ_ _ _=>False) e s'->False):
  Dy q loose XP YP l.row.toRowW d [] (λf vs=>Dp f vs):=by
 show Att.EW hn hdf λw s₀ s₁ mg mb fa o pm cd doc a vs ns G Y ho hd hcd hmg hobj hints hlen hg=>?_;have KX:=hY w _ Y;obtain⟨fd,hb,hF⟩:=F w mg fa _ KX G.T.g hmg;have hT:∀t∈fR (K w.params),CodeHd s₁.heap t.2.1 t.2.2/\s₁.heap.get? t.2.2=aa (tabObj #[]):=λt ht=>by obtain⟨e,he⟩:=(qw w).rc t ht;show PySem.W.tab_of G.T KX he (IA ht)
 show R7 KX G.T.g G.T.b G.T.builtins G.T.nolimit G.T.bmain hT (qw w).nd (hnt w) hg hobj hints (iq hlen hn2) hr hF hb (λH hO hS=>hsp w H a ns hlen hO hS) λH e s'=>uj w H s₁ e s'
noncomputable def qH(s:cf):Arguments:=match s with
 |.FunctionDef _ a _ _ _ _ _ _ _ _=>a
 |_=>{posonlyargs:=[],args:=[],vararg:=af,kwonlyargs:=[],kw_defaults:=[],kwarg:=af,defaults:=[]}
noncomputable def f9(s:cf):List cf:=match s with
 |.FunctionDef _ _ b _ _ _ _ _ _ _=>b
 |_=>[]
noncomputable def bD(s:cf):gd:=match s with
 |.FunctionDef _ _ _ _ _ _ sc _ _ _=>sc
 |_=>{kind:=.function,names:=[],isGenerator:=ag,isCoroutine:=ag}
abbrev eR:HU:=λ_ _ _ _ _ _=>False
abbrev E0:XK:=λ_ _ _=>False
def R9:Passes eR X E0:=λ_ _ _ _ _ _ _ h=>h.elim
structure X7 (K:ao) (x qual:aj) (st:cf) (f:ah) (fd:gg):Prop where
 ex:∃(oc:ai) (od:Option ah) (kV doc pm:ai) (an:Option ah) (cdv ct:ai) (osl:Array (Option ai)),
  fd=fnOf x qual (qH st) (f9 st) (bD st) .none kV doc pm an cdv ct/\K.lookup f=aa ⟨oc,od,.func fd,osl⟩/\codeIn K cdv qual=ae
 kp:keepIn K (.ref f)=ae
section
variable{P:bh}{w:az}{K:ao}{mg:Q0d}{ω:ba}
theorem X7.ok{x qual:aj}{st:cf}{f:ah}{fd:gg}{N ps:Q0g}{k:Nat}{sp:Sp}(F:X7 K x qual st f fd)(S:hZ N ps (bD st))(len:∀vs H Q E,sp vs H Q E->vs.length=ps.length)
  (hbody:∀(cdv:ai) (A:bu) (Γ:List d_) (s:ak) (H:Hp) (vs:List V) (Q:VK) (E:XK),gF k (A.deeper (envOfC qual (bD st) s.heap.objs.size f cdv))->sp vs H Q E ->
   ∃t,zU (mX eR P w K mg ω N qual (bD st) f cdv A Γ s H E).RI (f9 st) t/\t {nx:=λ_ H'=>Q .non H',rt:=Q} (start N vs) H):lA P w K mg ω eR (k+1) f fd ps sp:=by
 obtain⟨oc,od,kV,doc,pm,an,cdv,ct,osl,rfl,lk,hcd⟩:=F.ex;show Br lk hcd S len λA Γ s H vs Q E hr hsp=>?_;obtain⟨t,h,q⟩:=hbody cdv A Γ s H vs Q E hr hsp;show⟨t,h.RI,q⟩
theorem Xu{x qual:aj}{st:cf}{f:ah}{oc:ai}{od an:Option ah}{osl:Array (Option ai)}{kV doc pm cdv ct:ai}(l:K.lookup f=aa ⟨oc,od,.func (fnOf x qual (qH st) (f9 st) (bD st) .none kV doc pm an cdv ct),osl⟩)
  (c:codeIn K cdv qual=ae) (k:keepIn K (.ref f)=ae):X7 K x qual st f (fnOf x qual (qH st) (f9 st) (bD st) .none kV doc pm an cdv ct):=⟨⟨oc,od,kV,doc,pm,an,cdv,ct,osl,rfl,l,c⟩,k⟩
end
def ξ(H H':Hp):Prop:=∀b o,H b=aa o->H' b=aa o
def ξ.refl(H:Hp):ξ H H:=λ_ _ h=>h
def ξ.trans{H H1 H2:Hp}(a:ξ H H1)(b:ξ H1 H2):ξ H H2:=λc o h=>b c o (a c o h)
theorem ξ.free{H H':Hp}(e:ξ H H'){l:ah}(h:H' l=af):H l=af:=by
 cases q:H l with
 |none=>rfl
 |some o =>
  rw[e l o q] at h;cases h
section
variable{κ:Type}[DecidableEq κ]
def mC(χ:List (κ×V))(k:κ):Option V:=(χ.find? λkv=>Zv (kv.1=k)).map (·.2)
def putK(χ:List (κ×V))(k:κ)(v:V):List (κ×V) :=
 if(χ.any λkv=>Zv (kv.1=k))=ae then χ.map (λkv=>if kv.1=k then(kv.1,v) else kv) else χ++[(k,v)]
def wK{p:κ×V}{r:List (κ×V)}{k:κ}(e:p.1=k):mC (p::r) k=aa p.2:=by simp[mC,g_,e]
def wL{p:κ×V}{r:List (κ×V)}{k:κ}(e:¬ p.1=k):mC (p::r) k=mC r k:=by simp[mC,g_,e]
theorem wM(k:κ):∀χ:List (κ×V),(χ.any λkv=>Zv (kv.1=k))=(mC χ k).isSome
 |[]=>rfl
 |p::r=>by
  rw[md];by_cases e:p.1=k
  .simp only[wK e,Zx e,Bool.true_or,Option.isSome_some]
  .rw [wL e,Zy e,Gs];show wM k r
def tF(χ:List (κ×V))(k:κ)(v:V):(putK χ k v).length<=χ.length+1:=by
 unfold putK;split
 .rw [bj];lia
 .rw [dm,fu,jy];lia
def SA{χ:List (κ×V)}{k:κ}(v:V)(h:mC χ k=af):putK χ k v=χ++[(k,v)]:=by unfold putK;rw[wM,h];show Zz (by decide)
theorem mU.nV(r:mU o u):o.isSome=u.isSome:=by
 cases o with
 |none=>cases u with
  |none=>rfl
  |some _=>show(show False from r).elim
 |some _=>cases u with
  |none=>show(show False from r).elim
  |some _=>rfl
theorem mU.getD{o:Option V}{u:Option ai}{d:V}{d':ai}(r:mU o u)(rd:Ψ d d'):Ψ (o.getD d) (u.getD d'):=by
 cases o with
 |none=>cases u with
  |none=>show rd
  |some _=>show(show False from r).elim
 |some _=>cases u with
  |none=>show(show False from r).elim
  |some _=>show r
theorem KV.val{χ:List (κ×V)}{vs:List (κ×ai)}(r:KV χ vs)(k:κ):mU (mC χ k) (valueAt vs k):=by
 unfold KV at r
 induction r with
 |nil=>show ji
 | @cons p q ps qs h t ih =>
  obtain⟨h1,h2⟩:=h;by_cases e:p.1=k
  .have e':q.1=k:=h1.symm.trans e;have b:valueAt (q::qs) k=aa q.2:=by simp[valueAt,g_,e']
   rw[wK e,b];show h2
  .have e':¬ q.1=k:=λz=>e (h1.trans z);have b:valueAt (q::qs) k=valueAt qs k:=by simp[valueAt,g_,e']
   rw[wL e,b];show ih
theorem KV.any{χ:List (κ×V)}{vs:List (κ×ai)}(r:KV χ vs)(k:κ):(χ.any λkv=>Zv (kv.1=k))=vs.any λkv=>Zv (kv.1=k):=by
 unfold KV at r
 induction r with
 |nil=>rfl
 |cons h t ih=>rw[md,md,ih,h.1]
theorem KV.repl(r:KV χ vs)(k:κ)(ry:Ψ y u):
  KV (χ.map λkv=>if kv.1=k then(kv.1,y) else kv) (vs.map λkv=>if kv.1=k then(kv.1,u) else kv):=by
 unfold KV at r ⊢
 induction r with
 |nil=>show .nil
 | @cons p q ps qs h t ih =>
  rw[bt,bt];show .cons ?_ ih;obtain⟨h1,h2⟩:=h;by_cases e:p.1=k
  .rw [Z_ e,Z_ (h1.symm.trans e)];show⟨h1,ry⟩
  .rw [Zz e,Zz (λz=>e (h1.trans z))];show⟨h1,h2⟩
def KV.put(r:KV χ vs)(k:κ)(ry:Ψ y u):KV (putK χ k y) (stored vs k u):=by
 unfold putK stored;rw[r.any k];by_cases e:(vs.any λkv=>Zv (kv.1=k))=ae
 .rw [Z_ e,Z_ e];show r.repl k ry
 .rw [Zz e,Zz e];show xf r ⟨rfl,ry⟩
def KV.length{χ:List (κ×V)}{vs:List (κ×ai)}(r:KV χ vs):χ.length=vs.length:=p_ r
end
theorem qI(r:Ψ (kV k) u):(bE P w).is k u=ae:=by
 cases k with
 |inl i=>obtain⟨t,e⟩:=(show ∃t,u=ke i t from r);subst e;show EL P w i t
 |inr x=>obtain⟨t,e⟩:=(show ∃t,u=w_ x t from r);subst e;show EM P w x t
theorem z8:∀{ks:List Key} {us:Q0f},θ (ks.map kV) us->ItemsAre (bE P w) ks us
 |[],_,r=>by rw[ki] at r;cases r;show .nil
 |k::ks,_,r=>by
  rw[bt] at r
  cases r with
  |cons h t=>show .cons (qI h) (z8 t)
abbrev KT(H:Hp):List (List Key×V)->List (List Key×ah×ai)->Prop:=ik λp q=>p.1=q.1/\H q.2.1=aa (.tup (p.1.map kV))/\Ψ p.2 q.2.2
theorem KT.val{H:Hp}{χ:List (List Key×V)}{xs:List (List Key×ah×ai)}(r:KT H χ xs)(k:List Key):mU (mC χ k) ((atKey xs k).map (·.2)):=by
 induction r with
 |nil=>show ji
 | @cons p q ps qs h t ih =>
  obtain⟨h1,_,h2⟩:=h;by_cases e:p.1=k
  .have e':q.1=k:=h1.symm.trans e;have b:atKey (q::qs) k=aa q.2:=by simp[atKey,g_,e']
   rw[wK e,b];show h2
  .have e':¬ q.1=k:=λz=>e (h1.trans z);have b:atKey (q::qs) k=atKey qs k:=by simp[atKey,g_,e']
   rw[wL e,b];show ih
theorem KT.repl(r:KT H χ xs)(k:List Key)(ry:Ψ y u):
  KT H (χ.map λkv=>if kv.1=k then(kv.1,y) else kv) (xs.map (putAt k u)):=by
 induction r with
 |nil=>show .nil
 | @cons p q ps qs h t ih =>
  rw[bt,bt];show .cons ?_ ih;obtain⟨h1,h2,h3⟩:=h;unfold putAt;by_cases e:p.1=k
  .rw [Z_ e,Z_ (h1.symm.trans e)];show⟨h1,h2,ry⟩
  .rw [Zz e,Zz (λz=>e (h1.trans z))];show⟨h1,h2,h3⟩
theorem KT.put(r:KT H χ xs)(k:List Key)(hb:H b=aa (.tup (k.map kV)))(ry:Ψ y u):
  KT H (putK χ k y) (storedH xs k b u):=by
 have e:(χ.any λkv=>Zv (kv.1=k))=(atKey xs k).isSome:=by rw[wM,(r.val k).nV,xx]
 unfold putK storedH;rw[e];by_cases q:(atKey xs k).isSome=ae
 .rw [Z_ q,Z_ q];show r.repl k ry
 .rw [Zz q,Zz q];show xf r ⟨rfl,hb,ry⟩
def KT.keeps(r:KT H χ xs)(ht:∀b ys,H b=aa (.tup ys)->H' b=aa (.tup ys)):KT H' χ xs :=
 Paired.v_ r λ_ _ z=>⟨z.1,ht _ _ z.2.1,z.2.2⟩
section
variable{P:bh}{w:az}{H:Hp}{h:ba}{a:ah}
def Bq(ok:n8 P w H h)(e:Rd H a u):cZ P w H h a u:=e.ok ok
def SD(ok:n8 P w H h)(e:Rd H a (.dK χ)):χ.length<=bg/\(a == sysModules)=ag /\∃vs,KV χ vs/\h.DictOf (bE P w) a vs :=
 show cZ P w H h a (.dK χ) from Bq ok e
def Vo(ok:n8 P w H h)(e:H a=aa (.dK χ)):χ.length<=bg/\(a == sysModules)=ag /\∃vs,KV χ vs/\h.DictOf (bE P w) a vs:=SD ok (.inl e)
def CB(ok:n8 P w H h)(e:H a=aa (.tup (ks.map kV))):(tupleKind (bE P w)).is h ks a:=by obtain⟨_,ι,r,⟨o,h1,h2,n,h3⟩,_⟩:=(show cZ P w H h a (.tup (ks.map kV)) from ok a _ e);show⟨o,ι.toArray,n,h1,h2,h3,by simpa using z8 r⟩
theorem SE(ok:n8 P w H h)(e:Rd H a (.dT χ)):χ.length<=bg/\(a == sysModules)=ag /\
  ∃xs,KT H χ xs/\h.DictOfH (tupleKind (bE P w)) a xs:=by
 obtain⟨z,y,xs,r,o,es,ep,h1,h2,h3,h4,h5⟩:=(show cZ P w H h a (.dT χ) from Bq ok e);show⟨z,y,xs,r,o,es,ep,h1,h2,h3,h4,λx hx=>?_,h5⟩;have all:∀{l:List (List Key×V)} {m:List (List Key×ah×ai)},KT H l m ->∀x∈m,(tupleKind (bE P w)).is h x.1 x.2.1:=by
  intro l m q
  induction q with
  |nil=>intro x hx;show nomatch hx
  | @cons p q ps qs hq t ih =>
   intro x hx;rcases bz.mp hx with e|hx
   .subst e;show CB ok (by rw[<- hq.1];show hq.2.1)
   .exact ih x hx
 show all r x hx
theorem Vn(ok:n8 P w H h)(e:H a=aa (.dT χ)):χ.length<=bg/\(a == sysModules)=ag /\
  ∃xs,KT H χ xs/\h.DictOfH (tupleKind (bE P w)) a xs:=SE ok (.inl e)
end
def NG(H:Hp)(a:ah)(y:V)(r:Option V):Prop :=
 (∃χ k,Rd H a (.dK χ)/\y=kV k/\r=mC χ k) \/∃χ k b,Rd H a (.dT χ)/\y=.ref b/\H b=aa (.tup (k.map kV))/\r=mC χ k
def SH(H:Hp)(a:ah)(y v:V)(H':Hp):Prop :=
 (∃χ k,H a=aa (.dK χ)/\y=kV k/\χ.length<bg/\H'=upd H a (.dK (putK χ k v))) \/
 ∃χ k b,H a=aa (.dT χ)/\y=.ref b/\H b=aa (.tup (k.map kV))/\χ.length<bg/\H'=upd H a (.dT (putK χ k v))
def NG.k{H:Hp}{a:ah}{χ:List (Key×V)}{k:Key}(e:H a=aa (.dK χ)):NG H a (kV k) (mC χ k):=.inl ⟨χ,k,.inl e,rfl,rfl⟩
def SH.k{H:Hp}{a:ah}{χ:List (Key×V)}{k:Key}{v:V}(e:H a=aa (.dK χ))(hl:χ.length<bg):SH H a (kV k) v (upd H a (.dK (putK χ k v))):=.inl ⟨χ,k,e,rfl,hl,rfl⟩
section
variable{X:Cx}{π:Q0b}{σ:St}{H:Hp}{s:ak}{a:ah}{y v:V}{u r:ai}{o:Option V}{A:bu}{E:Q0c}
def Φ.big(I:Φ X π σ H s):sysModules<s.heap.objs.size:=by have h:dq<s.heap.objs.size:=(I.mod.glob.keeps I.bk).lt;show yb (by decide) h
theorem NH(hu:A.units+1<cn)(I:Φ X π σ H s)(g:NG H a y (aa v))(ry:Ψ y u)(h:∀w' s',Φ X π σ H s'->Ψ v w'->Q w' s'):
  ay (au X.Ω X.w) A (getItem (.ref a) u) Q E s:=by
 rcases g with⟨χ,k,e,ey,l⟩|⟨χ,k,b,e,ey,eb,l⟩
 .subst ey;obtain⟨z,hd,vs,rel,dd⟩:=SD I.hok e;obtain⟨w',hw,HX⟩:=mU.some_of (v:=v) (o:=valueAt vs k) (by rw[l];show rel.val k);show a0n (qI ry) dd.mapOf hw (h w' _ (I.tok _) HX)
 .subst ey;cases (show u=df b from ry);obtain⟨z,hd,xs,rel,dd⟩:=SE I.hok e;obtain⟨w',hw,HX⟩:=mU.some_of (v:=v) (o:=(atKey xs k).map (·.2)) (by rw[l];show rel.val k);obtain⟨p,hp,hp2⟩:=jm.mp hw;show a0o (a0u hu) (CB I.hok eb) dd hp ?_;rw[hp2];show h w' _ (I.tok _) HX
theorem nW(I:Φ X π σ H s)(mu:Mut (H a))(hs:mr a s.heap h')(he:∃q,h'.get? a=aa q)(new:cZ X.Ω X.w (upd H a ob) h' a ob):
  Φ X π σ (upd H a ob) {s with heap:=h',toks:=t' } :=
 I.write (x:=a) (e:=a) mu (.inl rfl) (λb q hb z=>(hs.2 b hb).trans z) he new
theorem Xt(z:χ.length<=bg)(hd:(a == sysModules)=ag)(rel:KV χ vs)(dd:h'.DictOf (bE P w) a vs):
  cZ P w H' h' a (.dK χ):=⟨z,hd,vs,rel,dd⟩
theorem NI(hu:A.units+1<cn)(I:Φ X π σ H s)(g:SH H a y v H')(ry:Ψ y u)(rv:Ψ v r)(h:∀s',Φ X π σ H' s'->Q () s'):
  ay (au X.Ω X.w) A (setItem (.ref a) u r) Q E s:=by
 rcases g with⟨χ,k,e,ey,l,eH⟩|⟨χ,k,b,e,ey,eb,l,eH⟩
 .subst ey eH;obtain⟨z,hd,vs,rel,dd⟩:=Vo I.hok e;have hz:vs.length<=bg:=by rw[<- rel.length];show z
  have hl:(putK χ k v).length<=bg:=by have:=tF χ k v;lia
  show a0d (hsz:=hz) (qI ry) dd λh' O9 hs=>h _ ?_;have he:∃q,h'.get? a=aa q:=let ⟨q,_,_,hq,_⟩:=O9;⟨q,hq⟩;show nW I (by rw[e];show ji) hs he (Xt hl hd (rel.put k rv) O9)
 .subst ey eH;cases (show u=df b from ry);obtain⟨z,hd,xs,rel,dd⟩:=Vn I.hok e;have hz:xs.length<=bg:=by rw[<- p_ rel];show z
  have hl:(putK χ k v).length<=bg:=by have:=tF χ k v;lia
  show a0e (hsz:=hz) (a0u hu) (CB I.hok eb) dd λh' O9 hs=>h _ ?_;obtain⟨q,es,ep,hq,h2,h3,h4,_,h5⟩:=O9;show nW I (by rw[e];show ji) hs ⟨q,hq⟩ ⟨hl,hd,_,(rel.put k eb rv).keeps λc ys ec=>?_,q,es,ep,hq,h2,h3,h4,h5⟩;rw[aQ (Bu ec e (λz=>nomatch z))];show ec
end
def IC(i:av):Prop:=∀ov iv,subscripted i ag ov iv=operate [ov,iv] (getItem ov iv)
theorem LD{Ω:bh}{w:az}{A:bu}{E:Q0c}{s:ak}{env:d_}{value slice:av}{ν:br}{T id:String}{Q:Q0c}
  (hl:typeLookup (.type T) "__getitem__"=pure (aa (.builtin id))) (hs:IC slice)
  (h:ay (au Ω w) A (eval value env) (λo s₁=>ay (au Ω w) A (eval slice env) (λi s₂=>s₂.TypeIs o T/\ay (au Ω w) A (getItem o i) Q E s₂) E s₁) E s):
  ay (au Ω w) A (eval (.Subscript value slice ν) env) Q E s:=by
 show Ex (ja h (λo s₁ h₁=>ja h₁ (λi s₂ h₂=>?_) λ_ _ x=>x) λ_ _ x=>x);obtain⟨hT,h₂⟩:=h₂;unfold subscriptTail;show aq ?_;rw[getitemInPython_of_ne hT.not_modules];show aq (Cu hT hl ?_);have fin:ay (au Ω w) A (subscripted slice ag o i) (λr s₃=>ay (au Ω w) A (letTemporaryGo value o r >>= λ_=>pure r) Q E s₃) E s₂:=by rw[hs o i];show wpAny_operating (ja h₂ (λr s₃ h₃=>aq (wpAny_letTemporaryGo (a_ h₃))) λ_ _ x=>x)
 first
  |show a_ (aq fin)
  |show aq (a_ (aq fin))
  |show aq fin
def EX(I:Φ X π σ H s)(g:NG H a y o):s.TypeIs (.ref a) "dict":=by
 rcases g with⟨χ,k,e,_,_⟩|⟨χ,k,b,e,_,_,_⟩
 .obtain ⟨_,_,vs,_,dd⟩:=SD I.hok e;show dd.typeIs
 .obtain ⟨_,_,xs,_,dd⟩:=SE I.hok e;show dd.typeIs
def Vm(td ty:TE):TE:=λσ H Q=>td σ H λx H1=>ty σ H1 λy H2=>∃a v,x=.ref a/\NG H2 a y (aa v)/\Q v H2
def Vl(td ty tv:TE):TS:=λD σ H=>tv σ H λv H1=>td σ H1 λx H2=>ty σ H2 λy H3=>∃a H4,x=.ref a/\SH H3 a y v H4/\D.nx σ H4
section
variable{X:Cx}{o i e value:av}{ν pos' tpos:br}{td ty tv:TE}
def X8(hu:X.A.units+1<cn)(ho:PE X o td)(hi:PE X i ty)(hs:IC i):PE X (.Subscript o i ν) (Vm td ty):=by intro π s σ H Q I h;show LD a1k.lookup hs (eQ (ho π s σ H _ I h) λu s1 ⟨x,H1,I1,rx,q1⟩=>eQ (hi π s1 σ H1 _ I1 q1) λiv s2 ⟨y,H2,I2,ry,a,v,ex,g,q2⟩=>?_);subst ex;obtain rfl:u=df a:=rx;show⟨EX I2 g,NH hu I2 g ry λw' s3 I3 HX=>⟨v,H2,I3,HX,q2⟩⟩
theorem X9(hu:X.A.units+1<cn)(ho:PE X o td)(hi:PE X i ty)(hv:PE X value tv)(hs:e_ value (aa (.Subscript o i pos')) ν.line X.env=pure ag):
  PS X (.Assign [.Subscript o i pos'] value ν) (Vl td ty tv):=by
 intro π s σ H D I h;show a0t (eQ (hv π s σ H _ I h) λr s1 ⟨v,H1,I1,rv,q1⟩=>eQ (ho π s1 σ H1 _ I1 q1) λu s2 ⟨x,H2,I2,rx,q2⟩=>eQ (hi π s2 σ H2 _ I2 q2) λiv s3 ⟨y,H3,I3,ry,a,H4,ex,g,q3⟩=>?_) hs;subst ex;obtain rfl:u=df a:=rx;show NI hu I3 g ry rv λs4 I4=>⟨σ,H4,I4,q3⟩
end
def SI(h:ba)(hb:sysModules<h.objs.size):cZ P w H (h.push {cls:=.type "dict",data:=.dict #[]}) h.objs.size (.dK []) :=
 ⟨jn _,beq_eq_false_iff_ne.mpr (fj (fz hb)),[],.nil,a3c h⟩
def Xs:TE:=λ_ H Q=>∀p,H p=af->Q (.ref p) (upd H p (.dK []))
section
variable{X:Cx}{ν:br}
def SJ:PE X (.Dict [] [] ν) Xs:=λπ s σ H Q I h =>
 a0s ⟨.ref s.heap.objs.size,_,I.laid (a:=s.heap.objs.size) (o:=.dK []) (t':=s.toks) (λ_ _ q=>dg _ q) (bp _) (SI s.heap I.big),rfl,h _ (I.hok.fresh (bp _))⟩
end
noncomputable def SK:List (TE×TE)->St->Hp->(List (V×V)->Hp->Prop)->Prop
 |[],_,H,Q=>Q [] H
 | (tk,tv)::r,σ,H,Q=>tk σ H λx H1=>tv σ H1 λy H2=>SK r σ H2 λps H3=>Q ((x,y)::ps) H3
abbrev VV:List (V×V)->List (ai×ai)->Prop:=ik λp q=>Ψ p.1 q.1/\Ψ p.2 q.2
def PPs(X:Cx)(ν:br)(keys:List (Option av))(values:List av)(trs:List (TE×TE)):Prop :=
 ∀(π:Q0b) (s:ak) (σ:St) (H:Hp) (Q:List (V×V)->Hp->Prop),Φ X π σ H s->SK trs σ H Q ->
  ay (au X.Ω X.w) X.A (evalPairs (pairTrees keys values X.env ν)) (λvs s'=>∃ps H',Φ X π σ H' s'/\VV ps vs/\Q ps H') X.xe s
def YA:PPs X ν [] [] []:=λπ s σ H Q I h=>pairTrees_nil_walk ⟨[],H,I,.nil,h⟩
theorem SM(hk:PE X k tk)(hv:PE X v tv)(hr:PPs X ν ks vs trs):
  PPs X ν (aa k::ks) (v::vs) ((tk,tv)::trs):=λπ s σ H Q I h =>
 pairTrees_cons_walk (eQ (hk π s σ H _ I h) λu s1 ⟨x,H1,I1,rx,q1⟩=>eQ (hv π s1 σ H1 _ I1 q1) λw2 s2 ⟨y,H2,I2,ry,q2⟩ =>
  eQ (hr π s2 σ H2 _ I2 q2) λws s3 ⟨ps,H3,I3,rel,q3⟩=>⟨(x,y)::ps,H3,I3,.cons ⟨rx,ry⟩ rel,q3⟩)
end L2
end
namespace L3
open L2
def Scr(K:ao)(H:Hp)(a:ah)(ns:Q0e):Prop:=(∃o,H a=aa (.tW o (.lst (ns.map V.int))))\/fP K (λ_=>af) a (ns.map V.int)
def Rw(S:ah->Prop)(H:Hp)(xs:Q0a)(p:ah):Prop:=∃as:List ah,H p=aa (.lst (as.map V.ref))/\as.Nodup/\(∀a∈as,S a)/\as.map H=xs.map λx=>aa (.lst (x.map V.int))
mutual
noncomputable def Dn(K:ao)(S:ah->Prop)(H:Hp):D->V->Prop
 |.non,v=>v=.non
 |.bl b,v=>v=.bl b
 |.int i,v=>v=.int i
 |.str x,v=>v=.str x
 |.tup ds,v=>∃a xs,v=.ref a/\H a=aa (.tup xs)/\aV K S H ds xs
 |.lst ds,v=>∃a xs,v=.ref a/\H a=aa (.lst xs)/\S a/\aV K S H ds xs
 |.pJ ns,v=>∃a,v=.ref a/\Scr K H a ns
 |.kA ks ds,v=>∃a xs,v=.ref a/\H a=aa (.dK (ks.zip xs))/\S a/\ks.length=xs.length/\aV K S H ds xs
 |.b7 q ks ds,v=>∃a o χ,v=.ref a/\H a=aa (.dX o χ)/\S a/\(χ.map (·.1)=ks/\q a o)/\aV K S H ds (χ.map (·.2.2))
 |.exc _ a,v=>v=.ref a
 |.rws xs,v=>∃a,v=.ref a/\S a/\Rw S H xs a
noncomputable def aV(K:ao)(S:ah->Prop)(H:Hp):List D->List V->Prop
 |[],xs=>xs=[]
 |d::ds,xs=>∃v r,xs=v::r/\Dn K S H d v/\aV K S H ds r
end
structure Fits (K:ao) (S S':ah->Prop) (H H':Hp):Prop where
 t:∀a xs,H a=aa (.tup xs)->H' a=aa (.tup xs)
 s:∀a ns,Scr K H a ns->Scr K H' a ns
 l:∀a xs,H a=aa (.lst xs)->S a->H' a=aa (.lst xs)/\S' a
 d:∀a xs,H a=aa (.dK xs)->S a->H' a=aa (.dK xs)/\S' a
 e:∀a o xs,H a=aa (.dX o xs)->S a->H' a=aa (.dX o xs)/\S' a
section
variable{K:ao}{S S':ah->Prop}{H H':Hp}
def Rw.fits(f:Fits K S S' H H')(hp:∀ys,H p=aa (.lst ys)->H' p=aa (.lst ys))(h:Rw S H xs p):Rw S' H' xs p:=by
 obtain⟨as,h1,h2,h3,h4⟩:=h;have hl:as.length=xs.length:=by have:=congrArg sr h4;simpa using this
 have at1:∀i (hi:i<as.length),H as[i]=aa (.lst ((xs[i]'(hl▸hi)).map V.int)):=λi hi=>by have:=congrArg (λl=>l[i]?) h4;simpa[hi,hl▸hi] using this
 show⟨as,hp _ h1,h2,λa ha=>?_,List.ext_getElem (by simpa using hl) λi hi hi2=>?_⟩
 .obtain ⟨i,hi,rfl⟩:=ly ha;show(f.l _ _ (at1 i hi) (h3 _ ha)).2
 .rw [bj] at hi;rw[ym,ym];show(f.l _ _ (at1 i hi) (h3 _ (sx hi))).1
mutual
theorem Dn.fits(f:Fits K S S' H H'):∀(d:D) (v:V),Dn K S H d v->Dn K S' H' d v
 |.non,v,h=>by simpa only[Dn] using h
 |.bl b,v,h=>by simpa only[Dn] using h
 |.int i,v,h=>by simpa only[Dn] using h
 |.str x,v,h=>by simpa only[Dn] using h
 |.tup ds,v,h=>by symm at h ⊢;obtain⟨a,xs,e,q,r⟩:=h;show⟨a,xs,e,f.t a xs q,aV.fits f ds xs r⟩
 |.lst ds,v,h=>by symm at h ⊢;obtain⟨a,xs,e,q,s,r⟩:=h;obtain⟨q',s'⟩:=f.l a xs q s;show⟨a,xs,e,q',s',aV.fits f ds xs r⟩
 |.pJ ns,v,h=>by symm at h ⊢;obtain⟨a,e,q⟩:=h;show⟨a,e,f.s a ns q⟩
 |.kA ks ds,v,h=>by symm at h ⊢;obtain⟨a,xs,e,q,s,l,r⟩:=h;obtain⟨q',s'⟩:=f.d a _ q s;show⟨a,xs,e,q',s',l,aV.fits f ds xs r⟩
 |.b7 _ ks ds,v,h=>by symm at h ⊢;obtain⟨a,o,χ,e,q,s,l,r⟩:=h;obtain⟨q',s'⟩:=f.e a _ _ q s;show⟨a,o,χ,e,q',s',l,aV.fits f ds _ r⟩
 |.exc _ _,v,h=>by simpa only[Dn] using h
 |.rws xs,v,h=>by symm at h ⊢;obtain⟨a,e,s,r⟩:=h;obtain⟨as,h1,h2⟩:=r;show⟨a,e,(f.l a _ h1 s).2,Rw.fits f (λys e1=>(f.l a ys e1 s).1) ⟨as,h1,h2⟩⟩
theorem aV.fits(f:Fits K S S' H H'):∀(ds:List D) (xs:List V),aV K S H ds xs->aV K S' H' ds xs
 |[],xs,h=>by simpa only[aV] using h
 |d::ds,xs,h=>by simp only[aV] at h ⊢;obtain⟨v,r,e,h1,h2⟩:=h;show⟨v,r,e,Dn.fits f d v h1,aV.fits f ds r h2⟩
end
mutual
theorem Dn.NJ:∀(d:D) (v:V),d.A1=ae->Dn K S H d v->Dn K S' H d v
 |.non,v,_,h=>by simpa only[Dn] using h
 |.bl b,v,_,h=>by simpa only[Dn] using h
 |.int i,v,_,h=>by simpa only[Dn] using h
 |.str x,v,_,h=>by simpa only[Dn] using h
 |.tup ds,v,hi,h=>by symm at h ⊢;obtain⟨a,xs,e,q,r⟩:=h;show⟨a,xs,e,q,aV.NJ ds xs (by simpa only[D.A1] using hi) r⟩
 |.lst _,v,hi,h=>by simp only[D.A1] at hi;cases hi
 |.pJ ns,v,_,h=>by simpa only[Dn] using h
 |.kA _ _,v,hi,h=>by simp only[D.A1] at hi;cases hi
 |.b7 _ _ _,v,hi,h=>by simp only[D.A1] at hi;cases hi
 |.exc _ _,v,_,h=>by simpa only[Dn] using h
 |.rws _,v,hi,h=>by simp only[D.A1] at hi;cases hi
theorem aV.NJ:∀(ds:List D) (xs:List V),pK ds=ae->aV K S H ds xs->aV K S' H ds xs
 |[],xs,_,h=>by simpa only[aV] using h
 |d::ds,xs,hi,h=>by simp only[pK,ij] at hi;simp only[aV] at h ⊢;obtain⟨v,r,e,h1,h2⟩:=h;show⟨v,r,e,Dn.NJ d v hi.1 h1,aV.NJ ds r hi.2 h2⟩
end
def Dn.A1(hi:d.A1=ae)(h:Dn K S H d v):Dn K S' H d v:=Dn.NJ d v hi h
def aV.A1(hi:pK ds=ae)(h:aV K S H ds xs):aV K S' H ds xs:=aV.NJ ds xs hi h
def fP.some(h:fP K (λ_=>af) a xs):fP K H a xs:=by
 rcases h with(h|⟨o,h⟩)|h
 .cases h
 .cases h
 .exact .inr h
def Scr.sq(h:Scr K H a ns):fP K H a (ns.map V.int):=by
 rcases h with⟨o,h⟩|h
 .exact .inl (.inr ⟨o,h⟩)
 .exact fP.some h
def Wr(H:Hp)(p:ah):Prop:=(∃xs,H p=aa (.lst xs))\/(∃xs,H p=aa (.dK xs)) \/∃o xs,H p=aa (.dX o xs)
def Wr.tup(w:Wr H p)(h:H a=aa (.tup xs)):upd H p o a=aa (.tup xs):=by
 rw[aQ]
 .exact h
 .intro e;subst e;rcases w with⟨ys,w⟩|⟨ys,w⟩|⟨_,ys,w⟩<;>rw[h] at w<;>cases w
def Wr.pJ(w:Wr H p)(h:Scr K H a ns):Scr K (upd H p o) a ns:=by
 rcases h with⟨ob,h⟩|h
 .refine .inl ⟨ob,?_⟩;rw[aQ]
  .exact h
  .intro e;subst e;rcases w with⟨ys,w⟩|⟨ys,w⟩|⟨_,ys,w⟩<;>rw[h] at w<;>cases w
 .exact .inr h
def Fits.same(e:ξ H H'):Fits K S S H H' :=
 ⟨λa xs h=>e _ _ h,λa ns h=>h.elim (λ⟨o,h⟩=>.inl ⟨o,e _ _ h⟩) .inr,λa xs h s=>⟨e _ _ h,s⟩,λa xs h s=>⟨e _ _ h,s⟩,λa _ xs h s=>⟨e _ _ h,s⟩⟩
def Fits.mono(m:∀a,S a->S' a):Fits K S S' H H :=
 ⟨λ_ _ h=>h,λ_ _ h=>h,λa _ h s=>⟨h,m a s⟩,λa _ h s=>⟨h,m a s⟩,λa _ _ h s=>⟨h,m a s⟩⟩
def Fits.fresh(hp:H p=af):Fits K S (λa=>S a/\a≠p) H H :=
 ⟨λ_ _ h=>h,λ_ _ h=>h,λa _ h s=>⟨h,s,aY h hp⟩,λa _ h s=>⟨h,s,aY h hp⟩,λa _ _ h s=>⟨h,s,aY h hp⟩⟩
def Fits.upd(w:Wr H p)(hs:¬ S p):Fits K S S H (upd H p o):=by have ne:∀a,S a->a≠p:=λa s e=>hs (e▸s);show⟨λa xs h=>w.tup h,λa ns h=>w.pJ h,λa xs h s=>⟨by rw[aQ (ne a s)];show h,s⟩,λa xs h s=>⟨by rw[aQ (ne a s)];show h,s⟩,λa _ xs h s=>⟨by rw[aQ (ne a s)];show h,s⟩⟩
def Fits.trans(a:Fits K S S' H H')(b:Fits K S' S'' H' H''):Fits K S S'' H H'' :=
 ⟨λx xs h=>b.t x xs (a.t x xs h),λx ns h=>b.s x ns (a.s x ns h),λx xs h s=>let ⟨h1,s1⟩:=a.l x xs h s;b.l x xs h1 s1,λx xs h s=>let ⟨h1,s1⟩:=a.d x xs h s;b.d x xs h1 s1,λx o xs h s=>let ⟨h1,s1⟩:=a.e x o xs h s;b.e x o xs h1 s1⟩
def aN(hp:H p=af):ξ H (upd H p o):=λb u h=>by rw[aQ (aY h hp)];show h
theorem aV.len:∀{ds:List D} {xs:List V},aV K S H ds xs->ds.length=xs.length
 |[],xs,h=>by simp only[aV] at h;subst h;rfl
 |d::ds,xs,h=>by simp only[aV] at h;obtain⟨v,r,e,_,h2⟩:=h;subst e;simp[aV.len h2]
theorem aV.get:∀{ds:List D} {xs:List V} {i:Nat} {d:D},aV K S H ds xs->ds[i]?=aa d ->∃v,xs[i]?=aa v/\Dn K S H d v
 |[],xs,i,d,h,e=>by simp at e
 |d::ds,xs,i,d',h,e=>by
  simp only[aV] at h;obtain⟨v,r,e1,h1,h2⟩:=h;subst e1
  cases i with
  |zero=>simp at e;subst e;show⟨v,by simp,h1⟩
  |succ i =>
   obtain⟨u,e2,q⟩:=aV.get (i:=i) (d:=d') h2 (by simpa using e);show⟨u,by simpa using e2,q⟩
def aV.nil:aV K S H [] []:=by simp only[aV]
def aV.cons(h:Dn K S H d v)(t:aV K S H ds xs):aV K S H (d::ds) (v::xs):=by simp only[aV];show⟨v,xs,rfl,h,t⟩
def aV.bN(h:aV K S H (d::ds) xs):∃v r,xs=v::r/\Dn K S H d v/\aV K S H ds r:=by simpa only[aV] using h
theorem aV.append:∀{ds es:List D} {xs ys:List V},aV K S H ds xs->aV K S H es ys->aV K S H (ds++es) (xs++ys)
 |[],es,xs,ys,h,g=>by simp only[aV] at h;subst h;show g
 |d::ds,es,xs,ys,h,g=>by obtain⟨v,r,e,h1,h2⟩:=h.bN;subst e;show aV.cons h1 (aV.append h2 g)
def aV.one(h:Dn K S H d v):aV K S H [d] [v]:=aV.cons h aV.nil
theorem aV.take:∀{ds:List D} {xs:List V} (n:Nat),aV K S H ds xs->aV K S H (ds.take n) (xs.take n)
 |_,_,0,_=>by simp[aV.nil]
 |[],xs,n+1,h=>by simp only[aV] at h;subst h;simp[aV.nil]
 |d::ds,xs,n+1,h=>by obtain⟨v,r,e,h1,h2⟩:=h.bN;subst e;simpa using aV.cons h1 (aV.take n h2)
theorem aV.drop:∀{ds:List D} {xs:List V} (n:Nat),aV K S H ds xs->aV K S H (ds.drop n) (xs.drop n)
 |_,_,0,h=>by simpa using h
 |[],xs,n+1,h=>by simp only[aV] at h;subst h;simp[aV.nil]
 |d::ds,xs,n+1,h=>by obtain⟨v,r,e,h1,h2⟩:=h.bN;subst e;simpa using aV.drop n h2
theorem aV.set:∀{ds:List D} {xs:List V} {d:D} {v:V} (n:Nat),Dn K S H d v->aV K S H ds xs->aV K S H (ds.set n d) (xs.set n v)
 |[],xs,d,v,n,h,g=>by simp only[aV] at g;subst g;simp[aV.nil]
 |d::ds,xs,d',v',n,h,g=>by
  obtain⟨v,r,e,h1,h2⟩:=g.bN;subst e
  cases n with
  |zero=>show aV.cons h h2
  |succ n=>show aV.cons h1 (aV.set n h h2)
theorem aV.erase:∀{ds:List D} {xs:List V} (n:Nat),aV K S H ds xs->aV K S H (ds.eraseIdx n) (xs.eraseIdx n)
 |[],xs,n,g=>by simp only[aV] at g;subst g;simp[aV.nil]
 |d::ds,xs,n,g=>by
  obtain⟨v,r,e,h1,h2⟩:=g.bN;subst e
  cases n with
  |zero=>show h2
  |succ n=>show aV.cons h1 (aV.erase n h2)
theorem aV.ints:∀{ns:Q0e} {xs:List V},aV K S H (ns.map D.int) xs↔xs=ns.map V.int
 |[],xs=>by simp[aV]
 |n::ns,xs=>by
  rw[bt,bt]
  constructor
  .intro h;obtain⟨v,r,e,h1,h2⟩:=h.bN;symm at h1;rw[e,h1,aV.ints.mp h2]
  .intro e;rw[e];show aV.cons (by symm) (aV.ints.mpr rfl)
end
def Sl(K:ao)(S:ah->Prop)(H:Hp)(ρ:cM)(σ:St):Prop:=∀(i:Nat) (d:D),ρ[i]?=aa (aa d) ->∃v,σ[i]?=aa (aa v)/\Dn K S H d v
theorem Sl.fits{K:ao}{S S':ah->Prop}{H H':Hp}{ρ:cM}{σ:St}(f:Fits K S S' H H')(h:Sl K S H ρ σ):Sl K S' H' ρ σ:=λi d e =>
 let ⟨v,e1,q⟩:=h i d e;⟨v,e1,Dn.fits f d v q⟩
def wN(K:ao)(S:ah->Prop)(H:Hp)(d:D)(p:ah):Prop :=
 match d with
 |.lst ds=>∃xs,H p=aa (.lst xs)/\aV K S H ds xs
 |.kA ks ds=>∃xs,H p=aa (.dK (ks.zip xs))/\ks.length=xs.length/\aV K S H ds xs
 |.b7 q ks ds=>∃o χ,H p=aa (.dX o χ)/\(χ.map (·.1)=ks/\q p o)/\aV K S H ds (χ.map (·.2.2))
 |.rws xs=>Rw S H xs p
 |_=>False
def SO(S:ah->Prop)(w:Nat->ah)(ρ:bT):ah->Prop:=λa=>S a /\∀(i:Nat) (d:D),ρ[i]?=aa (Sv.ow d)->a≠w i
structure ST (K:ao) (H₀:Hp) (S:ah->Prop) (w:Nat->ah) (σ:St) (H:Hp) (ρ:bT) (G:List (D×V)):Prop where
 fc:∀a,H₀ a=af->S a
 sm:ξ H₀ H
 own:∀(i:Nat) (d:D),ρ[i]?=aa (Sv.ow d)->σ[i]?=aa (aa (.ref (w i)))/\H₀ (w i)=af/\wN K (SO S w ρ) H d (w i)
 inj:∀(i j:Nat) (d e:D),ρ[i]?=aa (Sv.ow d)->ρ[j]?=aa (Sv.ow e)->w i=w j->i=j
 ro:∀(i:Nat) (d:D),ρ[i]?=aa (Sv.ro d) ->∃v,σ[i]?=aa (aa v)/\Dn K (SO S w ρ) H d v
 gh:∀g∈G,Dn K (SO S w ρ) H g.1 g.2
 rw:∀(i:Nat) (xs:Q0a),ρ[i]?=aa (Sv.ow (.rws xs)) ->∀ys,H (w i)=aa (.lst ys) ->∀a,V.ref a∈ys->H₀ a=af
section
variable{K:ao}{H₀ H H':Hp}{S S':ah->Prop}{w:Nat->ah}{σ:St}{ρ:bT}{G:List (D×V)}
theorem wN.wr(h:wN K S H d p):Wr H p:=by
 cases d with
 |lst ds=>obtain⟨xs,e,_⟩:=h;show .inl ⟨_,e⟩
 |kA ks ds=>obtain⟨xs,e,_⟩:=h;show .inr (.inl ⟨_,e⟩)
 |b7 q0 ks ds=>obtain⟨o,χ,e,_⟩:=h;show .inr (.inr ⟨_,_,e⟩)
 |rws xs=>obtain⟨_,e,_⟩:=h;show .inl ⟨_,e⟩
 |_=>show jq h
theorem wN.dn{d:D}{p:ah}(h:wN K S H d p)(hs:S' p)(m:∀a,S a->S' a):Dn K S' H d (.ref p):=by
 cases d with
 |lst ds=>obtain⟨xs,e,q⟩:=h;symm;show⟨p,xs,rfl,e,hs,aV.fits (.mono m) ds xs q⟩
 |kA ks ds=>obtain⟨xs,e,l,q⟩:=h;symm;show⟨p,xs,rfl,e,hs,l,aV.fits (.mono m) ds xs q⟩
 |b7 q0 ks ds=>obtain⟨o,χ,e,l,q⟩:=h;symm;show⟨p,o,χ,rfl,e,hs,l,aV.fits (.mono m) ds _ q⟩
 |rws xs=>symm;show⟨p,rfl,hs,Rw.fits (.mono (K:=K) m) (λ_ e=>e) h⟩
 |_=>show jq h
theorem wN.fits{d:D}{p:ah}(f:Fits K S S' H H')(hp:∀o,H p=aa o->H' p=aa o)(h:wN K S H d p):wN K S' H' d p:=by
 cases d with
 |lst ds=>obtain⟨xs,e,q⟩:=h;show⟨xs,hp _ e,aV.fits f ds xs q⟩
 |kA ks ds=>obtain⟨xs,e,l,q⟩:=h;show⟨xs,hp _ e,l,aV.fits f ds xs q⟩
 |b7 q0 ks ds=>obtain⟨o,χ,e,l,q⟩:=h;show⟨o,χ,hp _ e,l,aV.fits f ds _ q⟩
 |rws xs=>show Rw.fits f (λ_ e=>hp _ e) h
 |_=>show jq h
def ST.rwN(h:ST K H₀ S w σ H ρ G)(q:ρ[i]?=aa (Sv.ow (.rws xs)))(hp:∀o,H (w i)=aa o->H' (w i)=aa o):∀ys,H' (w i)=aa (.lst ys) ->∀a,V.ref a∈ys->H₀ a=af:=λys hy=>by obtain⟨as,e,_⟩:=(h.own i _ q).2.2;rw[hp _ e] at hy;cases hy;show h.rw i xs q _ e
def ST.PB(h:ST K H₀ S w σ H ρ G):∀a,H a=af->S a:=λa e=>h.fc a (h.sm.free e)
def ST.ID(h:ST K H₀ S w σ H ρ G):∀a,H a=af->SO S w ρ a:=λa e=>⟨h.PB a e,λi d q z=>by have wr:=(h.own i d q).2.2.wr;subst z;rcases wr with⟨xs,k⟩|⟨xs,k⟩|⟨_,xs,k⟩<;>rw[e] at k<;>cases k⟩
theorem yL{i:Nat}{d:D}(h:(bK ρ)[i]?=aa (aa d)):ρ[i]?=aa (Sv.ro d)\/ρ[i]?=aa (Sv.ow d):=by
 unfold bK at h;rw[dj] at h
 cases e:ρ[i]? with
 |none=>rw[e] at h;cases h
 |some s =>
  rw[e] at h
  cases s with
  |no=>cases h
  |ro d'=>cases h;show .inl rfl
  |ow d'=>cases h;show .inr rfl
theorem CC{i:Nat}{d:D}(h:(gQ ρ)[i]?=aa (aa d)):ρ[i]?=aa (Sv.ro d):=by
 unfold gQ at h;rw[dj] at h
 cases e:ρ[i]? with
 |none=>rw[e] at h;cases h
 |some s =>
  rw[e] at h
  cases s with
  |no=>cases h
  |ro d'=>cases h;rfl
  |ow d'=>cases h
def ST.all(h:ST K H₀ S w σ H ρ G):Sl K S H (bK ρ) σ:=λi d e=>by
 rcases yL e with e|e
 .obtain ⟨v,e1,q⟩:=h.ro i d e;show⟨v,e1,Dn.fits (.mono λ_ z=>z.1) d v q⟩
 .obtain ⟨e1,e2,q⟩:=h.own i d e;show⟨_,e1,q.dn (h.fc _ e2) λ_ z=>z.1⟩
def ST.rd(h:ST K H₀ S w σ H ρ G):Sl K (SO S w ρ) H (gQ ρ) σ:=λi d e=>h.ro i d (CC e)
def ST.same(h:ST K H₀ S w σ H ρ G)(e:ξ H H'):ST K H₀ S w σ H' ρ G :=
 ⟨h.fc,h.sm.trans e,λi d q=>let ⟨a,b,c⟩:=h.own i d q;⟨a,b,c.fits (.same e) λo z=>e _ o z⟩,h.inj,λi d q=>let ⟨v,a,b⟩:=h.ro i d q;⟨v,a,Dn.fits (.same e) d v b⟩,λg hg=>Dn.fits (.same e) _ _ (h.gh g hg),λi xs q=>h.rwN q λo z=>e _ o z⟩
def SO.mono{ρ':bT}(hw:∀(i:Nat) (d:D),ρ'[i]?=aa (Sv.ow d) ->∃e,ρ[i]?=aa (Sv.ow e)):∀a,SO S w ρ a->SO S w ρ' a:=λa hq8=>by obtain⟨s,n⟩:=hq8;show⟨s,λi d e=>let ⟨d',e'⟩:=hw i d e;n i d' e'⟩
def get_set{α:Type}{l:List α}{i j:Nat}{x y:α}(h:(l.set i x)[j]?=aa y):(j=i/\y=x/\i<l.length)\/(j≠i/\l[j]?=aa y):=by
 by_cases e:j=i
 .subst e;by_cases hl:j<l.length
  .rw [lz hl] at h;show .inl ⟨rfl,(fg h).symm,hl⟩
  .rw [kz (by simp;lia)] at h;cases h
 .rw [jo (fj e)] at h;show .inr ⟨e,h⟩
def ST.mZ{i:Nat}{d:D}{v:V}(h:ST K H₀ S w σ H ρ G)(hi:i<σ.length)(q:Dn K (SO S w ρ) H d v):ST K H₀ S w (σ.set i (aa v)) H (ρ.set i (.ro d)) G:=by
 have hw:∀(j:Nat) (e:D),(ρ.set i (.ro d))[j]?=aa (Sv.ow e)->j≠i/\ρ[j]?=aa (Sv.ow e):=λj e he=>by
  rcases get_set he with⟨_,z,_⟩|z
  .cases z
  .exact z
 have m:∀a,SO S w ρ a->SO S w (ρ.set i (.ro d)) a:=SO.mono λj e he=>⟨e,(hw j e he).2⟩;show⟨h.fc,h.sm,λj e he=>?_,λj k d' e' h1 h2=>h.inj j k d' e' (hw j d' h1).2 (hw k e' h2).2,λj e he=>?_,λg hg=>Dn.fits (.mono m) _ _ (h.gh g hg),λj xs hx=>h.rw j xs (hw j _ hx).2⟩
 .obtain ⟨hj,he'⟩:=hw j e he;obtain⟨a,b,c⟩:=h.own j e he';show⟨by rw[jo (fj hj)];show a,b,c.fits (.mono m) λ_ z=>z⟩
 .rcases get_set he with⟨hj,z,_⟩|⟨hj,z⟩
  .cases z;subst hj;show⟨v,lz hi,Dn.fits (.mono m) d v q⟩
  .obtain ⟨u,a,b⟩:=h.ro j e z;show⟨u,by rw[jo (fj hj)];show a,Dn.fits (.mono m) e u b⟩
theorem ST.wQ{i:Nat}{d:D}{p:ah}(h:ST K H₀ S w σ H ρ G)(hi:i<σ.length)(e:ξ H H')(hp:H p=af)(q:wN K (λa=>SO S w ρ a/\a≠p) H' d p)
  (hr:∀xs,d=.rws xs ->∀ys,H' p=aa (.lst ys) ->∀a,V.ref a∈ys->H₀ a=af:=by intro _ z;cases z):
  ST K H₀ S (λj=>if j=i then p else w j) (σ.set i (aa (.ref p))) H' (ρ.set i (.ow d)) G:=by
 have h0:H₀ p=af:=h.sm.free hp;have hw:∀(j:Nat) (e:D),j≠i->(ρ.set i (.ow d))[j]?=aa (Sv.ow e)->ρ[j]?=aa (Sv.ow e):=λj e hj he=>by
  rcases get_set he with⟨z,_,_⟩|⟨_,z⟩
  .exact Zw z hj
  .exact z
 have m:∀a,(SO S w ρ a/\a≠p)->SO S (λj=>if j=i then p else w j) (ρ.set i (.ow d)) a:=λa ⟨⟨s,n⟩,ne⟩=>⟨s,λj f hf=>by
  show a≠(if j=i then p else w j);by_cases hj:j=i
  .rw [Z_ hj];show ne
  .rw [Zz hj];show n j f (hw j f hj hf)⟩
 have F:Fits K (SO S w ρ) (SO S (λj=>if j=i then p else w j) (ρ.set i (.ow d))) H H':=((Fits.fresh hp).trans (.mono m)).trans (.same e);have wp:∀(j:Nat) (f:D),ρ[j]?=aa (Sv.ow f)->w j≠p:=λj f hf z=>by have wr:=(h.own j f hf).2.2.wr;rw[z] at wr;rcases wr with⟨xs,k⟩|⟨xs,k⟩|⟨_,xs,k⟩<;>rw[hp] at k<;>cases k
 show⟨h.fc,h.sm.trans e,λj f hf=>?_,λj k d' e' h1 h2 z=>?_,λj f hf=>?_,λg hg=>Dn.fits F _ _ (h.gh g hg),λj xs hx=>?_⟩
 rotate_right
 .show ∀ys,H' (if j=i then p else w j)=aa (.lst ys)->_;by_cases hj:j=i
  .subst hj;rw[Z_ rfl];rcases get_set hx with⟨_,z,_⟩|⟨z,_⟩
   .exact hr xs (Sv.ow.inj z).symm
   .exact Zw rfl z
  .rw [Zz hj];show h.rwN (hw j _ hj hx) λo z=>e _ o z
 .by_cases hj:j=i
  .subst hj;rcases get_set hf with⟨_,z,_⟩|⟨z,_⟩
   .cases z;rw[Z_ rfl];show⟨lz hi,h0,q.fits (.mono m) λ_ z=>z⟩
   .exact Zw rfl z
  .rw [Zz hj];obtain⟨a,b,c⟩:=h.own j f (hw j f hj hf);show⟨by rw[jo (fj hj)];show a,b,c.fits F λo z=>e _ o z⟩
 .have z:(if j=i then p else w j)=(if k=i then p else w k):=z;by_cases hj:j=i
  .by_cases hk:k=i
   .rw [hj,hk]
   .rw [Z_ hj,Zz hk] at z;show Zw z.symm (wp k e' (hw k e' hk h2))
  .by_cases hk:k=i
   .rw [Zz hj,Z_ hk] at z;show Zw z (wp j d' (hw j d' hj h1))
   .rw [Zz hj,Zz hk] at z;show h.inj j k d' e' (hw j d' hj h1) (hw k e' hk h2) z
 .rcases get_set hf with⟨_,z,_⟩|⟨hj,z⟩
  .cases z
  .obtain ⟨u,a,b⟩:=h.ro j f z;show⟨u,by rw[jo (fj hj)];show a,Dn.fits F f u b⟩
def ST.write{i:Nat}{d d':D}{o:HO}(h:ST K H₀ S w σ H ρ G)(e:ρ[i]?=aa (Sv.ow d))(q:wN K (SO S w ρ) (upd H (w i) o) d' (w i))(hr:∀xs,d'≠.rws xs:=by intro _ z;cases z):ST K H₀ S w σ (upd H (w i) o) (ρ.set i (.ow d')) G:=by
 obtain⟨a0,b0,c0⟩:=h.own i d e;have so:SO S w (ρ.set i (.ow d'))=SO S w ρ:=by
  funext a
  show propext ⟨λ⟨s,n⟩=>⟨s,λj f hf=>?_⟩,λ⟨s,n⟩=>⟨s,λj f hf=>?_⟩⟩
  .by_cases hj:j=i
   .subst hj;show n j d' (by rw[lz (cz.mp e).1])
   .exact n j f (by rw[jo (fj hj)];show hf)
  .by_cases hj:j=i
   .subst hj;show n j d e
   .exact n j f (by rw[jo (fj hj)] at hf;show hf)
 have nS:¬ SO S w ρ (w i):=λ⟨_,n⟩=>n i d e rfl;have F:Fits K (SO S w ρ) (SO S w ρ) H (upd H (w i) o):=.upd c0.wr nS;show⟨h.fc,λb u hb=>?_,λj f hf=>?_,λj k d1 e1 h1 h2 z=>?_,λj f hf=>?_,λg hg=>by rw[so];show Dn.fits F _ _ (h.gh g hg),λj xs hx=>?_⟩
 rotate_right
 .rcases get_set hx with⟨_,z,_⟩|⟨hj,z⟩
  .exact Zw (Sv.ow.inj z).symm (hr xs)
  .exact h.rwN z λob hob=>by rw[aQ λy=>hj (h.inj _ _ _ _ z e y)];show hob
 .rw [aQ (aY hb b0)];show h.sm b u hb
 .rw [so];rcases get_set hf with⟨hj,z,_⟩|⟨hj,z⟩
  .cases z;subst hj;show⟨a0,b0,q⟩
  .obtain ⟨a,b,c⟩:=h.own j f z;show⟨a,b,c.fits F λob hob=>by rw[aQ λy=>hj (h.inj _ _ _ _ z e y)];show hob⟩
 .have g1:∃d2,ρ[j]?=aa (Sv.ow d2):=by
   rcases get_set h1 with⟨hj,_,_⟩|⟨_,z⟩
   .subst hj;show⟨d,e⟩
   .exact ⟨_,z⟩
  have g2:∃d2,ρ[k]?=aa (Sv.ow d2):=by
   rcases get_set h2 with⟨hj,_,_⟩|⟨_,z⟩
   .subst hj;show⟨d,e⟩
   .exact ⟨_,z⟩
  obtain⟨_,g1⟩:=g1;obtain⟨_,g2⟩:=g2;show h.inj j k _ _ g1 g2 z
 .rw [so];rcases get_set hf with⟨_,z,_⟩|⟨hj,z⟩
  .cases z
  .obtain ⟨u,a,b⟩:=h.ro j f z;show⟨u,a,Dn.fits F f u b⟩
def Pz{n i:Nat}{d:D}{P:Nat->Prop}:∀(j:Nat) (xs:Q0a),((cc n Sv.no).set i (.ro d))[j]?=aa (Sv.ow (.rws xs))->P j:=λj xs z=>by
 rcases get_set z with⟨_,z,_⟩|⟨_,z⟩
 .cases z
 .rw [jg] at z;split at z<;>cases z
def ST.ghost(h:ST K H₀ S w σ H ρ G)(hg:∀g∈G',Dn K (SO S w ρ) H g.1 g.2):ST K H₀ S w σ H ρ G':=⟨h.fc,h.sm,h.own,h.inj,h.ro,hg,h.rw⟩
end
open PySem.Spec PyProof.Rows
abbrev WE:=cM->(D->Prop)->Prop
abbrev WT:=cM->(Bool->Prop)->Prop
abbrev WA:=cM->(List D->Prop)->Prop
def lift(K:ao)(t:WE):TE:=λσ H Q=>∃(S:ah->Prop) (ρ:cM) (Q3:D->Prop),(∀a,H a=af->S a)/\Sl K S H ρ σ/\t ρ Q3 /\∀v H' d,ξ H H'->Dn K S H' d v->Q3 d->Q v H'
def liftT(K:ao)(t:WT):TT:=λσ H Q=>∃(S:ah->Prop) (ρ:cM) (Q3:Bool->Prop),(∀a,H a=af->S a)/\Sl K S H ρ σ/\t ρ Q3 /\∀b H',ξ H H'->Q3 b->Q b H'
def SN(K:ao)(t:WA):TA:=λσ H Q=>∃(S:ah->Prop) (ρ:cM) (Q3:List D->Prop),(∀a,H a=af->S a)/\Sl K S H ρ σ/\t ρ Q3 /\∀vs H' ds,ξ H H'->aV K S H' ds vs->Q3 ds->Q vs H'
def SQ(K:ao)(t:WE):TE:=λσ H Q=>∃(S:ah->Prop) (ρ:cM) (Q3:D->Prop),(∀a,H a=af->S a)/\Sl K S H ρ σ/\t ρ Q3 /\
 ∀p xs H' ds,H p=af->H' p=aa (.lst xs)->ξ H H'->aV K (λa=>S a/\a≠p) H' ds xs->Q3 (.lst ds)->Q (.ref p) H'
def cR(X:Cx)(e:av)(t:WE):Prop:=PE X e (lift X.K t)
def EY(X:Cx)(e:av)(t:WE):Prop:=PE X e (SQ X.K t)
def wR(X:Cx)(e:av)(t:WT):Prop:=PT X e (liftT X.K t)
def yM(X:Cx)(es:List av)(t:WA):Prop:=PA X es (SN X.K t)
section
variable{X:Cx}
def imp(h:PE X e t)(f:∀σ H Q,t' σ H Q->t σ H Q):PE X e t':=λπ s σ H Q I q=>h π s σ H Q I (f σ H Q q)
def NK(h:PT X e t)(f:∀σ H Q,t' σ H Q->t σ H Q):PT X e t':=λπ s σ H Q I q=>h π s σ H Q I (f σ H Q q)
def SR(h:PA X e t)(f:∀σ H Q,t' σ H Q->t σ H Q):PA X e t':=λν π s σ H Q I q=>h ν π s σ H Q I (f σ H Q q)
def bG{H H':Hp}{S:ah->Prop}(fc:∀a,H a=af->S a)(s:ξ H H'):∀a,H' a=af->S a:=λa e=>fc a (s.free e)
theorem EY.pe(h:EY X e t):cR X e t:=imp h λσ H Q hq9=>by obtain⟨S,ρ,Q3,fc,sl,ht,k⟩:=hq9;show⟨S,ρ,Q3,fc,sl,ht,λp xs H' ds hp hp' s dn q=>k _ H' _ s (by symm;show⟨p,xs,rfl,hp',fc p hp,aV.fits (.mono λ_ z=>z.1) ds xs dn⟩) q⟩
noncomputable def YB(i:Nat):WE:=λρ Q=>match ρ[i]? with
 |some (aa d)=>Q d
 |_=>False
def wC(d:D):WE:=λ_ Q=>Q d
def SS{K:ao}{i:Nat}{σ:L2.St}{H:Hp}{Q:VK}(h:lift K (YB i) σ H Q):tY i σ H Q:=by
 obtain⟨S,ρ,Q3,fc,sl,ht,k⟩:=h;unfold YB at ht;split at ht
 .rename_i d e;obtain⟨v,e1,q⟩:=sl i d e;show⟨v,e1,k v H d (ξ.refl H) q ht⟩
 .exact ht.elim
def x3(i:Nat)(hN:X.N[i]?=aa x:=by rfl)(hv:x6 X.env.scope x:=by walk_at "1")(hd:Zu x:=by decide)
  (hcd:Zt x:=by decide):cR X (.Name x ν) (YB i):=imp (jZ hN hv hd hcd) λ_ _ _=>SS
def CD{K:ao}{d:D}{v:V}{σ:L2.St}{H:Hp}{Q:VK}(hd:∀S H,Dn K S H d v)(h:lift K (wC d) σ H Q):tC v σ H Q:=by obtain⟨S,ρ,Q3,fc,sl,ht,k⟩:=h;show k v H d (ξ.refl H) (hd S H) ht
def i3{j ν}:cR X (.Constant (.int i) j ν) (wC (.int i)):=imp aB3 λ_ _ _=>CD (λ_ _=>by symm)
def b3{j ν}:cR X (.Constant (.bool b) j ν) (wC (.bl b)):=imp Vt λ_ _ _=>CD (λ_ _=>by symm)
def n3{j ν}:cR X (.Constant .none j ν) (wC .non):=imp aB4 λ_ _ _=>CD (λ_ _=>by symm)
def s3{j ν}:cR X (.Constant (.str x) j ν) (wC (.str x)):=imp aB5 λ_ _ _=>CD (λ_ _=>by symm)
abbrev F2:=D->D->(D->Prop)->Prop
def iJ(f:F2)(ta tb:WE):WE:=λρ Q=>ta ρ λx=>tb ρ λy=>f x y Q
def O3(K:ao)(r:R2)(f:F2):Prop:=∀(S:ah->Prop) (H:Hp) (x y:V) (dx dy:D) (Q3:D->Prop) (Q:VK),(∀a,H a=af->S a)->Dn K S H dx x->Dn K S H dy y->f dx dy Q3 ->
 (∀v H' d,ξ H H'->Dn K S H' d v->Q3 d->Q v H')->r x y H Q
def qJ{K:ao}{r:R2}{f:F2}{ta tb:WE}{σ:L2.St}{H:Hp}{Q:VK}(h3:O3 K r f)(h:lift K (iJ f ta tb) σ H Q):pk r (lift K ta) (lift K tb) σ H Q:=by obtain⟨S,ρ,Q3,fc,sl,ht,k⟩:=h;show⟨S,ρ,_,fc,sl,ht,λv H1 d s1 d1 q1=>?_⟩;show⟨S,ρ,_,bG fc s1,Sl.fits (.same s1) sl,q1,λu H2 d2 s2 d2' q2=>?_⟩;show h3 S H2 v u d d2 Q3 Q (bG fc (s1.trans s2)) (Dn.fits (.same s2) _ _ d1) d2' q2 λv' H' d' s' dn' q'=>k v' H' d' ((s1.trans s2).trans s') dn' q'
theorem SU(ho:i9 X (binaryOp op) r)(h3:O3 X.K r f)(ha:cR X a ta)(hb:cR X b tb):cR X (.BinOp a op b ν) (iJ f ta tb) :=
 imp (RP ho ha hb) λ_ _ _=>qJ h3
def NL(C:Int->Int->Prop)(g:Int->Int->D):F2
 |.int i,.int j,Q=>C i j/\Q (g i j)
 |_,_,_=>False
theorem l4{K:ao}{C:Int->Int->Prop}{g:Int->Int->Int}:O3 K (rI C λi j=>.int (g i j)) (NL C λi j=>.int (g i j)):=by
 intro S H x y dx dy Q3 Q fc hx hy hf k;cases dx<;>(try show hf.elim)<;>cases dy<;>try show hf.elim
 symm at hx hy;show⟨_,_,hx,hy,hf.1,k _ H _ (ξ.refl H) (by symm) hf.2⟩
noncomputable def tG(g:Int->Int->D):F2
 |.int i,.int j,Q=>Q (g i j)
 |_,_,_=>False
def YC{K:ao}{g:Int->Int->Int}:O3 K (M6 λi j=>.int (g i j)) (tG λi j=>.int (g i j)):=by
 intro S H x y dx dy Q3 Q fc hx hy hf k;cases dx<;>(try show hf.elim)<;>cases dy<;>try show hf.elim
 symm at hx hy;show⟨_,_,hx,hy,k _ H _ (ξ.refl H) (by symm) hf⟩
def Py:F2:=tG λi j=>.int (i-j)
def Px:F2:=NL (λ_ j=>0<j) λi j=>.int (i%j)
def Pw:F2:=NL Af λi j=>.int (i/j)
def Pu:F2:=NL vq λi j=>.int (i^j.toNat)
section
variable{a b:av}{ν:br}{ta tb:WE}
def Oz(ha:cR X a ta)(hb:cR X b tb):cR X (.BinOp a .Sub b ν) (iJ Py ta tb):=SU Yr YC ha hb
def Oy(ha:cR X a ta)(hb:cR X b tb):cR X (.BinOp a .Mod b ν) (iJ Px ta tb):=SU Yq l4 ha hb
def Ox(ha:cR X a ta)(hb:cR X b tb):cR X (.BinOp a .FloorDiv b ν) (iJ Pw ta tb):=SU XS l4 ha hb
def Ow(ha:cR X a ta)(hb:cR X b tb):cR X (.BinOp a .Pow b ν) (iJ Pu ta tb):=SU Yp l4 ha hb
end
def Cs(K:ao):R2:=λx y H Q=>∃a b xs ys,x=.ref a/\y=.ref b/\fX K H a xs/\fX K H b ys/\xs.length+ys.length<=bg /\
 (xs=[]->Q (.ref b) H)/\(xs≠[]->ys=[]->Q (.ref a) H)/\(xs≠[]->ys≠[] ->∀p,H p=af->Q (.ref p) (upd H p (.tup (xs++ys))))
theorem SV{Ω:bh}{w:az}{A:bu}{E:Q0c}{s:ak}{t b:ah}{ws:Q0f}{Q:Q0c}(ht:gi s.heap t #[])(hb:gi s.heap b ws.toArray)
  (h1:Q (.ref b) s):ay (au Ω w) A (binaryOp .Add (.ref t) (.ref b)) Q E s:=by
 obtain⟨⟨cls,dd,data,sl⟩,ho,hc,n,hd⟩:=id ht;obtain⟨⟨cls2,dd2,data2,sl2⟩,ho2,hc2,n2,hd2⟩:=id hb;simp only at hc hd hc2 hd2;subst hc hd hc2 hd2;show Dl ⟨_,ho,rfl⟩ ⟨_,ho2,rfl⟩ Dk De Eb Ed (Ee _ _)
   (tuple_addW0 t b #[] ws.toArray n n2 dd dd2 sl sl2 (by simp)) ⟨ho,ho2,h1⟩
theorem SW:i9 X (binaryOp .Add) (Cs X.K):=by
 intro π s σ H x y v u Q I rx ry h;obtain⟨a,b,xs,ys,rfl,rfl,ha,hb,hz,q0,q1,q2⟩:=h;by_cases hx:xs=[]
 .cases rx;cases ry;subst hx;obtain⟨ι,r1,p1,_⟩:=I.tuple ha;obtain⟨its2,r2,p2,_⟩:=I.tuple hb;cases r1;show SV p1 p2 ⟨.ref b,H,I,rfl,q0 rfl⟩
 .exact X3 π s σ H _ _ v u Q I rx ry ⟨a,b,xs,ys,rfl,rfl,ha,hb,hx,hz,q1 hx,q2 hx⟩
noncomputable def vi:F2
 |.int i,.int j,Q=>Q (.int (i+j))
 |.lst a,.lst b,Q=>a.length+b.length<=bg/\Q (.lst (a++b))
 |.tup a,.tup b,Q=>a.length+b.length<=bg/\Q (.tup (a++b))
 |.str a,.str b,Q=>a.length+b.length<=bg/\Q (.str (a++b))
 |_,_,_=>False
def Al(K:ao):R2:=λx y H Q=>(M6 λi j=>.int (i+j)) x y H Q\/(Ab x y H Q\/(Cs K x y H Q \/∃i j,x=.str i/\y=.str j/\i.length+j.length<=bg/\Q (.str (i++j)) H))
theorem Xr{K:ao}:O3 K (Al K) vi:=by
 intro S H x y dx dy Q3 Q fc hx hy hf k
 cases dx with
 |int i =>
  cases dy with
  |int j=>symm at hx hy;show .inl ⟨_,_,hx,hy,k _ H _ (ξ.refl H) (by symm) hf⟩
  |_=>show hf.elim
 |str i =>
  cases dy with
  |str j=>symm at hx hy;show .inr (.inr (.inr ⟨_,_,hx,hy,hf.1,k _ H _ (ξ.refl H) (by symm) hf.2⟩))
  |_=>show hf.elim
 |lst ds =>
  cases dy with
  |lst es =>
   symm at hx hy;obtain⟨a,xs,rfl,ha,sa,da⟩:=hx;obtain⟨b,ys,rfl,hb,sb,db⟩:=hy;show .inr (.inl ⟨a,b,xs,ys,rfl,rfl,ha,hb,by rw[<- da.len,<- db.len];show hf.1,λp hp=>k _ _ _ (aN hp) ?_ hf.2⟩);symm;show⟨p,_,rfl,aO,fc p hp,aV.fits (.same (aN hp)) _ _ (da.append db)⟩
  |_=>show hf.elim
 |tup ds =>
  cases dy with
  |tup es =>
   symm at hx hy;obtain⟨a,xs,rfl,ha,da⟩:=hx;obtain⟨b,ys,rfl,hb,db⟩:=hy;show .inr (.inr (.inl ⟨a,b,xs,ys,rfl,rfl,fX.of ha,fX.of hb,by rw[<- da.len,<- db.len];show hf.1,λe=>?_,λ_ e=>?_,λ_ _ p hp=>?_⟩))
   .subst e;have e2:ds=[]:=ql.mp da.len;subst e2;show k _ H _ (ξ.refl H) (by symm;show⟨b,ys,rfl,hb,db⟩) hf.2
   .subst e;have e2:es=[]:=ql.mp db.len;subst e2;have q:=hf.2;rw[gq] at q;show k _ H _ (ξ.refl H) (by symm;show⟨a,xs,rfl,ha,da⟩) q
   .refine k _ _ _ (aN hp) ?_ hf.2;symm;show⟨p,_,rfl,aO,aV.fits (.same (aN hp)) _ _ (da.append db)⟩
  |_=>show hf.elim
 |_=>cases dy<;>show hf.elim
def YD:i9 X (binaryOp .Add) (Al X.K):=i9.or Ys (i9.or R5 (i9.or SW HS))
theorem Ov(ha:cR X a ta)(hb:cR X b tb):cR X (.BinOp a .Add b ν) (iJ vi ta tb):=SU YD Xr ha hb
noncomputable def Ak:F2
 |.lst a,.lst b,Q=>a.length+b.length<=bg/\Q (.lst (a++b))
 |_,_,_=>False
def Vk{a b:av}{ν:br}{ta tb:WE}(ha:cR X a ta)(hb:cR X b tb):EY X (.BinOp a .Add b ν) (iJ Ak ta tb):=imp (RP R5 ha hb) λσ H Q h=>by
 obtain⟨S,ρ,Q3,fc,sl,ht,k⟩:=h;show⟨S,ρ,_,fc,sl,ht,λv H1 d s1 d1 q1=>?_⟩;show⟨S,ρ,_,bG fc s1,Sl.fits (.same s1) sl,q1,λu H2 d2 s2 d2' q2=>?_⟩;cases d<;>(try show q2.elim)<;>cases d2<;>try show q2.elim
 symm at d1 d2';obtain⟨a,xs,rfl,ha,sa,da⟩:=d1;obtain⟨b,ys,rfl,hb,sb,db⟩:=d2';have da':=aV.fits (.same s2) _ _ da;show⟨a,b,xs,ys,rfl,rfl,s2 _ _ ha,hb,by rw[<- da.len,<- db.len];show q2.1,λp hp=>k p _ _ _ ((s1.trans s2).free hp) aO ((s1.trans s2).trans (aN hp)) ?_ q2.2⟩;show aV.fits ((Fits.fresh hp).trans (.same (aN hp))) _ _ (da'.append db)
def Ou:WA:=λ_ Q=>Q []
def Vj(ta:WE)(t:WA):WA:=λρ Q=>ta ρ λd=>t ρ λds=>Q (d::ds)
def Ot:yM X [] Ou:=SR iN λσ H Q Oq=>by obtain⟨S,ρ,Q3,fc,sl,ht,k⟩:=Oq;show k [] H [] (ξ.refl H) aV.nil ht
def Vi{e:av}{es:List av}{te:WE}{t:WA}(ha:cR X e te)(hr:yM X es t)(hs:Zs X e es:=by rfl):yM X (e::es) (Vj te t) :=
 SR (dG ha hr hs) λσ H Q Oo=>by obtain⟨S,ρ,Q3,fc,sl,ht,k⟩:=Oo;show⟨S,ρ,_,fc,sl,ht,λv H1 d s1 d1 q1=>?_⟩;show⟨S,ρ,_,bG fc s1,Sl.fits (.same s1) sl,q1,λus H2 ds s2 d2 q2=>?_⟩;show k _ H2 _ (s1.trans s2) (aV.cons (Dn.fits (.same s2) _ _ d1) d2) q2
def Om(t:WA):WE:=λρ Q=>t ρ λds=>ds.length<=bg/\Q (.tup ds)
def Ol(t:WA):WE:=λρ Q=>t ρ λds=>ds.length<=bg/\Q (.lst ds)
def Oj{x1}(h:yM X es t):cR X (.Tuple es x1 ν) (Om t):=imp (Yk h) λσ H Q Oi=>by obtain⟨S,ρ,Q3,fc,sl,ht,k⟩:=Oi;show⟨S,ρ,_,fc,sl,ht,λvs H1 ds s1 d1 q1=>⟨by rw[<- d1.len];show q1.1,λp hp=>k _ _ _ (s1.trans (aN hp)) ?_ q1.2⟩⟩;symm;show⟨p,_,rfl,aO,aV.fits (.same (aN hp)) _ _ d1⟩
def Oh(h:yM X es t):EY X (.List es ν) (Ol t):=imp (Yj h) λσ H Q Og=>by obtain⟨S,ρ,Q3,fc,sl,ht,k⟩:=Og;show⟨S,ρ,_,fc,sl,ht,λvs H1 ds s1 d1 q1=>⟨by rw[<- d1.len];show q1.1,λp hp=>k p vs _ ds (s1.free hp) aO (s1.trans (aN hp)) ?_ q1.2⟩⟩;show aV.fits ((Fits.fresh hp).trans (.same (aN hp))) _ _ d1
end
section
variable{X:Cx}
noncomputable def lC(t:WE):WT:=λρ Q=>t ρ λd=>match d with
 |.bl b=>Q b
 |_=>False
theorem z9{K:ao}{t:WE}{σ:L2.St}{H:Hp}{Q:Bool->Hp->Prop}(h:liftT K (lC t) σ H Q):ER (lift K t) σ H Q:=by
 obtain⟨S,ρ,Q3,fc,sl,ht,k⟩:=h;show⟨S,ρ,_,fc,sl,ht,λv H1 d s1 d1 q1=>?_⟩
 cases d with
 |bl b=>symm at d1;show⟨b,d1,k b H1 s1 q1⟩
 |_=>show q1.elim
def wU(f:∀σ H Q,t' σ H Q->t σ H Q)(h:ER t' σ H Q):ER t σ H Q:=f σ H _ h
def SX(ho:i9 X (compareOp op) r)(h3:O3 X.K r f)(ha:cR X a ta)(hb:cR X b tb)(hm:behindInMarks op b=ag):cR X (.Compare a [op] [b] ν) (iJ f ta tb) :=
 imp (XT ho ha hb hm) λ_ _ _=>qJ h3
def n9(ho:i9 X (compareOp op) r)(h3:O3 X.K r f)(ha:cR X a ta)(hb:cR X b tb)(hm:behindInMarks op b=ag):wR X (.Compare a [op] [b] ν) (lC (iJ f ta tb)) :=
 NK (XU ho ha hb hm) λ_ _ _ h=>wU (λ_ _ _=>qJ h3) (z9 h)
theorem oW{K:ao}{g:Int->Int->Bool}:O3 K (M6 λi j=>.bl (g i j)) (tG λi j=>.bl (g i j)):=by
 intro S H x y dx dy Q3 Q fc hx hy hf k;cases dx<;>(try show hf.elim)<;>cases dy<;>try show hf.elim
 symm at hx hy;show⟨_,_,hx,hy,k _ H _ (ξ.refl H) (by symm) hf⟩
noncomputable def SY:D->D->Bool
 |.non,.non=>ae | .non,.int _=>ae | .int _,.non=>ae | .non,.bl _=>ae | .bl _,.non=>ae | .non,.str _=>ae | .str _,.non=>ae
 |.int _,.int _=>ae | .bl _,.bl _=>ae | .str _,.str _=>ae | .int _,.str _=>ae | .str _,.int _=>ae | .bl _,.str _=>ae | .str _,.bl _=>ae
 |_,_=>ag
noncomputable def eqS:D->D->Bool
 |.non,.non=>ae
 |.int i,.int j=>Zv (i=j)
 |.bl i,.bl j=>Zv (i=j)
 |.str i,.str j=>Zv (i=j)
 |_,_=>ag
def YE:F2:=λx y Q=>SY x y=ae/\Q (.bl (eqS x y))
def vh:F2:=λx y Q=>SY x y=ae/\Q (.bl (!eqS x y))
def LF{K:ao}{S:ah->Prop}{H:Hp}{x y:V}{dx dy:D}(hx:Dn K S H dx x)(hy:Dn K S H dy y)(h:SY dx dy=ae):vp x y=ae/\Zv (x=y)=eqS dx dy:=by
 cases dx<;>first
  | (show Zw (show ag=ae from h) bx)
  |skip
 all_goals (cases dy<;>first
  | (show Zw (show ag=ae from h) bx)
  | (symm at hx hy;subst hx;subst hy;show⟨rfl,by first|show B0|show HQ|show B1|show Zy (λh=>by cases h)|show Zx rfl⟩))
def S3{K:ao}:O3 K yx YE:=by intro S H x y dx dy Q3 Q fc hx hy hf k;obtain⟨h1,h2⟩:=LF hx hy hf.1;show⟨h1,k _ H _ (ξ.refl H) (by symm;rw[h2]) hf.2⟩
theorem Xq{K:ao}:O3 K yw vh:=by intro S H x y dx dy Q3 Q fc hx hy hf k;obtain⟨h1,h2⟩:=LF hx hy hf.1;show⟨h1,k _ H _ (ξ.refl H) (by symm;rw[h2]) hf.2⟩
noncomputable def allI:List D->Bool
 |[]=>ae
 |.int _::r=>allI r
 |_::_=>ag
noncomputable def yN(i:Int):List D->Bool
 |[]=>ag
 |.int j::r=>j == i||yN i r
 |_::r=>yN i r
theorem AA:∀ns:Q0e,allI (ns.map D.int)=ae
 |[]=>rfl
 |n::ns=>by rw[bt];show AA ns
theorem AB(i:Int):∀ns:Q0e,yN i (ns.map D.int)=ns.contains i
 |[]=>rfl
 |n::ns=>by rw[bt,yN,AB i ns,List.contains_cons];congr 1;show Bool.beq_comm
theorem CF:∀{ds:List D},allI ds=ae ->∃ns:Q0e,ds=ns.map D.int
 |[],_=>⟨[],rfl⟩
 |.int n::r,h=>by obtain⟨ns,e⟩:=CF (ds:=r) h;show⟨n::ns,by rw[e];rfl⟩
 |.non::r,h=>Zw (show ag=ae from h) bx
 |.bl _::r,h=>Zw (show ag=ae from h) bx
 |.str _::r,h=>Zw (show ag=ae from h) bx
 |.tup _::r,h=>Zw (show ag=ae from h) bx
 |.lst _::r,h=>Zw (show ag=ae from h) bx
 |.pJ _::r,h=>Zw (show ag=ae from h) bx
 |.kA _ _::r,h=>Zw (show ag=ae from h) bx
 |.b7 _ _ _::r,h=>Zw (show ag=ae from h) bx
def inF(neg:Bool):F2
 |.int i,.tup ds,Q=>allI ds=ae/\Q (.bl (if neg then !yN i ds else yN i ds))
 |.int i,.lst ds,Q=>allI ds=ae/\Q (.bl (if neg then !yN i ds else yN i ds))
 |_,_,_=>False
theorem wV(i:Int):∀ns:Q0e,inV (.int i) (ns.map V.int)=yN i (ns.map D.int)
 |[]=>rfl
 |n::ns=>by have e:=wV i ns;unfold inV at e ⊢;rw[bt,bt,md,yN,e];rfl
theorem rR:∀ns:Q0e,(ns.map V.int).all qF=ae
 |[]=>rfl
 |n::ns=>by rw[bt,qm,rR ns];rfl
theorem S4{K:ao}{neg:Bool}:O3 K (uh K neg) (inF neg):=by
 intro S H x y dx dy Q3 Q fc hx hy hf k
 cases dx with
 |int i =>
  symm at hx;subst hx
  cases dy with
  |tup ds =>
   symm at hy;obtain⟨a,xs,rfl,ha,da⟩:=hy;obtain⟨h1,h2⟩:=hf;obtain⟨ns,rfl⟩:=CF h1;have e:=aV.ints.mp da;subst e;show⟨a,_,rfl,.inr (fX.of ha),rfl,rR ns,k _ H _ (ξ.refl H) ?_ h2⟩;symm;rw[wV]
  |lst ds =>
   symm at hy;obtain⟨a,xs,rfl,ha,_,da⟩:=hy;obtain⟨h1,h2⟩:=hf;obtain⟨ns,rfl⟩:=CF h1;have e:=aV.ints.mp da;subst e;show⟨a,_,rfl,.inl (fP.of ha),rfl,rR ns,k _ H _ (ξ.refl H) ?_ h2⟩;symm;rw[wV]
  |_=>show hf.elim
 |_=>cases dy<;>show hf.elim
section
variable{a b:av}{ν:br}{ta tb:WE}
def ltF:F2:=tG λi j=>.bl (Zv (i<j))
def leF:F2:=tG λi j=>.bl (Zv (i<=j))
def gtF:F2:=tG λi j=>.bl (Zv (i>j))
def geF:F2:=tG λi j=>.bl (Zv (i >= j))
def lt3(ha:cR X a ta)(hb:cR X b tb):cR X (.Compare a [.Lt] [b] ν) (iJ ltF ta tb):=SX RQ oW ha hb (i7 _)
def Of(ha:cR X a ta)(hb:cR X b tb):cR X (.Compare a [.Eq] [b] ν) (iJ YE ta tb):=SX Bt S3 ha hb (i7 _)
def in3(ha:cR X a ta)(hb:cR X b tb)(hm:behindInMarks .In b=ag:=by with_unfolding_all rfl):cR X (.Compare a [.In] [b] ν) (iJ (inF ag) ta tb):=SX z5 S4 ha hb hm
def Oe(ha:cR X a ta)(hb:cR X b tb):wR X (.Compare a [.Lt] [b] ν) (lC (iJ ltF ta tb)):=n9 RQ oW ha hb (i7 _)
def Od(ha:cR X a ta)(hb:cR X b tb):wR X (.Compare a [.LtE] [b] ν) (lC (iJ leF ta tb)):=n9 Bs oW ha hb (i7 _)
def Oc(ha:cR X a ta)(hb:cR X b tb):wR X (.Compare a [.Gt] [b] ν) (lC (iJ gtF ta tb)):=n9 Vb oW ha hb (i7 _)
def Ob(ha:cR X a ta)(hb:cR X b tb):wR X (.Compare a [.GtE] [b] ν) (lC (iJ geF ta tb)):=n9 Va oW ha hb (i7 _)
def Uv(ha:cR X a ta)(hb:cR X b tb):wR X (.Compare a [.Eq] [b] ν) (lC (iJ YE ta tb)):=n9 Bt S3 ha hb (i7 _)
def Uu(ha:cR X a ta)(hb:cR X b tb):wR X (.Compare a [.NotEq] [b] ν) (lC (iJ vh ta tb)):=n9 Vc Xq ha hb (i7 _)
def Oa(ha:cR X a ta)(hb:cR X b tb)(hm:behindInMarks .In b=ag:=by with_unfolding_all rfl):wR X (.Compare a [.In] [b] ν) (lC (iJ (inF ag) ta tb)):=n9 z5 S4 ha hb hm
def Ut(ha:cR X a ta)(hb:cR X b tb)(hm:behindInMarks .NotIn b=ag:=by with_unfolding_all rfl):wR X (.Compare a [.NotIn] [b] ν) (lC (iJ (inF ae) ta tb)):=n9 B7 S4 ha hb hm
end
noncomputable def isD:D->Bool
 |.non=>ae
 |_=>ag
def YF:F2:=λx y Q=>isD y=ae/\Q (.bl (isD x))
def S5{K:ao}:O3 K (λx y H Q=>y=.non/\Q (.bl (Zv (x=.non))) H) YF:=by
 intro S H x y dx dy Q3 Q fc hx hy hf k;obtain⟨h1,h2⟩:=hf;cases dy<;>try show Zw (show ag=ae from h1) bx
 symm at hy;show⟨hy,k _ H _ (ξ.refl H) ?_ h2⟩;cases dx<;>symm at hx ⊢
 all_goals first
  | (subst hx;simp[isD])
  | (obtain⟨a,xs,rfl,_⟩:=hx;simp[isD])
  | (obtain⟨a,_,xs,rfl,_⟩:=hx;simp[isD])
  | (obtain⟨a,rfl,_⟩:=hx;simp[isD])
def Us(ha:cR X a ta)(hb:cR X b tb):wR X (.Compare a [.Is] [b] ν) (lC (iJ YF ta tb)):=n9 RR S5 ha hb (i7 _)
def N_(ha:cR X a ta)(hb:cR X b tb):cR X (.Compare a [.Is] [b] ν) (iJ YF ta tb):=SX RR S5 ha hb (i7 _)
def Ur(t:WT):WT:=λρ Q=>t ρ λb=>Q (!b)
def Uq(t u:WT):WT:=λρ Q=>t ρ λb=>if b=ae then u ρ Q else Q ag
def Nz(t u:WT):WT:=λρ Q=>t ρ λb=>if b=ae then Q ae else u ρ Q
def PD(X:Cx)(e:av)(t:WT):Prop:=PW X e (liftT X.K t)
def vg(h:PW X e t)(f:∀σ H Q,t' σ H Q->t σ H Q):PW X e t':=λwh π s σ H Q I q=>h wh π s σ H Q I (f σ H Q q)
section
variable{a b:av}{Θ:List av}{ν:br}{ta tb:WT}
def PD.pt(h:PD X e t):wR X e t:=PW.pt h
def Uo(ha:wR X a ta):wR X (.UnaryOp .Not a ν) (Ur ta):=NK (aB9 ha) λσ H Q Ny=>by obtain⟨S,ρ,Q3,fc,sl,ht,k⟩:=Ny;show⟨S,ρ,_,fc,sl,ht,λb H1 s1 q1=>k (!b) H1 s1 q1⟩
def Nw(ha:wR X a ta):PD X (.BoolOp .And [a] ν) ta:=XM ha
def or1(ha:wR X a ta):PD X (.BoolOp .Or [a] ν) ta:=aB7 ha
theorem Um(ha:wR X a ta)(hb:PD X (.BoolOp .And (b::Θ) ν) tb):PD X (.BoolOp .And (a::b::Θ) ν) (Uq ta tb):=vg (aB8 ha hb) λσ H Q Nj=>by
 obtain⟨S,ρ,Q3,fc,sl,ht,k⟩:=Nj;show⟨S,ρ,_,fc,sl,ht,λc H1 s1 q1=>?_⟩
 cases c with
 |true=>rw[Z_ rfl] at q1 ⊢;show⟨S,ρ,Q3,bG fc s1,Sl.fits (.same s1) sl,q1,λb' H2 s2 q2=>k b' H2 (s1.trans s2) q2⟩
 |false=>rw[Zz bx] at q1 ⊢;show k ag H1 s1 q1
theorem Ni(ha:wR X a ta)(hb:PD X (.BoolOp .Or (b::Θ) ν) tb):PD X (.BoolOp .Or (a::b::Θ) ν) (Nz ta tb):=vg (Vs ha hb) λσ H Q Nh=>by
 obtain⟨S,ρ,Q3,fc,sl,ht,k⟩:=Nh;show⟨S,ρ,_,fc,sl,ht,λc H1 s1 q1=>?_⟩
 cases c with
 |false=>rw[Zz bx] at q1 ⊢;show⟨S,ρ,Q3,bG fc s1,Sl.fits (.same s1) sl,q1,λb' H2 s2 q2=>k b' H2 (s1.trans s2) q2⟩
 |true=>rw[Z_ rfl] at q1 ⊢;show k ae H1 s1 q1
end
noncomputable def Ng(ta tb:WE):WE:=λρ Q=>ta ρ λx=>match x with
 |.bl ae=>tb ρ Q
 |.bl ag=>Q (.bl ag)
 |_=>False
noncomputable def Nf(ta:WE):WE:=λρ Q=>ta ρ λx=>match x with
 |.bl b=>Q (.bl (!b))
 |_=>False
section
variable{a b c:av}{Θ:List av}{ν:br}{ta tb:WE}{tc:WT}
def Nd{op}(ha:cR X a ta):cR X (.BoolOp op [a] ν) ta:=Yx ha
theorem Nc(ha:cR X a ta)(hb:cR X (.BoolOp .And (b::Θ) ν) tb):cR X (.BoolOp .And (a::b::Θ) ν) (Ng ta tb):=imp (Yw ha hb) λσ H Q Nb=>by
 obtain⟨S,ρ,Q3,fc,sl,ht,k⟩:=Nb;show⟨S,ρ,_,fc,sl,ht,λv H1 d s1 d1 q1=>?_⟩
 cases d with
 |bl c =>
  symm at d1;show⟨c,d1,?_⟩
  cases c with
  |true=>rw[Z_ rfl];show⟨S,ρ,Q3,bG fc s1,Sl.fits (.same s1) sl,q1,λv' H2 d' s2 d2 q2=>k v' H2 d' (s1.trans s2) d2 q2⟩
  |false=>rw[Zz bx];show k _ H1 (.bl ag) s1 (by symm) q1
 |_=>show q1.elim
theorem Na(ha:cR X a ta):cR X (.UnaryOp .Not a ν) (Nf ta):=imp (Yv ha) λσ H Q M_=>by
 obtain⟨S,ρ,Q3,fc,sl,ht,k⟩:=M_;show⟨S,ρ,_,fc,sl,ht,λv H1 d s1 d1 q1=>?_⟩
 cases d with
 |bl c=>symm at d1;show⟨c,d1,k _ H1 (.bl (!c)) s1 (by symm) q1⟩
 |_=>show q1.elim
noncomputable def Mz(ta:WE):WE:=λρ Q=>ta ρ λx=>match x with
 |.int i=>Q (.int (-i))
 |_=>False
theorem My(ha:cR X a ta):cR X (.UnaryOp .USub a ν) (Mz ta):=imp (Vd Ym ha) λσ H Q Mx=>by
 obtain⟨S,ρ,Q3,fc,sl,ht,k⟩:=Mx;show⟨S,ρ,_,fc,sl,ht,λv H1 d s1 d1 q1=>?_⟩
 cases d with
 |int i=>symm at d1;show⟨i,d1,k _ H1 (.int (-i)) s1 (by symm) q1⟩
 |_=>show q1.elim
end
noncomputable def IE(f g:F2)(ta tb tc:WE):WE:=λρ Q=>ta ρ λx=>tb ρ λy=>f x y λz=>match z with
 |.bl ae=>tc ρ λu=>g y u Q
 |.bl ag=>Q (.bl ag)
 |_=>False
theorem IF{K:ao}{r r':R2}{f g:F2}{ta tb tc:WE}{σ:L2.St}{H:Hp}{Q:VK}(h1:O3 K r f)(h2:O3 K r' g)(h:lift K (IE f g ta tb tc) σ H Q):RS r r' (lift K ta) (lift K tb) (lift K tc) σ H Q:=by
 obtain⟨S,ρ,Q3,fc,sl,ht,k⟩:=h;show⟨S,ρ,_,fc,sl,ht,λv H1 d s1 d1 q1=>?_⟩;show⟨S,ρ,_,bG fc s1,Sl.fits (.same s1) sl,q1,λu H2 e s2 e1 q2=>?_⟩;show h1 S H2 v u d e _ _ (bG fc (s1.trans s2)) (Dn.fits (.same s2) _ _ d1) e1 q2 λz H3 dz s3 dz1 q3=>?_
 cases dz with
 |bl c =>
  symm at dz1;show⟨c,dz1,?_⟩
  cases c with
  |false=>rw[Zz bx];show k _ H3 (.bl ag) ((s1.trans s2).trans s3) (by symm) q3
  |true =>
   rw[Z_ rfl];show⟨S,ρ,_,bG fc ((s1.trans s2).trans s3),Sl.fits (.same ((s1.trans s2).trans s3)) sl,q3,λw' H4 dw s4 dw1 q4=>?_⟩;show h2 S H4 u w' e dw Q3 Q (bG fc (((s1.trans s2).trans s3).trans s4)) (Dn.fits (.same (s3.trans s4)) _ _ e1) dw1 q4 λv' H5 d' s5 d5 q5=>k v' H5 d' ((((s1.trans s2).trans s3).trans s4).trans s5) d5 q5
 |_=>show q3.elim
theorem YG(ho:i9 X (compareOp op) r)(ho':i9 X (compareOp op') r')(h1:O3 X.K r f)(h2:O3 X.K r' g)(ha:cR X a ta)(hb:cR X b tb)(hc:cR X c tc)
  (hm:lastMarks [op,op'] [b,c]=ag:=by with_unfolding_all rfl):wR X (.Compare a [op,op'] [b,c] ν) (lC (IE f g ta tb tc)):=NK (RT ho ho' ha hb hc hm) λ_ _ _ h=>wU (λ_ _ _=>IF h1 h2) (z9 h)
noncomputable def ixF:F2
 |.lst ds,.int i,Q=>(match tZ ds i with|some d=>Q d|none=>False)
 |.tup ds,.int i,Q=>(match tZ ds i with|some d=>Q d|none=>False)
 |.pJ ns,.int i,Q=>(match tZ ns i with|some n=>Q (.int n)|none=>False)
 |_,_,_=>False
theorem aV.at{K:ao}{S:ah->Prop}{H:Hp}{ds:List D}{xs:List V}{i:Int}{d:D}(h:aV K S H ds xs)(e:tZ ds i=aa d):∃v,tZ xs i=aa v/\Dn K S H d v:=by
 unfold tZ at e ⊢;rw[<- h.len]
 cases q:NA ds.length i with
 |none=>rw[q] at e;cases e
 |some j =>
  rw[q] at e;obtain⟨v,e1,dn⟩:=h.get (i:=j) (d:=d) e;show⟨v,e1,dn⟩
theorem YH{α β:Type}(f:α->β)(xs:List α)(i:Int):tZ (xs.map f) i=(tZ xs i).map f:=by
 unfold tZ;rw[bj]
 cases NA xs.length i with
 |none=>rfl
 |some j=>simp
theorem Ul{K:ao}:O3 K (λx y H Q=>Ad K x y H Q\/Ac K x y H Q) ixF:=by
 intro S H x y dx dy Q3 Q fc hx hy hf k
 cases dx with
 |lst ds =>
  cases dy with
  |int i =>
   symm at hx hy;obtain⟨a,xs,rfl,ha,sa,da⟩:=hx;have hf:(match tZ ds i with|some d=>Q3 d|none=>False):=hf
   cases e:tZ ds i with
   |none=>rw[e] at hf;show hf.elim
   |some d =>
    rw[e] at hf;obtain⟨v,e1,dv⟩:=da.at e;show .inl ⟨a,xs,i,v,rfl,hy,fP.of ha,e1,k v H d (ξ.refl H) dv hf⟩
  |_=>show hf.elim
 |tup ds =>
  cases dy with
  |int i =>
   symm at hx hy;obtain⟨a,xs,rfl,ha,da⟩:=hx;have hf:(match tZ ds i with|some d=>Q3 d|none=>False):=hf
   cases e:tZ ds i with
   |none=>rw[e] at hf;show hf.elim
   |some d =>
    rw[e] at hf;obtain⟨v,e1,dv⟩:=da.at e;show .inr ⟨a,xs,i,v,rfl,hy,(fX.of ha),e1,k v H d (ξ.refl H) dv hf⟩
  |_=>show hf.elim
 |pJ ns =>
  cases dy with
  |int i =>
   symm at hx hy;obtain⟨a,rfl,ha⟩:=hx;have hf:(match tZ ns i with|some n=>Q3 (.int n)|none=>False):=hf
   cases e:tZ ns i with
   |none=>rw[e] at hf;show hf.elim
   |some n =>
    rw[e] at hf;show .inl ⟨a,_,i,.int n,rfl,hy,ha.sq,by rw[YH,e];rfl,k _ H (.int n) (ξ.refl H) (by symm) hf⟩
  |_=>show hf.elim
 |_=>cases dy<;>show hf.elim
def ix3(ha:cR X a ta)(hb:cR X b tb)(hs:B5 b:=by intro _ _;rfl):cR X (.Subscript a b ν) (iJ ixF ta tb) :=
 imp (Uy (X4.or Xy) ha hb hs) λ_ _ _=>qJ Ul
abbrev F1:=List D->(D->Prop)->Prop
def NM(f:F1)(t:WA):WE:=λρ Q=>t ρ λds=>f ds Q
def C3(K:ao)(r:List V->Hp->VK->Prop)(f:F1):Prop:=∀(S:ah->Prop) (H:Hp) (xs:List V) (ds:List D) (Q3:D->Prop) (Q:VK),(∀a,H a=af->S a)->aV K S H ds xs->f ds Q3 ->
 (∀v H' d,ξ H H'->Dn K S H' d v->Q3 d->Q v H')->r xs H Q
def C3F(K:ao)(r:List V->Hp->VK->Prop)(f:F1):Prop:=∀(S:ah->Prop) (H:Hp) (xs:List V) (ds:List D) (Q3:D->Prop) (Q:VK),(∀a,H a=af->S a)->aV K S H ds xs->f ds Q3 ->
 (∀p ys H' es,H p=af->H' p=aa (.lst ys)->ξ H H'->aV K (λa=>S a/\a≠p) H' es ys->Q3 (.lst es)->Q (.ref p) H')->r xs H Q
def LG{K:ao}{r:List V->Hp->VK->Prop}{f:F1}{t:WA}{σ:L2.St}{H:Hp}{Q:VK}(h3:C3 K r f)(h:lift K (NM f t) σ H Q):qv r (SN K t) σ H Q:=by obtain⟨S,ρ,Q3,fc,sl,ht,k⟩:=h;show⟨S,ρ,_,fc,sl,ht,λvs H1 ds s1 d1 q1=>?_⟩;show h3 S H1 vs ds Q3 Q (bG fc s1) d1 q1 λv H' d s' d' q'=>k v H' d (s1.trans s') d' q'
def EZ{K:ao}{r:List V->Hp->VK->Prop}{f:F1}{t:WA}{σ:L2.St}{H:Hp}{Q:VK}(h3:C3F K r f)(h:SQ K (NM f t) σ H Q):qv r (SN K t) σ H Q:=by obtain⟨S,ρ,Q3,fc,sl,ht,k⟩:=h;show⟨S,ρ,_,fc,sl,ht,λvs H1 ds s1 d1 q1=>?_⟩;show h3 S H1 vs ds Q3 Q (bG fc s1) d1 q1 λp ys H' es hp hp' s' d' q'=>k p ys H' es (s1.free hp) hp' (s1.trans s') d' q'
def CG{x:aj}{p ν:br}{e:av}{es:List av}{t:WA}{id:String}{r:List V->Hp->VK->Prop}{f:F1}(hc:gM X (.builtin id) r)(h3:C3 X.K r f)(hv:bootBuiltins x=aa (.builtin id))(hg:Gl X x)(hm:X.mg x=af)(ha:yM X (e::es) t)(hn:x ≠ "__name__":=by decide)(hdb:Zu x:=by decide)
  (he:Zs X e es:=by rfl) (hpl:Q0l X ν es:=by rfl):cR X (.Call (.Name x p) (e::es) [] ν) (NM f t) :=
 imp (iY hc hg hm hv ha hn hdb he hpl) λ_ _ _=>LG h3
def LH{x:aj}{p ν:br}{e:av}{es:List av}{t:WA}{id:String}{r:List V->Hp->VK->Prop}{f:F1}(hc:gM X (.builtin id) r)(h3:C3F X.K r f)(hv:bootBuiltins x=aa (.builtin id))(hg:Gl X x)(hm:X.mg x=af)(ha:yM X (e::es) t)(hn:x ≠ "__name__":=by decide)(hdb:Zu x:=by decide)
  (he:Zs X e es:=by rfl) (hpl:Q0l X ν es:=by rfl):EY X (.Call (.Name x p) (e::es) [] ν) (NM f t) :=
 imp (iY hc hg hm hv ha hn hdb he hpl) λ_ _ _=>EZ h3
def YI(hc:gM X (.type T) r)(h3:C3 X.K r f)(hv:bootBuiltins x=aa (.type T))(hg:Gl X x)(hm:X.mg x=af)(ha:yM X (e::es) t)(hn:x ≠ "__name__":=by decide)(hdb:Zu x:=by decide)
  (he:Zs X e es:=by rfl) (hpl:Q0l X ν es:=by rfl):cR X (.Call (.Name x p) (e::es) [] ν) (NM f t) :=
 imp (rP hc hg hm hv ha hn hdb he hpl) λ_ _ _=>LG h3
theorem S6(hc:gM X (.type T) r)(h3:C3F X.K r f)(hv:bootBuiltins x=aa (.type T))(hg:Gl X x)(hm:X.mg x=af)(ha:yM X (e::es) t)(hn:x ≠ "__name__":=by decide)(hdb:Zu x:=by decide)
  (he:Zs X e es:=by rfl) (hpl:Q0l X ν es:=by rfl):EY X (.Call (.Name x p) (e::es) [] ν) (NM f t) :=
 imp (rP hc hg hm hv ha hn hdb he hpl) λ_ _ _=>EZ h3
noncomputable def E1:F1
 |[.lst ds],Q=>Q (.int ds.length)
 |[.tup ds],Q=>Q (.int ds.length)
 |[.pJ ns],Q=>Q (.int ns.length)
 |_,_=>False
theorem Xp{K:ao}:C3 K (λxs H Q=>∃p ys,xs=[.ref p]/\(fP K H p ys\/fX K H p ys)/\Q (.int ys.length) H) E1:=by
 intro S H xs ds Q3 Q fc hd hf k
 match ds,hf with
 |[.lst es],hf =>
  obtain⟨v,r,rfl,h1,h2⟩:=hd.bN;simp only[aV] at h2;subst h2;symm at h1;obtain⟨a,ys,rfl,ha,sa,da⟩:=h1;show⟨a,ys,rfl,.inl (fP.of ha),k _ H _ (ξ.refl H) (by symm;rw[da.len]) hf⟩
 |[.tup es],hf =>
  obtain⟨v,r,rfl,h1,h2⟩:=hd.bN;simp only[aV] at h2;subst h2;symm at h1;obtain⟨a,ys,rfl,ha,da⟩:=h1;show⟨a,ys,rfl,.inr (fX.of ha),k _ H _ (ξ.refl H) (by symm;rw[da.len]) hf⟩
 |[.pJ ns],hf =>
  obtain⟨v,r,rfl,h1,h2⟩:=hd.bN;simp only[aV] at h2;subst h2;symm at h1;obtain⟨a,rfl,ha⟩:=h1;show⟨a,_,rfl,.inl ha.sq,k _ H _ (ξ.refl H) (by symm;rw[bj]) hf⟩
theorem Mw(hm:X.mg "len"=af)(ha:yM X [e] t)(hg:Gl X "len":=by rfl)
  (he:Zs X e []:=by rfl):cR X (.Call (.Name "len" p) [e] [] ν) (NM E1 t):=CG B8 Xp PySem.boot_len hg hm ha (by decide) (by decide) he (by rfl)
noncomputable def IG:F1
 |[.lst ds],Q=>Q (.tup ds)
 |[.tup ds],Q=>Q (.tup ds)
 |_,_=>False
theorem S8{K:ao}:C3 K (λxs H Q=>∃p ys,xs=[.ref p]/\((fP K H p ys /\∀l,H l=af->Q (.ref l) (upd H l (.tup ys)))\/(fX K H p ys/\Q (.ref p) H))) IG:=by
 intro S H xs ds Q3 Q fc hd hf k
 match ds,hf with
 |[.lst es],hf =>
  obtain⟨v,r,rfl,h1,h2⟩:=hd.bN;simp only[aV] at h2;subst h2;symm at h1;obtain⟨a,ys,rfl,ha,sa,da⟩:=h1;show⟨a,ys,rfl,.inl ⟨fP.of ha,λl hl=>k _ _ _ (aN hl) ?_ hf⟩⟩;symm;show⟨l,ys,rfl,aO,aV.fits (.same (aN hl)) _ _ da⟩
 |[.tup es],hf =>
  obtain⟨v,r,rfl,h1,h2⟩:=hd.bN;simp only[aV] at h2;subst h2;have h1':=h1;symm at h1;obtain⟨a,ys,rfl,ha,da⟩:=h1;show⟨a,ys,rfl,.inr ⟨(fX.of ha),k _ H _ (ξ.refl H) h1' hf⟩⟩
theorem Xo(hm:X.mg "tuple"=af)(hv:bootBuiltins "tuple"=aa (.type "tuple"))(ha:yM X [e] t)(hg:Gl X "tuple":=by rfl)
  (he:Zs X e []:=by rfl):cR X (.Call (.Name "tuple" p) [e] [] ν) (NM IG t):=YI yK S8 hv hg hm ha (by decide) (by decide) he (by rfl)
noncomputable def S9:F1
 |[.lst ds],Q=>Q (.lst ds)
 |[.tup ds],Q=>Q (.lst ds)
 |_,_=>False
theorem YJ{K:ao}:C3F K (λxs H Q=>∃p ys,xs=[.ref p]/\(fP K H p ys\/fX K H p ys) /\∀l,H l=af->Q (.ref l) (upd H l (.lst ys))) S9:=by
 intro S H xs ds Q3 Q fc hd hf k
 match ds,hf with
 |[.lst es],hf =>
  obtain⟨v,r,rfl,h1,h2⟩:=hd.bN;simp only[aV] at h2;subst h2;symm at h1;obtain⟨a,ys,rfl,ha,sa,da⟩:=h1;show⟨a,ys,rfl,.inl (fP.of ha),λl hl=>k l ys _ es hl aO (aN hl) (aV.fits ((Fits.fresh hl).trans (.same (aN hl))) _ _ da) hf⟩
 |[.tup es],hf =>
  obtain⟨v,r,rfl,h1,h2⟩:=hd.bN;simp only[aV] at h2;subst h2;symm at h1;obtain⟨a,ys,rfl,ha,da⟩:=h1;show⟨a,ys,rfl,.inr (fX.of ha),λl hl=>k l ys _ es hl aO (aN hl) (aV.fits ((Fits.fresh hl).trans (.same (aN hl))) _ _ da) hf⟩
def Uk(hm:X.mg "list"=af)(hv:bootBuiltins "list"=aa (.type "list"))(ha:yM X [e] t)(hg:Gl X "list":=by rfl)
  (he:Zs X e []:=by rfl):EY X (.Call (.Name "list" p) [e] [] ν) (NM S9 t):=S6 CA YJ hv hg hm ha (by decide) (by decide) he (by rfl)
abbrev Spec:=List D->(D->Prop)->Prop
def sp3(K:ao)(R:Spec):Sp:=λvs H Q _=>∃(S:ah->Prop) (ds:List D) (Q3:D->Prop),(∀a,H a=af->S a)/\aV K S H ds vs/\R ds Q3 /\∀v H' d,ξ H H'->Dn K S H' d v->Q3 d->Q v H'
theorem Uj(F:lA X.Ω X.w X.K X.mg X.ω eR k f fd ps (sp3 X.K R))(hr:gF k X.A)(hm:X.mg x=aa (.ref f))(hk:keepIn X.K (.ref f)=ae)(hb:Binds X.K fd ps [])
  (ha:yM X (e::es) t) (hg:Gl X x:=by rfl) (hdb:Zu x:=by decide) (he:Zs X e es:=by rfl) (hpl:Q0l X ν es:=by rfl):
  cR X (.Call (.Name x p) (e::es) [] ν) (NM R t):=imp (qD F hr hg hm hk hb .nil R9 ha hdb he hpl) λσ H Q Mv=>by
 obtain⟨S,ρ,Q3,fc,sl,ht,k⟩:=Mv;show⟨S,ρ,_,fc,sl,ht,λvs H1 ds s1 d1 q1=>?_⟩;show sp3 X.K R (vs++[]) H1 Q E0;rw[gq];show⟨S,ds,Q3,bG fc s1,d1,q1,λv H' d s' d' q'=>k v H' d (s1.trans s') d' q'⟩
end
structure DE where
 nx:bT->Prop
 rt:D->Prop
 bk:bT->Prop:=λ_=>False
 ct:bT->Prop:=λ_=>False
 ex:aj->Prop:=λ_=>False
abbrev WS:=DE->bT->Prop
structure oX (X:Cx) (π:Q0b) (H:Hp) (s:ak) (e:ah) (cls a0:ai) (P:List ah):Prop where
 mem:e∈P
 free:∀q∈P,H q=af
 new:∀q∈P,X.s₀.heap.get? q=af
 fld:∀q∈P,∃o vs,s.heap.get? q=aa o/\o.data=.fields vs
 pin:∀q∈P,∀p∈X.pn++π,p.1≠q
 tr:(∃oe vs,s.heap.get? e=aa oe/\oe.cls=cls/\oe.data=.fields vs/\vs[1]?=aa .none/\vs[0]?=aa a0) \/
  (∃oe vs T oT ts,s.heap.get? e=aa oe/\(oe.cls=cls/\vs[0]?=aa a0)/\oe.data=.fields vs/\vs[1]?=aa (.ref T)/\T∈P/\T≠e/\s.heap.get? T=aa oT/\oT.data=.fields ts/\ts[3]?=aa .none)
def XC(X:Cx)(c:aj)(H:Hp):Prop:=∃C:ah,X.mg c=aa (.ref C) /\∀(π:Q0b) (σ:L2.St) (s:ak) (e:ah) (a0:ai) (P:List ah),Φ X π σ H s->oX X π H s e (.ref C) a0 P->X.xe (.ref e) s
structure TB (K:ao) (xc:aj->Hp->Prop) (n:Nat) (H₀:Hp) (S:ah->Prop) (G:List (D×V)) (E:DE) (B:Ends):Prop where
 nx:∀w σ H ρ,σ.length=n->ST K H₀ S w σ H ρ G->E.nx ρ->B.nx σ H
 rt:∀v H d,ξ H₀ H->Dn K S H d v->E.rt d->B.rt v H
 bk:∀w σ H ρ,σ.length=n->ST K H₀ S w σ H ρ G->E.bk ρ->B.bk σ H
 ct:∀w σ H ρ,σ.length=n->ST K H₀ S w σ H ρ G->E.ct ρ->B.ct σ H
 ex:∀c H,ξ H₀ H->E.ex c->xc c H
def tH(K:ao)(xc:aj->Hp->Prop)(n:Nat)(t:WS):TS:=λB σ H=>∃(H₀:Hp) (S:ah->Prop) (w:Nat->ah) (ρ:bT) (G:List (D×V)) (E:DE),σ.length=n/\ST K H₀ S w σ H ρ G/\t E ρ/\TB K xc n H₀ S G E B
def C5(X:Cx)(st:cf)(t:WS):Prop:=PS X st (tH X.K (XC X) X.N.length t)
def wW(X:Cx)(st:List cf)(t:WS):Prop:=zU X st (tH X.K (XC X) X.N.length t)
section
variable{X:Cx}
def kM{e:cf}{t t':TS}(h:PS X e t)(f:∀B σ H,t' B σ H->t B σ H):PS X e t':=λπ s σ H B I q=>h π s σ H B I (f B σ H q)
def E2(h:zU X e t)(f:∀B σ H,t' B σ H->t B σ H):zU X e t':=λπ s σ H B I q=>h π s σ H B I (f B σ H q)
def Ui:WS:=λE ρ=>E.nx ρ
def vf(t u:WS):WS:=λE ρ=>t {E with nx:=u E} ρ
def Mu:wW X [] Ui:=E2 K3 λB σ H Mt=>by obtain⟨H₀,S,w,ρ,G,E,hl,st,ht,ok⟩:=Mt;show ok.nx w σ H ρ hl st ht
def Ms{st:cf}{Θ:List cf}{t u:WS}(h1:C5 X st t)(h2:wW X Θ u):wW X (st::Θ) (vf t u):=E2 (wB h1 h2) λB σ H Mr=>by obtain⟨H₀,S,w,ρ,G,E,hl,sT,ht,ok⟩:=Mr;show⟨H₀,S,w,ρ,G,{E with nx:=u E},hl,sT,ht,⟨λw' σ' H' ρ' hl' st' q=>⟨H₀,S,w',ρ',G,E,hl',st',q,ok⟩,ok.rt,ok.bk,ok.ct,ok.ex⟩⟩
def Uh{st:cf}{t:WS}(h1:C5 X st t):wW X [st] t:=E2 (K4 h1) λ_ _ _ h=>h
def Mq(t:WE):WS:=λE ρ=>t (bK ρ) E.rt
def Mp(h:cR X e t):C5 X (.Return (aa e) ν) (Mq t):=kM (RJ h) λB σ H Mo=>by obtain⟨H₀,S,w,ρ,G,E,hl,st,ht,ok⟩:=Mo;show⟨S,bK ρ,E.rt,st.PB,st.all,ht,λv H' d s' d' q'=>ok.rt v H' d (st.sm.trans s') d' q'⟩
def Mn(c:WT)(t u:WS):WS:=λE ρ=>c (bK ρ) λb=>if b=ae then t E ρ else u E ρ
theorem Mm(hc:wR X c tc)(ha:wW X a t)(hb:wW X b u):C5 X (.If c a b ν) (Mn tc t u):=kM (Vg hc ha hb) λB σ H Ml=>by
 obtain⟨H₀,S,w,ρ,G,E,hl,st,ht,ok⟩:=Ml;show⟨S,bK ρ,_,st.PB,st.all,ht,λd H1 s1 q1=>?_⟩
 cases d with
 |true=>rw[Z_ rfl] at q1 ⊢;show⟨H₀,S,w,ρ,G,E,hl,st.same s1,q1,ok⟩
 |false=>rw[Zz bx] at q1 ⊢;show⟨H₀,S,w,ρ,G,E,hl,st.same s1,q1,ok⟩
def ve(i:Nat)(t:WE):WS:=λE ρ=>t (gQ ρ) λd=>E.nx (ρ.set i (.ro d))
def Nv(i:Nat)(t:WE):WS:=λE ρ=>t (gQ ρ) λd=>E.nx (ρ.set i (.ow d))
def Ug(i:Nat)(t:WE):WS:=λE ρ=>t (bK ρ) λd=>(match d with | .lst ds=>pK ds=ae|_=>False)/\E.nx (ρ.set i (.ow d))
section
variable{i:Nat}{x:aj}{e:av}{t:WE}{ν pos':br}
def jA{N:Q0g}{i:Nat}{x:aj}(h:N[i]?=aa x):i<N.length:=(cz.mp h).1
def Nu(hN:X.N.Nodup)(he:cR X e t)(hi:X.N[i]?=aa x:=by rfl)(hx:Loc X.env.scope x:=by walk_at "0")(hs:Si X e x pos' ν:=by rfl)(hf:Zq X x:=by walk_at "0"):
  C5 X (.Assign [.Name x pos'] e ν) (ve i t):=kM (mW hN hi hx he hs hf) λB σ H Nt=>by
 obtain⟨H₀,S,w,ρ,G,E,hl,st,ht,ok⟩:=Nt;show⟨_,gQ ρ,_,st.ID,st.rd,ht,λv H' d s' d' q'=>ok.nx w _ H' _ (by rw[gb];show hl) ((st.same s').mZ (by rw[hl];show jA hi) d') q'⟩
def Nr(hN:X.N.Nodup)(he:EY X e t)(hi:X.N[i]?=aa x:=by rfl)(hx:Loc X.env.scope x:=by walk_at "0")(hs:Si X e x pos' ν:=by rfl)(hf:Zq X x:=by walk_at "0"):
  C5 X (.Assign [.Name x pos'] e ν) (Nv i t):=kM (mW hN hi hx he hs hf) λB σ H Nq=>by
 obtain⟨H₀,S,w,ρ,G,E,hl,st,ht,ok⟩:=Nq;show⟨_,gQ ρ,_,st.ID,st.rd,ht,λp xs H' ds hp hp' s' d' q'=>ok.nx _ _ H' _ (by rw[gb];show hl) (st.wQ (d:=.lst ds) (by rw[hl];show jA hi) s' hp ⟨xs,hp',d'⟩) q'⟩
def Ue(hN:X.N.Nodup)(he:EY X e t)(hi:X.N[i]?=aa x:=by rfl)(hx:Loc X.env.scope x:=by walk_at "0")(hs:Si X e x pos' ν:=by rfl)(hf:Zq X x:=by walk_at "0"):
  C5 X (.Assign [.Name x pos'] e ν) (Ug i t):=kM (mW hN hi hx he hs hf) λB σ H Np=>by
 obtain⟨H₀,S,w,ρ,G,E,hl,st,ht,ok⟩:=Np;show⟨_,bK ρ,_,st.PB,st.all,ht,λp xs H' ds hp hp' s' d' q'=>ok.nx _ _ H' _ (by rw[gb];show hl) (st.wQ (d:=.lst ds) (by rw[hl];show jA hi) s' hp ⟨xs,hp',aV.A1 q'.1 d'⟩) q'.2⟩
end
def kO(N:Q0g)(ds:List D):bT:=ds.map Sv.ro++cc (N.length-ds.length) Sv.no
def E3{K:ao}{H:Hp}{S:ah->Prop}{N:Q0g}{ds:List D}{vs:List V}(fc:∀a,H a=af->S a)(h:aV K S H ds vs):ST K H S (λ_=>0) (L2.start N vs) H (kO N ds) []:=by
 have no:∀(i:Nat) (d:D),(kO N ds)[i]?≠aa (Sv.ow d):=λi d e=>by
  unfold kO at e;by_cases hi:i<ds.length
  .rw [j_ (by simpa using hi),dj] at e
   cases q:ds[i]? with
   |none=>rw[q] at e;cases e
   |some a=>rw[q] at e;cases e
  .rw [jz (by simpa using hi),jg] at e;split at e<;>cases e
 have so:∀a,S a->SO S (λ_=>0) (kO N ds) a:=λa s=>⟨s,λi d e=>Zw e (no i d)⟩;show⟨fc,ξ.refl H,λi d e=>Zw e (no i d),λi j d e h1=>Zw h1 (no i d),λi d e=>?_,λg hg=>(nomatch hg),λi _ e=>Zw e (no i _)⟩;unfold kO at e;by_cases hi:i<ds.length
 .rw [j_ (by simpa using hi),dj] at e
  cases q:ds[i]? with
  |none=>rw[q] at e;cases e
  |some a =>
   rw[q] at e;cases e;obtain⟨v,e1,dv⟩:=h.get q;show⟨v,?_,Dn.fits (.mono so) _ _ dv⟩;unfold L2.start;have hv:i<vs.length:=(cz.mp e1).1;rw[j_ (by simpa using hv),dj,e1];rfl
 .rw [jz (by simpa using hi),jg] at e;split at e<;>cases e
theorem Nn{P:bh}{w:az}{K:ao}{mg:Q0d}{ω:ba}{x qual:aj}{st:cf}{f:ah}{fd:gg}{N ps:Q0g}{k:Nat}{R:Spec}(F:X7 K x qual st f fd)(S:hZ N ps (bD st))(len:∀ds Q,R ds Q->ds.length=ps.length)
  (hbody:∀(cdv:ai) (A:bu) (Γ:List d_) (s:ak) (H:Hp) (E:XK),gF k (A.deeper (envOfC qual (bD st) s.heap.objs.size f cdv)) ->
   ∃t:WS,wW (mX eR P w K mg ω N qual (bD st) f cdv A Γ s H E).RI (f9 st) t /\∀ds Q,R ds Q->t {nx:=λ_=>Q .non,rt:=Q} (kO N ds)):lA P w K mg ω eR (k+1) f fd ps (sp3 K R):=by
 show F.ok S (λvs H Q E h=>?_) λcdv A Γ s H vs Q E hr h=>?_
 .obtain ⟨S',ds,Q3,fc,dn,r,_⟩:=h;rw[<- dn.len];show len ds Q3 r
 .obtain ⟨t,ht,hq⟩:=hbody cdv A Γ s H E hr;obtain⟨S',ds,Q3,fc,dn,r,kk⟩:=h;show⟨_,ht,H,S',λ_=>0,kO N ds,[],{nx:=λ_=>Q3 .non,rt:=Q3},?_,E3 fc dn,hq ds Q3 r,⟨λw' σ' H' ρ' _ st' q=>?_,λv H' d s' d' q=>kk v H' d s' d' q,λ_ _ _ _ _ _ q=>q,λ_ _ _ _ _ _ q=>q,λ_ _ _ q=>q.elim⟩⟩
  .have hl:=len ds Q3 r;have hl2:=dn.len;have hp:ps.length<=N.length:=by have:=congrArg sr S.pre;rw[ig] at this;lia
   unfold L2.start;show _=N.length;rw[dm,bj,jw];lia
  .exact kk .non H' .non st'.sm (by symm) q
end
abbrev WX:=bT->(bT->D->Prop)->Prop
def TC(K:ao)(n:Nat)(t:WX):TE:=λσ H Q=>∃(H₀:Hp) (S:ah->Prop) (w:Nat->ah) (ρ:bT) (G:List (D×V)) (Q3:bT->D->Prop),σ.length=n/\ST K H₀ S w σ H ρ G/\t ρ Q3 /\
 ∀w' v H' ρ' d,ST K H₀ S w' σ H' ρ' G->Dn K (SO S w' ρ') H' d v->Q3 ρ' d->Q v H'
def GJ(X:Cx)(e:av)(t:WX):Prop:=PE X e (TC X.K X.N.length t)
def Ud(t:WE):WX:=λρ Q=>t (bK ρ) λd=>d.A1=ae/\Q ρ d
def Xn(t:WE):WX:=λρ Q=>t (gQ ρ) λd=>Q ρ d
section
variable{X:Cx}
def px3(h:cR X e t):GJ X e (Ud t):=imp h λσ H Q Nm=>by obtain⟨H₀,S,w,ρ,G,Q3,hl,st,ht,k⟩:=Nm;show⟨S,bK ρ,_,st.PB,st.all,ht,λv H' d s' d' q'=>k w v H' ρ d (st.same s') (Dn.A1 q'.1 d') q'.2⟩
def Nl(h:cR X e t):GJ X e (Xn t):=imp h λσ H Q Nk=>by obtain⟨H₀,S,w,ρ,G,Q3,hl,st,ht,k⟩:=Nk;show⟨_,gQ ρ,_,st.ID,st.rd,ht,λv H' d s' d' q'=>k w v H' ρ d (st.same s') d' q'⟩
def Uc(t:WX):WS:=λE ρ=>t ρ λρ' _=>E.nx ρ'
theorem Ub(he:GJ X e t)(hs:e_ e af ν.line X.env=pure ag:=by rfl):C5 X (.Expr e ν) (Uc t):=kM (K5 he hs) λB σ H Mj=>by obtain⟨H₀,S,w,ρ,G,E,hl,st,ht,ok⟩:=Mj;show⟨H₀,S,w,ρ,G,_,hl,st,ht,λw' v H' ρ' d st' d' q'=>ok.nx w' _ H' _ hl st' q'⟩
noncomputable def nk(i:Nat)(f:List D->D->(List D->D->Prop)->Prop)(t:WX):WX:=λρ Q=>(match ρ[i]? with|some (.ow (.lst _))=>True|_=>False)/\t ρ λρ' d=>match ρ'[i]? with
 |some (.ow (.lst ds))=>f ds d λds' r=>Q (ρ'.set i (.ow (.lst ds'))) r
 |_=>False
def M3(K:ao)(r:V->List V->Hp->VK->Prop)(f:List D->D->(List D->D->Prop)->Prop):Prop:=∀(S:ah->Prop) (H:Hp) (p:ah) (xs:List V) (ds:List D) (y:V) (d:D) (Q3:List D->D->Prop) (Q:VK),
 H p=aa (.lst xs)->aV K S H ds xs->Dn K S H d y->f ds d Q3->(∀ys ds' v d',aV K S H ds' ys->Dn K S H d' v->Q3 ds' d'->Q v (upd H p (.lst ys)))->r (.ref p) [y] H Q
theorem YK{K:ao}{n i:Nat}{r:V->List V->Hp->VK->Prop}{f:List D->D->(List D->D->Prop)->Prop}{t:WX}{σ:L2.St}{H:Hp}{Q:VK}(h3:M3 K r f)(h:TC K n (nk i f t) σ H Q):
  yu K "list" r (tY i) (tD (TC K n t) XX) σ H Q:=by
 obtain⟨H₀,S,w,ρ,G,Q3,hl,st,⟨h0,ht⟩,k⟩:=h;split at h0
 .rename_i ds e;obtain⟨a,b,c⟩:=st.own i _ e;obtain⟨xs,hp,dn⟩:=c;show⟨_,a,.inl ⟨rfl,xs,fP.of hp⟩,H₀,S,w,ρ,G,_,hl,st,ht,λw' v H' ρ' d st' d' q'=>?_⟩;split at q'
  .rename_i ds' e';obtain⟨a',b',c'⟩:=st'.own i _ e';obtain⟨xs',hp',dn'⟩:=c';have ew:w i=w' i:=by have z:=a.symm.trans a';have z1:=fg (fg z);injection z1
   rw[ew];show h3 _ H' (w' i) xs' ds' v d _ Q hp' dn' d' q' λys ds2 v2 d2 t7 dv2 q2=>?_;have nS:¬ SO S w' ρ' (w' i):=λ⟨_,z⟩=>z i _ e' rfl;have F:Fits K (SO S w' ρ') (SO S w' ρ') H' (upd H' (w' i) (.lst ys)):=.upd (.inl ⟨_,hp'⟩) nS;have so:∀a,SO S w' ρ' a->SO S w' (ρ'.set i (.ow (.lst ds2))) a:=SO.mono λj f hf=>by
    rcases get_set hf with⟨hj,_,_⟩|⟨_,z⟩
    .subst hj;show⟨_,e'⟩
    .exact ⟨_,z⟩
   show k w' v2 _ _ d2 (st'.write (d':=.lst ds2) e' ⟨ys,aO,aV.fits F _ _ t7⟩) (Dn.fits (F.trans (.mono so)) _ _ dv2) q2
  .exact q'.elim
 .exact h0.elim
theorem m1{i:Nat}{x:aj}{id:String}{name:aj}{e:av}{p apos cpos:br}{r:V->List V->Hp->VK->Prop}{f:List D->D->(List D->D->Prop)->Prop}{t:WX}(slot:Slot "list" name id)(hty:typeOf (.builtin id)=pure (.type "method_descriptor"))(hm:MtR X id r)(h3:M3 X.K r f)(he:GJ X e t)
  (hN:X.N[i]?=aa x:=by rfl) (hv:x6 X.env.scope x:=by walk_at "1") (hd:Zu x:=by decide) (hcd:Zt x:=by decide)
  (hbase:attributeBase (.Name x p) name X.env (eval (.Name x p) X.env)=eval (.Name x p) X.env:=by rfl)
  (hfew:Zp X cpos e:=by rfl)
  (hline:Q0k apos cpos:=by rfl) (hs:Zs X e []:=by rfl):
  GJ X (.Call (.Attribute (.Name x p) name apos) [e] [] cpos) (nk i f t) :=
 imp (EU Ec slot hty hm (jZ hN hv hd hcd) (dG he iN hs) hbase hfew hline hs (by rfl)) λ_ _ _ h=>YK h3 h
def vd:List D->D->(List D->D->Prop)->Prop:=λds d Q=>ds.length<bg/\Q (ds++[d]) .non
theorem Xm{K:ao}:M3 K LB vd:=by intro S H p xs ds y d Q3 Q hp dn dy hf k;show⟨p,xs,y,rfl,rfl,hp,by rw[<- dn.len];show hf.1,k _ _ _ _ (dn.append (aV.one dy)) (by symm) hf.2⟩
noncomputable def vc:List D->D->(List D->D->Prop)->Prop
 |ds,.int k,Q=>(-(2^63)<=k/\k<2^63)/\(match NA ds.length k with|some j=>(match ds[j]? with|some d=>Q (ds.eraseIdx j) d|none=>False)|none=>False)
 |_,_,_=>False
theorem Xl{K:ao}:M3 K R3 vc:=by
 intro S H p xs ds y d Q3 Q hp dn dy hf k
 cases d with
 |int i =>
  symm at dy;subst dy;obtain⟨⟨h1,h2⟩,hf⟩:=hf;split at hf
  .rename_i j ej;split at hf
   .rename_i dd ed;obtain⟨v,ev,dv⟩:=dn.get ed;obtain⟨g1,_⟩:=B4 ej;show⟨p,xs,i,j,v,rfl,rfl,hp,h1,h2,by rw[<- dn.len];show g1,ev,k _ _ _ _ (dn.erase j) dv hf⟩
   .exact hf.elim
  .exact hf.elim
 |_=>show hf.elim
section
variable{i:Nat}{x:aj}{e:av}{p apos cpos:br}{t:WX}
def Mi(he:GJ X e t)(hN:X.N[i]?=aa x:=by rfl)(hv:x6 X.env.scope x:=by walk_at "1")(hd:Zu x:=by decide)(hcd:Zt x:=by decide)
  (hbase:attributeBase (.Name x p) "append" X.env (eval (.Name x p) X.env)=eval (.Name x p) X.env:=by rfl)
  (hfew:Zp X cpos e:=by rfl)
  (hline:Q0k apos cpos:=by rfl) (hs:Zs X e []:=by rfl):
  GJ X (.Call (.Attribute (.Name x p) "append" apos) [e] [] cpos) (nk i vd t):=m1 a1i PySem.F.type_list_append z7 Xm he hN hv hd hcd hbase hfew hline hs
def Mf(he:GJ X e t)(hN:X.N[i]?=aa x:=by rfl)(hv:x6 X.env.scope x:=by walk_at "1")(hd:Zu x:=by decide)(hcd:Zt x:=by decide)
  (hbase:attributeBase (.Name x p) "pop" X.env (eval (.Name x p) X.env)=eval (.Name x p) X.env:=by rfl)
  (hfew:Zp X cpos e:=by rfl)
  (hline:Q0k apos cpos:=by rfl) (hs:Zs X e []:=by rfl):
  GJ X (.Call (.Attribute (.Name x p) "pop" apos) [e] [] cpos) (nk i vc t):=m1 a1e PySem.F.type_list_pop R4 Xl he hN hv hd hcd hbase hfew hline hs
end
def vb(ρ:bT)(i:Nat):Prop:=match ρ[i]? with
 |some (.ow (.lst _))=>True
 |_=>False
def Me(i:Nat)(t:WX)(tk:WE):WS:=λE ρ=>t ρ λρ' d=>vb ρ' i/\tk (bK ρ') λk=>match ρ'[i]?,k with
 |some (.ow (.lst ds)),.int k=>(match NA ds.length k with|some j=>E.nx (ρ'.set i (.ow (.lst (ds.set j d))))|none=>False)
 |_,_=>False
theorem put3(he:GJ X e t)(hk:cR X k tk)
  (hN:X.N[i]?=aa x:=by rfl) (hv:x6 X.env.scope x:=by walk_at "1") (hd:Zu x:=by decide) (hcd:Zt x:=by decide)
  (ha:∀v,assign (.Subscript (.Name x p) k pos') X.env v=(do
   let ov <- holding [v] (eval (.Name x p) X.env)
   let iv <- holding [v,ov] (eval k X.env)
   standAt pos'
   holding [v,ov,iv] (setItem ov iv v)
   release [v,ov,iv] []):=by intro _;rfl)
  (hs:swapsWithSole [.Subscript (.Name x p) k pos'] e ν.line X.env=pure ag:=by rfl) (hw:swappedStores [.Subscript (.Name x p) k pos'] e X.env=pure af:=by rfl)
  (h1:(di [.Subscript (.Name x p) k pos'] X.env).map (·.2)=[assign (.Subscript (.Name x p) k pos') X.env]:=by rfl):
  C5 X (.Assign [.Subscript (.Name x p) k pos'] e ν) (Me i t tk):=kM (RL he (Yu (jZ hN hv hd hcd) hk set_list ha) hs hw h1) λB σ H Md=>by
 obtain⟨H₀,S,w,ρ,G,E,hl,st,ht,ok⟩:=Md;show⟨H₀,S,w,ρ,G,_,hl,st,ht,λw' v H' ρ' d st' d' q'=>?_⟩;obtain⟨q0,q'⟩:=q';unfold vb at q0;split at q0
 .rename_i ds0 e0;obtain⟨a0,_,_⟩:=st'.own i _ e0;show⟨_,a0,S,bK ρ',_,st'.PB,st'.all,q',λkv H2 dk s2 dk2 q2=>?_⟩;split at q2
  .rename_i ds k' e1;symm at dk2;split at q2
   .rename_i j ej;have st2:=st'.same s2;obtain⟨a,b,c⟩:=st2.own i _ e1;obtain⟨xs,hp,dn⟩:=c;have nS:¬ SO S w' ρ' (w' i):=λ⟨_,z⟩=>z i _ e1 rfl;have F:Fits X.K (SO S w' ρ') (SO S w' ρ') H2 (upd H2 (w' i) (.lst (xs.set j v))):=.upd (.inl ⟨_,hp⟩) nS;show⟨w' i,xs,k',j,rfl,dk2,hp,by rw[<- dn.len];show ej,ok.nx w' σ _ _ hl (st2.write (d':=.lst (ds.set j d)) e1 ⟨_,aO,aV.fits F _ _ (dn.set j (Dn.fits (.same s2) _ _ d'))⟩) q2⟩
   .exact q2.elim
  .exact q2.elim
 .exact q0.elim
end
structure Wlk (K:ao) (J:It) (ds:List D) (G:List (D×V)):Prop where
 go:∀(S:ah->Prop) (H:Hp),(∀a,H a=af->S a)->(∀g∈G,Dn K S H g.1 g.2) ->∀(i:Nat) (d:D),ds[i]?=aa d->J.go i H /\∀x H',J.yld i H x H'->ξ H H'/\Dn K S H' d x
 stop:∀(S:ah->Prop) (H:Hp),(∀g∈G,Dn K S H g.1 g.2) ->∀i:Nat,ds.length=i->J.stop i H
abbrev WI:=cM->(List D->Prop)->Prop
def Cr(K:ao)(t:WI):TI:=λσ H R=>∃(S:ah->Prop) (ρ:cM) (Q3:List D->Prop),(∀a,H a=af->S a)/\Sl K S H ρ σ/\t ρ Q3 /\
 ∀J H' ds G,ξ H H'->(∀g∈G,Dn K S H' g.1 g.2)->Wlk K J ds G->Q3 ds->R J H'
def VY(X:Cx)(tg iter:av)(t:WI):Prop:=PI X tg iter (Cr X.K t)
section
variable{X:Cx}{tg:av}
theorem YL(h:PI X tg e t)(f:∀σ H R,t' σ H R->t σ H R):PI X tg e t':=λπ s σ H R I q=>h π s σ H R I (f σ H R q)
noncomputable def Ua(t:WE):WI:=λρ Q=>t ρ λd=>match d with
 |.lst ds=>Q ds
 |.tup ds=>Q ds
 |_=>False
theorem TH{K:ao}{a:ah}{ds:List D}:Wlk K (Itl K a) ds [(.lst ds,.ref a)] where
 go:=λS H fc hg i d e=>by have h:=hg _ (cu.mpr rfl);symm at h;obtain⟨b,xs,eb,hb,sb,dn⟩:=h;injection eb with eb;subst eb;obtain⟨v,ev,dv⟩:=dn.get e;show⟨⟨xs,v,fP.of hb,ev⟩,λx H' y=>?_⟩;obtain⟨e1,y⟩:=y;subst e1;have ex:=y xs (fP.of hb);rw[ev] at ex;cases ex;show⟨ξ.refl _,dv⟩
 stop:=λS H hg i hi=>by have h:=hg _ (cu.mpr rfl);symm at h;obtain⟨b,xs,eb,hb,sb,dn⟩:=h;injection eb with eb;subst eb;show⟨xs,fP.of hb,by rw[<- dn.len];show lp hi⟩
theorem YM{K:ao}{a:ah}{ds:List D}:Wlk K (Itt K a) ds [(.tup ds,.ref a)] where
 go:=λS H fc hg i d e=>by have h:=hg _ (cu.mpr rfl);symm at h;obtain⟨b,xs,eb,hb,dn⟩:=h;injection eb with eb;subst eb;obtain⟨v,ev,dv⟩:=dn.get e;show⟨⟨xs,v,(fX.of hb),ev⟩,λx H' y=>?_⟩;obtain⟨e1,y⟩:=y;subst e1;have ex:=y xs (fX.of hb);rw[ev] at ex;cases ex;show⟨ξ.refl _,dv⟩
 stop:=λS H hg i hi=>by have h:=hg _ (cu.mpr rfl);symm at h;obtain⟨b,xs,eb,hb,dn⟩:=h;injection eb with eb;subst eb;show⟨xs,(fX.of hb),by rw[<- dn.len];show lp hi⟩
def Xk(hl:PE X l tl):PI X tg l (λσ H R=>tl σ H λx H1=>∃a,x=.ref a/\(((∃xs,fP X.K H1 a xs)/\R (Itl X.K a) H1)\/((∃xs,fX X.K H1 a xs)/\R (Itt X.K a) H1))):=by
 intro π s σ H R I h;show eQ (hl π s σ H _ I h) λv s1 Mc=>?_;obtain⟨x,H1,I1,r1,q1⟩:=Mc;obtain⟨a,e,q⟩:=q1;subst e;cases r1;rcases q with⟨⟨xs,hq⟩,q⟩|⟨⟨xs,hq⟩,q⟩
 .obtain ⟨ι,rv,p,hz⟩:=I1.list hq;show wq p.isList ?_;show⟨s1.heap.objs.size,[s1.heap.objs.size],_,_,H1,rfl,I1.kept (t':=s1.toks) λb o e=>dg _ e,zW a _,⟨_,gf _ rfl,rfl,rfl⟩,λb hb=>?_,q⟩;have e:b=s1.heap.objs.size:=by simpa using hb
  subst e;show I1.HL (bp _) (I1.hok.fresh (bp _))
 .obtain ⟨ι,rv,p,hz⟩:=I1.tuple hq;show wo (show s1.heap.IsTuple a ι.toArray from p) ?_;show⟨s1.heap.objs.size,[s1.heap.objs.size],_,_,H1,rfl,I1.kept (t':=s1.toks) λb o e=>dg _ e,HM a _,⟨_,gf _ rfl,rfl,rfl⟩,λb hb=>?_,q⟩;have e:b=s1.heap.objs.size:=by simpa using hb
  subst e;show I1.HL (bp _) (I1.hok.fresh (bp _))
theorem T_(h:cR X l t):VY X tg l (Ua t):=YL (Xk h) λσ H R Mb=>by
 obtain⟨S,ρ,Q3,fc,sl,ht,k⟩:=Mb;show⟨S,ρ,_,fc,sl,ht,λv H1 d s1 d1 q1=>?_⟩
 cases d with
 |lst ds =>
  have d1':=d1;symm at d1;obtain⟨a,xs,rfl,ha,sa,da⟩:=d1;show⟨a,rfl,.inl ⟨⟨xs,fP.of ha⟩,k _ H1 ds [(.lst ds,.ref a)] s1 (λg hg=>by cases cu.mp hg;show d1') TH q1⟩⟩
 |tup ds =>
  have d1':=d1;symm at d1;obtain⟨a,xs,rfl,ha,da⟩:=d1;show⟨a,rfl,.inr ⟨⟨xs,(fX.of ha)⟩,k _ H1 ds [(.tup ds,.ref a)] s1 (λg hg=>by cases cu.mp hg;show d1') YM q1⟩⟩
 |_=>show q1.elim
def t8(lo:Int)(n:Nat):List Int:=(de n).map λk:Nat=>lo+(k:Int)
def tI(lo:Int)(n:Nat):(t8 lo n).length=n:=by simp[t8]
def TJ{lo:Int}{n i:Nat}:(t8 lo n)[i]?=if i<n then aa (lo+(i:Int)) else af:=by
 unfold t8;rw[dj];by_cases h:i<n
 .rw [Z_ h,sy h];rfl
 .rw [Zz h,kz (by simpa using h)];rfl
theorem NN{K:ao}{lo:Int}{n:Nat}:Wlk K (Itr lo n) ((t8 lo n).map D.int) [] where
 go:=λS H fc hg i d e=>by
  rw[dj,TJ] at e;by_cases h:i<n
  .rw [Z_ h] at e;cases e;show⟨h,λx H' y=>?_⟩;obtain⟨e1,e2⟩:=y;subst e1;show⟨ξ.refl _,by symm;show e2⟩
  .rw [Zz h] at e;cases e
 stop:=λS H hg i hi=>by rw[bj,tI] at hi;show lp hi
noncomputable def Ye(t:WA):WI:=λρ Q=>t ρ λds=>match ds with
 |[.int j]=>(-(2^62)<=j/\j<2^62)/\Q ((t8 0 j.toNat).map D.int)
 |_=>False
def Yd(hm:X.mg "range"=af)(ha:yM X [a] t)(hg:Gl X "range":=by rfl)(hs:ar [a] X.env=[(ag,eval a X.env)]:=by rfl):VY X tg (.Call (.Name "range" p) [a] [] ν) (Ye t) :=
 YL (M4 hg hm ha hs) λσ H R Ma=>by
  obtain⟨S,ρ,Q3,fc,sl,ht,k⟩:=Ma;show⟨S,ρ,_,fc,sl,ht,λvs H1 ds s1 d1 q1=>?_⟩;split at q1
  .rename_i j;obtain⟨v,r,rfl,h1,h2⟩:=d1.bN;simp only[aV] at h2;subst h2;symm at h1;subst h1;show⟨j,rfl,q1.1.1,q1.1.2,k _ H1 _ [] s1 (λg hg=>nomatch hg) NN q1.2⟩
  .exact q1.elim
abbrev WG:=D->bT->(bT->Prop)->Prop
def TM(K:ao)(n:Nat)(g:WG):TG:=λv σ H Q=>∃(H₀:Hp) (S:ah->Prop) (w:Nat->ah) (ρ:bT) (G:List (D×V)) (d:D) (Q3:bT->Prop),σ.length=n/\ST K H₀ S w σ H ρ G/\Dn K (SO S w ρ) H d v/\g d ρ Q3 /\
 ∀σ' H' ρ',σ'.length=n->ST K H₀ S w σ' H' ρ' G->Q3 ρ'->Q σ' H'
def YN(X:Cx)(tg:av)(g:WG):Prop:=PG X tg (TM X.K X.N.length g)
def NO(h:PG X e t)(f:∀v σ H Q,t' v σ H Q->t v σ H Q):PG X e t':=λπ s σ H v u Q I r q=>h π s σ H v u Q I r (f v σ H Q q)
def gN(i:Nat):WG:=λd ρ Q=>Q (ρ.set i (.ro d))
theorem Tz(hN:X.N.Nodup)(hi:X.N[i]?=aa x:=by rfl)(hx:Loc X.env.scope x:=by walk_at "0")(hf:Zq X x:=by walk_at "0"):YN X (.Name x ν) (gN i) :=
 NO (lY hN hi hx hf) λv σ H Q L_=>by obtain⟨H₀,S,w,ρ,G,d,Q3,hl,st,dn,hg,k⟩:=L_;show k _ H _ (by rw[gb];show hl) (st.mZ (by rw[hl];show jA hi) dn) hg
noncomputable def g2(i j:Nat):WG:=λd ρ Q=>match d with
 |.tup [d1,d2]=>Q ((ρ.set i (.ro d1)).set j (.ro d2))
 |_=>False
def Tx(hc:X.calm=ae)(hN:X.N.Nodup)(hi:X.N[i]?=aa x:=by rfl)(hj:X.N[j]?=aa y:=by rfl)(hx:Loc X.env.scope x:=by walk_at "0")(hy:Loc X.env.scope y:=by walk_at "0")
  (hf:Zq X x:=by walk_at "0") (hf2:Zq X y:=by walk_at "0")
  (hn:Q0j X x y px py:=by rfl) (hst:Q0i X x y px py:=by rfl)
  (hs1:gV X x y px py:=by rfl) (hs2:Q0h X y py:=by rfl):
  YN X (.Tuple [.Name x px,.Name y py] k ν) (g2 i j) :=
 NO (RK (n:=2) hc (qA (lY hN hi hx hf) (qA (lY hN hj hy hf2) K6 hs2) hs1) hn hst) λv σ H Q Lz=>by
  obtain⟨H₀,S,w,ρ,G,d,Q3,hl,st,dn,hg,k⟩:=Lz;unfold g2 at hg;split at hg
  .rename_i d1 d2;symm at dn;obtain⟨a,xs,rfl,ha,da⟩:=dn;obtain⟨v1,r1,rfl,h1,h2⟩:=da.bN;obtain⟨v2,r2,rfl,h3,h4⟩:=h2.bN;simp only[aV] at h4;subst h4;show⟨a,_,rfl,(fX.of ha),rfl,v1,[v2],rfl,v2,[],rfl,rfl,?_⟩;have st1:=st.mZ (i:=i) (by rw[hl];show jA hi) h1;have m:∀a,SO S w ρ a->SO S w (ρ.set i (.ro d1)) a:=SO.mono λn f hf=>by
    rcases get_set hf with⟨_,z,_⟩|⟨_,z⟩
    .cases z
    .exact ⟨_,z⟩
   have st2:=st1.mZ (i:=j) (d:=d2) (v:=v2) (by rw[gb,hl];show jA hj) (Dn.fits (.mono m) _ _ h3);show k _ H _ (by rw[gb,gb];show hl) st2 hg
  .exact hg.elim
def Ly(ti:WI)(g:WG)(tb:WS):WS:=λE ρ=>ti (gQ ρ) λds=>∃Φ:Nat->bT->Prop,Φ 0 ρ /\
 (∀(i:Nat) (d:D) (ρ':bT),ds[i]?=aa d->Φ i ρ'->g d ρ' λρ2=>tb {E with nx:=Φ (i+1),ct:=Φ (i+1),bk:=E.nx} ρ2) /\∀ρ',Φ ds.length ρ'->E.nx ρ'
theorem Lx(hc:X.calm=ae)(hp:Dz (au X.Ω X.w) X.A X.env X.xe)(hi:VY X tg iter ti)(hg:YN X tg g)(hb:wW X body tb)
  (hs:Zo X iter:=by intro _;rfl):C5 X (.For tg iter body [] ν) (Ly ti g tb):=kM (Yt hp hc hi hg hb hs) λB σ H Lw=>by
 obtain⟨H₀,S,w,ρ,G,E,hl,st,ht,ok⟩:=Lw;show⟨_,gQ ρ,_,st.ID,st.rd,ht,λJ H1 ds G1 s1 hg1 wk q1=>?_⟩;obtain⟨Iv,h0,turn,fin⟩:=q1;have stG:∀{w σ H ρ},ST X.K H₀ S w σ H ρ (G1++G)->ST X.K H₀ S w σ H ρ G:=λst=>st.ghost λg hg=>st.gh g (ir _ hg);show⟨λi m σ H=>m=ds.length-i/\i<=ds.length/\σ.length=X.N.length /\∃w ρ,ST X.K H₀ S w σ H ρ (G1++G)/\Iv i ρ,
  ⟨_,rfl,jn _,hl,w,ρ,(st.same s1).ghost λg hg=>(gn.mp hg).elim (λz=>hg1 g z) λz=>(st.same s1).gh g z,h0⟩,?_⟩
 rintro i m σ2 H2 ⟨rfl,hi2,hl2,w2,ρ2,st2,iv⟩;by_cases hlt:i<ds.length
 .refine .inr ?_;obtain⟨g1,g2⟩:=wk.go _ H2 st2.ID (λg hg=>st2.gh g (gx _ hg)) i ds[i] (by simp[hlt]);show⟨g1,λσ' H'=>σ'.length=X.N.length /\∃w ρ,ST X.K H₀ S w σ' H' ρ (G1++G)/\Iv (i+1) ρ,λσ' H' ⟨hl',w',ρ',st',iv'⟩=>⟨ds.length-(i+1),by lia,rfl,hlt,hl',w',ρ',st',iv'⟩,λx H' y=>?_⟩;obtain⟨s3,dx⟩:=g2 x H' y;show⟨H₀,S,w2,ρ2,G1++G,ds[i],_,hl2,st2.same s3,dx,turn i ds[i] ρ2 (by simp[hlt]) iv,λσ4 H4 ρ4 hl4 st4 q4=>?_⟩;show⟨H₀,S,w2,ρ4,G1++G,_,hl4,st4,q4,⟨λw' σ' H' ρ' hl' st' q=>⟨hl',w',ρ',st',q⟩,λv H' d s' d' q=>ok.rt v H' d s' d' q,λw' σ' H' ρ' hl' st' q=>ok.nx w' σ' H' ρ' hl' (stG st') q,λw' σ' H' ρ' hl' st' q=>⟨hl',w',ρ',st',q⟩,ok.ex⟩⟩
 .have e:i=ds.length:=by lia
  subst e;show .inl ⟨wk.stop _ H2 (λg hg=>st2.gh g (gx _ hg)) _ rfl,ok.nx w2 σ2 H2 ρ2 hl2 (stG st2) (fin ρ2 iv)⟩
end
theorem IH(h:∀x∈scope.names,x.2=.free ->∃c,env.cells.lookup x.1=aa c):
  ∃cl,closureFor scope env=pure cl/\(∀x∈scope.names,x.2=.free->cl.lookup x.1=env.cells.lookup x.1) /\∀x c,cl.lookup x=aa c->env.cells.lookup x=aa c:=by
 have go:∀(l:List (aj×jd)) (ψ:List (aj×ah)),(∀x∈l,x.2=.free ->∃c,env.cells.lookup x.1=aa c)->(∀x c,ψ.lookup x=aa c->env.cells.lookup x=aa c) ->
   ∃cl,(forIn l ψ λ(x:aj×jd) (cs:List (aj×ah))=>(match x with|(name,kind)=>if(kind == ju)=ae then(do let c <- cellOf env name;pure (kj ((name,c)::cs))) else pure (kj cs):fm (ForInStep (List (aj×ah)))))=pure cl /\
    (∀x c,ψ.lookup x=aa c->cl.lookup x=aa c)/\(∀x∈l,x.2=.free->cl.lookup x.1=env.cells.lookup x.1) /\∀x c,cl.lookup x=aa c->env.cells.lookup x=aa c:=by
  intro l
  induction l with
  |nil=>intro ψ _ ha;show⟨ψ,by rw[yo],λ_ _ z=>z,λx hx=>(nomatch hx),ha⟩
  |cons y l ih =>
   intro ψ hf ha;by_cases hk:y.2=.free
   .obtain ⟨c,hc⟩:=hf y cx hk;have ha':∀x c',((y.1,c)::ψ).lookup x=aa c'->env.cells.lookup x=aa c':=λx c' hx=>by
     rw[qk] at hx;split at hx
     .rename_i e;cases hx;rw[eq_of_beq e];show hc
     .exact ha x c' hx
    obtain⟨cl,e,h1,h2,h3⟩:=ih ((y.1,c)::ψ) (λx hx=>hf x (fq _ hx)) ha';show⟨cl,?_,λx c' hx=>?_,λx hx hfx=>?_,h3⟩
    .rw [m_,<- e];have e1:(y.2 == ju)=ae:=by rw[hk];rfl
     have e2:cellOf env y.1=pure c:=by unfold cellOf;rw[hc]
     obtain⟨yn,yk⟩:=y;dsimp only at e1 e2 ⊢;rw[Z_ e1,e2];rfl
    .by_cases hxy:x=y.1
     .subst hxy;have e3:((y.1,c)::ψ).lookup y.1=aa c:=by simp
      have e4:=ha _ _ hx;rw[hc] at e4;cases e4;show h1 _ _ e3
     .refine h1 x c' ?_;rw[qk];have:(x == y.1)=ag:=by simpa using hxy
      rw[this];show hx
    .rcases bz.mp hx with rfl|hx
     .rw [hc];show h1 _ _ (by simp)
     .exact h2 x hx hfx
   .obtain ⟨cl,e,h1,h2,h3⟩:=ih ψ (λx hx=>hf x (fq _ hx)) ha;show⟨cl,?_,h1,λx hx hfx=>?_,h3⟩
    .rw [m_,<- e];have e1:¬ (y.2 == ju)=ae:=by simpa using hk
     obtain⟨yn,yk⟩:=y;dsimp only at e1 ⊢;rw[Zz e1];rfl
    .rcases bz.mp hx with rfl|hx
     .exact Zw hfx hk
     .exact h2 x hx hfx
 obtain⟨cl,e,_,h2,h3⟩:=go scope.names [] h (λx c z=>by simp at z);show⟨cl,?_,h2,h3⟩;have e':=congrArg (λt=>t >>= λr=>(pure r:fm (List (aj×ah)))) e;show e'
theorem iP:∀(l:List (aj×jd)) (n:Nat) (own cl:List (aj×ah)),cellsFrom n l (own++cl)=cellsFrom n l own++cl
 |[],_,_,_=>rfl
 | (x,k)::r,n,own,cl=>by
  unfold cellsFrom;split
  .exact iP r (n+1) ((x,n)::own) cl
  .exact iP r n own cl
theorem j5:∀(l:List (aj×jd)) (n:Nat) (own:List (aj×ah)) (p:aj×ah),p∈cellsFrom n l own->p∈own\/(p.1,kh)∈l
 |[],_,_,_,h=>.inl h
 | (x,k)::r,n,own,p,h=>by
  unfold cellsFrom at h;split at h
  .rename_i hk;rcases j5 r _ _ p h with h|h
   .rcases bz.1 h with rfl|h
    .exact .inr (by rw[<- eq_of_beq hk];show cx)
    .exact .inl h
   .exact .inr (fq _ h)
  .rcases j5 r _ _ p h with h|h
   .exact .inl h
   .exact .inr (fq _ h)
theorem kP:∀(l:List (aj×jd)) (n:Nat) (own:List (aj×ah)) (x:aj),((∃c,own.lookup x=aa c)\/(x,kh)∈l) ->∃c,(cellsFrom n l own).lookup x=aa c
 |[],_,_,_,h=>h.elim id λz=>(nomatch z)
 | (y,k)::r,n,own,x,h=>by
  unfold cellsFrom;split
  .refine kP r _ _ x ?_;by_cases e:x=y
   .exact .inl ⟨n,by rw[e,qk,beq_self_eq_true]⟩
   .rcases h with⟨c,h⟩|h
    .exact .inl ⟨c,by rw[qk,beq_eq_false_iff_ne.mpr e];show h⟩
    .rcases bz.mp h with z|z
     .exact Zw (E_ z).1 e
     .exact .inr z
  .rename_i hk;show kP r _ _ x (h.imp_right λz=>?_);rcases bz.mp z with z|z
   .rw [<- (E_ z).2] at hk;show Zw rfl hk
   .exact z
theorem NP{M:lh}{A:bu}{E:Q0c}{s:ak}{sc:gd}{g:ah}{cl:List (aj×ah)}{q:aj}{f:Option ah}{code:ai}{env:d_}{bl:ah}{Q:d_->ak->Prop}
  (h:∀h4:ba,h4.Ns s.heap.objs.size (λ_=>af)->(∀b o,s.heap.get? b=aa o->h4.get? b=aa o)->CellsOk h4 (s.heap.objs.size+1) (cellsFrom (s.heap.objs.size+1) sc.names []) ->
   Q (newEnv sc s.heap.objs.size g (cellsFrom (s.heap.objs.size+1) sc.names cl) q f code (aa env) bl) {s with heap:=h4}):
  ay M A (newFunctionEnv sc g cl [] q f code (aa env) bl) Q E s:=by
 unfold newFunctionEnv;show aq (a0r (aq (wpAny_layCells _ (λx k c=>by cases e:k == kh<;>simp[e]) _ _ _ _ ?_)));have hz:∀o:ax,(s.heap.push o).objs.size=s.heap.objs.size+1:=λo=>qa ..;have ok:=λo=>cellsFrom_ok sc.names (s.heap.push o) (s.heap.objs.size+1) [] ⟨λ_ _ z=>(nomatch z),.nil⟩ (by rw[hz];show bp _);simp only[hz] at ok ⊢;rw[yo];show aq (a_ (a_ (h _ ((Heap.Ns.new s.heap _).keeps (a0y _ _)) (λb o e=>a0y _ _ b o (dg _ e)) (ok _))))
def blk(X:Cx)(N:Q0g)(sc:gd)(cl:List (aj×ah))(C:ah)(pn:Q0b)(ex:List ah)(s₀:ak)(H₀:Hp):Cx :=
 {X with N:=N,s₀:=s₀,H₀:=H₀,env:=compEnvC sc cl C X.env,Γ:=X.stack,stack:=X.stack,ex:=ex,fn:=λx=>sc.names.lookup x == aa kh,pn:=pn,xe:=λ_ _=>False}
def E4(nl:Nat)(fr:List Nat)(σ:L2.St):L2.St:=cc nl af++fr.map λj=>(σ[j]?).join
structure E5 (X:Cx) (ls fs:Q0g) (fr:List Nat) (sc:gd):Prop where
 kind:sc.kind=.function
 nd:(ls++fs).Nodup
 uniq:∀x∈sc.names,sc.names.lookup x.1=aa x.2
 free:∀x∈sc.names,x.2=.free->X.env.kindOf x.1=aa .cell\/X.env.kindOf x.1=aa .free
 slot:∀(k:Nat) (x:aj),fs[k]?=aa x ->∃j,fr[k]?=aa j/\X.N[j]?=aa x/\(x,ju)∈sc.names/\sc.names.lookup x=aa .free
 E1:fr.length=fs.length
section
variable{X:Cx}
theorem tJ(t:aj->jd->jd)(x:aj):∀l:List (aj×jd),(l.map λp=>(p.1,t p.1 p.2)).lookup x=(l.lookup x).map (t x)
 |[]=>rfl
 | (n,k)::r=>by
  rw[bt,qk,qk];by_cases hx:(x == n)=ae
  .rw [hx,eq_of_beq hx];rfl
  .rw [a2A] at hx;rw[hx];show tJ t x r
theorem wZ{sc:gd}{env:d_}{x:aj}{l:List (aj×jd)}:(l.map λ(n,k)=>if(k == ju&&env.scope.kind == .function&&env.kindOf n == aa .cell) then(n,kh) else(n,k)).lookup x =
  (l.lookup x).map λk=>if(k == ju&&env.scope.kind == .function&&env.kindOf x == aa .cell) then kh else k:=by
 rw[<- tJ (λy k=>if(k == ju&&env.scope.kind == .function&&env.kindOf y == aa .cell) then kh else k) x l];show congrArg (List.lookup x) (iy λp _=>?_);dsimp only;split<;>rfl
def ne_size{b c:ah}{h:ba}{o:ax}(e:h.get? b=aa o)(hc:c=h.objs.size):b≠c:=λz=>jf _ (by have q:=b_ e;rw[z,hc] at q;show q)
def E6{b c:ah}{n:Nat}(h:b<n)(hc:n<=c):b≠c:=λz=>jf c (gj (z▸h) hc)
theorem YO{ls fs:Q0g}{fr:List Nat}{sc:gd}{cl:List (aj×ah)}{C:ah}{π:Q0b}{ex:List ah}{σ:L2.St}{H:Hp}{s s4:ak}(B:E5 X ls fs fr sc)(I:Φ X π σ H s)
  (hcl:∀x∈sc.names,x.2=.free->cl.lookup x.1=X.env.cells.lookup x.1) (CH:∀x c,cl.lookup x=aa c->X.env.cells.lookup x=aa c\/(C<c/\s4.heap.IsCell c af)) (Aa:∀x∈sc.names,x.2=.cell ->∃c,cl.lookup x.1=aa c/\C<c)
  (hinj:∀x y c,cl.lookup x=aa c->cl.lookup y=aa c->x=y) (hex:∀b∈ex,oU X π H b/\b<s.heap.objs.size)
  (hC:C=s.heap.objs.size) {m:Q0d} (hn:s4.heap.Ns C m) (hk:∀b o,s.heap.get? b=aa o->s4.heap.get? b=aa o) (ho:s4.os=s.os) (hg:s4.gens=s.gens):
  Φ (blk X (ls++fs) sc cl C (X.pn++π) ex s H) [] (E4 ls.length fr σ) H s4:=by
 have ltC:∀{b:ah} {o:ax},s.heap.get? b=aa o->b≠C:=λe=>ne_size e hC;have aLF:∀x c,cl.lookup x=aa c->c≠C:=λx c e=>by
  rcases CH x c e with e|⟨e,_⟩
  .obtain ⟨v,o,ho,_⟩:=I.cell x c e;show ltC ho
  .exact oj e
 have ze:∀x,(compEnvC sc cl C X.env).kindOf x=(sc.names.lookup x).map λk=>if(k == ju&&X.env.scope.kind == .function&&X.env.kindOf x == aa .cell) then kh else k:=λx=>wZ (sc:=sc)
 have okX:(blk X (ls++fs) sc cl C (X.pn++π) ex s H).Ok:=by
  show⟨I.ok.mod,B.kind,I.ok.glob,I.ok.blt,(by show s.heap.objs.size<=C;rw[hC];show bp _),hinj,λx hx=>?_,λx c hf hl=>?_,I.ok.hd,I.ok.frames,.inl rfl,λb hb=>?_,λb o e=>I.bs b o e,iq I.ok.RG I.sz,λb o e hb=>?_,λb hb=>?_,I.stack,I.BZ,I.tab⟩
  ·-- a cell or free name of the block
   have hx':∃k,sc.names.lookup x=aa k/\((if(k == ju&&X.env.scope.kind == .function&&X.env.kindOf x == aa .cell) then kh else k)=.cell\/(if(k == ju&&X.env.scope.kind == .function&&X.env.kindOf x == aa .cell) then kh else k)=.free):=by
    have hx:(compEnvC sc cl C X.env).kindOf x=aa .cell\/(compEnvC sc cl C X.env).kindOf x=aa .free:=hx;rw[ze] at hx
    cases e:sc.names.lookup x with
    |none=>rw[e] at hx;rcases hx with hx|hx<;>cases hx
    |some k=>rw[e] at hx;show⟨k,rfl,hx.imp (λz=>fg z) λz=>fg z⟩
   obtain⟨k,e,hk'⟩:=hx';have hm:=km e;by_cases kf:k=.free
   .subst kf;have q:=hcl _ hm rfl;obtain⟨c,hc⟩:=I.ok.has x (B.free _ hm rfl);show⟨c,q.trans hc⟩
   .have e2:(k == ju)=ag:=by simpa using kf
    rw[e2] at hk';simp only[Gu,pd,if_false] at hk';rcases hk' with z|z
    .obtain ⟨c,hc,_⟩:=Aa _ hm z;show⟨c,hc⟩
    .exact Zw z kf
  ·-- an own cell is new
   obtain⟨c',hc',hlt⟩:=Aa _ (km (eq_of_beq hf)) rfl;have hc':cl.lookup x=aa c':=hc';have hl:cl.lookup x=aa c:=hl;rw[hl] at hc';cases hc';rw[hC] at hlt;show ll hlt
  .refine ⟨E6 (hex b hb).2 (lp hC.symm),λx c e=>?_⟩;rcases CH x c e with e|⟨e,_⟩
   .exact (hex b hb).1.2.2.2.2.1 x c e
   .exact fj (E6 (hex b hb).2 (by rw[<- hC];show ll e))
  .obtain ⟨⟨_,_,_,f3,_,_⟩,_⟩:=hex b hb;rcases f3 with f3|f3
   .exact I.ok.HK b o e f3
   .exact Zw (gj (b_ e) (iq I.ok.RG f3)) (jf _)
  .intro z;obtain⟨⟨_,f1,f2,_,_,_⟩,_⟩:=hex b hb;rcases bz.mp (I.oS b z) with z|z
   .exact f1 z
   .exact f2 z
 show⟨okX,ho,by rw[hg];show I.bare,Un.kept hk,⟨m,hn,λi x v h1 h2 h3=>?_⟩,λx c e=>?_,?_,λx c e=>?_,λp hp=>?_,I.hok.kept hk,?_⟩
 ·-- a name with a value is one from around
  have hi:¬ i<ls.length:=λhi=>by unfold E4 at h2;rw[j_ (by simpa using hi),jg,Z_ hi] at h2;cases h2
  have e1:fs[i-ls.length]?=aa x:=by have h1:(ls++fs)[i]?=aa x:=h1;rw[jz ∅] at h1;show h1
  obtain⟨j,ej,eN,hm,hlk⟩:=B.slot _ _ e1;have e2:(σ[j]?).join=aa v:=by unfold E4 at h2;rw[jz (by simpa using hi),dj,jw,ej] at h2;show fg h2
  have e3:σ[j]?=aa (aa v):=by
   cases q:σ[j]? with
   |none=>rw[q] at e2;cases e2
   |some o=>rw[q] at e2;rw[show o=aa v from e2]
  have hfr:=B.free _ hm rfl;have vis:x6 X.env.scope x:=.inr hfr;obtain⟨mm,hnm,hl⟩:=I.loc;obtain⟨u,r,l⟩:=hl j x v eN e3 vis;show⟨u,r,?_⟩;rcases l with⟨k1,_⟩|⟨k1,c,ec,zc⟩
  .have k1:X.env.kindOf x=aa .local:=k1;rcases hfr with z|z<;>rw[k1] at z<;>cases z
  .refine .inr ⟨?_,c,(hcl _ hm rfl).trans ec,?_⟩
   .show (compEnvC sc cl C X.env).kindOf x=aa .cell\/(compEnvC sc cl C X.env).kindOf x=aa .free;rw[ze,hlk];dsimp only[a1Q];split
    .exact .inl rfl
    .exact .inr rfl
   .obtain ⟨oc,hoc,hd⟩:=zc;show⟨oc,hk _ _ hoc,hd⟩
 .rcases CH x c e with e|⟨_,e⟩
  .obtain ⟨v,oc,hoc,hd⟩:=I.cell x c e;show⟨v,oc,hk _ _ hoc,hd⟩
  .exact ⟨af,e⟩
 .show H C=af;rw[hC];show I.hok.fresh (bp _)
 .rcases CH x c e with e|⟨e,_⟩
  .exact I.hJ x c e
  .exact I.hok.fresh (by rw[<- hC];show ll e)
 .have hp:p∈(X.pn++π)++[]:=hp;rw[gq] at hp;obtain⟨e,n,ne,nf,d⟩:=I.pin p hp;show⟨hk _ _ e,n,ltC e,λz=>?_,d⟩;rcases bz.mp (I.oS _ z) with z|z
  .exact ne z
  .exact nf z
 .show (E4 ls.length fr σ).length=(ls++fs).length;unfold E4;rw[dm,dm,jw,bj,B.E1]
theorem TK{ls fs:Q0g}{sc:gd}{cl:List (aj×ah)}{C:ah}{π RH:Q0b}{ex:List ah}{σ σ':L2.St}{H H':Hp}{s s':ak}{h':ba}(I:Φ X π σ H s)
  (J:Φ (blk X (ls++fs) sc cl C (X.pn++π) ex s H) RH σ' H' s') (hex:∀b∈ex,oU X π H b) (hC:C=s.heap.objs.size) (hs:mr C s'.heap h'):Φ X π σ H' {s' with heap:=h' }:=by
 have ltC:∀{b:ah} {o:ax},s.heap.get? b=aa o->b≠C:=λe=>ne_size e hC;have fr:H' C=af:=J.free;have un:Un (frs X.stack) ex H H' s.heap s'.heap:=J.ω;show I.call' (s':={s' with heap:=h' }) (ch:=ex) J.os ⟨λb o e n hb hx=>(hs.2 b (ltC e)).trans (un.keep b o e n hb hx),λb o e n hb hx=>?_,un.free,λb o e hx=>?_,un.tups,un.tX,un.rN⟩ ?_ J.bare λb hb=>?_
 .obtain ⟨sl,q⟩:=un.slot b o e n hb hx;show⟨sl,(hs.2 b (ltC e)).trans q⟩
 .obtain ⟨o',q⟩:=un.there b o e hx;show⟨o',(hs.2 b (ltC e)).trans q⟩
 .intro b ob e;show(J.hok b ob e).stay (λc u hc q=>(hs.2 c ?_).trans q) (λ_ q=>q) λ_ _ q=>q;intro z;rcases hc with hc|hc
  .rw [z] at hc;rw[<- hc,fr] at e;cases e
  .rw [z,fr] at hc;cases hc
 .obtain ⟨_,f1,_,f3,f4,f5⟩:=hex b hb;show⟨f3,f1,f4,f5⟩
abbrev Yc(ifs:List av)(env:d_):fm Bool:=forIn ifs ae λc r=>if r=ae then(do let b <- isTrue c env (eval c env);pure (kj b)) else pure (kj r)
abbrev Calm(Ω:bh)(w:az)(A:bu){α:Type}(t:fm α)(Q:α->ak->Prop)(s:ak):Prop:=ay (au Ω w) A t Q (λ_ _=>False) s
theorem m4(Iv:Nat->ak->Prop)
  (turn:∀n s,Iv n s->Calm Ω w A (pyNext it) (λgot s1=>match got with
   |none=>R (.ok .next) s1
   |some v=>Calm Ω w A (letOwnedTupleGo tg it v) (λ_ s2=>Calm Ω w A (assign tg env v) (λ_ s3=>Calm Ω w A (Yc ifs env) (λok s4 =>
     if ok=ae then Calm Ω w A (eval el env) (λx s5=>Calm Ω w A (call (.builtin "list.append") [ψ,x]) (λ_ s6=>∃m,m<n/\Iv m s6) s5) s4 else ∃m,m<n/\Iv m s4) s3) s2) s1) s)
  (n:Nat) (h:Iv n s):ml (au Ω w) A (.compLoop (.ListComp el [⟨tg,src,ifs,0⟩] bs at_) 0 it ψ env) R s:=by
 have no:∀{α:Type} {E:Q0c} {t:fm α} {Q Q':α->ak->Prop} {s:ak},Calm Ω w A t Q s->(∀a s,Q a s->Q' a s)->ay (au Ω w) A t Q' E s:=λh f=>ja h f λ_ _ z=>z.elim;show codeAny_loop rfl Iv (λn s hI=>?_) n h;show wpAny_noted (m:=compTurn (.ListComp el [⟨tg,src,ifs,0⟩] bs at_) 0 it ψ env) ?_;rw[compTurn_list];show aq (wj (aq (no (turn n s hI) λgot s1 h1=>?_)))
 match got,h1 with
 |none,h1=>show a_ h1
 |some v,h1 =>
  show aq (no h1 λ_ _ h2=>aq (no h2 λ_ _ h3=>aq (no h3 λok s4 h4=>?_)))
  match ok,h4 with
  |false,h4=>show a_ (uf rfl h4)
  |true,h4=>show aq (aq (no h4 λ_ _ h5=>aq (no h5 λ_ _ h6=>a_ (a_ (uf rfl h6)))))
abbrev TFk:=L2.St->Hp->(Bool->Hp->Prop)->Prop
def PIf(X:Cx)(ifs:List av)(t:TFk):Prop :=
 ∀(π:Q0b) (s:ak) (σ:L2.St) (H:Hp) (Q:Bool->Hp->Prop),Φ X π σ H s->t σ H Q ->
  ay (au X.Ω X.w) X.A (forIn ifs ae λc r=>if r=ae then do let ok <- isTrue c X.env (eval c X.env);pure (kj ok) else pure (kj r)) (TP X π σ Q) X.xe s
def LI:PIf X [] (λ_ H Q=>Q ae H):=λπ s σ H Q I h=>by rw[yo];show a_ ⟨H,I,h⟩
def Yb(h:PT X c t):PIf X [c] t:=λπ s σ H Q I hw=>by rw[m_];show aq ?_;rw[Z_ rfl];show aq (eQ (h π s σ H Q I hw) λb s1 q=>a_ ?_);dsimp only;rw[yo];show a_ q
def E7(nl:Nat)(fr:List Nat)(wi:TI)(g:TG)(tf:TFk)(te:TE):TE:=λσ H Q=>wi σ H λJ H1=>∀ψ,H1 ψ=af ->∃W:Nat->Nat->Hp->List V->Prop,(∃m,W 0 m (upd H1 ψ (.lst [])) []) /\
 ∀i m H ys,W i m H ys->H ψ=aa (.lst ys)/\((J.stop i H/\Q (.ref ψ) H)\/(J.go i H /\∀x H',J.yld i H x H'->g x (E4 nl fr σ) H' λσ2 H2=>(σ2.drop nl=fr.map λj=>(σ[j]?).join)/\tf σ2 H2 λb H3 =>
  if b=ae then te σ2 H3 λy H4=>H4 ψ=aa (.lst ys)/\ys.length<bg /\∃m',m'<m/\W (i+1) m' (upd H4 ψ (.lst (ys++[y]))) (ys++[y]) else ∃m',m'<m/\W (i+1) m' H3 ys))
theorem E8{ls fs:Q0g}{fr:List Nat}{sc:gd}{tg iter elt:av}{ifs:List av}{ν p2:br}{wi:TI}{g:TG}{tf:TFk}{te:TE}{π:Q0b}{σ:L2.St}{H:Hp}{s:ak}{Qe:VK}{use:Option (ai->fm Unit)}{Qv:Q0c}
  (hc:X.calm=ae) (B:E5 X ls fs fr sc) (hi:PI X tg iter wi) (hg:∀cl C pn ex s H,PG (blk X (ls++fs) sc cl C pn ex s H) tg g) (hf:∀cl C pn ex s H,PIf (blk X (ls++fs) sc cl C pn ex s H) ifs tf) (he:∀cl C pn ex s H,PE (blk X (ls++fs) sc cl C pn ex s H) elt te)
  (hs:Zo X iter) (I:Φ X π σ H s) (h:E7 ls.length fr wi g tf te σ H Qe)
  (fin:∀ψ C s' H',Φ X π σ H' s'->(∃m,s'.heap.Ns C m)->oU X π H' C->Qe (.ref ψ) H'->compPost (au X.Ω X.w) X.A X.xe use Qv (.ref ψ) C (.ok .next) s'):
  ay (au X.Ω X.w) X.A (comprehension (.ListComp elt [⟨tg,iter,ifs,0⟩] sc ν) sc X.env p2 (newList []) ag (eval iter X.env) use) Qv X.xe s:=by
 obtain⟨cl,ecl,hcl,CH⟩:=IH (scope:=sc) (env:=X.env) λx hx hf=>I.ok.has x.1 (B.free x hx hf);show wpAny_comprehension_free (g:=⟨tg,iter,ifs,0⟩) (gs:=[]) rfl hs ecl B.kind (λx hx e=>(B.uniq x hx).trans (congrArg aa e)) ?_;show eQ (hi π s σ H _ I h) λv s1 h1=>eQ h1 λitv s2 h2=>?_;obtain⟨it,fp,tn,J,H2,e,I2,T,st2,f2,h2⟩:=h2;subst e;show nq ?_ (by show([]:Q0f).toArray.size<=bg;simp);have hacc:H2 s2.heap.objs.size=af:=I2.hok.fresh (bp _);have I3:Φ X π σ (upd H2 s2.heap.objs.size (.lst [])) {s2 with heap:=s2.heap.push {cls:=.type "list",data:=.seq ([]:Q0f).toArray} } :=
  I2.laid (t':=s2.toks) (λb o e=>dg _ e) (bp _) ⟨by simp,[],0,.nil,gf _ rfl⟩
 have hfp:∀b∈fp,b<s2.heap.objs.size:=λb hb=>by obtain⟨o,e,_⟩:=T.obj _ _ st2 b hb;show b_ e
 obtain⟨W,⟨m0,w0⟩,turn⟩:=h2 _ hacc;generalize E9:s2.heap.objs.size=ψ at hacc I3 w0 turn ⊢;have Lv:∀b∈fp,b≠ψ:=λb hb=>E6 (hfp b hb) (lp E9);have f3:∀b∈fp,oU X π (upd H2 ψ (.lst [])) b:=λb hb=>⟨by rw[aQ (Lv b hb)];show(f2 b hb).1,(f2 b hb).2⟩;generalize hs3:({s2 with heap:=s2.heap.push {cls:=.type "list",data:=.seq ([]:Q0f).toArray} }:ak)=s3 at I3;have hsz3:s3.heap.objs.size=ψ+1:=by rw[<- hs3];show(s2.heap.push _).objs.size=_;rw[qa,E9]
 have st3:tn 0 s3.heap:=T.keep _ _ _ st2 λb hb o e=>by rw[<- hs3];show dg _ e
 show NP λh4 hn4 hk4 co=>?_;generalize hC:s3.heap.objs.size=C at hn4 co ⊢;have eC:cellsFrom (C+1) sc.names cl=cellsFrom (C+1) sc.names []++cl:=iP sc.names (C+1) [] cl;generalize hcs:cellsFrom (C+1) sc.names []=cs at co eC;have own:∀x c,cs.lookup x=aa c->(x,kh)∈sc.names/\C<c/\h4.IsCell c af:=λx c e=>by
  have m:=km e;show⟨?_,(co.empty x c m).2,(co.empty x c m).1⟩;rw[<- hcs] at m;rcases j5 _ _ _ _ m with z|z
  .cases z
  .exact z
 generalize hdl:cellsFrom (C+1) sc.names cl=dl at eC ⊢;have two:∀x c,dl.lookup x=aa c->cs.lookup x=aa c\/(cs.lookup x=af/\cl.lookup x=aa c):=λx c e=>by
  rw[eC,Fw] at e
  cases q:cs.lookup x with
  |none=>rw[q] at e;show .inr ⟨rfl,e⟩
  |some d=>rw[q] at e;show .inl e
 have Lu:∀x∈sc.names,x.2=.free->dl.lookup x.1=X.env.cells.lookup x.1:=λx hx e=>by
  rw[<- hcl x hx e,eC,Fw]
  cases q:cs.lookup x.1 with
  |none=>rfl
  |some d =>
   have z:=B.uniq _ (own _ _ q).1;rw[B.uniq x hx,e] at z;cases z
 have z_:∀x c,dl.lookup x=aa c->X.env.cells.lookup x=aa c\/(C<c/\h4.IsCell c af):=λx c e=>by
  rcases two x c e with e|⟨_,e⟩
  .exact .inr (own x c e).2
  .exact .inl (CH x c e)
 have Lq:∀x∈sc.names,x.2=.cell ->∃c,dl.lookup x.1=aa c/\C<c:=λx hx e=>by obtain⟨c,hc⟩:=kP sc.names (C+1) [] x.1 (.inr (by rw[<- e];show hx));rw[hcs] at hc;show⟨c,by rw[eC,Fw,hc];rfl,(own _ _ hc).2.1⟩
 have low:∀x c,cl.lookup x=aa c->c<C:=λx c e=>by obtain⟨v,o,ho,_⟩:=I3.cell x c (CH x c e);rw[<- hC];show b_ ho
 have Lp:∀x y c,dl.lookup x=aa c->dl.lookup y=aa c->x=y:=λx y c e e'=>by
  rcases two x c e with e|⟨_,e⟩<;>rcases two y c e' with e' | ⟨_,e'⟩
  .exact a0A co.apart (km e) (km e')
  .exact Zw (own _ _ e).2.1 (a15 (low _ _ e'))
  .exact Zw (own _ _ e').2.1 (a15 (low _ _ e))
  .exact I3.ok.inj x y c (CH x c e) (CH y c e')
 have I4:Φ (blk X (ls++fs) sc dl C (X.pn++π) fp s3 (upd H2 ψ (.lst []))) [] (E4 ls.length fr σ) (upd H2 ψ (.lst [])) {s3 with heap:=h4} :=
  YO B I3 Lu z_ Lq Lp (λb hb=>⟨f3 b hb,by rw[hsz3,<- E9];show qd (hfp b hb)⟩) hC.symm hn4 hk4 rfl rfl
 generalize hX:blk X (ls++fs) sc dl C (X.pn++π) fp s3 (upd H2 ψ (.lst []))=Y at I4;have pY:Y.Ω=X.Ω:=by rw[<- hX];rfl
 have wY:Y.w=X.w:=by rw[<- hX];rfl
 have kY:Y.K=X.K:=by rw[<- hX];rfl
 have AY:Y.A=X.A:=by rw[<- hX];rfl
 have cY:Y.calm=ae:=by rw[<- hX];show hc
 have eY:Y.env=compEnvC sc dl C X.env:=by rw[<- hX];rfl
 have xY:Y.xe=λ_ _=>False:=by rw[<- hX];rfl
 have TL:∀{H':Hp},(∀b∈fp,H' b=af) ->∀b∈fp,oU Y [] H' b:=λhn b hb=>by
  rw[<- hX];obtain⟨_,f1,f2',_,f4,f5⟩:=f3 b hb;show⟨hn b hb,λz=>?_,λz=>?_,.inl hb,λx c e=>?_,λp hp=>f5 p ?_⟩
  .exact Zw z (E6 (hfp b hb) (by rw[<- hC,hsz3,E9];show om _))
  .rcases bz.mp (I3.oS b z) with z|z
   .exact f1 z
   .exact f2' z
  .rcases z_ x c e with e|⟨e,_⟩
   .exact f4 x c e
   .exact fj (E6 (hfp b hb) (by rw[E9];show ll (yb (by rw[<- hC,hsz3];show yc _) e)))
  .have hp:p∈(X.pn++π)++[]:=hp;rw[gq] at hp;show hp
 have st4:tn 0 h4:=T.keep _ _ _ st3 λb hb o e=>hk4 b o e;have loop:∀s5:ak,(∃i H',Φ Y [] (E4 ls.length fr σ) H' s5/\tn i s5.heap/\(∀b∈fp,H' b=af) /\∃m ys,W i m H' ys)->ml (au X.Ω X.w) X.A (.compLoop (.ListComp elt [⟨tg,iter,ifs,0⟩] sc ν) 0 (.ref it) (.ref ψ) (compEnvC sc dl C X.env)) (compPost (au X.Ω X.w) X.A X.xe use Qv (.ref ψ) C) s5:=by
  rintro s5 ⟨i,H',I5,st5,fr5,m,ys,w5⟩;show m4 (λn s'=>∃i H' ys,Φ Y [] (E4 ls.length fr σ) H' s'/\tn i s'.heap/\(∀b∈fp,H' b=af)/\W i n H' ys) ?_ m ⟨i,H',ys,I5,st5,fr5,w5⟩;rintro n s6 ⟨i,H6,ys,I6,st6,fr6,w6⟩;obtain⟨ha6,alt⟩:=turn i n H6 ys w6;rcases alt with⟨stop,qn⟩|⟨go,step⟩
  .have q:=T.done Y pY wY kY cY i [] s6 _ H6 (λ_ _=>False) I6 (TL fr6) st6 stop;rw[AY] at q;show eQ q λr s7 Lo=>?_;obtain⟨hr,I7⟩:=Lo;subst hr;have fr7:H6 C=af:=by have:=I7.free;rw[eY] at this;show this
   show fin ψ C s7 H6 ?_ ?_ (I3.HL (lp hC) fr7) qn
   .rw [<- hX] at I7;show TK I3 I7 (λb hb=>f3 b hb) hC.symm (.refl ..)
   .obtain ⟨m,hm,_⟩:=I7.loc;rw[eY] at hm;show⟨m,hm⟩
  .have q:=T.item Y pY wY kY cY i [] s6 _ H6 (λ_ _=>False) I6 (TL fr6) st6 go;rw[AY] at q;show eQ q λr s7 Ln=>?_;obtain⟨u,hr,h7⟩:=Ln;subst hr;show eQ h7 λ_ s8 Lm=>?_;obtain⟨x,H8,I8,r8,y8,st8,fr8⟩:=Lm;have I8':=I8.pinned (TL fr8) (T.obj _ _ st8);have hgY:=hg dl C (X.pn++π) fp s3 (upd H2 ψ (.lst []));have hfY:=hf dl C (X.pn++π) fp s3 (upd H2 ψ (.lst []));have heY:=he dl C (X.pn++π) fp s3 (upd H2 ψ (.lst []));rw[hX] at hgY hfY heY;have q8:=hgY _ s8 _ H8 x u _ I8' r8 (step x H8 y8);rw[pY,wY,AY,eY,xY] at q8;show eQ q8 λ_ s9 Lk=>?_;obtain⟨σ9,H9,I9,hσ9,q9⟩:=Lk;have mf:=hfY _ s9 σ9 H9 _ I9 q9;rw[pY,wY,AY,eY,xY] at mf;show eQ mf λok Hd Lj=>?_;obtain⟨H10,I10,mf⟩:=Lj;have bl:∀{H7:Hp} {s7:ak},Φ Y ([]++wD fp s8.heap) σ9 H7 s7->(∃m',m'<n /\∃ys',W (i+1) m' H7 ys') ->∃m,m<n /\∃i H' ys,Φ Y [] (E4 ls.length fr σ) H' s7/\tn i s7.heap/\(∀b∈fp,H' b=af)/\W i m H' ys:=λ{H7 s7} I7 ⟨m',hm,ys',w7⟩=>by
    show⟨m',hm,i+1,H7,ys',?_,T.keep _ _ _ st8 λb hb o e=>(I7.pin (b,o) (ir _ (ir _ (lZ hb e)))).1,λb hb=>?_,w7⟩
    .refine I7.qB.weak ?_ λk v e=>?_
     .rw [I7.len,<- I6.len]
     .by_cases hk:k<ls.length
      .unfold E4 at e;rw[j_ (by simpa using hk),jg,Z_ hk] at e;cases e
      .have e2:(σ9.drop ls.length)[k-ls.length]?=aa (aa v):=by rw[hσ9];unfold E4 at e;rw[jz (by simpa using hk),jw] at e;show e
       rw[List.getElem?_drop] at e2;rw[show ls.length+(k-ls.length)=k by lia] at e2;show e2
    .obtain ⟨o,e,d⟩:=T.obj _ _ st8 b hb;show(I7.pin (b,o) (ir _ (ir _ (lZ hb e)))).2.1
   cases ok with
   |false =>
    rw[Zz bx] at mf ⊢;obtain⟨m',hm,w'⟩:=mf;show bl I10 ⟨m',hm,ys,w'⟩
   |true =>
    rw[Z_ rfl] at mf ⊢;have yz:=heY _ Hd σ9 H10 _ I10 mf;rw[pY,wY,AY,eY,xY] at yz;show eQ yz λyv Hc Li=>?_;obtain⟨y,H11,I11,He,Ya,Kz,m',hm,w'⟩:=Li;have yy:=(z7 (X:=Y)) _ Hc σ9 H11 (.ref ψ) [y] (.ref ψ) [yv] (λ_ H'=>H'=upd H11 ψ (.lst (ys++[y]))) I11 rfl (.cons He .nil) ⟨ψ,ys,y,rfl,rfl,Ya,Kz,rfl⟩;rw[pY,wY,AY,xY] at yy;show eQ yy λ_ s12 Ky=>?_;obtain⟨_,H12,I12,_,Ia⟩:=Ky;subst Ia;show bl I12 ⟨m',hm,_,w'⟩
 have L0:=loop _ ⟨0,_,I4,st4,λb hb=>(f3 b hb).1,m0,[],w0⟩;show codeAny_compStart_list L0 (T.self _ 0 _ _ _ st4 L0)
theorem LJ
  (hc:X.calm=ae) (B:E5 X ls fs fr sc) (hi:PI X tg iter wi) (hg:∀cl C pn ex s H,PG (blk X (ls++fs) sc cl C pn ex s H) tg g) (hf:∀cl C pn ex s H,PIf (blk X (ls++fs) sc cl C pn ex s H) ifs tf) (he:∀cl C pn ex s H,PE (blk X (ls++fs) sc cl C pn ex s H) elt te)
  (hs:Zo X iter:=by intro _;rfl):PE X (.ListComp elt [⟨tg,iter,ifs,0⟩] sc ν) (E7 ls.length fr wi g tf te):=by
 intro π s σ H Q I h;rw[eval_ListComp];show E8 (use:=af) hc B hi hg hf he hs I h λψ C s' H' I' hm fp q=>?_;obtain⟨m,hm⟩:=hm;obtain⟨f0,f1,_,f3,f4,f5⟩:=fp;show⟨m,hm,λh' hsb=>⟨.ref ψ,H',I'.turned (t':=s'.toks) (λb o hb e=>(hsb.2 b hb).trans e) f0 f1 f3 f4 f5,rfl,q⟩⟩
theorem w4(hN:X.N.Nodup)(hx0:X.N[i]?=aa x)(hx:X.env.scope.names.lookup x=aa .local)
  (hc:X.calm=ae) (B:E5 X ls fs fr sc) (hi:PI X tg iter wi) (hg:∀cl C pn ex s H,PG (blk X (ls++fs) sc cl C pn ex s H) tg g) (hf:∀cl C pn ex s H,PIf (blk X (ls++fs) sc cl C pn ex s H) ifs tf) (he:∀cl C pn ex s H,PE (blk X (ls++fs) sc cl C pn ex s H) elt te)
  (hsw:Rv X elt tg iter ifs sc ν x pos' spos)
  (hs:Zo X iter:=by intro _;rfl):PS X (.Assign [.Name x pos'] (.ListComp elt [⟨tg,iter,ifs,0⟩] sc ν) spos) (vv (E7 ls.length fr wi g tf te) (zV i)):=by
 intro π s σ H D I h;rw[exec_Assign_Name_used _ _ _ _ hsw];show aq (wj (aq ?_));show ay _ X.A (do let _ <- comprehension (.ListComp elt [⟨tg,iter,ifs,0⟩] sc ν) sc X.env _ (newList []) ag (eval iter X.env) (aa (assign (.Name x pos') X.env))) _ _ s;show aq (ja (E8 (use:=aa (assign (.Name x pos') X.env)) (Qv:=λ_ s'=>SP X π D .next s') hc B hi hg hf he hs I h λψ C s' H' I' hm fp q=>?_) (λ_ s' hq=>a_ (a_ hq)) λ_ _ e=>e);obtain⟨m,hm⟩:=hm;obtain⟨f0,f1,_,f3,f4,f5⟩:=fp;show a0q (zT I' hN hx0 (.inl hx) (v:=.ref ψ) rfl (λs'' I'' hsb=>?_) (.inr hx));obtain⟨a,hsb,ha⟩:=hsb;have haC:a≠C:=by
  rcases ha with rfl|ha
  .exact fj f1
  .exact f4 x a ha
 show⟨m,hm.sameBut hsb (fj haC),λh' hs'=>⟨_,H',I''.turned (t':=s''.toks) (λb o hb e=>(hs'.2 b hb).trans e) f0 f1 f3 f4 f5,q⟩⟩
end
def YQ(Γ:List (aj×jd))(sc:gd)(N ls fs:Q0g)(fr:List Nat):Bool :=
 (sc.kind == .function)&&Zv (ls++fs).Nodup&&sc.names.all (λx=>Zv (sc.names.lookup x.1=aa x.2)) &&
 sc.names.all (λx=>Zv (x.2=.free->(Γ.lookup x.1=aa .cell\/Γ.lookup x.1=aa .free)))&&Zv (fr.length=fs.length) &&
 (fs.zip fr).all (λx=>Zv (N[x.2]?=aa x.1)&&sc.names.contains (x.1,ju)&&Zv (sc.names.lookup x.1=aa .free))
def kQ(h:YQ X.env.scope.names sc X.N ls fs fr=ae):E5 X ls fs fr sc:=by
 unfold YQ at h;simp only[ij,jh,decide_eq_true_eq] at h;obtain⟨⟨⟨⟨⟨h1,h2⟩,h3⟩,h5⟩,h6⟩,h7⟩:=h;show⟨eq_of_beq h1,h2,h3,h5,λk x e=>?_,h6⟩;have hk:k<fs.length:=(cz.mp e).1;have hm:(x,fr[k]'∅)∈fs.zip fr:=by
  have:(fs.zip fr)[k]?=aa (x,fr[k]'∅):=by rw[a2m];show⟨e,by simp⟩
  show qi this
 obtain⟨⟨a,b⟩,c⟩:=h7 _ hm;show⟨fr[k]'∅,by simp,a,by simpa using b,c⟩
abbrev GE:=D->cM->(cM->Prop)->Prop
def w8(K:ao)(nl n:Nat)(g:GE):TG:=λv σ H Q=>∃(S:ah->Prop) (ρ:cM) (d:D) (Q3:cM->Prop),σ.length=n/\(∀a,H a=af->S a)/\Sl K S H ρ σ/\Dn K S H d v/\g d ρ Q3 /\
 ∀σ' ρ',Sl K S H ρ' σ'->σ'.drop nl=σ.drop nl->Q3 ρ'->Q σ' H
def PG4(X:Cx)(nl:Nat)(tg:av)(g:GE):Prop:=PG X tg (w8 X.K nl X.N.length g)
theorem Sl.set{K:ao}{S:ah->Prop}{H:Hp}{ρ:cM}{σ:L2.St}{i:Nat}{d:D}{v:V}(h:Sl K S H ρ σ)(hi:i<σ.length)(q:Dn K S H d v):Sl K S H (ρ.set i (aa d)) (σ.set i (aa v)):=λj e he=>by
 rcases get_set he with⟨hj,z,_⟩|⟨hj,z⟩
 .cases z;subst hj;show⟨v,lz hi,q⟩
 .obtain ⟨u,a,b⟩:=h j e z;show⟨u,by rw[jo (fj hj)];show a,b⟩
def hN(i:Nat):GE:=λd ρ Q=>Q (ρ.set i (aa d))
noncomputable def h2(i j:Nat):GE:=λd ρ Q=>match d with
 |.tup [d1,d2]=>Q ((ρ.set i (aa d1)).set j (aa d2))
 |_=>False
def drop_set{α:Type}{l:List α}{i n:Nat}{x:α}(h:i<n):(l.set i x).drop n=l.drop n:=by rw[List.drop_set,Z_ h]
section
variable{X:Cx}
def Tn{nl i:Nat}{x:aj}{ν:br}(nd:X.N.Nodup)(hil:i<nl)(hi:X.N[i]?=aa x:=by rfl)(hx:Loc X.env.scope x:=by walk_at "0")(hfx:Zq X x:=by walk_at "2"):PG4 X nl (.Name x ν) (hN i) :=
 NO (lY nd hi hx hfx) λv σ H Q Kx=>by obtain⟨S,ρ,d,Q3,hl,fc,sl,dn,hg,k⟩:=Kx;show k _ _ (sl.set (by rw[hl];show jA hi) dn) (drop_set hil) hg
def Tj{nl i j:Nat}{x y:aj}{kk:Nat}{ν px py:br}(hc:X.calm=ae)(nd:X.N.Nodup)(hil:i<nl)(hjl:j<nl)(hi:X.N[i]?=aa x:=by rfl)(hj:X.N[j]?=aa y:=by rfl)(hx:Loc X.env.scope x:=by walk_at "0")(hfx:Zq X x:=by walk_at "2")(hy:Loc X.env.scope y:=by walk_at "0")(hfy:Zq X y:=by walk_at "2")
  (hn:Q0j X x y px py:=by rfl) (hst:Q0i X x y px py:=by rfl)
  (hs1:gV X x y px py:=by rfl) (hs2:Q0h X y py:=by rfl):
  PG4 X nl (.Tuple [.Name x px,.Name y py] kk ν) (h2 i j) :=
 NO (RK (n:=2) hc (qA (lY nd hi hx hfx) (qA (lY nd hj hy hfy) K6 hs2) hs1) hn hst) λv σ H Q Kw=>by
  obtain⟨S,ρ,d,Q3,hl,fc,sl,dn,hg,k⟩:=Kw;unfold h2 at hg;split at hg
  .rename_i d1 d2;symm at dn;obtain⟨a,xs,rfl,ha,da⟩:=dn;obtain⟨v1,r1,rfl,h1,h2⟩:=da.bN;obtain⟨v2,r2,rfl,h3,h4⟩:=h2.bN;simp only[aV] at h4;subst h4;show⟨a,_,rfl,(fX.of ha),rfl,v1,[v2],rfl,v2,[],rfl,rfl,?_⟩;show k _ _ ((sl.set (by rw[hl];show jA hi) h1).set (by rw[gb,hl];show jA hj) h3) (by rw[drop_set hjl,drop_set hil]) hg
  .exact hg.elim
def NQ(X:Cx)(ifs:List av)(t:WT):Prop:=PIf X ifs (liftT X.K t)
def Ti:WT:=λ_ Q=>Q ae
def Kv:NQ X [] Ti:=λπ s σ H Q I Ku=>by obtain⟨S,ρ,Q3,fc,sl,ht,k⟩:=Ku;show LI π s σ H Q I (k ae H (ξ.refl H) ht)
theorem Th(h:wR X c t):NQ X [c] t:=Yb h
noncomputable def qK(g:GE)(tf:WT)(te:WE)(ρ:cM):List D->List D->(D->Prop)->Prop
 |[],ψ,Q=>Q (.lst ψ)
 |d::r,ψ,Q=>g d ρ λρ2=>tf ρ2 λb=>if b=ae then te ρ2 λy=>ψ.length<bg/\qK g tf te ρ r (ψ++[y]) Q else qK g tf te ρ r ψ Q
def benv(nl:Nat)(fr:List Nat)(ρ:cM):cM:=cc nl af++fr.map λj=>(ρ[j]?).join
def FA(nl:Nat)(fr:List Nat)(ti:WI)(g:GE)(tf:WT)(te:WE):WE:=λρ Q=>ti ρ λds=>qK g tf te (benv nl fr ρ) ds [] Q
def YR{K:ao}{S:ah->Prop}{H:Hp}{ρ:cM}{σ:L2.St}{nl:Nat}{fr:List Nat}(h:Sl K S H ρ σ):Sl K S H (benv nl fr ρ) (E4 nl fr σ):=λi d e=>by
 unfold benv at e;unfold E4;by_cases hi:i<nl
 .rw [j_ (by simpa using hi),jg,Z_ hi] at e;cases e
 .rw [jz (by simpa using hi),dj,jw] at e ⊢
  cases q:fr[i-nl]? with
  |none=>rw[q] at e;cases e
  |some j =>
   rw[q] at e;have e1:(ρ[j]?).join=aa d:=fg e;have e2:ρ[j]?=aa (aa d):=by
    cases z:ρ[j]? with
    |none=>rw[z] at e1;cases e1
    |some o=>rw[z] at e1;rw[show o=aa d from e1]
   obtain⟨v,ev,dv⟩:=h j d e2;show⟨v,by show aa ((σ[j]?).join)=_;rw[ev];rfl,dv⟩
def rS{K:ao}{nl n:Nat}{fr:List Nat}{ti:WI}{g:GE}{tf:WT}{te:WE}{σ:L2.St}{H:Hp}{Q:VK}(hn:nl+fr.length=n)(h:SQ K (FA nl fr ti g tf te) σ H Q):E7 nl fr (Cr K ti) (w8 K nl n g) (liftT K tf) (lift K te) σ H Q:=by
 obtain⟨S,ρ,Q3,fc,sl,ht,k⟩:=h;show⟨S,ρ,_,fc,sl,ht,λJ H1 ds G s1 hG wk q1=>?_⟩;intro ψ hacc;have h0:H ψ=af:=s1.free hacc;have fc1:=bG fc s1;have ok:∀{H2:Hp},ξ H1 H2->(∃ys,H2 ψ=aa (.lst ys))->(∀a,H2 a=af->S a/\a≠ψ)/\Sl K (λa=>S a/\a≠ψ) H2 (benv nl fr ρ) (E4 nl fr σ) /\∀g∈G,Dn K (λa=>S a/\a≠ψ) H2 g.1 g.2:=λ{H2} s2 hy=>by
  show⟨λa e=>⟨bG fc1 s2 a e,λz=>?_⟩,?_,λg hg=>Dn.fits ((Fits.fresh hacc).trans (.same s2)) _ _ (hG g hg)⟩
  .subst z;obtain⟨ys,hy⟩:=hy;rw[e] at hy;cases hy
  .exact YR (Sl.fits ((Fits.fresh h0).trans (.same (s1.trans s2))) sl)
 show⟨λi m H2 ys=>m=ds.length-i/\i<=ds.length/\ξ H1 H2/\H2 ψ=aa (.lst ys) /\∃aD,aV K (λa=>S a/\a≠ψ) H2 aD ys/\qK g tf te (benv nl fr ρ) (ds.drop i) aD Q3,
  ⟨_,rfl,jn _,aN hacc,aO,[],aV.nil,q1⟩,?_⟩
 rintro i m H2 ys ⟨rfl,hi,s2,hy,aD,dn,cw⟩;obtain⟨fc2,sl2,gh2⟩:=ok s2 ⟨ys,hy⟩;show⟨hy,?_⟩;by_cases hlt:i<ds.length
 .refine .inr ?_;obtain⟨g1,g2⟩:=wk.go _ H2 fc2 gh2 i ds[i] (by simp[hlt]);show⟨g1,λx H' y=>?_⟩;obtain⟨s3,dx⟩:=g2 x H' y;rw[ma hlt,qK] at cw;show⟨λa=>S a/\a≠ψ,benv nl fr ρ,ds[i],_,?_,bG fc2 s3,Sl.fits (.same s3) sl2,dx,cw,λσ' ρ' sl' hd q'=>?_⟩
  .unfold E4;rw[dm,jw,bj];show hn
  .refine ⟨by rw[hd];unfold E4;rw[List.drop_append_of_le_length (by simp),List.drop_replicate];simp,λa=>S a/\a≠ψ,ρ',_,bG fc2 s3,sl',q',λb H3 s4 q4=>?_⟩
   cases b with
   |false =>
    rw[Zz bx] at q4 ⊢;show⟨_,by lia,rfl,hlt,(s2.trans s3).trans s4,(s3.trans s4) _ _ hy,aD,aV.fits (.same (s3.trans s4)) _ _ dn,q4⟩
   |true =>
    rw[Z_ rfl] at q4 ⊢;show⟨λa=>S a/\a≠ψ,ρ',_,bG fc2 (s3.trans s4),Sl.fits (.same s4) sl',q4,λv H4 d s5 d5 q5=>?_⟩;have hy4:H4 ψ=aa (.lst ys):=((s3.trans s4).trans s5) _ _ hy;have F:Fits K (λa=>S a/\a≠ψ) (λa=>S a/\a≠ψ) H4 (upd H4 ψ (.lst (ys++[v]))):=.upd (.inl ⟨_,hy4⟩) λz=>z.2 rfl;show⟨hy4,by rw[<- dn.len];show q5.1,_,by lia,rfl,hlt,λb u hb=>?_,aO,aD++[d],aV.fits F _ _ ((aV.fits (.same ((s3.trans s4).trans s5)) _ _ dn).append (aV.one d5)),q5.2⟩;rw[aQ (aY hb hacc)];show(((s2.trans s3).trans s4).trans s5) _ _ hb
 .have e:i=ds.length:=by lia
  subst e;rw[a2q,qK] at cw;show .inl ⟨wk.stop _ H2 gh2 _ rfl,k ψ ys H2 aD h0 hy (s1.trans s2) dn cw⟩
theorem Tg{ls fs:Q0g}{fr:List Nat}{sc:gd}{tg iter elt:av}{ifs:List av}{ν:br}{ti:WI}{g:GE}{tf:WT}{te:WE}(hc:X.calm=ae)(hi:VY X tg iter ti)
  (hg:∀cl C pn ex s H,(blk X (ls++fs) sc cl C pn ex s H).N.Nodup->PG4 (blk X (ls++fs) sc cl C pn ex s H) ls.length tg g) (hf:∀cl C pn ex s H,NQ (blk X (ls++fs) sc cl C pn ex s H) ifs tf) (he:∀cl C pn ex s H,cR (blk X (ls++fs) sc cl C pn ex s H) elt te)
  (B:YQ X.env.scope.names sc X.N ls fs fr=ae:=by rfl) (hs:Zo X iter:=by intro _;rfl):EY X (.ListComp elt [⟨tg,iter,ifs,0⟩] sc ν) (FA ls.length fr ti g tf te) :=
 imp (LJ (g:=w8 X.K ls.length (ls++fs).length g) (tf:=liftT X.K tf) (te:=lift X.K te) hc (kQ B) hi (λcl C pn ex s H=>hg cl C pn ex s H (kQ B).nd) hf he hs) λσ H Q h=>rS (n:=(ls++fs).length) (by rw[dm,(kQ B).E1]) h
theorem NR{i:Nat}{x:aj}{ls fs:Q0g}{fr:List Nat}{sc:gd}{tg iter elt:av}{ifs:List av}{ν spos pos':br}{ti:WI}{g:GE}{tf:WT}{te:WE}(nd:X.N.Nodup)(hc:X.calm=ae)(hi:VY X tg iter ti)
  (hg:∀cl C pn ex s H,(blk X (ls++fs) sc cl C pn ex s H).N.Nodup->PG4 (blk X (ls++fs) sc cl C pn ex s H) ls.length tg g) (hf:∀cl C pn ex s H,NQ (blk X (ls++fs) sc cl C pn ex s H) ifs tf) (he:∀cl C pn ex s H,cR (blk X (ls++fs) sc cl C pn ex s H) elt te)
  (hx0:X.N[i]?=aa x:=by rfl) (hx:X.env.scope.names.lookup x=aa .local:=by rfl) (hsw:Rv X elt tg iter ifs sc ν x pos' spos:=by rfl)
  (B:YQ X.env.scope.names sc X.N ls fs fr=ae:=by rfl) (hs:Zo X iter:=by intro _;rfl):C5 X (.Assign [.Name x pos'] (.ListComp elt [⟨tg,iter,ifs,0⟩] sc ν) spos) (ve i (FA ls.length fr ti g tf te)) :=
 kM (w4 (g:=w8 X.K ls.length (ls++fs).length g) (tf:=liftT X.K tf) (te:=lift X.K te) nd hx0 hx hc (kQ B) hi (λcl C pn ex s H=>hg cl C pn ex s H (kQ B).nd) hf he hsw hs) λBd σ H Kt=>by
 obtain⟨H₀,S,w,ρ,G,E,hl,st,ht,ok⟩:=Kt;show rS (n:=(ls++fs).length) (by rw[dm,(kQ B).E1]) ⟨_,gQ ρ,_,st.ID,st.rd,ht,λp xs H' ds hp hp' s' d' q'=>ok.nx w _ H' _ (by rw[gb];show hl) ((st.same s').mZ (d:=.lst ds) (by rw[hl];show jA hx0) (by symm;show⟨p,xs,rfl,hp',st.ID p hp,aV.fits (.mono λ_ z=>z.1) _ _ d'⟩)) q'⟩
noncomputable def tyD:D->String
 |.non => "NoneType"
 |.bl _ => "bool"
 |.int _ => "int"
 |.str _ => "str"
 |.tup _ => "tuple"
 |.lst _ => "list"
 |.pJ _ => "list"
 |.kA _ _ => "dict"
 |.b7 _ _ _ => "dict"
 |.exc _ _ => "NoneType"
 |.rws _ => "NoneType"
inductive C6:String->Prop
 |t:C6 "tuple"
 |b:C6 "bool"
 |i:C6 "int"
 |s:C6 "str"
def isT(T:String)(d:D):Bool:=tyD d == T||(T == "int"&&tyD d == "bool")
def Ks(K:ao)(T:String):List V->Hp->VK->Prop:=λxs H Q=>∃x t b,xs=[x,.ty T]/\(qC K H x t\/(t=.type "tuple" /\∃a ys,x=.ref a/\fX K H a ys)\/(t=.type "list" /\∃a ys,x=.ref a/\fP K H a ys))/\pz K t (.type T)=aa b/\Q (.bl b) H
theorem TN:gM X (.builtin "isinstance") (Ks X.K T):=by
 intro π s σ H xs us Q I r h;obtain⟨x,t,b,rfl,ty,e,q⟩:=h;obtain⟨u,w',rfl,r1,r2⟩:=vals2 r;obtain rfl:w'=nz T:=r2;rcases ty with ty|⟨rfl,a,ys,rfl,hq⟩|⟨rfl,a,ys,rfl,hq⟩
 .exact M8 I r1 ty e λtk=>⟨.bl b,H,I.tok tk,rfl,q⟩
 .cases r1;obtain⟨ι,_,p,_⟩:=I.tuple hq;obtain⟨o,h1,h2,_⟩:=p;show jb a0N I.uN ⟨o,h1,h2⟩ e (λz=>nomatch z) λtk=>⟨.bl b,H,I.tok tk,rfl,q⟩
 .cases r1;obtain⟨ι,_,p,_⟩:=I.list hq;obtain⟨o,n,h1,h2,_⟩:=p;show jb Du I.uN ⟨o,h1,h2⟩ e (λz=>nomatch z) λtk=>⟨.bl b,H,I.tok tk,rfl,q⟩
noncomputable def Cq:D->Prop
 |.exc _ _=>False
 |.b7 _ _ _=>False
 |.rws _=>False
 |_=>True
def Kr(T:String)(t:WE):WE:=λρ Q=>t ρ λd=>Cq d/\Q (.bl (isT T d))
def Kq{K:ao}{T:String}(h:C6 T)(d:D):pz K (.type (tyD d)) (.type T)=aa (isT T d):=by cases h<;>cases d<;>with_unfolding_all rfl
def Tf{K:ao}{S:ah->Prop}{H:Hp}{d:D}{v:V}(hne:Cq d)(h:Dn K S H d v):∃t,t=nz (tyD d)/\(qC K H v t\/(t=.type "tuple" /\∃a ys,v=.ref a/\fX K H a ys)\/(t=.type "list" /\∃a ys,v=.ref a/\fP K H a ys)):=by
 show⟨_,rfl,?_⟩;cases d<;>symm at h
 .subst h;show .inl .non
 .subst h;show .inl (.bl _)
 .subst h;show .inl (.int _)
 .subst h;show .inl (.str _)
 .obtain ⟨a,xs,rfl,hq,_⟩:=h;show .inr (.inl ⟨rfl,a,xs,rfl,(fX.of hq)⟩)
 .obtain ⟨a,xs,rfl,hq,_⟩:=h;show .inl (.lst hq)
 .obtain ⟨a,rfl,hq⟩:=h;show .inr (.inr ⟨rfl,a,_,rfl,hq.sq⟩)
 .obtain ⟨a,xs,rfl,hq,_⟩:=h;show .inl (.dK hq)
 .exact hne.elim
 .exact hne.elim
 .exact hne.elim
theorem Ko{T:String}{x:aj}{e:av}{t:WE}{p p2 ν:br}(hT:C6 T)(hm:X.mg "isinstance"=af)(hmT:X.mg x=af)(hv:bootBuiltins x=aa (.type T))(he:cR X e t)(hg:Gl X "isinstance":=by rfl)(hgT:Gl X x:=by rfl)(hn:x ≠ "__name__":=by decide)(hdb:Zu x:=by decide)
  (hs:ar [e,.Name x p2] X.env=(ag,eval e X.env)::ar [.Name x p2] X.env:=by rfl) (hs2:ar [.Name x p2] X.env=(ag,eval (.Name x p2) X.env)::ar [] X.env:=by rfl) (hpl:(cp ν (ar [.Name x p2] X.env)).any (·.1)=ag:=by rfl):
  cR X (.Call (.Name "isinstance" p) [e,.Name x p2] [] ν) (Kr T t) :=
 imp (iY (TN (T:=T)) hg hm Es (dG he (dG (K2 (v:=.ty T) hgT hmT hv rfl hn hdb) iN hs2) hs) (by decide) (by decide) hs hpl) λσ H Q Kn=>by obtain⟨S,ρ,Q3,fc,sl,ht,k⟩:=Kn;show⟨S,ρ,_,fc,sl,ht,λv H1 d s1 d1 q1=>?_⟩;obtain⟨tt,e1,e2⟩:=Tf q1.1 d1;show⟨v,tt,isT T d,rfl,e2,?_,k _ H1 (.bl _) s1 (by symm) q1.2⟩;rw[e1];show Kq hT d
def sM:List D->Option (List Bool)
 |[]=>aa []
 |.bl b::r=>(sM r).map (b :: ·)
 |_::_=>af
theorem range_all(bs:List Bool):(de bs.length).all (λi=>bs.getD i ae)=bs.all id:=by
 induction bs with
 |nil=>rfl
 |cons b bs ih=>rw[fu,a2c,qm,nh,qm,<- ih];rfl
def blF(f:List Bool->Bool):F1
 |[.lst ds],Q=>(match sM ds with|some bs=>Q (.bl (f bs))|none=>False)
 |_,_=>False
def LK:List V->Hp->VK->Prop:=λxs H Q=>∃a ns,xs=[.ref a]/\H a=aa (.lst (ns.map V.int))/\ns.length<64 /\∀ns':Q0e,ns'.Perm ns->ns'.Pairwise (· <= ·) ->∀p,H p=af->Q (.ref p) (upd H p (.lst (ns'.map V.int)))
theorem qL:gM X (.builtin "sorted") LK:=by
 intro π s σ H xs us Q I r h;obtain⟨a,ns,rfl,ha,i_,q⟩:=h;obtain⟨u,rfl,ru⟩:=vals1 r;cases ru;obtain⟨ι,rv,p,hz⟩:=I.list (fP.of ha);have hi:=intsAre_of rv;have hlen:ι.length=ns.length:=by have:=rv.length;rw[bj] at this;show this.symm
 show sorted_ints p.isList hi ∅ λout ns' a1 a2 a3=>?_;have hfr:H (s.heap.objs.size+1)=af:=I.hok.fresh (om _);obtain⟨e1,hat⟩:=a1E s.heap ι out;have hz2:ns'.length<=bg:=by rw[a2.length_eq,gc];lia
 have I1:Φ X π σ (upd H (s.heap.objs.size+1) (.lst (ns'.map V.int))) {s with heap:=sortedAll s.heap ι out} :=
  I.laid (t':=s.toks) (λb o e=>a1D e) (om _) ⟨by rw[bj];show hz2,out.toList,e1,f7 a1,by simpa[seqObj] using hat⟩
 show⟨.ref _,_,I1,rfl,q ns' a2 a3 _ hfr⟩
def intsOf:List D->Option (List Int)
 |[]=>aa []
 |.int b::r=>(intsOf r).map (b :: ·)
 |_::_=>af
theorem bU:∀bs:Q0e,intsOf (bs.map D.int)=aa bs
 |[]=>rfl
 |b::bs=>by rw[bt,intsOf,bU bs];rfl
theorem rT:∀{ds:List D} {bs:Q0e},intsOf ds=aa bs->ds=bs.map D.int
 |[],bs,h=>by cases h;rfl
 |.int b::r,bs,h=>by
  rw[intsOf] at h
  cases q:intsOf r with
  |none=>rw[q] at h;cases h
  |some cs=>rw[q] at h;cases h;rw[bt,rT q]
 |.non::r,bs,h=>by cases h
 |.bl _::r,bs,h=>by cases h
 |.str _::r,bs,h=>by cases h
 |.tup _::r,bs,h=>by cases h
 |.lst _::r,bs,h=>by cases h
 |.pJ _::r,bs,h=>by cases h
 |.kA _ _::r,bs,h=>by cases h
 |.b7 _ _ _::r,bs,h=>by cases h
def TQ:F1
 |[.lst ds],Q=>(match intsOf ds with|some ns=>ns.length<64 /\∀ns':Q0e,ns'.Perm ns->ns'.Pairwise (· <= ·)->Q (.lst (ns'.map D.int))|none=>False)
 |_,_=>False
theorem YS{K:ao}:C3F K LK TQ:=by
 intro S H xs ds Q3 Q fc hd hf k
 match ds,hf with
 |[.lst es],hf =>
  obtain⟨v,r,rfl,h1,h2⟩:=hd.bN;simp only[aV] at h2;subst h2;symm at h1;obtain⟨a,ys,rfl,ha,sa,da⟩:=h1;have hf2:(match intsOf es with|some ns=>ns.length<64 /\∀ns':Q0e,ns'.Perm ns->ns'.Pairwise (· <= ·)->Q3 (.lst (ns'.map D.int))|none=>False):=hf
  clear hf
  cases q:intsOf es with
  |none=>rw[q] at hf2;show hf2.elim
  |some ns =>
   rw[q] at hf2;have e:=rT q;subst e;have e2:=aV.ints.mp da;subst e2;show⟨a,ns,rfl,ha,hf2.1,λns' h1 h2 p hp=>k p _ _ _ hp aO (aN hp) (aV.ints.mpr rfl) (hf2.2 ns' h1 h2)⟩
def YT(hm:X.mg "sorted"=af)(ha:yM X [e] t)(hg:Gl X "sorted":=by rfl)
  (he:Zs X e []:=by rfl):EY X (.Call (.Name "sorted" p) [e] [] ν) (NM TQ t):=LH qL YS xv hg hm ha (by decide) (by decide) he (by rfl)
end
section
variable{X:Cx}
def NS(hg:Gl X "range")(hm:X.mg "range"=af)(ha:PA X [a] ta)(hs:ar [a] X.env=[(ag,eval a X.env)]:=by rfl):
  PE X (.Call (.Name "range" p) [a] [] ν) (λσ H Q=>ta σ H λvs H1=>∃j:Int,vs=[.int j] /\∀p,H1 p=af->Q (.ref p) (upd H1 p (.rng 0 j))):=by
 intro π s σ H Q I h;show Call_ (rO I hg hm a1M (xt (eQ (ha ν π s σ H _ I h) λus s1 ⟨vs,H1,I1,r1,q1⟩=>?_) hs rfl));obtain⟨j,e,q⟩:=q1;subst e;obtain⟨u,rfl,ru⟩:=vals1 r1;obtain⟨t,rfl⟩:=ru;show a0H ?_;show⟨.ref s1.heap.objs.size,_,I1.laid (o:=.rng 0 j) (λb o e=>dg _ e) (bp _) ⟨_,_,_,gf _ rfl⟩,rfl,q _ (I1.hok.fresh (bp _))⟩
def TR{lo:Int}{n:Nat}{ψ:Array ai}(h:ItemsOf (λi v=>∃t,v=.int (lo+(i:Nat)*1) t) ψ n):θ ((t8 lo n).map V.int) ψ.toList:=by
 obtain⟨hz,hv⟩:=h;have key:∀(l:Q0f) (k:Nat) (m:Nat),l.length=m->(∀(j:Nat) (v:ai),l[j]?=aa v ->∃t,v=ke (lo+((k+j:Nat):Int)) t)->θ (((a2e k m).map λi:Nat=>lo+(i:Int)).map V.int) l:=by
  intro l
  induction l with
  |nil=>intro k m hm _;subst hm;show .nil
  |cons v l ih =>
   intro k m hm hh;subst hm;rw[fu,a2d,bt,bt];show .cons ?_ (ih (k+1) l.length rfl λj w e=>?_)
   .obtain ⟨t,e⟩:=hh 0 v (by simp);show⟨t,by simpa using e⟩
   .obtain ⟨t,e2⟩:=hh (j+1) w (by simpa using e);show⟨t,by rw[e2];congr 1;congr 1;congr 1;lia⟩
 have:=key ψ.toList 0 n (by simpa using hz) λj v e=>by obtain⟨t,e2⟩:=hv j v (by simpa using e);show⟨t,by rw[e2];simp⟩
 unfold t8;rw[List.range_eq_range'];show this
theorem yO(hc:X.calm=ae):gM X (.type "list") (λxs H Q=>∃p j,xs=[.ref p]/\H p=aa (.rng 0 j) /\ -(2^62)<=j/\j<=16777216 /\∀l,H l=af->Q (.ref l) (upd H l (.lst ((t8 0 j.toNat).map V.int)))):=by
 intro π s σ H xs us Q I r h;obtain⟨p,j,rfl,hp,h0,h1,q⟩:=h;obtain⟨u,rfl,ru⟩:=vals1 r;cases ru;obtain⟨t,u,v,e⟩:=I.hok p _ hp;have hsz:a1x 0 j 1=(j.toNat:Int):=by rw[a0x];split<;>lia
 show call_list_range (a:=0) (b:=j) (c:=1) (n:=j.toNat) (I.ok.hd hc) e (small_one ∅ ∅ ∅ ∅) hsz ∅ λh' tk acc' c' kp hn hit=>?_;have hfr:H s.heap.objs.size=af:=I.hok.fresh (bp _);have hv:θ ((t8 0 j.toNat).map V.int) acc'.toList:=TR hit;show⟨.ref s.heap.objs.size,_,I.laid (o:=.lst ((t8 0 j.toNat).map V.int)) kp (bp _) ⟨?_,acc'.toList,c',hv,by simpa using hn⟩,rfl,q _ hfr⟩;rw[bj,tI,gc];lia
noncomputable def X_(t:WA):WE:=λρ Q=>t ρ λds=>match ds with
 |[.int j]=>(-(2^62)<=j/\j<=16777216)/\Q (.lst ((t8 0 j.toNat).map D.int))
 |_=>False
def II(hc:X.calm=ae)(hm:X.mg "list"=af)(hmr:X.mg "range"=af)(ha:yM X [a] t)(hg:Gl X "list":=by rfl)(hgr:Gl X "range":=by rfl)(hs:ar [a] X.env=[(ag,eval a X.env)]:=by rfl)
  (he:ar [.Call (.Name "range" p2) [a] [] pos2] X.env=(ag,eval (.Call (.Name "range" p2) [a] [] pos2) X.env)::ar [] X.env:=by rfl):
  EY X (.Call (.Name "list" p) [.Call (.Name "range" p2) [a] [] pos2] [] ν) (X_ t) :=
 imp (rP (yO hc) hg hm a1N (dG (NS hgr hmr ha hs) iN he) (by decide) (by decide) he (by rfl)) λσ H Q Km=>by
  obtain⟨S,ρ,Q3,fc,sl,ht,k⟩:=Km;show⟨S,ρ,_,fc,sl,ht,λvs H1 ds s1 d1 q1=>?_⟩;split at q1
  .rename_i j;obtain⟨v,r,rfl,h1,h2⟩:=d1.bN;simp only[aV] at h2;subst h2;symm at h1;subst h1;show⟨j,rfl,λp hp=>⟨p,j,rfl,aO,q1.1.1,q1.1.2,λl hl=>?_⟩⟩;have hl1:H1 l=af:=(aN hp).free hl;show k l _ _ _ (s1.free hl1) aO ((s1.trans (aN hp)).trans (aN hl)) (aV.ints.mpr rfl) q1.2
  .exact q1.elim
def kE(ks:List Key)(ds:List D)(k:Key):Option D:=((ks.zip ds).find? λkv=>Zv (kv.1=k)).map (·.2)
theorem w9{K:ao}{S:ah->Prop}{H:Hp}{k:Key}:∀{ks:List Key} {ds:List D} {xs:List V},ks.length=xs.length->aV K S H ds xs ->
  (∀d,kE ks ds k=aa d ->∃v,mC (ks.zip xs) k=aa v/\Dn K S H d v)/\(kE ks ds k=af->mC (ks.zip xs) k=af)
 |[],ds,xs,_,_=>by
  show⟨λd e=>?_,λ_=>?_⟩
  .simp [kE] at e
  .simp [mC]
 |q::ks,ds,xs,hl,dn=>by
  cases ds with
  |nil=>simp only[aV] at dn;subst dn;simp at hl
  |cons d0 ds =>
   obtain⟨v,r,rfl,h1,h2⟩:=dn.bN;have ih:=w9 (k:=k) (ks:=ks) (ds:=ds) (xs:=r) (by simpa using hl) h2;by_cases e:q=k
   .refine ⟨λd ed=>?_,λed=>?_⟩
    .simp only[kE,yd,g_,e,decide_true,mx] at ed;cases ed;show⟨v,by simp[mC,e],h1⟩
    .simp [kE,e] at ed
   .refine ⟨λd ed=>?_,λed=>?_⟩
    .have ed':kE ks ds k=aa d:=by simpa[kE,e] using ed
     obtain⟨u,eu,du⟩:=ih.1 d ed';show⟨u,by simpa[mC,e] using eu,du⟩
    .have ed':kE ks ds k=af:=by simpa[kE,e] using ed
     simpa[mC,e] using ih.2 ed'
theorem TU(hN:X.N.Nodup)(hi:X.N[i]?=aa x:=by rfl)(hx:Loc X.env.scope x:=by walk_at "0")(hs:e_ (.Dict [] [] p) (aa (.Name x pos')) ν.line X.env=pure ag:=by rfl)(hf:Zq X x:=by walk_at "0"):
  C5 X (.Assign [.Name x pos'] (.Dict [] [] p) ν) (λE ρ=>E.nx (ρ.set i (.ow (.kA [] [])))):=kM (mW hN hi hx SJ hs hf) λB σ H ⟨H₀,S,w,ρ,G,E,hl,st,ht,ok⟩=>λp hp =>
 ok.nx _ _ _ _ (by rw[gb];show hl) (st.wQ (d:=.kA [] []) (by rw[hl];show jA hi) (aN hp) hp ⟨[],aO,rfl,aV.nil⟩) ht
noncomputable def FC:D->Option Key
 |.int i=>aa (.inl i)
 |.str x=>aa (.inr x)
 |_=>af
theorem TV{K:ao}{S:ah->Prop}{H:Hp}{d:D}{v:V}{k:Key}(h:Dn K S H d v)(e:FC d=aa k):v=kV k:=by cases d<;>simp only[FC] at e<;>cases e<;>symm at h<;>show h
def vm:F2:=λx y Q=>match x,FC y with
 |.kA ks ds,aa k=>(match kE ks ds k with|some d=>Q d|none=>False)
 |_,_=>False
theorem Kl{o i:av}{ν:br}{to ti:WE}(hu:X.A.units+1<cn)(ho:cR X o to)(hi:cR X i ti)(hs:IC i:=by intro _ _;rfl):cR X (.Subscript o i ν) (iJ vm to ti):=imp (X8 hu ho hi hs) λσ H Q Kk=>by
 obtain⟨S,ρ,Q3,fc,sl,ht,k⟩:=Kk;show⟨S,ρ,_,fc,sl,ht,λv H1 d s1 d1 q1=>?_⟩;show⟨S,ρ,_,bG fc s1,Sl.fits (.same s1) sl,q1,λu H2 d2 s2 t7 q2=>?_⟩;unfold vm at q2;split at q2
 .rename_i ks ds kk ek;have d1':=Dn.fits (.same s2) _ _ d1;symm at d1';obtain⟨a,xs,rfl,ha,sa,hl,da⟩:=d1';split at q2
  .rename_i d3 e3;obtain⟨v3,ev,dv⟩:=(w9 hl da).1 d3 e3;have eu:=TV t7 ek;subst eu;show⟨a,v3,rfl,?_,k v3 H2 d3 (s1.trans s2) dv q2⟩;have g:=NG.k (k:=kk) ha;rw[ev] at g;show g
  .exact q2.elim
 .exact q2.elim
def Te(i:Nat)(t:WX)(tk:WE):WS:=λE ρ=>t ρ λρ' d=>(match ρ'[i]? with|some (.ow (.kA _ _))=>True|_=>False)/\tk (bK ρ') λkd=>match ρ'[i]?,FC kd with
 |some (.ow (.kA ks ds)),aa k=>(kE ks ds k=af/\ds.length<bg)/\E.nx (ρ'.set i (.ow (.kA (ks++[k]) (ds++[d]))))
 |_,_=>False
theorem Td{i:Nat}{x:aj}{e k:av}{t:WX}{tk:WE}{ν pos' p:br}(hu:X.A.units+1<cn)(he:GJ X e t)(hk:cR X k tk)
  (hN:X.N[i]?=aa x:=by rfl) (hv:x6 X.env.scope x:=by walk_at "1") (hd:Zu x:=by decide) (hcd:Zt x:=by decide)
  (hs:e_ e (aa (.Subscript (.Name x p) k pos')) ν.line X.env=pure ag:=by rfl):
  C5 X (.Assign [.Subscript (.Name x p) k pos'] e ν) (Te i t tk):=kM (X9 hu (jZ hN hv hd hcd) hk he hs) λB σ H Kj=>by
 obtain⟨H₀,S,w,ρ,G,E,hl,st,ht,ok⟩:=Kj;show⟨H₀,S,w,ρ,G,_,hl,st,ht,λw' v H' ρ' d st' d' q'=>?_⟩;obtain⟨q0,q'⟩:=q';split at q0
 .rename_i ks0 ds0 e0;obtain⟨a0,_,_⟩:=st'.own i _ e0;show⟨_,a0,S,bK ρ',_,st'.PB,st'.all,q',λkv H2 dk s2 dk2 q2=>?_⟩;split at q2
  .rename_i ks ds kk e1 ek;have st2:=st'.same s2;obtain⟨a,b,c⟩:=st2.own i _ e1;obtain⟨xs,hp,hlen,dn⟩:=c;have eu:=TV dk2 ek;subst eu;have hno:=(w9 (k:=kk) hlen dn).2 q2.1.1;have nS:¬ SO S w' ρ' (w' i):=λ⟨_,z⟩=>z i _ e1 rfl;have hz:(ks.zip xs).length<bg:=by rw[List.length_zip,hlen,a12,<- dn.len];show q2.1.2
   have Ki:putK (ks.zip xs) kk v=(ks++[kk]).zip (xs++[v]):=by rw[SA v hno,a17 hlen];rfl
   have F:Fits X.K (SO S w' ρ') (SO S w' ρ') H2 (upd H2 (w' i) (.dK (putK (ks.zip xs) kk v))):=.upd (.inr (.inl ⟨_,hp⟩)) nS;show⟨w' i,_,rfl,SH.k hp hz,ok.nx w' σ _ _ hl (st2.write (d':=.kA (ks++[kk]) (ds++[d])) e1 ⟨xs++[v],?_,by simp[hlen],aV.fits F _ _ (dn.append (aV.one (Dn.fits (.same s2) _ _ d')))⟩) q2.2⟩;rw[aO,Ki]
  .exact q2.elim
 .exact q0.elim
def Cp(i:Nat)(t:WE):WS:=λE ρ=>t (bK ρ) λd=>(match d with | .lst ds=>pK ds=ae|_=>False)/\E.nx (ρ.set i (.ro d))
theorem Tc(hN:X.N.Nodup)(he:EY X e t)(hi:X.N[i]?=aa x:=by rfl)(hx:Loc X.env.scope x:=by walk_at "0")(hs:Si X e x pos' ν:=by rfl)(hf:Zq X x:=by walk_at "0"):
  C5 X (.Assign [.Name x pos'] e ν) (Cp i t):=kM (mW hN hi hx he hs hf) λB σ H Kh=>by
 obtain⟨H₀,S,w,ρ,G,E,hl,st,ht,ok⟩:=Kh;show⟨_,bK ρ,_,st.PB,st.all,ht,λp xs H' ds hp hp' s' d' q'=>ok.nx w _ H' _ (by rw[gb];show hl) ((st.same s').mZ (d:=.lst ds) (by rw[hl];show jA hi) (by symm;show⟨p,xs,rfl,hp',st.ID p hp,aV.A1 q'.1 d'⟩)) q'.2⟩
noncomputable def vk:List D->D->(List D->D->Prop)->Prop
 |ds,.lst es,Q=>ds.length+es.length<=bg/\Q (ds++es) .non
 |_,_,_=>False
theorem Xz{K:ao}:M3 K LC vk:=by
 intro S H p xs ds y d Q3 Q hp dn dy hf k
 cases d with
 |lst es =>
  symm at dy;obtain⟨b,zs,rfl,hb,sb,db⟩:=dy;show⟨p,b,xs,zs,rfl,rfl,hp,hb,by rw[<- dn.len,<- db.len];show hf.1,k _ _ _ _ (dn.append db) (by symm) hf.2⟩
 |_=>show hf.elim
section
variable{i:Nat}{x:aj}{e:av}{p apos cpos:br}{t:WX}
def YU(he:GJ X e t)(hN:X.N[i]?=aa x:=by rfl)(hv:x6 X.env.scope x:=by walk_at "1")(hd:Zu x:=by decide)(hcd:Zt x:=by decide)
  (hbase:attributeBase (.Name x p) "extend" X.env (eval (.Name x p) X.env)=eval (.Name x p) X.env:=by rfl)
  (hfew:Zp X cpos e:=by rfl)
  (hline:Q0k apos cpos:=by rfl) (hs:Zs X e []:=by rfl):
  GJ X (.Call (.Attribute (.Name x p) "extend" apos) [e] [] cpos) (nk i vk t):=m1 a1g PySem.F.type_list_extend NB Xz he hN hv hd hcd hbase hfew hline hs
end
end
section
variable{X:Cx}{π:Q0b}{σ:L2.St}{H:Hp}{s:ak}{h':ba}
theorem turnT{t':Nat}{ch:List ah}{T:ah}{xs:List V}{ι:Q0f}(I:Φ X π σ H s)(k:∀b o,b∉ch->s.heap.get? b=aa o->h'.get? b=aa o)(hf:∀b∈ch,oU X π H b)
  (hT:s.heap.objs.size<=T) (hv:θ xs ι) (hz:xs.length<=bg) (ht:gi h' T ι.toArray) (nd:EN h' T):Φ X π σ (upd H T (.tup xs)) {s with heap:=h',toks:=t' }:=by
 have fr:H T=af:=I.hok.fresh hT;have nT:∀{b:ah} {o:ax},s.heap.get? b=aa o->b≠T:=λ{b} {o} e z=>jf _ (gj (b_ e) (z▸hT));have live:∀{b:ah} {u:HO},H b=aa u->b∉ch:=λ{b} {u} e z=>by rw[(hf _ z).1] at e;cases e
 show I.call' (s':={s with heap:=h',toks:=t' }) (ch:=ch) rfl ⟨λb o e _ _ hx=>k b o hx e,λb o e _ _ hx=>⟨o.slots,k b o hx e⟩,λb o e n _=>by rw[aQ (nT e)];show n,λb o e hx=>⟨o,k b o hx e⟩,
  λb ys e=>by rw[aQ (aY e fr)];show e,λb o u e=>by rw[aQ (aY e fr)];show e,λb ps e=>by rw[aQ (aY e fr),e]⟩ ?_ I.bare λb hb=>?_
 .intro b u e;by_cases hb:b=T
  .subst hb;rw[aO] at e;cases e;show⟨hz,ι,hv,ht,nd⟩
  .rw [aQ hb] at e;show(I.hok b u e).stay (λc v hc q=>k c v ?_ q) (λc q=>by rw[aQ (aY q fr)];show q) (λc ys q=>by rw[aQ (aY q fr)];show q) λc o u q=>by rw[aQ (aY q fr)];show q
   rcases hc with rfl|hc
   .exact live e
   .exact live hc
 .obtain ⟨_,f1,_,f3,f4,f5⟩:=hf b hb;show⟨f3,f1,f4,f5⟩
def TY{t':Nat}{ch:List ah}(I:Φ X π σ H s)(k:∀b o,b∉ch->s.heap.get? b=aa o->h'.get? b=aa o)(hf:∀b∈ch,oU X π H b):Φ X π σ H {s with heap:=h',toks:=t' }:=by
 have live:∀{b:ah} {u:HO},H b=aa u->b∉ch:=λ{b} {u} e z=>by rw[(hf _ z).1] at e;cases e
 show I.call' (s':={s with heap:=h',toks:=t' }) (ch:=ch) rfl ⟨λb o e _ _ hx=>k b o hx e,λb o e _ _ hx=>⟨o.slots,k b o hx e⟩,λb o e n _=>n,λb o e hx=>⟨o,k b o hx e⟩,
  λb ys e=>e,λb o u e=>e,λb ps e=>e⟩ ?_ I.bare λb hb=>?_
 .intro b u e;show(I.hok b u e).stay (λc v hc q=>k c v ?_ q) (λc q=>q) λc ys q=>q;rcases hc with rfl|hc
  .exact live e
  .exact live hc
 .obtain ⟨_,f1,_,f3,f4,f5⟩:=hf b hb;show⟨f3,f1,f4,f5⟩
end
def Itp(go:Nat->Hp->Prop)(Y:Nat->Hp->List V->Prop)(stop:Nat->Hp->Prop):It:=⟨go,λi H x H'=>∃T vs,x=.ref T/\H T=af/\H'=upd H T (.tup vs)/\Y i H vs,stop⟩
def TZ(P:bh)(w:az)(A:bu)(it:ah)(wr:List ah)(n:Nat)(Pt:Nat->Array ai->Prop)(St:Nat->ba->Prop)(Mid:Nat->ah->ba->Prop):Prop :=
 ∀i (s:ak) (Q:Option ai->ak->Prop) (E:Q0c),i<n->St i s.heap ->
  (∀T vals h' tk,Pt i vals->s.heap.objs.size<=T->h'.IsTuple T vals->EN h' T->Mid i T h'->(∀b o,b∉wr->s.heap.get? b=aa o->h'.get? b=aa o)->Q (aa (.ref T)) {s with heap:=h',toks:=tk}) ->
  ay (au P w) A (pyNext (.ref it)) Q E s
theorem xA{P:bh}{w:az}{K:ao}{es:List av}{kk:Nat}{tp:br}{go:Nat->Hp->Prop}{Y:Nat->Hp->List V->Prop}{stop:Nat->Hp->Prop}{fp:List ah}{it:ah}{tn:Nat->ba->Prop}(mem:it∈fp)
  (obj:∀i h,tn i h ->∀b∈fp,∃o,h.get? b=aa o /\∀v,o.data≠.cell v) (keep:∀i h h',tn i h->(∀b∈fp,∀o,h.get? b=aa o->h'.get? b=aa o)->tn i h')
  (wk:∀(X:Cx),X.Ω=P->X.w=w->X.K=K->X.calm=ae ->∀(i:Nat) (π:Q0b) (s:ak) (σ:L2.St) (H:Hp),Φ X π σ H s->tn i s.heap->go i H\/stop i H ->
   ∃fp2 wr n Pt St Mid,(WalksT P w X.A it fp2 wr n Pt St Mid/\TZ P w X.A it wr n Pt St Mid)/\St i s.heap/\(∀b∈wr,b∈fp)/\(∀h,St (i+1) h->tn (i+1) h) /\
    (go i H->i<n /\∀vals,Pt i vals ->∃vs,vs.length<=bg/\θ vs vals.toList/\Y i H vs)/\(stop i H->i=n))
  (self:∀(A:bu) (i:Nat) (s:ak) (Q:Q0c) (E:Q0c),tn i s.heap->Q (.ref it) s->ay (au P w) A (pyIter (.ref it)) Q E s):
  Turn P w K (.Tuple es kk tp) (Itp go Y stop) fp it tn where
 mem:=mem
 obj:=obj
 keep:=keep
 self:=self
 item:=by intro X hP hw hK hc i π s σ H E I hf st hg;obtain⟨fp2,wr,n,Pt,St,Mid,⟨W,J2⟩,hs,sub,nx,ok,_⟩:=wk X hP hw hK hc i π s σ H I st (.inl hg);obtain⟨hi,ok⟩:=ok hg;show J2 i s _ _ hi hs λT vals h1 tk hp hT ht nd hm k1=>⟨.ref T,rfl,W.go es kk tp i T _ _ _ hm λh2 s2 k2=>?_⟩;obtain⟨vs,hz,hv,hy⟩:=ok vals hp;obtain⟨o,eo,c,d⟩:=ht;have ht2:gi h2 T vals.toList.toArray:=⟨o,k2 T o (W.apart i T _ hm) eo,c,by simpa using d⟩;have I2:Φ X π σ (upd H T (.tup vs)) {s with heap:=h2,toks:=tk}:=turnT (t':=tk) (ch:=wr) I (λb o hb e=>k2 b o hb (k1 b o hb e)) (λb hb=>hf b (sub b hb)) hT hv hz ht2 (nd.at eo (k2 T o (W.apart i T _ hm) eo));show⟨.ref T,upd H T (.tup vs),I2,rfl,⟨T,vs,rfl,I.hok.fresh hT,rfl,hy⟩,nx h2 s2,λb hb=>?_⟩;obtain⟨ob,eb,_⟩:=obj _ _ st b hb;have nb:b≠T:=λz=>jf _ (gj (b_ eb) (z▸hT));rw[aQ nb];show(hf b hb).1
 done:=by intro X hP hw hK hc i π s σ H E I hf st hg;obtain⟨fp2,wr,n,Pt,St,Mid,⟨W,_⟩,hs,sub,nx,_,ok⟩:=wk X hP hw hK hc i π s σ H I st (.inr hg);obtain rfl:=ok hg;show W.done s _ _ hs λh2 tk k2=>⟨rfl,TY (t':=tk) (ch:=wr) I k2 λb hb=>hf b (sub b hb)⟩
def Iel(K:ao)(l:ah):It:=Itp (λi H=>∃xs v,fP K H l xs/\xs[i]?=aa v) (λi H vs=>∃v,vs=[.int i,v] /\∀xs,fP K H l xs->xs[i]?=aa v) (λi H=>∃xs,fP K H l xs/\xs.length=i)
def Iet(K:ao)(l:ah):It:=Itp (λi H=>∃xs v,fX K H l xs/\xs[i]?=aa v) (λi H vs=>∃v,vs=[.int i,v] /\∀xs,fX K H l xs->xs[i]?=aa v) (λi H=>∃xs,fX K H l xs/\xs.length=i)
def FD:[V.int 0,V.int 0].length<=bg:=by rw[gc];decide
theorem FE(e it l:ah)(hei:e≠it)(hle:l≠e)(hli:l≠it)(items:Array ai):TZ Ω w A e [e,it] items.size (λi vals=>∃t x,items[i]?=aa x/\vals=#[.int i t,x])
  (λi h=>(∃old,rn h e it i old)/\h.IsListIter it l i/\h.IsList l items) (λi T h=>(∃x,IsEnumOut h e it ((i:Int)+1) x T)/\h.IsListIter it l (i+1)/\h.IsList l items/\T≠e/\T≠it):=by
 intro i s Q E hi ⟨⟨old,a1⟩,a2,a3⟩ q;have ix:items[i]?=aa items[i]:=ph hi;show wpAny_pyNext_enum_item a1 a2 a3 ix hei λg b1 b2 b3 _ kp=>?_;have l1:e<s.heap.objs.size:=b_ a1;have l2:it<s.heap.objs.size:=by obtain⟨_,y,_⟩:=a2;show b_ y
 show q s.heap.objs.size #[.int i s.toks,items[i]] g (s.toks+1) ⟨_,_,ix,rfl⟩ (bp _) ⟨_,b3,rfl,_,rfl⟩ (EN.is b3 rfl) ⟨⟨_,b1⟩,b2,a3.at λo y=>kp l o hle hli y,oj l1,oj l2⟩ λb o hb y=>?_;simp only[bz,Fs,or_false,not_or] at hb;show kp b o hb.1 hb.2 y
theorem FF{Ω:bh}{w:az}{A:bu}{it:ah}{fp:List ah}{n:Nat}{P:Nat->ai->Prop}{St:Nat->ba->Prop}(D:Draws Ω w A.in1 it fp n P St)(e:ah)(hei:e≠it)(hef:e∉fp):
  TZ Ω w A e [e,it] n (λi vals=>∃t x,P i x/\vals=#[.int i t,x]) (λi h=>(∃old,rn h e it i old)/\St i h) (λi T h=>(∃x,IsEnumOut h e it ((i:Int)+1) x T)/\St (i+1) h/\T≠e/\T≠it):=by
 intro i s Q E hi ⟨⟨old,a1⟩,a2⟩ q;show wpAny_pyNext_enum_itemD D a1 a2 hi hei hef λx g tk px b1 b2 b3 _ kp=>?_;have l1:e<s.heap.objs.size:=b_ a1;have l2:it<s.heap.objs.size:=by obtain⟨_,y⟩:=D.live _ _ a2;show b_ y
 show q s.heap.objs.size #[.int i tk,x] g (tk+1) ⟨_,_,px,rfl⟩ (bp _) ⟨_,b3,rfl,_,rfl⟩ (EN.is b3 rfl) ⟨⟨_,b1⟩,b2,oj l1,oj l2⟩ λb o hb y=>?_;simp only[bz,Fs,or_false,not_or] at hb;show kp b o hb.1 hb.2 y
theorem IJ{P:bh}{w:az}{K:ao}{es:List av}{kk:Nat}{tp:br}{e it l:ah}(hei:e≠it)(hle:l≠e)(hli:l≠it):
  Turn P w K (.Tuple es kk tp) (Iel K l) [e,it] e (λi h=>(∃old,rn h e it i old)/\h.IsListIter it l i):=by
 show xA (by simp) (λi h st b hb=>?_) (λi h h2 st k=>?_) (λX hP hw hK hc i π s σ H I st hg=>?_) (λA i s Q E st q=>?_)
 .obtain ⟨⟨old,a⟩,o,c,d1,d2⟩:=st;rcases bz.mp hb with rfl|hq
  .exact ⟨_,a,λv z=>by cases z⟩
  .rw [cu.mp hq];show⟨o,c,λv z=>by rw[d2] at z;cases z⟩
 .obtain ⟨⟨old,a⟩,b⟩:=st;show⟨⟨old,k e (by simp) _ a⟩,b.at λo q=>k it (by simp) o q⟩
 .subst hP hw hK;have hq:∃xs,fP X.K H l xs:=by rcases hg with⟨xs,_,a,_⟩|⟨xs,a,_⟩<;>show⟨xs,a⟩
  obtain⟨xs,hq⟩:=hq;obtain⟨ι,rv,p,hz⟩:=I.list hq;have hl:=rv.length;show⟨_,_,_,_,_,_,⟨WalksT.enumerate (I.ok.hd hc) e it l hei hle hli ι.toArray,FE e it l hei hle hli ι.toArray⟩,⟨st.1,st.2,p.isList⟩,λb hb=>hb,λh q=>⟨q.1,q.2.1⟩,λg=>?_,λg=>?_⟩
  .obtain ⟨ys,v,hy,hv⟩:=g;obtain rfl:=I.p8 hy hq;obtain⟨u,hu,ru⟩:=rv.get hv;have hlt:i<ys.length:=(cz.mp hv).1;show⟨by rw[ck,<- hl];show hlt,λvals q=>?_⟩;obtain⟨t,x,hx,rfl⟩:=q;have ex:x=u:=by
    have:ι[i]?=aa x:=by simpa using hx
    rw[hu] at this;show(fg this).symm
   subst ex;show⟨[.int i,v],FD,.cons ⟨t,rfl⟩ (.cons ru .nil),v,rfl,λzs hzs=>by rw[I.p8 hzs hq];show hv⟩
  .obtain ⟨ys,hy,e2⟩:=g;obtain rfl:=I.p8 hy hq;rw[ck,<- hl,e2]
 .obtain ⟨⟨old,a⟩,b⟩:=st;show wt a q
section
variable{Ω:bh}{w:az}{A:bu}{E:Q0c}{s:ak}
theorem T4(hit:s.heap.IsTupleIter it t i)(ht:s.heap.IsTuple t items)(hx:items[i]?=aa x)
  (hQ:∀h',h'.IsTupleIter it t (i+1)->mr it s.heap h'->Q x {s with heap:=h' }):ay (au Ω w) A (a1v (.ref it)) Q E s:=by
 obtain⟨⟨ol,hol,_,nl,hdl⟩,o,ho,hc,hd⟩:=uf ht hit;show aq (m:=callSpecial? _ _) (wu hit.typeIs xj (lg xj hit.typeIs a1n ?_ (a1p _)));show aq (m:=field _ 0) (mj ho hd (x:=.ref t) rfl ?_);show ay _ _ (if ag=ae then _ else _) _ _ s;rw[Zz bx];show aq (m:=field _ 1) (mj ho hd (x:=.int i 0) rfl (aq (m:=seqItems? _) (wm hol hdl ?_)));simp only[hx,iz];show aq (a0g ho hd (by simp) (a_ ⟨x,rfl,a_ (hQ _ ⟨_,xh _ ho (Obj.isFreed_of_fields (a07 hd _)),(Obj.cls_mapFields ..).trans hc,?_⟩ (a1a ..))⟩));rw[a07 hd];simp[rawInt]
theorem NT(hh:A.handled=af)(hit:s.heap.IsTupleIter it t i)(ht:s.heap.IsTuple t items)(hx:items[i]?=af)
  (hE:∀h' e,Heap.ExtBut it s.heap h'->(∃o,h'.get? e=aa o/\o.cls=.type "StopIteration")->E (.ref e) {s with heap:=h' }):ay (au Ω w) A (a1v (.ref it)) Q E s:=by
 obtain⟨⟨ol,hol,_,nl,hdl⟩,o,ho,hc,hd⟩:=uf ht hit;show aq (m:=callSpecial? _ _) (wu hit.typeIs xj (lg xj hit.typeIs a1n ?_ (a1p _)));show aq (m:=field _ 0) (mj ho hd (x:=.ref t) rfl ?_);show ay _ _ (if ag=ae then _ else _) _ _ s;rw[Zz bx];show aq (m:=field _ 1) (mj ho hd (x:=.int i 0) rfl (aq (m:=seqItems? _) (wm hol hdl ?_)));simp only[hx,iz];show aq (jj (aq (m:=setField _ _ _) (a0g ho hd (by simp) ?_)));have hh2:A.in1.handled=af:=hh
 wp_walk
 unfold raiseNew;apply aq;apply wpAny_handled;rw[hh2];show aq (a_ (wpAny_throw (hE _ _ (((a1a ..).extBut.push _).push _) ⟨_,gf _ rfl,rfl⟩)))
theorem Xj(hh:A.handled=af)(it t:ah)(hne:t≠it)(items:Array ai):Draws Ω w A it [it,t] items.size (λi v=>items[i]?=aa v) (λi h=>h.IsTupleIter it t i/\h.IsTuple t items) where
 live:=λi h st=>by obtain⟨⟨o,ho,_⟩,_⟩:=st;show⟨o,ho⟩
 frame:=λi h h' st k=>by obtain⟨⟨o,ho,r⟩,o2,ho2,r2⟩:=st;show⟨⟨o,k it (by simp) o ho,r⟩,o2,k t (by simp) o2 ho2,r2⟩
 item:=λi s Q E hi st q=>T4 st.1 st.2 (x:=items[i]) (ph hi) λh' a b=>q _ h' s.toks (ph hi) ⟨a,st.2.extBut b.extBut hne⟩ b
 done:=λs Q E st q=>NT hh st.1 st.2 (Array.getElem?_eq_none (bp _)) q
theorem NU(l:ah)(items:Array ai):rm (Builtin.«enumerate.__new__» ⟨[.type "enumerate",.ref l],[]⟩) (λ_ R s=>s.heap.IsTuple l items /\
  R (.ok (.ret (.ref (s.heap.push {cls:=.type "tuple_iterator",data:=.fields #[.ref l,.int 0 0]}).objs.size))) {s with heap:=(s.heap.push {cls:=.type "tuple_iterator",data:=.fields #[.ref l,.int 0 0]}).push {cls:=.type "enumerate",data:=.fields #[.none,.bool ag,.ref s.heap.objs.size,rawInt 0,.none,.none]} }):=by
 show .of_wp λp0 w0 A0 R0 s h=>?_;obtain⟨hl,h⟩:=h;obtain⟨hp0,g0,d,tk,os⟩:=s;have hsub:=sub_enumerate
 wp_walk using wo hl
 show wpAny_stack_any λ_=>a_ ?_;split<;>first
  | (rename_i c _ _ _ _ _;cases (c == nz "enumerate")<;>(wp_walk using wo hl;show⟨_,rfl,h⟩))
  | (wp_walk using wo hl;show⟨_,rfl,h⟩)
theorem IK(hT:s.heap.IsTuple l items)
  (h:∀h',rn h' (s.heap.objs.size+1) s.heap.objs.size 0 .none->h'.IsTupleIter s.heap.objs.size l 0->(∀b o,s.heap.get? b=aa o->h'.get? b=aa o)->Q (.ref (s.heap.objs.size+1)) {s with heap:=h' }):ay (au Ω w) A (call (.type "enumerate") [.ref l]) Q E s:=by
 show callType_new F.called_enumerate (by decide) (F.typeCall_enumerate_1 _) (F.newCall_enumerate_1 _) (λobj=>F.args_object_init_2 obj _) F.entry_enumerate_new (NU l items) ⟨hT,?_⟩;generalize hh1:s.heap.push {cls:=.type "tuple_iterator",data:=.fields #[.ref l,.int 0 0]}=h1;have e1:h1.objs.size=s.heap.objs.size+1:=by rw[<- hh1,qa]
 have g1:h1.get? s.heap.objs.size=aa {cls:=.type "tuple_iterator",data:=.fields #[.ref l,.int 0 0]}:=by rw[<- hh1];show gf _ rfl
 have k1:∀b o,s.heap.get? b=aa o->h1.get? b=aa o:=λb o e=>by rw[<- hh1];show dg _ e
 generalize hh2:h1.push {cls:=.type "enumerate",data:=.fields #[.none,.bool ag,.ref s.heap.objs.size,rawInt 0,.none,.none]}=h2;have g2:h2.get? h1.objs.size=aa {cls:=.type "enumerate",data:=.fields #[.none,.bool ag,.ref s.heap.objs.size,rawInt 0,.none,.none]}:=by rw[<- hh2];show gf _ rfl
 have k2:∀b o,h1.get? b=aa o->h2.get? b=aa o:=λb o e=>by rw[<- hh2];show dg _ e
 show⟨⟨_,g2,rfl⟩,?_⟩;rw[e1] at g2 ⊢;show h h2 g2 ⟨_,k2 _ _ g1,rfl,rfl⟩ λb o e=>k2 b o (k1 b o e)
end
theorem IL{P:bh}{w:az}{K:ao}{es:List av}{kk:Nat}{tp:br}{e it l:ah}(hei:e≠it)(hle:l≠e)(hli:l≠it):
  Turn P w K (.Tuple es kk tp) (Iet K l) [e,it] e (λi h=>(∃old,rn h e it i old)/\h.IsTupleIter it l i):=by
 show xA (by simp) (λi h st b hb=>?_) (λi h h2 st k=>?_) (λX hP hw hK hc i π s σ H I st hg=>?_) (λA i s Q E st q=>?_)
 .obtain ⟨⟨old,a⟩,o,c,d1,d2⟩:=st;rcases bz.mp hb with rfl|hq
  .exact ⟨_,a,λv z=>by cases z⟩
  .rw [cu.mp hq];show⟨o,c,λv z=>by rw[d2] at z;cases z⟩
 .obtain ⟨⟨old,a⟩,o,b,r⟩:=st;show⟨⟨old,k e (by simp) _ a⟩,o,k it (by simp) o b,r⟩
 .subst hP hw hK;have hq:∃xs,fX X.K H l xs:=by rcases hg with⟨xs,_,a,_⟩|⟨xs,a,_⟩<;>show⟨xs,a⟩
  obtain⟨xs,hq⟩:=hq;obtain⟨ι,rv,p,hz⟩:=I.tuple hq;have hl:=rv.length;have D:Draws X.Ω X.w X.A.in1 it [it,l] ι.toArray.size (λi v=>ι.toArray[i]?=aa v) (λi h=>h.IsTupleIter it l i/\h.IsTuple l ι.toArray):=Xj (show X.A.in1.handled=af from I.ok.hd hc) it l hli ι.toArray;have hef:e∉[it,l]:=λz=>by
   rcases bz.mp z with z1|z1
   .exact hei z1
   .exact hle (cu.mp z1).symm
  show⟨_,_,_,_,_,_,⟨WalksT.enumerateD D e hei hef (by simp),FF D e hei hef⟩,⟨st.1,st.2,p⟩,λb hb=>hb,λh q=>⟨q.1,q.2.1⟩,λg=>?_,λg=>?_⟩
  .obtain ⟨ys,v,hy,hv⟩:=g;obtain rfl:=I.nU hy hq;obtain⟨u,hu,ru⟩:=rv.get hv;have hlt:i<ys.length:=(cz.mp hv).1;show⟨by rw[ck,<- hl];show hlt,λvals q=>?_⟩;obtain⟨t,x,hx,rfl⟩:=q;have ex:x=u:=by
    have:ι[i]?=aa x:=by simpa using hx
    rw[hu] at this;show(fg this).symm
   subst ex;show⟨[.int i,v],FD,.cons ⟨t,rfl⟩ (.cons ru .nil),v,rfl,λzs hzs=>by rw[I.nU hzs hq];show hv⟩
  .obtain ⟨ys,hy,e2⟩:=g;obtain rfl:=I.nU hy hq;rw[ck,<- hl,e2]
 .obtain ⟨⟨old,a⟩,b⟩:=st;show wt a q
section
variable{X:Cx}{es:List av}{kk:Nat}{tp:br}
def YV{a:av}{ta:TA}{p ν:br}(hg:Gl X "enumerate")(hm:X.mg "enumerate"=af)(ha:PA X [a] ta)(hs:ar [a] X.env=[(ag,eval a X.env)]:=by rfl):
  PI X (.Tuple es kk tp) (.Call (.Name "enumerate" p) [a] [] ν) (λσ H R=>ta σ H λvs H1=>∃l,vs=[.ref l]/\(((∃xs,fP X.K H1 l xs)/\R (Iel X.K l) H1)\/((∃xs,fX X.K H1 l xs)/\R (Iet X.K l) H1))):=by
 intro π s σ H R I h;show Call_ (rO I hg hm boot_enumerate (xt (eQ (ha ν π s σ H _ I h) λus s1 ⟨vs,H1,I1,r1,q1⟩=>?_) hs rfl));obtain⟨l,e,q⟩:=q1;subst e;obtain⟨u,rfl,ru⟩:=vals1 r1;cases ru;have fo:∀b∈[s1.heap.objs.size+1,s1.heap.objs.size],oU X π H1 b:=λb hb=>by
  have hle:s1.heap.objs.size<=b:=by
   simp only[bz,or_false,Fs] at hb;rcases hb with rfl|rfl
   .exact om _
   .exact bp _
  show I1.HL hle (I1.hok.fresh hle)
 rcases q with⟨⟨xs,hq⟩,q⟩|⟨⟨xs,hq⟩,q⟩
 .obtain ⟨ι,rv,pl,hz⟩:=I1.list hq;have hlt:l<s1.heap.objs.size:=by obtain⟨o,n,e,_⟩:=pl;show b_ e
  show call_enumerate_list pl.isList λh' he hi hsz hk=>wt he ?_;show⟨s1.heap.objs.size+1,_,_,_,H1,rfl,I1.kept (t':=s1.toks) hk,IJ (a1U _) (fz (qd hlt)) (fz hlt),⟨⟨_,he⟩,hi⟩,fo,q⟩
 .obtain ⟨ι,rv,pl,hz⟩:=I1.tuple hq;have hlt:l<s1.heap.objs.size:=pl.lt;show IK (items:=ι.toArray) pl λh' he hi hk=>wt he ?_;show⟨s1.heap.objs.size+1,_,_,_,H1,rfl,I1.kept (t':=s1.toks) hk,IL (a1U _) (fz (qd hlt)) (fz hlt),⟨⟨_,he⟩,hi⟩,fo,q⟩
def tK(ds:List D):List D:=ds.zipIdx.map λp=>.tup [.int (p.2:Int),p.1]
theorem AD{ds:List D}{i:Nat}{d:D}(h:(tK ds)[i]?=aa d):∃d0,ds[i]?=aa d0/\d=.tup [.int (i:Int),d0]:=by
 unfold tK at h;rw[dj,Fz] at h
 cases q:ds[i]? with
 |none=>rw[q] at h;cases h
 |some d0 =>
  rw[q] at h;simp at h;show⟨d0,rfl,h.symm⟩
def LM{K:ao}{S:ah->Prop}{H:Hp}{T:ah}{x y:V}{dx dy:D}(fr:H T=af)(hx:Dn K S H dx x)(hy:Dn K S H dy y):Dn K S (upd H T (.tup [x,y])) (.tup [dx,dy]) (.ref T):=by symm;show⟨T,[x,y],rfl,aO,aV.fits (.same (aN fr)) _ _ (aV.cons hx (aV.one hy))⟩
theorem NV{K:ao}{a:ah}{ds:List D}:Wlk K (Iel K a) (tK ds) [(.lst ds,.ref a)] where
 go:=λS H fc hg i d e=>by have h:=hg _ (cu.mpr rfl);symm at h;obtain⟨b,xs,eb,hb,sb,dn⟩:=h;injection eb with eb;subst eb;obtain⟨d0,e0,rfl⟩:=AD e;obtain⟨v,ev,dv⟩:=dn.get e0;show⟨⟨xs,v,fP.of hb,ev⟩,λx H' y=>?_⟩;obtain⟨T,vs,rfl,fr,rfl,v',rfl,hy⟩:=y;have ex:=hy xs (fP.of hb);rw[ev] at ex;cases ex;show⟨aN fr,LM fr (by symm) dv⟩
 stop:=λS H hg i hi=>by have h:=hg _ (cu.mpr rfl);symm at h;obtain⟨b,xs,eb,hb,sb,dn⟩:=h;injection eb with eb;subst eb;show⟨xs,fP.of hb,by rw[<- dn.len,<- hi];simp[tK]⟩
theorem NW{K:ao}{a:ah}{ds:List D}:Wlk K (Iet K a) (tK ds) [(.tup ds,.ref a)] where
 go:=λS H fc hg i d e=>by have h:=hg _ (cu.mpr rfl);symm at h;obtain⟨b,xs,eb,hb,dn⟩:=h;injection eb with eb;subst eb;obtain⟨d0,e0,rfl⟩:=AD e;obtain⟨v,ev,dv⟩:=dn.get e0;show⟨⟨xs,v,(fX.of hb),ev⟩,λx H' y=>?_⟩;obtain⟨T,vs,rfl,fr,rfl,v',rfl,hy⟩:=y;have ex:=hy xs (fX.of hb);rw[ev] at ex;cases ex;show⟨aN fr,LM fr (by symm) dv⟩
 stop:=λS H hg i hi=>by have h:=hg _ (cu.mpr rfl);symm at h;obtain⟨b,xs,eb,hb,dn⟩:=h;injection eb with eb;subst eb;show⟨xs,(fX.of hb),by rw[<- dn.len,<- hi];simp[tK]⟩
noncomputable def Tb(t:WA):WI:=λρ Q=>t ρ λds=>match ds with
 |[.lst es]=>Q (tK es)
 |[.tup es]=>Q (tK es)
 |_=>False
def IM(hm:X.mg "enumerate"=af)(ha:yM X [a] t)(hg:Gl X "enumerate":=by rfl)(hs:ar [a] X.env=[(ag,eval a X.env)]:=by rfl):VY X (.Tuple es kk tp) (.Call (.Name "enumerate" p) [a] [] ν) (Tb t) :=
 YL (YV hg hm ha hs) λσ H R Lh=>by
  obtain⟨S,ρ,Q3,fc,sl,ht,k⟩:=Lh;show⟨S,ρ,_,fc,sl,ht,λvs H1 ds s1 d1 q1=>?_⟩;split at q1
  .obtain ⟨v,r,rfl,h1,h2⟩:=d1.bN;simp only[aV] at h2;subst h2;have h1':=h1;symm at h1;obtain⟨l,xs,rfl,hl,sl',da⟩:=h1;show⟨l,rfl,.inl ⟨⟨xs,fP.of hl⟩,k _ H1 _ [(_,.ref l)] s1 (λg hg=>by cases cu.mp hg;show h1') NV q1⟩⟩
  .obtain ⟨v,r,rfl,h1,h2⟩:=d1.bN;simp only[aV] at h2;subst h2;have h1':=h1;symm at h1;obtain⟨l,xs,rfl,hl,da⟩:=h1;show⟨l,rfl,.inr ⟨⟨xs,(fX.of hl)⟩,k _ H1 _ [(_,.ref l)] s1 (λg hg=>by cases cu.mp hg;show h1') NW q1⟩⟩
  .exact q1.elim
variable{a b:av}{ν:br}{ta tb:WE}
def YW:i9 X (binaryOp .Mult) (rI rz λi j=>.int (i*j)):=XO λ_ _ _ _ _ _ _ hc q=>mul_int q hc
def Ta:F2:=NL rz λi j=>.int (i*j)
def S_(ha:cR X a ta)(hb:cR X b tb):cR X (.BinOp a .Mult b ν) (iJ Ta ta tb):=SU YW l4 ha hb
end
theorem YX(hi:i.natAbs<2^m)(hj:j.natAbs<2^n)(h:m+n<=134217728):rz i j:=by show mulOk_of_bits (En hi) (En hj) h
section
variable{X:Cx}
noncomputable def aLU(t:WE):WT:=λρ Q=>t ρ λd=>match d with
 |.lst ds=>Q (!ds.isEmpty)
 |.tup ds=>Q (!ds.isEmpty)
 |_=>False
def aV.empty{K:ao}{S:ah->Prop}{H:Hp}{ds:List D}{xs:List V}(h:aV K S H ds xs):ds.isEmpty=xs.isEmpty:=by have:=h.len;cases ds<;>cases xs<;>simp at this ⊢
def u_:List V->Hp->VK->Prop:=λxs H Q=>∃(a:ah) (ns:Q0e),xs=[.ref a]/\H a=aa (.lst (ns.map V.int))/\Q (.int ns.sum) H
theorem AE(hc:X.calm=ae):gM X (.builtin "sum") u_:=by
 intro π s σ H xs us Q I r h;obtain⟨a,ns,rfl,ha,q⟩:=h;obtain⟨u,rfl,ru⟩:=vals1 r;cases ru;obtain⟨ι,rv,p,hz⟩:=I.list (fP.of ha);have hi:=intsAre_of rv;obtain⟨zs,ez⟩:=hi.allInts.items;have en:zs.toList.map (·.1)=ns:=by rw[<- a0z,<- ez];show hi.numsOf
 have ev:preSum (numAt zs) zs.size=ns.sum:=by rw[preSum_eq,qe (by simp),en]
 show sum_intListG (I.ok.hd hc) (ez▸p.isList) λh' tk t' hk=>⟨.int ns.sum,H,I.kept hk,⟨t',by rw[ev]⟩,q⟩
def sumF:F1
 |[.lst ds],Q=>(match intsOf ds with|some ns=>Q (.int ns.sum)|none=>False)
 |_,_=>False
def NX{ns:Q0e}{Q:D->Prop}:sumF [.lst (ns.map D.int)] Q=Q (.int ns.sum):=by show(match intsOf (ns.map D.int) with|some ns=>Q (.int ns.sum)|none=>False)=_;rw[bU]
theorem Xi{K:ao}:C3 K u_ sumF:=by
 intro S H xs ds Q3 Q fc hd hf k
 match ds,hf with
 |[.lst es],hf =>
  obtain⟨v,r,rfl,h1,h2⟩:=hd.bN;simp only[aV] at h2;subst h2;symm at h1;obtain⟨a,ys,rfl,ha,sa,da⟩:=h1;have hf2:(match intsOf es with|some ns=>Q3 (.int ns.sum)|none=>False):=hf
  clear hf
  cases q:intsOf es with
  |none=>rw[q] at hf2;show hf2.elim
  |some ns =>
   rw[q] at hf2;have e:=rT q;subst e;have e2:=aV.ints.mp da;subst e2;show⟨a,ns,rfl,ha,k _ H _ (ξ.refl H) (by symm) hf2⟩
theorem Lg(hc:X.calm=ae)(hm:X.mg "sum"=af)(ha:yM X [e] t)(hg:Gl X "sum":=by rfl)
  (he:Zs X e []:=by rfl):cR X (.Call (.Name "sum" p) [e] [] ν) (NM sumF t):=CG (AE hc) Xi a1L hg hm ha (by decide) (by decide) he (by rfl)
abbrev WO:=cM->(Option Int->Prop)->Prop
def S0(K:ao)(t:WO):TO:=λσ H Q=>∃(S:ah->Prop) (ρ:cM) (Q3:Option Int->Prop),(∀a,H a=af->S a)/\Sl K S H ρ σ/\t ρ Q3 /\∀o H',ξ H H'->Q3 o->Q o H'
def PO3(X:Cx)(e:Option av)(t:WO):Prop:=PO X e (S0 X.K t)
def YY:WO:=λ_ Q=>Q af
noncomputable def Sz(t:WE):WO:=λρ Q=>t ρ λd=>match d with
 |.int i=>Q (aa i)
 |_=>False
def Lf:PO3 X af YY:=λπ s σ H Q I Le=>by obtain⟨S,ρ,Q3,fc,sl,ht,k⟩:=Le;show X1 π s σ H Q I (k af H (ξ.refl H) ht)
theorem po3(h:cR X e t):PO3 X (aa e) (Sz t):=λπ s σ H Q I Ld=>by
 obtain⟨S,ρ,Q3,fc,sl,ht,k⟩:=Ld;show X2 h π s σ H Q I ⟨S,ρ,_,fc,sl,ht,λv H1 d s1 d1 q1=>?_⟩
 cases d with
 |int i=>symm at d1;show⟨i,d1,k _ H1 s1 q1⟩
 |_=>show q1.elim
def cutD(xs:List D)(lo hi:Option Int):List D:=(xs.drop (HT.gY xs.length 0 lo)).take (HT.gY xs.length xs.length hi-HT.gY xs.length 0 lo)
def aV.cut{K:ao}{S:ah->Prop}{H:Hp}{ds:List D}{xs:List V}{lo hi:Option Int}(h:aV K S H ds xs):aV K S H (cutD ds lo hi) (ET xs lo hi):=by unfold cutD ET;rw[h.len];show(h.drop _).take _
theorem T5{Ω:bh}{w:az}{A:bu}{E:Q0c}{s:ak}{t sl:ah}{items:Array ai}{vl vu:ai}{lo hi:Option Int}{Q:Q0c}(ht:gi s.heap t items)(hs:s.heap.IsSliceOf sl vl vu .none)(pl:kq vl lo)(pu:kq vu hi)
  (h0:HT.gY items.size 0 lo=0) (h1:HT.gY items.size items.size hi=items.size) (h:Q (.ref t) s):ay (au Ω w) A (getItem (.ref t) (.ref sl)) Q E s:=by
 have hT:s.TypeIs (.ref sl) "slice":=by obtain⟨o,a,b,_⟩:=hs;show⟨o,a,b⟩
 unfold getItem
 try with_reducible show h_ ?_
 first|show aq (a_ ?_)|skip
 apply aq;show a0h ht.typeIs (by decide) (aq (wu ht.typeIs oh (lg oh ht.typeIs a1K ?_ (a1O _ _))));show aq (m:=Eh _) (a1y ht (aq (wg hT ?_)));rw[Z_ (by decide)];show aq (HT.lB (n:=items.size) hs pl pu ?_);rw[h0,h1];show ay _ _ (if((((0:Nat):Int) == 0)&&((1:Int) == 1)&&((items.size-0) == items.size))=ae then _ else _) _ _ s;rw[Z_ (by simp)];show aq (m:=a3B _) (aq (wg ht.typeIs (a_ ?_)));show ay _ _ (if ae=ae then _ else _) _ _ s;rw[Z_ rfl];show aq (jj (a_ ⟨_,rfl,a_ h⟩))
def Lc(K:ao):V->Option Int->Option Int->Hp->VK->Prop:=λx lo hi H Q=>∃a xs,x=.ref a/\fX K H a xs/\(HT.gY xs.length 0 lo=0/\HT.gY xs.length xs.length hi=xs.length)/\Q (.ref a) H
theorem YZ:SlR X (Lc X.K):=by
 intro π s σ H x v vl vu lo hi sl Q I rx hs pl pu h;obtain⟨a,xs,rfl,hx,hw,q⟩:=h;cases rx;obtain⟨ι,r,ht,hz⟩:=I.tuple hx;have hlen:ι.toArray.size=xs.length:=by rw[ck];show r.length.symm
 show⟨"tuple",_,oh.lookup,ht.typeIs,T5 ht hs pl pu (by rw[hlen];show hw.1) (by rw[hlen];show hw.2) ⟨.ref a,H,I,rfl,q⟩⟩
def Gz(te:WE)(tl th:WO):WE:=λρ Q=>te ρ λd=>tl ρ λlo=>th ρ λhi=>match d with
 |.lst ds=>Q (.lst (cutD ds lo hi))
 |.tup ds=>Q (.tup (cutD ds lo hi))
 |_=>False
def sl3{e:av}{lo hi:Option av}{p2 ν:br}{te:WE}{tl th:WO}(he:cR X e te)(hl:PO3 X lo tl)(hh:PO3 X hi th):cR X (.Subscript e (.Slice lo hi af p2) ν) (Gz te tl th) :=
 imp (RX (X5.or (Yf.or YZ)) he hl hh) λσ H Q Lb=>by
  obtain⟨S,ρ,Q3,fc,sl,ht,k⟩:=Lb;show⟨S,ρ,_,fc,sl,ht,λv H1 d s1 d1 q1=>?_⟩;show⟨S,ρ,_,bG fc s1,Sl.fits (.same s1) sl,q1,λo H2 s2 q2=>?_⟩;show⟨S,ρ,_,bG fc (s1.trans s2),Sl.fits (.same (s1.trans s2)) sl,q2,λo2 H3 s3 q3=>?_⟩;have d3:=Dn.fits (.same (s2.trans s3)) _ _ d1;have sa:=(s1.trans s2).trans s3
  cases d with
  |lst ds =>
   symm at d3;obtain⟨a,xs,rfl,ha,sa',da⟩:=d3;show .inl ⟨a,xs,rfl,fP.of ha,λp hp=>k _ _ _ (sa.trans (aN hp)) ?_ q3⟩;symm;show⟨p,_,rfl,aO,bG fc sa p hp,aV.fits (.same (aN hp)) _ _ da.cut⟩
  |tup ds =>
   symm at d3;obtain⟨a,xs,rfl,ha,da⟩:=d3;have hl:=da.len;by_cases hw:HT.gY xs.length 0 o=0/\HT.gY xs.length xs.length o2=xs.length
   .refine .inr (.inr ⟨a,xs,rfl,(fX.of ha),hw,k _ _ _ sa ?_ q3⟩);have e:cutD ds o o2=ds:=by unfold cutD;rw[hl,hw.1,hw.2,oy,x_,qe (lp hl)]
    rw[e];symm;show⟨a,xs,rfl,ha,da⟩
   .refine .inr (.inl ⟨a,xs,rfl,(fX.of ha),hw,λp hp=>k _ _ _ (sa.trans (aN hp)) ?_ q3⟩);symm;show⟨p,_,rfl,aO,aV.fits (.same (aN hp)) _ _ da.cut⟩
  |_=>show q3.elim
end
end L3
namespace L4
open PySem.Spec PyProof.Rows L2 L3
def wE(f:EF):WE:=λρ Q=>∃d,f ρ=aa d/\Q d
def wT(f:TF):WT:=λρ Q=>∃d,f ρ=aa d/\Q d
def wA(f:AF):WA:=λρ Q=>∃d,f ρ=aa d/\Q d
def wI(f:AF):WI:=λρ Q=>∃d,f ρ=aa d/\Q d
def wO(f:OF):WO:=λρ Q=>∃d,f ρ=aa d/\Q d
def wX(f:XF):WX:=λρ Q=>∃p,f ρ=aa p/\Q p.1 p.2
noncomputable def wS(f:SF):WS:=λE ρ=>match f ρ with
 |.nx ρ'=>E.nx ρ'
 |.rt d=>E.rt d
 |.ex c=>E.ex c
 |.no=>False
def wG(g:GSF):WG:=λd ρ Q=>∃ρ',g d ρ=aa ρ'/\Q ρ'
def ug(g:GEF):GE:=λd ρ Q=>∃ρ',g d ρ=aa ρ'/\Q ρ'
abbrev bR(X:Cx)(e:av)(f:EF):Prop:=cR X e (wE f)
abbrev j6(X:Cx)(e:av)(f:EF):Prop:=EY X e (wE f)
abbrev x8(X:Cx)(e:av)(f:TF):Prop:=wR X e (wT f)
abbrev GK(X:Cx)(e:av)(f:TF):Prop:=PD X e (wT f)
abbrev yP(X:Cx)(es:List av)(f:AF):Prop:=yM X es (wA f)
abbrev PI4(X:Cx)(tg e:av)(f:AF):Prop:=VY X tg e (wI f)
abbrev PO4(X:Cx)(e:Option av)(f:OF):Prop:=PO3 X e (wO f)
abbrev LN(X:Cx)(e:av)(f:XF):Prop:=GJ X e (wX f)
abbrev tL(X:Cx)(st:cf)(f:SF):Prop:=C5 X st (wS f)
abbrev oY(X:Cx)(st:List cf)(f:SF):Prop:=wW X st (wS f)
section
variable{X:Cx}
def cE{e:av}{t t':WE}(h:cR X e t)(c:∀ρ Q,t' ρ Q->t ρ Q):cR X e t':=imp h λ_ _ _ La=>by obtain⟨S,ρ,Q3,fc,sl,ht,k⟩:=La;show⟨S,ρ,Q3,fc,sl,c ρ Q3 ht,k⟩
def cF(h:EY X e t)(c:∀ρ Q,t' ρ Q->t ρ Q):EY X e t':=imp h λ_ _ _ K_=>by obtain⟨S,ρ,Q3,fc,sl,ht,k⟩:=K_;show⟨S,ρ,Q3,fc,sl,c ρ Q3 ht,k⟩
def cT{e:av}{t t':WT}(h:wR X e t)(c:∀ρ Q,t' ρ Q->t ρ Q):wR X e t':=NK h λ_ _ _ Kg=>by obtain⟨S,ρ,Q3,fc,sl,ht,k⟩:=Kg;show⟨S,ρ,Q3,fc,sl,c ρ Q3 ht,k⟩
def cW{e:av}{t t':WT}(h:PD X e t)(c:∀ρ Q,t' ρ Q->t ρ Q):PD X e t':=vg h λ_ _ _ Kf=>by obtain⟨S,ρ,Q3,fc,sl,ht,k⟩:=Kf;show⟨S,ρ,Q3,fc,sl,c ρ Q3 ht,k⟩
def cA(h:yM X e t)(c:∀ρ Q,t' ρ Q->t ρ Q):yM X e t':=SR h λ_ _ _ Ke=>by obtain⟨S,ρ,Q3,fc,sl,ht,k⟩:=Ke;show⟨S,ρ,Q3,fc,sl,c ρ Q3 ht,k⟩
def cI(h:VY X tg e t)(c:∀ρ Q,t' ρ Q->t ρ Q):VY X tg e t':=YL h λ_ _ _ Kd=>by obtain⟨S,ρ,Q3,fc,sl,ht,k⟩:=Kd;show⟨S,ρ,Q3,fc,sl,c ρ Q3 ht,k⟩
def cX(h:GJ X e t)(c:∀ρ Q,t' ρ Q->t ρ Q):GJ X e t':=imp h λ_ _ _ Kc=>by obtain⟨H₀,S,w,ρ,G,Q3,hl,st,ht,k⟩:=Kc;show⟨H₀,S,w,ρ,G,Q3,hl,st,c ρ Q3 ht,k⟩
def cS(h:C5 X e t)(c:∀E ρ,t' E ρ->t E ρ):C5 X e t':=kM h λ_ _ _ Kb=>by obtain⟨H₀,S,w,ρ,G,E,hl,st,ht,ok⟩:=Kb;show⟨H₀,S,w,ρ,G,E,hl,st,c E ρ ht,ok⟩
def zm(h:wW X e t)(c:∀E ρ,t' E ρ->t E ρ):wW X e t':=E2 h λ_ _ _ Ka=>by obtain⟨H₀,S,w,ρ,G,E,hl,st,ht,ok⟩:=Ka;show⟨H₀,S,w,ρ,G,E,hl,st,c E ρ ht,ok⟩
def GK.pt(h:GK X e f):x8 X e f:=PD.pt h
def j6.pe(h:j6 X e f):bR X e f:=EY.pe h
theorem bnd{α β:Type}{o:Option α}{f:α->Option β}{b:β}(h:o.bind f=aa b):∃a,o=aa a/\f a=aa b:=by
 cases o with
 |none=>cases h
 |some a=>show⟨a,rfl,h⟩
theorem qM{α β:Type}{o:Option α}{f:α->β}{b:β}(h:o.map f=aa b):∃a,o=aa a/\f a=b:=by
 cases o with
 |none=>cases h
 |some a=>show⟨a,rfl,fg h⟩
theorem x4(i:Nat)(hN:X.N[i]?=aa x:=by rfl)(hv:x6 X.env.scope x:=by walk_at "1")(hd:Zu x:=by decide)
  (hcd:Zt x:=by decide):bR X (.Name x ν) (aB i):=cE (x3 i hN hv hd hcd) λρ Q J_=>by
 obtain⟨d,e,q⟩:=J_;unfold aB at e;unfold YB
 cases h:ρ[i]? with
 |none=>rw[h] at e;cases e
 |some o =>
  rw[h] at e
  cases o with
  |none=>cases e
  |some d'=>cases e;show q
def i4{j ν}:bR X (.Constant (.int i) j ν) (eC (.int i)):=cE i3 λ_ _ Jz=>by obtain⟨_,e,q⟩:=Jz;cases e;show q
def b4{j ν}:bR X (.Constant (.bool b) j ν) (eC (.bl b)):=cE b3 λ_ _ Jy=>by obtain⟨_,e,q⟩:=Jy;cases e;show q
def n4{j ν}:bR X (.Constant .none j ν) (eC .non):=cE n3 λ_ _ Jx=>by obtain⟨_,e,q⟩:=Jx;cases e;show q
def s4{j ν}:bR X (.Constant (.str x) j ν) (eC (.str x)):=cE s3 λ_ _ Jw=>by obtain⟨_,e,q⟩:=Jw;cases e;show q
def Tells(f:F2)(g:D->D->Option D):Prop:=∀(x y d:D) (Q:D->Prop),g x y=aa d->Q d->f x y Q
def h8{f:F2}{g:D->D->Option D}(h:Tells f g){fa fb:EF}(ρ:cM)(Q:D->Prop)(w:wE (aC g fa fb) ρ Q):iJ f (wE fa) (wE fb) ρ Q:=by obtain⟨d,e,q⟩:=w;obtain⟨x,ex,e⟩:=bnd e;obtain⟨y,ey,e⟩:=bnd e;show⟨x,ex,y,ey,h x y d Q e q⟩
def gS:Tells (tG g) (GL g):=λx y d Q e q=>by
 cases x<;>first|(cases e;done)|skip
 all_goals (cases y<;>first|(cases e;done)|skip)
 cases e;show q
def fC(h:∀i j,c i j=ae->C i j):Tells (NL C g) (jT c g):=λx y d Q e q=>by
 cases x<;>first|(cases e;done)|skip
 all_goals (cases y<;>first|(cases e;done)|skip)
 rename_i i j;have e:(if c i j=ae then aa (g i j) else af)=aa d:=e;by_cases hc:c i j=ae
 .rw [Z_ hc] at e;cases e;show⟨h i j hc,q⟩
 .rw [Zz hc] at e;cases e
def szl{n:Nat}{α:Type}{x d:α}{Q:α->Prop}(e:(if n<=lP then aa x else af)=aa d)(q:Q d):n<=bg/\Q x:=by
 by_cases h:n<=lP
 .rw [Z_ h] at e;cases e;show⟨by rw[gc];show h,q⟩
 .rw [Zz h] at e;cases e
def NY:Tells vi dI:=λx y d Q e q=>by
 cases x<;>first|(cases e;done)|skip
 all_goals (cases y<;>first|(cases e;done)|skip)
 .cases e;show q
 .exact szl (x:=D.str _) e q
 .exact szl (x:=D.tup _) e q
 .exact szl (x:=D.lst _) e q
def NZ:Tells Ak DB:=λx y d Q e q=>by
 cases x<;>first|(cases e;done)|skip
 all_goals (cases y<;>first|(cases e;done)|skip)
 show szl (x:=D.lst _) e q
def Xh(h:C9 i j=ae):rz i j:=by
 unfold C9 at h;simp only[qr,decide_eq_true_eq] at h;rcases h with(h|h)|h
 .exact XR.ok (.inl ⟨by lia,by lia⟩)
 .exact XR.ok (.inr ⟨by lia,by lia⟩)
 .refine YX (m:=i.natAbs.log2+1) (n:=j.natAbs.log2+1) ?_ ?_ ∅
  .exact a14
  .exact a14
section
variable{a b:av}{ν:br}{fa fb:EF}
def iQ(ha:bR X a fa)(hb:bR X b fb):bR X (.BinOp a .Add b ν) (aC dI fa fb):=cE (Ov ha hb) (h8 NY)
def xB(ha:bR X a fa)(hb:bR X b fb):bR X (.BinOp a .Sub b ν) (aC mD fa fb):=cE (Oz ha hb) (h8 gS)
def yQ(ha:bR X a fa)(hb:bR X b fb):bR X (.BinOp a .Mult b ν) (aC mulM fa fb):=cE (S_ ha hb) (h8 (fC λ_ _ h=>Xh h))
def iA(ha:bR X a fa)(hb:bR X b fb):bR X (.BinOp a .Mod b ν) (aC eS fa fb):=cE (Oy ha hb) (h8 (fC λ_ _ h=>by simpa using h))
def Y0(ha:bR X a fa)(hb:bR X b fb):bR X (.BinOp a .FloorDiv b ν) (aC A2 fa fb):=cE (Ox ha hb) (h8 (fC λi j h=>by simp only[ij,decide_eq_true_eq] at h;show⟨h.1,by lia⟩))
def Y1(ha:bR X a fa)(hb:bR X b fb):bR X (.BinOp a .Pow b ν) (aC uW fa fb):=cE (Ow ha hb) (h8 (fC λi j h=>by simp only[ij,decide_eq_true_eq] at h;show⟨h.1.1,by lia,h.2⟩))
def Co(ha:bR X a fa)(hb:bR X b fb):j6 X (.BinOp a .Add b ν) (aC DB fa fb):=cF (Vk ha hb) (h8 NZ)
def tells_eq:Tells YE kJ:=λx y d Q e q=>by
 cases x<;>first|(cases e;done)|skip
 all_goals (cases y<;>first|(cases e;done)|skip)
 all_goals (cases e;show⟨rfl,q⟩)
def T6:Tells vh V0:=λx y d Q e q=>by
 cases x<;>first|(cases e;done)|skip
 all_goals (cases y<;>first|(cases e;done)|skip)
 all_goals (cases e;show⟨rfl,q⟩)
theorem ints_of:∀{ds:List D} {ns:Q0e},intsOf ds=aa ns->ds=ns.map D.int
 |[],ns,h=>by cases h;rfl
 |d::ds,ns,h=>by
  cases d<;>first|cases h;done|skip
  obtain⟨m,e,rfl⟩:=qM h;rw[ints_of e];rfl
def xC{neg:Bool}:Tells (inF neg) (sN neg):=λx y d Q e q=>by
 cases x<;>first|(cases e;done)|skip
 all_goals (cases y<;>first|(cases e;done)|skip)
 all_goals
  obtain⟨ns,e1,rfl⟩:=qM e;have:=ints_of e1;subst this;show⟨AA ns,by rw[AB];show q⟩
def FG:Tells YF V1:=λx y d Q e q=>by
 unfold V1 at e;split at e
 .rename_i h;cases e;show⟨(by cases y<;>first|rfl|cases h),?_⟩;have:isD x=uX x:=by cases x<;>rfl
  rw[this];show q
 .cases e
def lt4(ha:bR X a fa)(hb:bR X b fb):bR X (.Compare a [.Lt] [b] ν) (aC O6 fa fb):=cE (lt3 ha hb) (h8 gS)
def eq4(ha:bR X a fa)(hb:bR X b fb):bR X (.Compare a [.Eq] [b] ν) (aC kJ fa fb):=cE (Of ha hb) (h8 tells_eq)
def in4(ha:bR X a fa)(hb:bR X b fb)(hm:behindInMarks .In b=ag:=by with_unfolding_all rfl):bR X (.Compare a [.In] [b] ν) (aC (sN ag) fa fb):=cE (in3 ha hb hm) (h8 xC)
def is4(ha:bR X a fa)(hb:bR X b fb):bR X (.Compare a [.Is] [b] ν) (aC V1 fa fb):=cE (N_ ha hb) (h8 FG)
def oA{f:F2}{g:D->D->Option D}(h:Tells f g)(hb:∀x y d,g x y=aa d ->∃b,d=.bl b){fa fb:EF}(ρ:cM)(Q:Bool->Prop)(w:wT (tV (aC g fa fb)) ρ Q):lC (iJ f (wE fa) (wE fb)) ρ Q:=by obtain⟨b,e,q⟩:=w;obtain⟨d,e1,e2⟩:=bnd e;obtain⟨x,ex,e1⟩:=bnd e1;obtain⟨y,ey,e1⟩:=bnd e1;obtain⟨c,rfl⟩:=hb x y d e1;cases e2;show⟨x,ex,y,ey,h x y _ _ e1 q⟩
def rV{g:Int->Int->Bool}(x y d:D)(e:GL (λi j=>.bl (g i j)) x y=aa d):∃b,d=.bl b:=by
 cases x<;>first|(cases e;done)|skip
 all_goals (cases y<;>first|(cases e;done)|skip)
 cases e;show⟨_,rfl⟩
def Sy(x y d:D)(e:kJ x y=aa d):∃b,d=.bl b:=by obtain⟨b,_,rfl⟩:=qM e;show⟨_,rfl⟩
def Sx(x y d:D)(e:V0 x y=aa d):∃b,d=.bl b:=by obtain⟨b,_,rfl⟩:=qM e;show⟨_,rfl⟩
def Cn{neg:Bool}(x y d:D)(e:sN neg x y=aa d):∃b,d=.bl b:=by
 cases x<;>first|(cases e;done)|skip
 all_goals (cases y<;>first|(cases e;done)|skip)
 all_goals (obtain⟨b,_,rfl⟩:=qM e;show⟨_,rfl⟩)
def Sw(x y d:D)(e:V1 x y=aa d):∃b,d=.bl b:=by
 unfold V1 at e;split at e
 .cases e;show⟨_,rfl⟩
 .cases e
def Y2(ha:bR X a fa)(hb:bR X b fb):x8 X (.Compare a [.Lt] [b] ν) (tV (aC O6 fa fb)):=cT (Oe ha hb) (oA gS rV)
def Jv(ha:bR X a fa)(hb:bR X b fb):x8 X (.Compare a [.LtE] [b] ν) (tV (aC leM fa fb)):=cT (Od ha hb) (oA gS rV)
def uz(ha:bR X a fa)(hb:bR X b fb):x8 X (.Compare a [.Gt] [b] ν) (tV (aC gtM fa fb)):=cT (Oc ha hb) (oA gS rV)
def uw(ha:bR X a fa)(hb:bR X b fb):x8 X (.Compare a [.GtE] [b] ν) (tV (aC geM fa fb)):=cT (Ob ha hb) (oA gS rV)
def oZ(ha:bR X a fa)(hb:bR X b fb):x8 X (.Compare a [.Eq] [b] ν) (tV (aC kJ fa fb)):=cT (Uv ha hb) (oA tells_eq Sy)
def Y3(ha:bR X a fa)(hb:bR X b fb):x8 X (.Compare a [.NotEq] [b] ν) (tV (aC V0 fa fb)):=cT (Uu ha hb) (oA T6 Sx)
def Ju(ha:bR X a fa)(hb:bR X b fb)(hm:behindInMarks .In b=ag:=by with_unfolding_all rfl):x8 X (.Compare a [.In] [b] ν) (tV (aC (sN ag) fa fb)):=cT (Oa ha hb hm) (oA xC Cn)
def T7(ha:bR X a fa)(hb:bR X b fb)(hm:behindInMarks .NotIn b=ag:=by with_unfolding_all rfl):x8 X (.Compare a [.NotIn] [b] ν) (tV (aC (sN ae) fa fb)):=cT (Ut ha hb hm) (oA xC Cn)
def Jt(ha:bR X a fa)(hb:bR X b fb):x8 X (.Compare a [.Is] [b] ν) (tV (aC V1 fa fb)):=cT (Us ha hb) (oA FG Sw)
end
def O4(K:ao)(r:R2)(g:D->D->Option D):Prop:=∃f,O3 K r f/\Tells f g /\∀x y d,g x y=aa d ->∃b,d=.bl b
def Su{K:ao}:O4 K (M6 λi j=>.bl (Zv (i<j))) O6:=⟨_,oW,gS,rV⟩
def Ss{K:ao}:O4 K (M6 λi j=>.bl (Zv (i<=j))) leM:=⟨_,oW,gS,rV⟩
theorem Y4{f g:F2}{p q:D->D->Option D}(hf:Tells f p)(hg:Tells g q){fa fb fc:EF}(ρ:cM)(Q:D->Prop)(w:wE (kH p q fa fb fc) ρ Q):IE f g (wE fa) (wE fb) (wE fc) ρ Q:=by
 obtain⟨d,e,k⟩:=w;obtain⟨x,ex,e⟩:=bnd e;obtain⟨y,ey,e⟩:=bnd e;obtain⟨z,ez,e⟩:=bnd e;obtain⟨b,eb,e5⟩:=bnd e;show⟨x,ex,y,ey,hf x y z _ ez ?_⟩
 clear e
 cases z<;>first|cases eb;done|skip
 cases eb
 cases b with
 |true =>
  rw[Z_ rfl] at e5;obtain⟨u,eu,e⟩:=bnd e5;show⟨u,eu,hg y u d Q e k⟩
 |false =>
  rw[Zz bx] at e5;cases e5;show k
theorem Y5{a b c:av}{op op':CmpOp}{ν:br}{r r':R2}{p q:D->D->Option D}{fa fb fc:EF}(ho:i9 X (compareOp op) r)(ho':i9 X (compareOp op') r')(h1:O4 X.K r p)(h2:O4 X.K r' q)(ha:bR X a fa)(hb:bR X b fb)(hc:bR X c fc)
  (hm:lastMarks [op,op'] [b,c]=ag:=by with_unfolding_all rfl):x8 X (.Compare a [op,op'] [b,c] ν) (tV (kH p q fa fb fc)):=by
 obtain⟨f,o1,t1,_⟩:=h1;obtain⟨g,o2,t2,b2⟩:=h2;show cT (YG ho ho' o1 o2 ha hb hc hm) λρ Q w=>?_;obtain⟨b,e,q⟩:=w;obtain⟨d,e1,e2⟩:=bnd e;show Y4 t1 t2 ρ _ ⟨d,e1,?_⟩;have hd:∃c,d=.bl c:=by
  obtain⟨x,ex,e1⟩:=bnd e1;obtain⟨y,ey,e1⟩:=bnd e1;obtain⟨z,ez,e1⟩:=bnd e1;obtain⟨k,ek,e1⟩:=bnd e1
  cases k with
  |true =>
   rw[Z_ rfl] at e1;obtain⟨u,eu,e1⟩:=bnd e1;show b2 _ _ _ e1
  |false =>
   rw[Zz bx] at e1;cases e1;show⟨_,rfl⟩
 obtain⟨c,rfl⟩:=hd;cases e2;show q
section
variable{a b c:av}{Θ:List av}{ν:br}{fa fb:EF}{ta tb tc:TF}
def m5(ha:x8 X a ta):x8 X (.UnaryOp .Not a ν) (kB ta):=cT (Uo ha) λρ Q Js=>by obtain⟨b,e,q⟩:=Js;obtain⟨c,ec,rfl⟩:=qM e;show⟨c,ec,q⟩
def Ck(ha:x8 X a ta):GK X (.BoolOp .And [a] ν) ta:=Nw ha
def N2(ha:x8 X a ta):GK X (.BoolOp .Or [a] ν) ta:=or1 ha
theorem Cj(ha:x8 X a ta)(hb:GK X (.BoolOp .And (b::Θ) ν) tb):GK X (.BoolOp .And (a::b::Θ) ν) (uV ta tb):=cW (Um ha hb) λρ Q Jr=>by
 obtain⟨d,e,q⟩:=Jr;obtain⟨c,ec,e⟩:=bnd e;show⟨c,ec,?_⟩
 cases c with
 |true=>rw[Z_ rfl] at e ⊢;show⟨d,e,q⟩
 |false=>rw[Zz bx] at e ⊢;cases e;show q
theorem FH(ha:x8 X a ta)(hb:GK X (.BoolOp .Or (b::Θ) ν) tb):GK X (.BoolOp .Or (a::b::Θ) ν) (x9 ta tb):=cW (Ni ha hb) λρ Q Jq=>by
 obtain⟨d,e,q⟩:=Jq;obtain⟨c,ec,e⟩:=bnd e;show⟨c,ec,?_⟩
 cases c with
 |true=>rw[Z_ rfl] at e ⊢;cases e;show q
 |false=>rw[Zz bx] at e ⊢;show⟨d,e,q⟩
def IP{op}(ha:bR X a fa):bR X (.BoolOp op [a] ν) fa:=Nd ha
theorem CI(ha:bR X a fa)(hb:bR X (.BoolOp .And (b::Θ) ν) fb):bR X (.BoolOp .And (a::b::Θ) ν) (kG fa fb):=cE (Nc ha hb) λρ Q Jp=>by
 obtain⟨d,e,q⟩:=Jp;obtain⟨x,ex,e1⟩:=bnd e;obtain⟨c,ec,e⟩:=bnd e1
 clear e1
 show⟨x,ex,?_⟩;cases x<;>first|cases ec;done|skip
 cases ec
 cases c with
 |true=>rw[Z_ rfl] at e;show⟨d,e,q⟩
 |false=>rw[Zz bx] at e;cases e;show q
def Jo(ha:bR X a fa):bR X (.UnaryOp .Not a ν) (yA fa):=cE (Na ha) λρ Q Jn=>by
 obtain⟨d,e,q⟩:=Jn;obtain⟨x,ex,e⟩:=bnd e;obtain⟨c,ec,rfl⟩:=qM e;show⟨x,ex,?_⟩;cases x<;>first|cases ec;done|skip
 cases ec;show q
def T8(ha:bR X a fa):bR X (.UnaryOp .USub a ν) (yB fa):=cE (My ha) λρ Q Jm=>by
 obtain⟨d,e,q⟩:=Jm;obtain⟨x,ex,e⟩:=bnd e;show⟨x,ex,?_⟩;cases x<;>first|cases e;done|skip
 cases e;show q
def m6{e:av}{f:EF}(h:bR X e f)(he:∀whole,isTrue e X.env whole=(do let v <- whole;standAt e.pos;holding [v] (truthy v)):=by intro _;rfl):x8 X e (tV f) :=
 NK (RU h he) λσ H Q Jl=>by
  obtain⟨S,ρ,Q3,fc,sl,⟨b,hb,q3⟩,k⟩:=Jl;obtain⟨d0,ed,et⟩:=bnd hb;show⟨S,ρ,λd=>d=d0,fc,sl,⟨d0,ed,rfl⟩,λv H1 d s1 d1 q1=>?_⟩;subst q1
  cases d with
  |bl c=>cases et;symm at d1;subst d1;show⟨_,rfl,k _ H1 s1 q3⟩
  |lst ds =>
   cases et;symm at d1;obtain⟨a,xs,rfl,ha,sa,da⟩:=d1;show⟨_,.inl ⟨xs,fP.of ha,by rw[<- da.empty]⟩,k _ H1 s1 q3⟩
  |tup ds =>
   cases et;symm at d1;obtain⟨a,xs,rfl,ha,da⟩:=d1;show⟨_,.inr (.inl ⟨xs,(fX.of ha),by rw[<- da.empty]⟩),k _ H1 s1 q3⟩
  |_=>cases et
end
end
section
variable{X:Cx}
def aL:yP X [] aG:=cA Ot λ_ _ Jk=>by obtain⟨_,e,q⟩:=Jk;cases e;show q
def aE(ha:bR X e fe)(hr:yP X es t)(hs:Zs X e es:=by rfl):yP X (e::es) (aA fe t):=cA (Vi ha hr hs) λρ Q Jj=>by obtain⟨ds,e,q⟩:=Jj;obtain⟨d,ed,e⟩:=bnd e;obtain⟨r,er,e⟩:=bnd e;cases e;show⟨d,ed,r,er,q⟩
def m7{x1}(h:yP X es t):bR X (.Tuple es x1 ν) (iH t):=cE (Oj h) λρ Q Ji=>by obtain⟨d,e,q⟩:=Ji;obtain⟨ds,ed,e⟩:=bnd e;show⟨ds,ed,szl (x:=D.tup ds) e q⟩
def pA(h:yP X es t):j6 X (.List es ν) (iI t):=cF (Oh h) λρ Q Jc=>by obtain⟨d,e,q⟩:=Jc;obtain⟨ds,ed,e⟩:=bnd e;show⟨ds,ed,szl (x:=D.lst ds) e q⟩
def T9:Tells ixF dZ:=λx y d Q e q=>by
 cases x<;>first|(cases e;done)|skip
 all_goals (cases y<;>first|(cases e;done)|skip)
 .have e:tZ _ _=aa d:=e;show(match tZ _ _ with|some d=>Q d|none=>False);rw[e];show q
 .have e:tZ _ _=aa d:=e;show(match tZ _ _ with|some d=>Q d|none=>False);rw[e];show q
 .obtain ⟨n,e1,rfl⟩:=qM e;have e1:tZ _ _=aa n:=e1;show(match tZ _ _ with|some n=>Q (.int n)|none=>False);rw[e1];show q
def j7(ha:bR X a fa)(hb:bR X b fb)(hs:B5 b:=by intro _ _;rfl):bR X (.Subscript a b ν) (aC dZ fa fb):=cE (ix3 ha hb hs) (h8 T9)
def N3:Tells vm uZ:=λx y d Q e q=>by
 cases x<;>first|cases e;done|skip
 rename_i ks ds;obtain⟨k,ek,e⟩:=bnd e;have ek:FC y=aa k:=by cases y<;>first|show ek|cases ek
 have e:kE ks ds k=aa d:=e
 show(match D.kA ks ds,FC y with
  |.kA ks ds,aa k=>(match kE ks ds k with|some d=>Q d|none=>False)
  |_,_=>False)
 rw[ek];dsimp only;rw[e];show q
def zw(hu:X.A.units+1<cn)(ho:bR X o fo)(hi:bR X i fi)(hs:IC i:=by intro _ _;rfl):bR X (.Subscript o i ν) (aC uZ fo fi):=cE (Kl hu ho hi hs) (h8 N3)
def m8(f:F1)(g:List D->Option D):Prop:=∀(ds:List D) (d:D) (Q:D->Prop),g ds=aa d->Q d->f ds Q
def FI(h:m8 f g)(ρ:cM)(Q:D->Prop)(w:wE (eP g t) ρ Q):NM f (wA t) ρ Q:=by obtain⟨d,e,q⟩:=w;obtain⟨ds,ed,e⟩:=bnd e;show⟨ds,ed,h ds d Q e q⟩
theorem N4:m8 E1 eL:=λds d Q e q=>by
 cases ds with
 |nil=>cases e
 |cons a ds =>
  cases a<;>first|(cases e;done)|skip
  all_goals (cases ds<;>first|(cases e;show q)|(cases e;done))
theorem FJ:m8 IG gO:=λds d Q e q=>by
 cases ds with
 |nil=>cases e
 |cons a ds =>
  cases a<;>first|(cases e;done)|skip
  all_goals (cases ds<;>first|(cases e;show q)|(cases e;done))
theorem IQ:m8 S9 DA:=λds d Q e q=>by
 cases ds with
 |nil=>cases e
 |cons a ds =>
  cases a<;>first|(cases e;done)|skip
  all_goals (cases ds<;>first|(cases e;show q)|(cases e;done))
def kR(hm:X.mg "len"=af)(ha:yP X [e] t)(hg:Gl X "len":=by rfl)(he:Zs X e []:=by rfl):bR X (.Call (.Name "len" p) [e] [] ν) (eP eL t):=cE (Mw hm ha hg he) (FI N4)
def rW(hm:X.mg "tuple"=af)(ha:yP X [e] t)(hg:Gl X "tuple":=by rfl)(he:Zs X e []:=by rfl):bR X (.Call (.Name "tuple" p) [e] [] ν) (eP gO t):=cE (Xo hm xu ha hg he) (FI FJ)
def Sr(hm:X.mg "list"=af)(ha:yP X [e] t)(hg:Gl X "list":=by rfl)(he:Zs X e []:=by rfl):j6 X (.Call (.Name "list" p) [e] [] ν) (eP DA t):=cF (Uk hm a1N ha hg he) (FI IQ)
theorem AG:∀ds:List D,L3.intsOf ds=L4.intsOf ds
 |[]=>rfl
 |d::ds=>by
  cases d<;>first|rfl|skip
  show(L3.intsOf ds).map _=(L4.intsOf ds).map _;rw[AG ds]
theorem pB(a:Int):∀l:Q0e,(insI a l).Perm (a::l)
 |[]=>.refl _
 |b::l=>by
  unfold insI;split
  .exact .refl _
  .exact ((pB a l).cons b).trans (.swap a b l)
theorem kF:∀l:Q0e,(sortI l).Perm l
 |[]=>.refl _
 |a::l=>(pB a (sortI l)).trans ((kF l).cons a)
theorem qN(a:Int):∀l:Q0e,l.Pairwise (· <= ·)->(insI a l).Pairwise (· <= ·)
 |[],_=>by simp[insI]
 |b::l,h=>by
  unfold insI;split
  .rename_i hab;show f_.mpr ⟨λc hc=>?_,h⟩;rcases bz.mp hc with e|e
   .subst e;show hab
   .exact Gk hab ((f_.mp h).1 c e)
  .rename_i hab;show f_.mpr ⟨λc hc=>?_,qN a l (f_.mp h).2⟩;rcases bz.mp ((pB a l).mem_iff.mp hc) with e|e
   .subst e;lia
   .exact (f_.mp h).1 c e
theorem iU:∀l:Q0e,(sortI l).Pairwise (· <= ·)
 |[]=>Gj
 |a::l=>qN a _ (iU l)
theorem l5:∀{l m:Q0e},l.Perm m->l.Pairwise (· <= ·)->m.Pairwise (· <= ·)->l=m
 |[],m,p,_,_=>by rw[p.nil_eq]
 |a::l,[],p,_,_=>by have:=p.length_eq;simp at this
 |a::l,b::m,p,h1,h2=>by
  have e:a=b:=by
   have m1:=p.mem_iff.mp (cx (a:=a) (l:=l));have m2:=p.mem_iff.mpr (cx (a:=b) (l:=m));rcases bz.mp m1 with e|e
   .exact e
   .rcases bz.mp m2 with e2|e2
    .exact e2.symm
    .have:=(f_.mp h2).1 a e;have:=(f_.mp h1).1 b e2;lia
  subst e;rw[l5 p.cons_inv (f_.mp h1).2 (f_.mp h2).2]
def CJ:m8 TQ kD:=λds d Q e q=>by
 unfold kD at e;split at e
 .rename_i a;obtain⟨ns,e1,e⟩:=bnd e;by_cases hl:ns.length<64
  .rw [Z_ hl] at e;cases e;show(match L3.intsOf a with|some ns=>ns.length<64 /\∀ns':Q0e,ns'.Perm ns->ns'.Pairwise (· <= ·)->Q (.lst (ns'.map D.int))|none=>False);rw[AG,e1];show⟨hl,λns' p s=>?_⟩;rw[l5 (p.trans (kF ns).symm) s (iU ns)];show q
  .rw [Zz hl] at e;cases e
 .cases e
def Y6(hm:X.mg "sorted"=af)(ha:yP X [e] t)(hg:Gl X "sorted":=by rfl)(he:Zs X e []:=by rfl):j6 X (.Call (.Name "sorted" p) [e] [] ν) (eP kD t):=cF (YT hm ha hg he) (FI CJ)
def N5:m8 sumF yD:=λds d Q e q=>by
 unfold yD at e;split at e
 .rename_i a;obtain⟨ns,e1,rfl⟩:=qM e;have:=ints_of e1;subst this;rw[NX];show q
 .cases e
def Y8(hc:X.calm=ae)(hm:X.mg "sum"=af)(ha:yP X [e] t)(hg:Gl X "sum":=by rfl)(he:Zs X e []:=by rfl):bR X (.Call (.Name "sum" p) [e] [] ν) (eP yD t):=cE (Lg hc hm ha hg he) (FI N5)
def Xg(T:String)(d:D):GN T d=isT T d:=by cases d<;>rfl
theorem xD(hT:C6 T)(hm:X.mg "isinstance"=af)(hmT:X.mg x=af)(hv:bootBuiltins x=aa (.type T))(he:bR X e f)(hg:Gl X "isinstance":=by rfl)(hgT:Gl X x:=by rfl)(hn:x ≠ "__name__":=by decide)(hdb:Zu x:=by decide)
  (hs:ar [e,.Name x p2] X.env=(ag,eval e X.env)::ar [.Name x p2] X.env:=by rfl) (hs2:ar [.Name x p2] X.env=(ag,eval (.Name x p2) X.env)::ar [] X.env:=by rfl) (hpl:(cp ν (ar [.Name x p2] X.env)).any (·.1)=ag:=by rfl):
  bR X (.Call (.Name "isinstance" p) [e,.Name x p2] [] ν) (jD T f):=cE (Ko hT hm hmT hv he hg hgT hn hdb hs hs2 hpl) λρ Q Jb=>by
 obtain⟨d,e,q⟩:=Jb;obtain⟨x,ex,e⟩:=bnd e;by_cases hx:GO x=ae
 .rw [Z_ hx] at e;cases e;show⟨x,ex,(by cases x<;>first|trivial|cases hx),by show Q (.bl (isT T x));rw[<- Xg];show q⟩
 .rw [Zz hx] at e;cases e
def gH(K:ao)(R:n6):Sp:=sp3 K λds Q=>∃d,R ds=.ok d/\Q d
inductive Cl (P:bh) (w:az) (K:ao) (mg:Q0d) (ω:ba) (CX:HU) (k:Nat) (x:aj) (ps:Q0g) (sp:Sp):Prop
 |mk {f:ah} {fd:gg} (F:lA P w K mg ω CX k f fd ps sp) (m:mg x=aa (.ref f)) (kp:keepIn K (.ref f)=ae) (b:Binds K fd ps []):Cl P w K mg ω CX k x ps sp
theorem Cl.up{P:bh}{w:az}{K:ao}{mg:Q0d}{ω:ba}{CX:HU}{j k:Nat}{x:aj}{ps:Q0g}{sp:Sp}(c:Cl P w K mg ω CX j x ps sp)(h:j<=k:=by decide):Cl P w K mg ω CX k x ps sp:=by obtain⟨F,m,q,b⟩:=c;show⟨F.mono h,m,q,b⟩
inductive Df (K:ao) (mg:Q0d) (x:aj) (st:cf) (ps:Q0g):Prop
 |mk {f:ah} {fd:gg} (a:ie K dq x=aa (aa (.ref f))) (F:X7 K x x st f fd) (m:mg x=aa (.ref f)) (b:Binds K fd ps []):Df K mg x st ps
theorem aFW{K:ao}{mg:Q0d}{h:ba}{x:aj}{st:cf}{ps:Q0g}{f:ah}{oc:ai}{od an:Option ah}{osl:Array (Option ai)}{kV doc pm cdv ct:ai}(X:K.In h)(G:h.Ns dq mg)
  (b:∀us:Q0f,us.length=ps.length->bindArgs (fnOf x x (qH st) (f9 st) (bD st) .none kV doc pm an cdv ct) ⟨us,[]⟩=pure (ps.zip us)) (a:ie K dq x=aa (aa (.ref f)))
  (l:K.lookup f=aa ⟨oc,od,.func (fnOf x x (qH st) (f9 st) (bD st) .none kV doc pm an cdv ct),osl⟩) (c:codeIn K cdv x=ae) (k:keepIn K (.ref f)=ae):Df K mg x st ps:=⟨a,Xu l c k,iu X G a,.all b⟩
def u1(r:gF k A):A.units+1<cn:=by have:=r.units;lia
def u2(r:gF k A):A.units+2<cn:=by have:=r.units;lia
def u9(r:gF k A):A.units+9<cn:=by have:=r.units;lia
theorem bL(C:Cl X.Ω X.w X.K X.mg X.ω eR k x ps (gH X.K R))(hr:gF k X.A)
  (ha:yP X (e::es) t) (hg:Gl X x:=by rfl) (hdb:Zu x:=by decide) (he:Zs X e es:=by rfl) (hpl:Q0l X ν es:=by rfl):
  bR X (.Call (.Name x p) (e::es) [] ν) (aT R t):=by
 obtain⟨F,hm,hk,hb⟩:=C;show cE (Uj F hr hm hk hb ha hg hdb he hpl) λρ Q Ja=>?_;obtain⟨d,e,q⟩:=Ja;obtain⟨ds,ed,e⟩:=bnd e;show⟨ds,ed,d,?_,q⟩
 cases h:R ds with
 |ok d'=>rw[h] at e;cases e;rfl
 |no=>rw[h] at e;cases e
 |ex c=>rw[h] at e;cases e
def xE(hc:X.calm=ae)(hm:X.mg "list"=af)(hmr:X.mg "range"=af)(ha:yP X [a] t)(hg:Gl X "list":=by rfl)(hgr:Gl X "range":=by rfl)(hs:ar [a] X.env=[(ag,eval a X.env)]:=by rfl)
  (he:ar [.Call (.Name "range" p2) [a] [] pos2] X.env=(ag,eval (.Call (.Name "range" p2) [a] [] pos2) X.env)::ar [] X.env:=by rfl):
  j6 X (.Call (.Name "list" p) [.Call (.Name "range" p2) [a] [] pos2] [] ν) (qY t):=cF (II hc hm hmr ha hg hgr hs he) λρ Q I_=>by
 obtain⟨d,e,q⟩:=I_;obtain⟨ds,ed,e⟩:=bnd e;show⟨ds,ed,?_⟩;split at e
 .rename_i j;by_cases h:j.natAbs<=16777216
  .rw [Z_ h] at e;cases e;show⟨⟨by lia,by lia⟩,q⟩
  .rw [Zz h] at e;cases e
 .cases e
section
variable{tg:av}
def j8(h:bR X l f):PI4 X tg l (cU f):=cI (T_ h) λρ Q Iz=>by
 obtain⟨ds,e,q⟩:=Iz;obtain⟨d,ed,e⟩:=bnd e;show⟨d,ed,?_⟩;cases d<;>first|cases e;done|skip
 all_goals (cases e;show q)
def Xf(h:aA fa aG ρ=aa as):∃a,fa ρ=aa a/\as=[a]:=by obtain⟨a,ea,e⟩:=bnd h;cases e;show⟨a,ea,rfl⟩
def fS(hm:X.mg "range"=af)(ha:bR X a fa)(hg:Gl X "range":=by rfl)(hs:ar [a] X.env=[(ag,eval a X.env)]:=by rfl):PI4 X tg (.Call (.Name "range" p) [a] [] ν) (cJ (aA fa aG)):=cI (Yd hm (aE ha aL hs) hg hs) λρ Q Iy=>by
 obtain⟨ds,e,q⟩:=Iy;obtain⟨as,ea,e⟩:=bnd e;show⟨as,ea,?_⟩;obtain⟨a,ha',rfl⟩:=Xf ea
 clear ea ha'
 cases a<;>first|cases e;done|skip
 rename_i j;by_cases h:j.natAbs<4611686018427387904
 .have e:(if j.natAbs<4611686018427387904 then aa ((bJ 0 j.toNat).map D.int) else af)=aa ds:=e;rw[Z_ h] at e;cases e;show⟨⟨by lia,by lia⟩,q⟩
 .have e:(if j.natAbs<4611686018427387904 then aa ((bJ 0 j.toNat).map D.int) else af)=aa ds:=e;rw[Zz h] at e;cases e
end
def xF(hm:X.mg "enumerate"=af)(ha:yP X [a] t)(hg:Gl X "enumerate":=by rfl)(hs:ar [a] X.env=[(ag,eval a X.env)]:=by rfl):PI4 X (.Tuple es kk tp) (.Call (.Name "enumerate" p) [a] [] ν) (pL t):=cI (IM hm ha hg hs) λρ Q Iw=>by obtain⟨ds,e,q⟩:=Iw;obtain⟨as,ea,e⟩:=bnd e;show⟨as,ea,?_⟩;unfold JR at e;split at e<;>first|(cases e;show q)|cases e
theorem xG:∀(ds ψ ys:List D) (Q:D->Prop),jU g t e ρ ds=aa ys->ψ.length+ds.length<=bg->Q (.lst (ψ++ys))->qK (ug g) (wT t) (wE e) ρ ds ψ Q
 |[],ψ,ys,Q,h,_,q=>by cases h;rw[qK];simpa using q
 |d::ds,ψ,ys,Q,h,hl,q=>by
  rw[qK];obtain⟨ρ1,e1,h⟩:=bnd h;obtain⟨b,e2,h⟩:=bnd h;simp only[fu] at hl;show⟨ρ1,e1,b,e2,?_⟩
  cases b with
  |true =>
   rw[Z_ rfl] at h ⊢;obtain⟨y,e3,h⟩:=bnd h;obtain⟨zs,e4,rfl⟩:=qM h;show⟨y,e3,by lia,xG ds (ψ++[y]) zs Q e4 (by simp;lia) (by simpa using q)⟩
  |false =>
   rw[Zz bx] at h ⊢;show xG ds ψ ys Q h ∅ q
def IS(ρ:cM)(Q:D->Prop)(w:wE (cK nl fr it g t e) ρ Q):FA nl fr (wI it) (ug g) (wT t) (wE e) ρ Q:=by
 obtain⟨d,h,q⟩:=w;obtain⟨ds,e1,h⟩:=bnd h;show⟨ds,e1,?_⟩;by_cases hl:ds.length<=lP
 .rw [Z_ hl] at h;obtain⟨ys,e2,rfl⟩:=qM h;show xG ds [] ys Q e2 (by rw[gc,jy,qc];show hl) (by simpa using q)
 .rw [Zz hl] at h;cases h
abbrev UA(X:Cx)(nl:Nat)(tg:av)(g:GEF):Prop:=PG4 X nl tg (ug g)
abbrev UB(X:Cx)(ifs:List av)(t:TF):Prop:=NQ X ifs (wT t)
def cG(h:PG4 X nl tg g)(c:∀d ρ Q,g' d ρ Q->g d ρ Q):PG4 X nl tg g':=NO h λ_ _ _ _ Iu=>by obtain⟨S,ρ,d,Q3,hl,fc,sl,dn,hg,k⟩:=Iu;show⟨S,ρ,d,Q3,hl,fc,sl,dn,c d ρ Q3 hg,k⟩
def fD(nd:X.N.Nodup)(hil:i<nl)(hi:X.N[i]?=aa x:=by rfl)(hx:Loc X.env.scope x:=by walk_at "0")(hfx:Zq X x:=by walk_at "2"):UA X nl (.Name x ν) (g1 i):=cG (Tn nd hil hi hx hfx) λd ρ Q Ir=>by obtain⟨ρ',e,q⟩:=Ir;cases e;show q
theorem LO(h:yV d=aa p):d=.tup [p.1,p.2]:=by
 cases d<;>first|(cases h;done)|skip
 rename_i l
 cases l with
 |nil=>cases h
 |cons a l =>
  cases l with
  |nil=>cases h
  |cons b l =>
   cases l with
   |nil=>cases h;rfl
   |cons c l=>cases h
def UC(hc:X.calm=ae)(nd:X.N.Nodup)(hil:i<nl)(hjl:j<nl)(hi:X.N[i]?=aa x:=by rfl)(hj:X.N[j]?=aa y:=by rfl)(hx:Loc X.env.scope x:=by walk_at "0")(hfx:Zq X x:=by walk_at "2")(hy:Loc X.env.scope y:=by walk_at "0")(hfy:Zq X y:=by walk_at "2")
  (hn:Q0j X x y px py:=by rfl) (hst:Q0i X x y px py:=by rfl)
  (hs1:gV X x y px py:=by rfl) (hs2:Q0h X y py:=by rfl):
  UA X nl (.Tuple [.Name x px,.Name y py] kk ν) (g2 i j):=cG (Tj hc nd hil hjl hi hj hx hfx hy hfy hn hst hs1 hs2) λd ρ Q Iq=>by
 obtain⟨ρ',e,q⟩:=Iq;obtain⟨p,ep,rfl⟩:=qM e;rw[LO ep];show q
def lD:UB X [] dJ:=λπ s σ H Q I Ip=>by obtain⟨S,ρ,Q3,fc,sl,⟨_,e,q⟩,k⟩:=Ip;cases e;show Kv π s σ H Q I ⟨S,ρ,Q3,fc,sl,q,k⟩
def m9(h:x8 X c t):UB X [c] t:=Th h
section
variable{ls fs:Q0g}{fr:List Nat}{sc:gd}{tg iter elt:av}{ifs:List av}{ν:br}{it:AF}{g:GEF}{t:TF}{e:EF}
theorem jB(hc:X.calm=ae)(hi:PI4 X tg iter it)
  (hg:∀cl C pn ex s H,(blk X (ls++fs) sc cl C pn ex s H).N.Nodup->UA (blk X (ls++fs) sc cl C pn ex s H) ls.length tg g) (hf:∀cl C pn ex s H,UB (blk X (ls++fs) sc cl C pn ex s H) ifs t) (he:∀cl C pn ex s H,bR (blk X (ls++fs) sc cl C pn ex s H) elt e)
  (B:YQ X.env.scope.names sc X.N ls fs fr=ae:=by rfl) (hs:Zo X iter:=by intro _;rfl):j6 X (.ListComp elt [⟨tg,iter,ifs,0⟩] sc ν) (cK ls.length fr it g t e):=cF (Tg hc hi hg hf he B hs) IS
variable{i:Nat}{x:aj}{spos pos':br}
theorem nX(nd:X.N.Nodup)(hc:X.calm=ae)(hi:PI4 X tg iter it)
  (hg:∀cl C pn ex s H,(blk X (ls++fs) sc cl C pn ex s H).N.Nodup->UA (blk X (ls++fs) sc cl C pn ex s H) ls.length tg g) (hf:∀cl C pn ex s H,UB (blk X (ls++fs) sc cl C pn ex s H) ifs t) (he:∀cl C pn ex s H,bR (blk X (ls++fs) sc cl C pn ex s H) elt e)
  (hx0:X.N[i]?=aa x:=by rfl) (hx:X.env.scope.names.lookup x=aa .local:=by rfl) (hsw:Rv X elt tg iter ifs sc ν x pos' spos:=by rfl)
  (B:YQ X.env.scope.names sc X.N ls fs fr=ae:=by rfl) (hs:Zo X iter:=by intro _;rfl):tL X (.Assign [.Name x pos'] (.ListComp elt [⟨tg,iter,ifs,0⟩] sc ν) spos) (bP i (cK ls.length fr it g t e)) :=
 cS (NR nd hc hi hg hf he hx0 hx hsw B hs) λE ρ w=>by
  unfold wS bP at w;unfold ve
  cases h:cK ls.length fr it g t e (gQ ρ) with
  |none=>rw[h] at w;show w.elim
  |some d=>rw[h] at w;show IS _ _ ⟨d,h,w⟩
end
end
section
variable{X:Cx}
def cO(h:PO3 X e t)(c:∀ρ Q,t' ρ Q->t ρ Q):PO3 X e t':=λπ s σ H Q I Io=>by obtain⟨S,ρ,Q3,fc,sl,ht,k⟩:=Io;show h π s σ H Q I ⟨S,ρ,Q3,fc,sl,c ρ Q3 ht,k⟩
def no4:PO4 X af u3:=cO Lf λ_ _ Im=>by obtain⟨_,e,q⟩:=Im;cases e;show q
def po4(h:bR X e f):PO4 X (aa e) (oE f):=cO (po3 h) λρ Q Il=>by
 obtain⟨o,e,q⟩:=Il;obtain⟨d,ed,e⟩:=bnd e;obtain⟨i,ei,rfl⟩:=qM e;show⟨d,ed,?_⟩;cases d<;>first|cases ei;done|skip
 cases ei;show q
def sl4{e:av}{lo hi:Option av}{p2 ν:br}{f:EF}{fl fh:OF}(he:bR X e f)(hl:PO4 X lo fl)(hh:PO4 X hi fh):bR X (.Subscript e (.Slice lo hi af p2) ν) (u4 f fl fh):=cE (sl3 he hl hh) λρ Q Ik=>by
 obtain⟨r,e,q⟩:=Ik;obtain⟨d,ed,e⟩:=bnd e;obtain⟨l,el,e⟩:=bnd e;obtain⟨h,eh,e⟩:=bnd e;show⟨d,ed,l,el,h,eh,?_⟩;cases d<;>first|cases e;done|skip
 all_goals (cases e;show q)
def px4(h:bR X e f):LN X e (pM f):=cX (px3 h) λρ Q Ij=>by
 obtain⟨p,e,q⟩:=Ij;obtain⟨d,ed,e⟩:=bnd e;show⟨d,ed,?_⟩;by_cases hi:d.A1=ae
 .rw [Z_ hi] at e;cases e;show⟨hi,q⟩
 .rw [Zz hi] at e;cases e
def rX(h:bR X e f):LN X e (b8 f):=cX (Nl h) λρ Q Ii=>by obtain⟨p,e,q⟩:=Ii;obtain⟨d,ed,e⟩:=bnd e;cases e;show⟨d,ed,q⟩
def IT(h:oB o=aa ds):o=aa (.ow (.lst ds)):=by
 unfold oB at h;split at h
 .cases h;rfl
 .cases h
def CK(f:List D->D->(List D->D->Prop)->Prop)(m:List D->D->Option (List D×D)):Prop:=∀ds d q (Q:List D->D->Prop),m ds d=aa q->Q q.1 q.2->f ds d Q
def uv(h:CK f m)(ρ:bT)(Q:bT->D->Prop)(w:wX (tQ i m x) ρ Q):nk i f (wX x) ρ Q:=by obtain⟨r,e,q⟩:=w;obtain⟨ds0,e0,e⟩:=bnd e;obtain⟨p,ep,e⟩:=bnd e;obtain⟨ds,e1,e⟩:=bnd e;obtain⟨z,ez,rfl⟩:=qM e;have o0:=IT e0;have o1:=IT e1;show⟨by rw[o0];trivial,p,ep,?_⟩;show(match p.1[i]? with|some (.ow (.lst ds))=>f ds p.2 λds' r=>Q (p.1.set i (.ow (.lst ds'))) r|_=>False);rw[o1];show h ds p.2 z _ ez q
def N6:CK vd mE:=λds d q Q e k=>by
 unfold mE at e;by_cases h:ds.length<lP
 .rw [Z_ h] at e;cases e;show⟨by rw[gc];show h,k⟩
 .rw [Zz h] at e;cases e
def N7:CK vc V2:=λds d q Q e k=>by
 cases d<;>first|cases e;done|skip
 rename_i i;have e:(if i.natAbs<9223372036854775808 then(O7 ds.length i).bind λj=>(ds[j]?).map λd=>(ds.eraseIdx j,d) else af)=aa q:=e;by_cases h:i.natAbs<9223372036854775808
 .rw [Z_ h] at e;obtain⟨j,ej,e⟩:=bnd e;obtain⟨d,ed,rfl⟩:=qM e;have ej:NA ds.length i=aa j:=ej;show⟨⟨by lia,by lia⟩,?_⟩;show(match NA ds.length i with|some j=>(match ds[j]? with|some d=>Q (ds.eraseIdx j) d|none=>False)|none=>False);rw[ej];dsimp only;rw[ed];show k
 .rw [Zz h] at e;cases e
def N8:CK vk MF:=λds d q Q e k=>by
 cases d<;>first|cases e;done|skip
 rename_i es;have e:(if ds.length+es.length<=lP then aa (ds++es,D.non) else af)=aa q:=e;by_cases h:ds.length+es.length<=lP
 .rw [Z_ h] at e;cases e;show⟨by rw[gc];show h,k⟩
 .rw [Zz h] at e;cases e
section
variable{i:Nat}{x:aj}{e:av}{p apos cpos:br}{f:XF}
def UD(he:LN X e f)(hN:X.N[i]?=aa x:=by rfl)(hv:x6 X.env.scope x:=by walk_at "1")(hd:Zu x:=by decide)(hcd:Zt x:=by decide)
  (hbase:attributeBase (.Name x p) "append" X.env (eval (.Name x p) X.env)=eval (.Name x p) X.env:=by rfl)
  (hfew:Zp X cpos e:=by rfl)
  (hline:Q0k apos cpos:=by rfl) (hs:Zs X e []:=by rfl):
  LN X (.Call (.Attribute (.Name x p) "append" apos) [e] [] cpos) (tQ i mE f):=cX (Mi he hN hv hd hcd hbase hfew hline hs) (uv N6)
def Ih(he:LN X e f)(hN:X.N[i]?=aa x:=by rfl)(hv:x6 X.env.scope x:=by walk_at "1")(hd:Zu x:=by decide)(hcd:Zt x:=by decide)
  (hbase:attributeBase (.Name x p) "pop" X.env (eval (.Name x p) X.env)=eval (.Name x p) X.env:=by rfl)
  (hfew:Zp X cpos e:=by rfl)
  (hline:Q0k apos cpos:=by rfl) (hs:Zs X e []:=by rfl):
  LN X (.Call (.Attribute (.Name x p) "pop" apos) [e] [] cpos) (tQ i V2 f):=cX (Mf he hN hv hd hcd hbase hfew hline hs) (uv N7)
def Y9(he:LN X e f)(hN:X.N[i]?=aa x:=by rfl)(hv:x6 X.env.scope x:=by walk_at "1")(hd:Zu x:=by decide)(hcd:Zt x:=by decide)
  (hbase:attributeBase (.Name x p) "extend" X.env (eval (.Name x p) X.env)=eval (.Name x p) X.env:=by rfl)
  (hfew:Zp X cpos e:=by rfl)
  (hline:Q0k apos cpos:=by rfl) (hs:Zs X e []:=by rfl):
  LN X (.Call (.Attribute (.Name x p) "extend" apos) [e] [] cpos) (tQ i MF f):=cX (YU he hN hv hd hcd hbase hfew hline hs) (uv N8)
end
def gG:oY X [] eZ:=zm Mu λ_ _ w=>w
theorem Sq(E:DE)(ρ:bT)(w:wS (aM f g) E ρ):vf (wS f) (wS g) E ρ:=by
 unfold wS aM at w;unfold vf wS
 cases h:f ρ with
 |nx ρ'=>rw[h] at w;show w
 |rt d=>rw[h] at w;show w
 |no=>rw[h] at w;show w
 |ex c=>rw[h] at w;show w
def bA{st:cf}{Θ:List cf}{f g:SF}(h1:tL X st f)(h2:oY X Θ g):oY X (st::Θ) (aM f g):=zm (Ms h1 h2) Sq
def aR{st:cf}{f:SF}(h1:tL X st f):oY X [st] f:=Uh h1
theorem c9(h:bR X e f):tL X (.Return (aa e) ν) (cB f):=cS (Mp h) λE ρ w=>by
 unfold wS cB at w
 cases h:f (bK ρ) with
 |none=>rw[h] at w;show w.elim
 |some d=>rw[h] at w;show⟨d,h,w⟩
theorem fQ(hc:x8 X c t)(ha:oY X a f)(hb:oY X b g):tL X (.If c a b ν) (iT t f g):=cS (Mm hc ha hb) λE ρ w=>by
 unfold wS iT at w
 cases h:t (bK ρ) with
 |none=>rw[h] at w;show w.elim
 |some c =>
  rw[h] at w;show⟨c,h,?_⟩
  cases c with
  |true=>rw[Z_ rfl];show w
  |false=>rw[Zz bx];show w
section
variable{i:Nat}{x:aj}{e:av}{f:EF}{ν pos':br}
theorem dH(hN:X.N.Nodup)(he:bR X e f)(hi:X.N[i]?=aa x:=by rfl)(hx:Loc X.env.scope x:=by walk_at "0")(hs:Si X e x pos' ν:=by rfl)(hf:Zq X x:=by walk_at "0"):
  tL X (.Assign [.Name x pos'] e ν) (bP i f):=cS (Nu hN he hi hx hs hf) λE ρ w=>by
 unfold wS bP at w
 cases h:f (gQ ρ) with
 |none=>rw[h] at w;show w.elim
 |some d=>rw[h] at w;show⟨d,h,w⟩
theorem IU(hN:X.N.Nodup)(he:j6 X e f)(hi:X.N[i]?=aa x:=by rfl)(hx:Loc X.env.scope x:=by walk_at "0")(hs:Si X e x pos' ν:=by rfl)(hf:Zq X x:=by walk_at "0"):
  tL X (.Assign [.Name x pos'] e ν) (oC i f):=cS (Nr hN he hi hx hs hf) λE ρ w=>by
 unfold wS oC at w
 cases h:f (gQ ρ) with
 |none=>rw[h] at w;show w.elim
 |some d=>rw[h] at w;show⟨d,h,w⟩
theorem So(hN:X.N.Nodup)(he:j6 X e f)(hi:X.N[i]?=aa x:=by rfl)(hx:Loc X.env.scope x:=by walk_at "0")(hs:Si X e x pos' ν:=by rfl)(hf:Zq X x:=by walk_at "0"):
  tL X (.Assign [.Name x pos'] e ν) (sP i f):=cS (Ue hN he hi hx hs hf) λE ρ w=>by
 unfold wS sP at w
 cases h:f (bK ρ) with
 |none=>rw[h] at w;show w.elim
 |some d =>
  rw[h] at w;dsimp only at w;by_cases hl:mF d=ae
  .rw [Z_ hl] at w;show⟨d,h,?_,w⟩;cases d<;>first|show hl|cases hl
  .rw [Zz hl] at w;show w.elim
theorem Sn(hN:X.N.Nodup)(he:j6 X e f)(hi:X.N[i]?=aa x:=by rfl)(hx:Loc X.env.scope x:=by walk_at "0")(hs:Si X e x pos' ν:=by rfl)(hf:Zq X x:=by walk_at "0"):
  tL X (.Assign [.Name x pos'] e ν) (mB i f):=cS (Tc hN he hi hx hs hf) λE ρ w=>by
 unfold wS mB at w
 cases h:f (bK ρ) with
 |none=>rw[h] at w;show w.elim
 |some d =>
  rw[h] at w;dsimp only at w;by_cases hl:mF d=ae
  .rw [Z_ hl] at w;show⟨d,h,?_,w⟩;cases d<;>first|show hl|cases hl
  .rw [Zz hl] at w;show w.elim
def UE(hN:X.N.Nodup)(hi:X.N[i]?=aa x:=by rfl)(hx:Loc X.env.scope x:=by walk_at "0")(hs:e_ (.Dict [] [] p) (aa (.Name x pos')) ν.line X.env=pure ag:=by rfl)(hf:Zq X x:=by walk_at "0"):
  tL X (.Assign [.Name x pos'] (.Dict [] [] p) ν) (DD i):=cS (TU hN hi hx hs hf) λE ρ w=>w
end
theorem AH(he:LN X e f)(hs:e_ e af ν.line X.env=pure ag:=by rfl):tL X (.Expr e ν) (sX f):=cS (Ub he hs) λE ρ w=>by
 unfold wS sX at w
 cases h:f ρ with
 |none=>rw[h] at w;show w.elim
 |some d=>rw[h] at w;show⟨d,h,w⟩
theorem ZA(he:LN X e f)(hk:bR X k fk)
  (hN:X.N[i]?=aa x:=by rfl) (hv:x6 X.env.scope x:=by walk_at "1") (hd:Zu x:=by decide) (hcd:Zt x:=by decide)
  (ha:∀v,assign (.Subscript (.Name x p) k pos') X.env v=(do
   let ov <- holding [v] (eval (.Name x p) X.env)
   let iv <- holding [v,ov] (eval k X.env)
   standAt pos'
   holding [v,ov,iv] (setItem ov iv v)
   release [v,ov,iv] []):=by intro _;rfl)
  (hs:swapsWithSole [.Subscript (.Name x p) k pos'] e ν.line X.env=pure ag:=by rfl) (hw:swappedStores [.Subscript (.Name x p) k pos'] e X.env=pure af:=by rfl)
  (h1:(di [.Subscript (.Name x p) k pos'] X.env).map (·.2)=[assign (.Subscript (.Name x p) k pos') X.env]:=by rfl):
  tL X (.Assign [.Subscript (.Name x p) k pos'] e ν) (DF i f fk):=cS (put3 he hk hN hv hd hcd ha hs hw h1) λE ρ w=>by
 unfold wS DF at w
 cases h:((f ρ).bind λp=>(oB p.1[i]?).bind λds=>(fk (bK p.1)).bind λkd=>(asInt kd).bind λkk=>(O7 ds.length kk).map λj=>p.1.set i (.ow (.lst (ds.set j p.2)))) with
 |none=>rw[h] at w;show w.elim
 |some ρ' =>
  rw[h] at w;obtain⟨q,eq,h⟩:=bnd h;obtain⟨ds,ed,h⟩:=bnd h;obtain⟨kd,ek,h⟩:=bnd h;obtain⟨kk,e2,h⟩:=bnd h;obtain⟨j,ej,rfl⟩:=qM h;have o:=IT ed;show⟨q,eq,by unfold vb;rw[o];trivial,kd,ek,?_⟩;cases kd<;>first|cases e2;done|skip
  cases e2;have ej:NA ds.length kk=aa j:=ej
  show(match q.1[i]?,D.int kk with
   |some (.ow (.lst ds)),.int k=>(match NA ds.length k with|some j=>E.nx (q.1.set i (.ow (.lst (ds.set j q.2))))|none=>False)
   |_,_=>False)
  rw[o];dsimp only;rw[ej];show w
def N9(h:u5 o=aa p):o=aa (.ow (.kA p.1 p.2)):=by
 unfold u5 at h;split at h
 .cases h;rfl
 .cases h
theorem Tv(hu:X.A.units+1<cn)(he:LN X e f)(hk:bR X k fk)
  (hN:X.N[i]?=aa x:=by rfl) (hv:x6 X.env.scope x:=by walk_at "1") (hd:Zu x:=by decide) (hcd:Zt x:=by decide)
  (hs:e_ e (aa (.Subscript (.Name x p) k pos')) ν.line X.env=pure ag:=by rfl):
  tL X (.Assign [.Subscript (.Name x p) k pos'] e ν) (JS i f fk):=cS (Td hu he hk hN hv hd hcd hs) λE ρ w=>by
 unfold wS JS at w;cases h:((f ρ).bind λp=>(u5 p.1[i]?).bind λkd=>(fk (bK p.1)).bind λkv=>(uY kv).bind λkk =>
  if(kC kd.1 kd.2 kk).isNone=ae/\kd.2.length<lP then aa (p.1.set i (.ow (.kA (kd.1++[kk]) (kd.2++[p.2])))) else af) with
 |none=>rw[h] at w;show w.elim
 |some ρ' =>
  rw[h] at w;obtain⟨q,eq,h⟩:=bnd h;obtain⟨kd,ed,h⟩:=bnd h;obtain⟨kv,ek,h⟩:=bnd h;obtain⟨kk,e2,h⟩:=bnd h;have o:=N9 ed;by_cases hc:(kC kd.1 kd.2 kk).isNone=ae/\kd.2.length<lP
  .rw [Z_ hc] at h;cases h;show⟨q,eq,by rw[o];trivial,kv,ek,?_⟩;have e3:FC kv=aa kk:=by cases kv<;>first|show e2|cases e2
   show(match q.1[i]?,FC kv with
    |some (.ow (.kA ks ds)),aa k=>(kE ks ds k=af/\ds.length<bg)/\E.nx (q.1.set i (.ow (.kA (ks++[k]) (ds++[q.2]))))
    |_,_=>False)
   rw[o,e3];show⟨⟨?_,by rw[gc];show hc.2⟩,w⟩;have:=hc.1
   cases hl:kC kd.1 kd.2 kk with
   |none=>show hl
   |some d=>rw[hl] at this;cases this
  .rw [Zz hc] at h;cases h
def zo(h:YN X tg g)(c:∀d ρ Q,g' d ρ Q->g d ρ Q):YN X tg g':=NO h λ_ _ _ _ Ig=>by obtain⟨H₀,S,w,ρ,G,d,Q3,hl,st,dn,hg,k⟩:=Ig;show⟨H₀,S,w,ρ,G,d,Q3,hl,st,dn,c d ρ Q3 hg,k⟩
def qO(hN:X.N.Nodup)(hi:X.N[i]?=aa x:=by rfl)(hx:Loc X.env.scope x:=by walk_at "0")(hf:Zq X x:=by walk_at "0"):YN X (.Name x ν) (wG (GH i)) :=
 zo (Tz hN hi hx hf) λd ρ Q Tu=>by obtain⟨ρ',e,q⟩:=Tu;cases e;show q
def LP(hc:X.calm=ae)(hN:X.N.Nodup)(hi:X.N[i]?=aa x:=by rfl)(hj:X.N[j]?=aa y:=by rfl)(hx:Loc X.env.scope x:=by walk_at "0")(hy:Loc X.env.scope y:=by walk_at "0")
  (hf:Zq X x:=by walk_at "0") (hf2:Zq X y:=by walk_at "0")
  (hn:Q0j X x y px py:=by rfl) (hst:Q0i X x y px py:=by rfl)
  (hs1:gV X x y px py:=by rfl) (hs2:Q0h X y py:=by rfl):
  YN X (.Tuple [.Name x px,.Name y py] k ν) (wG (PK i j)):=zo (Tx hc hN hi hj hx hy hf hf2 hn hst hs1 hs2) λd ρ Q Tt=>by
 obtain⟨ρ',e,q⟩:=Tt;obtain⟨p,ep,rfl⟩:=qM e;rw[LO ep];show q
theorem yR(hc:X.calm=ae)(hp:Dz (au X.Ω X.w) X.A X.env X.xe)(hi:PI4 X tg iter it)(hg:YN X tg (wG g))(hb:oY X body b)
  (hs:Zo X iter:=by intro _;rfl):tL X (.For tg iter body [] ν) (jV it g b):=cS (Lx hc hp hi hg hb hs) λE ρ w=>by
 unfold wS jV at w
 cases h:it (gQ ρ) with
 |none=>rw[h] at w;show w.elim
 |some ds =>
  rw[h] at w;show⟨ds,h,λi ρ'=>wS (i8 g b (ds.drop i)) E ρ',(by show wS (i8 g b (ds.drop 0)) E ρ;rw[oy];show w),λi d ρ' hd iv=>?_,λρ' iv=>?_⟩
  .have hi:i<ds.length:=(cz.mp hd).1;have e1:ds[i]=d:=(cz.mp hd).2;have iv:wS (i8 g b (ds.drop i)) E ρ':=iv;rw[ma hi,e1] at iv;unfold wS i8 at iv
   cases hg:g d ρ' with
   |none=>rw[hg] at iv;show iv.elim
   |some ρ1 =>
    rw[hg] at iv;dsimp only at iv;show⟨ρ1,hg,?_⟩;unfold wS
    cases hb:b ρ1 with
    |nx ρ2=>rw[hb] at iv;dsimp only;rw[hb];show iv
    |rt d=>rw[hb] at iv;dsimp only;rw[hb];show iv
    |no=>rw[hb] at iv;dsimp only;rw[hb];show iv
    |ex c=>rw[hb] at iv;dsimp only;rw[hb];show iv
  .have iv:wS (i8 g b (ds.drop ds.length)) E ρ':=iv;rw[a2q] at iv;show iv
end
theorem zy{P:bh}{w:az}{K:ao}{mg:Q0d}{ω:ba}{x qual:aj}{st:cf}{f:ah}{fd:gg}{N ps:Q0g}{k n np:Nat}{b:SF}(F:X7 K x qual st f fd)(S:hZ N ps (bD st))(hn:N.length=n)(hp:ps.length=np)
  (hbody:∀(cdv:ai) (A:bu) (Γ:List d_) (s:ak) (H:Hp) (E:XK),gF k (A.deeper (envOfC qual (bD st) s.heap.objs.size f cdv)) ->
   oY (mX eR P w K mg ω N qual (bD st) f cdv A Γ s H E).RI (f9 st) b):lA P w K mg ω eR (k+1) f fd ps (gH K (dE n np b)):=by
 subst hn hp;show Nn F S (λds Q ⟨d,e,q⟩=>?_) λcdv A Γ s H E hr=>⟨_,hbody cdv A Γ s H E hr,λds Q ⟨d,e,q⟩=>?_⟩
 .unfold dE at e;by_cases h:ds.length=ps.length
  .exact h
  .rw [Zz h] at e;cases e
 .unfold dE at e;by_cases h:ds.length=ps.length
  .rw [Z_ h] at e;have e2:kO N ds=dW N.length ds:=rfl;unfold wS;rw[e2]
   cases hb:b (dW N.length ds) with
   |rt d'=>rw[hb] at e;cases e;show q
   |nx ρ=>rw[hb] at e;cases e;show q
   |no=>rw[hb] at e;cases e
   |ex c=>rw[hb] at e;cases e
  .rw [Zz h] at e;cases e
theorem xH{P:bh}{w:az}{K:ao}{mg:Q0d}{ω:ba}{x:aj}{st:cf}{N ps:Q0g}{k n np:Nat}{b:SF}(D:Df K mg x st ps)
  (h:∀{f:ah} {cdv:ai} {A:bu} {Γ:List d_} {s:ak} {H:Hp} {E:XK},gF k (A.deeper (envOfC x (bD st) s.heap.objs.size f cdv))->N.Nodup->oY (mX eR P w K mg ω N x (bD st) f cdv A Γ s H E).RI (f9 st) b)
  (S:hZ N ps (bD st):=by show⟨rfl,rfl,rfl,by decide+kernel,rfl,by decide+kernel,by decide+kernel⟩) (hn:N.length=n:=by rfl) (hp:ps.length=np:=by rfl):Cl P w K mg ω eR (k+1) x ps (gH K (dE n np b)):=by
 obtain⟨_,F,m,q⟩:=D;show⟨zy F S hn hp λ_ _ _ _ _ _ hr=>h hr S.nd,m,F.kp,q⟩
def Ts{P:bh}{w:az}{K:ao}{mg:Q0d}{ω:ba}{k:Nat}{f:ah}{fd:gg}{ps:Q0g}:lA P w K mg ω eR k f fd ps (gH K λ_=>.no) :=
 ⟨λ_ _ _ _ h=>(by obtain⟨_,_,_,_,_,⟨_,e,_⟩,_⟩:=h;cases e),λ_ _ _ _ _ _ _ _ _ _ _ _ _ h=>(by obtain⟨_,_,_,_,_,⟨_,e,_⟩,_⟩:=h;cases e)⟩
def nn4{P:bh}{w:az}{K:ao}{mg:Q0d}{ω:ba}{k:Nat}{x:aj}{st:cf}{ps:Q0g}(D:Df K mg x st ps):Cl P w K mg ω eR k x ps (gH K λ_=>.no):=by obtain⟨_,F,m,q⟩:=D;show⟨Ts,m,F.kp,q⟩
section
variable{X:Cx}{π:Q0b}{σ:L2.St}{H:Hp}
theorem FK(I:Φ X π σ H s)(rx:Ψ x v)(e:x=.bl k\/(∃p xs,x=.ref p/\(fP X.K H p xs\/fX X.K H p xs)/\k=!xs.isEmpty))
  (q:∀tk,Q k {s with toks:=tk}):ay (au X.Ω X.w) A (truthy v) Q E s:=by
 have hs:bg=16777216:=gc;rcases e with rfl|⟨p,xs,rfl,hx,rfl⟩
 .cases rx;show kl (q s.toks)
 .cases rx;rcases hx with hx|hx
  .obtain ⟨ι,r,pl,hz⟩:=I.list hx;have hlen:=r.length;show a0c pl.isList (by simp only[ck];lia) (by rw[l0 r];show q _)
  .obtain ⟨ι,r,pl,hz⟩:=I.tuple hx;have hlen:=r.length;show a1z pl (by simp only[ck];lia) (by rw[l0 r];show q _)
def TrV(K:ao)(H:Hp)(x:V)(k:Bool):Prop:=x=.bl k\/(∃p xs,x=.ref p/\(fP K H p xs\/fX K H p xs)/\k=!xs.isEmpty)
def OA(h:j<n):(de n).drop j=j::(de n).drop (j+1):=by
 have hl:j<(de n).length:=by rw[oq];show h
 rw[ma hl,List.getElem_range]
section
variable{it:ah}{fp wr:List ah}{n:Nat}{P:Nat->ai->Prop}{St:Nat->ba->Prop}{R:xb->ak->Prop}{tr:Nat->Bool}
theorem AI(W:Walks X.Ω X.w X.A.in1 it fp wr n P St)(hf:∀b∈wr,oU X π H b)(ht:∀j v,P j v ->∃x,Ψ x v/\TrV X.K H x (tr j)):
  ∀(m j:Nat) (st:ak),m+j=n->Φ X π σ H st->St j st.heap->(∀st',Φ X π σ H st'->R (.ok (.ret (.bool (((de n).drop j).all tr)))) st')->ml (au X.Ω X.w) X.A (.builtin "all.loop" ⟨[.ref it],[]⟩) R st
 |0,j,st,hj,I,hS,k=>by
  obtain rfl:j=n:=by lia
  show ra (a1o) ?_;rw[xp xk];show aq (W.done st _ _ hS λh2 t2 kp=>aq (jj (a_ ?_)));have:=k _ (TY (t':=t2) I kp hf)
  rwa [tq (by simp)] at this
 |m+1,j,st,hj,I,hS,k=>by
  have hjn:j<n:=by lia
  show ra (a1o) ?_;rw[xp xk];show aq (W.item j st _ _ hjn hS λv h2 t2 pv Hw kp=>?_);have I2:Φ X π σ H {st with heap:=h2,toks:=t2}:=TY (t':=t2) I kp hf;obtain⟨x,rx,hx⟩:=ht j v pv;rw[OA hjn,qm] at k;show aq (h_ (FK I2 rx hx λt3=>aq (wpAny_letGo ?_)));have I3:Φ X π σ H {st with heap:=h2,toks:=t3}:=I2.tok t3
  cases hb:tr j with
  |true =>
   rw[hb,Gr] at k;rw[Z_ rfl];show a_ ⟨Di xk _,AI W hf ht m (j+1) _ ∅ I3 Hw k⟩
  |false =>
   rw[hb,Gu] at k;rw[Zz bx];show aq (jj (a_ (k _ I3)))
end
def zx(f:List Bool->Bool)(K:ao):List V->Hp->VK->Prop:=λxs H Q=>∃a ys bs,xs=[.ref a]/\H a=aa (.lst ys)/\bs.length=ys.length/\(∀(j:Nat) (y:V) (b:Bool),ys[j]?=aa y->bs[j]?=aa b->TrV K H y b)/\Q (.bl (f bs)) H
def OB(hc:X.calm=ae):gM X (.builtin "all") (zx (λbs=>bs.all id) X.K):=by
 intro π s σ H xs us Q I r h;obtain⟨a,ys,bs,rfl,ha,hl,ht,q⟩:=h;obtain⟨u,rfl,ru⟩:=vals1 r;cases ru;obtain⟨ι,rv,p,hz⟩:=I.list (fP.of ha);have hlt:a<s.heap.objs.size:=by obtain⟨o,n,e,_⟩:=p;show b_ e
 have hn:ι.length=ys.length:=rv.length.symm;have ht2:∀j v,ι.toArray[j]?=aa v ->∃x,Ψ x v/\TrV X.K H x (bs.getD j ae):=λj v e=>by
  have e1:ι[j]?=aa v:=by simpa using e
  have hj:j<ys.length:=by have:=(cz.mp e1).1;lia
  obtain⟨u,e2,ru⟩:=rv.get (cj hj);rw[e1] at e2;cases e2;show⟨_,ru,ht j _ _ (cj hj) ?_⟩;rw[ox,cj ∅];rfl
 show call_function_tree (F.kind_all) F.plain_all F.entry_all (F.args_all1 _) ?_;unfold Builtin.«all»;show aq (m:=oneArg "all" _) (a_ (aq (wq p.isList (a_ ⟨Di xk _,?_⟩))));have hfr:H s.heap.objs.size=af:=I.hok.fresh (bp _);have I1:Φ X π σ H {s with heap:=s.heap.push {cls:=.type "list_iterator",data:=.fields #[.ref a,rawInt 0]} }:=I.kept (t':=s.toks) λb o e=>dg _ e;show AI (X:=X) (π:=π) (σ:=σ) (H:=H) (tr:=λj=>bs.getD j ae) (a0K (A:=X.A.in1) (show X.A.in1.handled=af from I.ok.hd hc) s.heap.objs.size a (fz hlt) ι.toArray) (λb hb=>?_) ht2 ι.toArray.size 0 _ rfl I1
  ⟨⟨_,gf _ rfl,rfl,rfl⟩,p.isList.at λo e=>dg _ e⟩ λst' I'=>?_
 .cases cu.mp hb;show I.HL (bp _) hfr
 .refine ⟨.bl _,H,I',rfl,?_⟩;rw[oy,show ι.toArray.size=bs.length by simp[hn,hl],range_all];show q
theorem Bp{K:ao}{S:ah->Prop}{H:Hp}:∀{es:List D} {ys:List V} {bs:List Bool},aV K S H es ys->qX es=aa bs->bs.length=ys.length /\∀(j:Nat) (y:V) (b:Bool),ys[j]?=aa y->bs[j]?=aa b->TrV K H y b
 |[],ys,bs,dn,h=>by simp only[aV] at dn;subst dn;cases h;show⟨rfl,λj y b e=>by simp at e⟩
 |d::es,ys,bs,dn,h=>by
  obtain⟨v,r,rfl,h1,h2⟩:=dn.bN;obtain⟨b,eb,h⟩:=bnd h;obtain⟨bs',e2,rfl⟩:=qM h;obtain⟨hl,ih⟩:=Bp h2 e2;show⟨by simp[hl],λj y c ey ec=>?_⟩
  cases j with
  |zero =>
   simp at ey ec;subst ey ec;cases d<;>first|cases eb;done|skip
   .cases eb;symm at h1;show .inl h1
   .cases eb;symm at h1;obtain⟨a,xs,rfl,ha,da⟩:=h1;show .inr ⟨a,xs,rfl,.inr (fX.of ha),by rw[<- da.empty]⟩
   .cases eb;symm at h1;obtain⟨a,xs,rfl,ha,_,da⟩:=h1;show .inr ⟨a,xs,rfl,.inl (fP.of ha),by rw[<- da.empty]⟩
  |succ j=>show ih j y c (by simpa using ey) (by simpa using ec)
def trF(f:List Bool->Bool):F1
 |[.lst es],Q=>∃bs,qX es=aa bs/\Q (.bl (f bs))
 |_,_=>False
theorem Xe{K:ao}{f:List Bool->Bool}:C3 K (zx f K) (trF f):=by
 intro S H xs ds Q3 Q fc hd hf k
 match ds,hf with
 |[.lst es],⟨bs,eb,q⟩ =>
  obtain⟨v,r,rfl,h1,h2⟩:=hd.bN;simp only[aV] at h2;subst h2;symm at h1;obtain⟨a,ys,rfl,ha,sa,da⟩:=h1;obtain⟨hl,ht⟩:=Bp da eb;show⟨a,ys,bs,rfl,ha,hl,ht,k _ H _ (ξ.refl H) (by symm) q⟩
def OC{p ν:br}{e:av}{t:AF}(hc:X.calm=ae)(hm:X.mg "all"=af)(ha:yP X [e] t)(hg:Gl X "all":=by rfl)(he:Zs X e []:=by rfl):bR X (.Call (.Name "all" p) [e] [] ν) (eP allM t) :=
 cE (CG (OB hc) Xe a3O hg hm ha (by decide) (by decide) he (by rfl)) (FI λds d Q e q=>by
  unfold allM at e;split at e
  .obtain ⟨bs,eb,rfl⟩:=qM e;show⟨bs,eb,q⟩
  .cases e)
end
end L4
namespace L3
open PySem.Spec PyProof.Rows L2
end L3
namespace L4
open PySem.Spec PyProof.Rows L2 L3
open PySem.W
noncomputable def told(lt:Nat->Nat->Bool){α:Type}:ny α->α
 |.ret a=>a
 |.ask i j k=>told lt (k (lt i j))
theorem jO{α β:Type}(f:α->ny β):∀t:ny α,told lt (t.bind f)=told lt (f (told lt t))
 |.ret _=>rfl
 |.ask i j k=>jO f (k (lt i j))
section
variable{lt:Nat->Nat->Bool}
def Up(lt:Nat->Nat->Bool)(p:Array Nat)(k:Nat):Prop:=∀i j,i<j->j<k->lt (p.getD j 0) (p.getD i 0)=ag
def PF(lt:Nat->Nat->Bool)(p:Array Nat)(k:Nat):Prop:=∀i j,i<j->j<k->lt (p.getD i 0) (p.getD j 0)=ag
structure jJ (lt:Nat->Nat->Bool):Prop where
 as:∀a b,lt a b=ae->lt b a=ag
 tr:∀a b c,lt b a=ag->lt c b=ag->lt c a=ag
theorem jJ.PQ(O:jJ lt)(x:Nat):lt x x=ag:=by
 cases hb:lt x x with
 |false=>rfl
 |true=>have:=O.as _ _ hb;rw[hb] at this;show this
def c8{p:Array Nat}{i:Nat}:p.getD i 0=(p[i]?).getD 0:=by rw[Array.getD_eq_getD_getElem?]
def cN{p:Array Nat}{i j:Nat}(hj:j<=p.size)(k:Nat):(gr p i j).getD k 0=if i<=k/\k<j then p.getD (i+j-1-k) 0 else p.getD k 0:=by unfold gr;rw[c8,getElem?_mirror_all hj];split<;>rw[c8]
def xI(p:Array Nat)(i j:Nat):(gr p i j).size=p.size:=mirror_size _ _ _ _
def eT(p:Array Nat)(i j:Nat):(gr p i j).Perm p:=mirror_perm _ _ _ _
theorem IV(O:jJ lt)(p:Array Nat):∀f n,1<=n->Up lt p n->n<=told lt (jc p f n)/\told lt (jc p f n)<=n+f/\Up lt p (told lt (jc p f n))/\(told lt (jc p f n)<n+f->lt (p.getD (told lt (jc p f n)) 0) (p.getD (told lt (jc p f n)-1) 0)=ae)
 |0,n,h1,hu=>⟨bp _,bp _,hu,λh=>Zw h (jf _)⟩
 |f+1,n,h1,hu=>by
  show n<=told lt (if lt (p.getD n 0) (p.getD (n-1) 0)=ae then mq n else jc p f (n+1))/\told lt (if lt (p.getD n 0) (p.getD (n-1) 0)=ae then mq n else jc p f (n+1))<=n+(f+1)/\Up lt p (told lt (if lt (p.getD n 0) (p.getD (n-1) 0)=ae then mq n else jc p f (n+1)))/\(told lt (if lt (p.getD n 0) (p.getD (n-1) 0)=ae then mq n else jc p f (n+1))<n+(f+1)->lt (p.getD (told lt (if lt (p.getD n 0) (p.getD (n-1) 0)=ae then mq n else jc p f (n+1))) 0) (p.getD (told lt (if lt (p.getD n 0) (p.getD (n-1) 0)=ae then mq n else jc p f (n+1))-1) 0)=ae)
  cases hc:lt (p.getD n 0) (p.getD (n-1) 0) with
  |true=>show⟨bp _,by show n<=n+(f+1);lia,hu,λ_=>hc⟩
  |false =>
   rw[Zz bx];have hu2:Up lt p (n+1):=λi j hij hj=>by
    by_cases hj2:j<n
    .exact hu i j hij hj2
    .have:j=n:=by lia
     subst this;by_cases hi:i=j-1
     .subst hi;show hc
     .exact O.tr _ _ _ (hu i (j-1) ∅ ∅) hc
   obtain⟨a,b,c,d⟩:=IV O p f (n+1) ∅ hu2;show⟨by lia,by lia,c,λh=>d ∅⟩
def Xd(hn:n<=p.size)(h:PF lt p n):Up lt (gr p 0 n) n:=λi j hij hj=>by rw[cN hn,cN hn,Z_ ⟨by lia,hj⟩,Z_ ⟨by lia,by lia⟩];show h _ _ ∅ ∅
def Last(lt:Nat->Nat->Bool)(p:Array Nat)(n q:Nat):Prop:=q+1<=n /\∀i j,n-(q+1)<=i->i<n->n-(q+1)<=j->j<n->lt (p.getD i 0) (p.getD j 0)=ag
def rev_last(hn:n<=p.size)(h:PF lt p n)(l:Last lt p n q):PF lt (gr p (n-(q+1)) n) n:=λi j hij hj=>by
 have:=l.1;rw[cN hn,cN hn];by_cases h1:n-(q+1)<=i
 .rw [Z_ ⟨h1,by lia⟩,Z_ ⟨by lia,hj⟩];show l.2 _ _ ∅ ∅ ∅ ∅
 .rw [Zz ∅];by_cases h2:n-(q+1)<=j
  .rw [Z_ ⟨h2,hj⟩];show h _ _ ∅ ∅
  .rw [Zz ∅];show h i j hij hj
def lE(O:jJ lt)(h1:1<=n)(h:PF lt p n)(hc:lt (p.getD (n-1) 0) (p.getD n 0)=ag):PF lt p (n+1):=λi j hij hj=>by
 by_cases hj2:j<n
 .exact h i j hij hj2
 .have:j=n:=by lia
  subst this;by_cases hi:i=j-1
  .subst hi;show hc
  .exact O.tr _ _ _ hc (h i (j-1) ∅ ∅)
def UG(hn:n<p.size):(gr p (n-(q+1)) n).getD n 0=p.getD n 0:=by rw[cN (ll hn),Zz ∅]
theorem uQ(O:jJ lt):∀f (p:Array Nat) n q,1<=n->n+f<=p.size->PF lt p n->Last lt p n q ->∀r,r=told lt (nu f p n q)->r.1.Perm p/\r.2.1<=n+f/\n<=r.2.1/\PF lt r.1 r.2.1/\Last lt r.1 r.2.1 r.2.2
 |0,p,n,q,_,_,h,l,r,er=>by subst er;show⟨me _,bp _,bp _,h,l⟩
 |f+1,p,n,q,h1,hs,h,l,r,er=>by
  have er:r=told lt (if lt (p.getD n 0) (p.getD (n-1) 0)=ae then(if q>0 then nu f (gr p (n-(q+1)) n) (n+1) 0 else nu f p (n+1) 0) else .ask (p.getD (n-1) 0) (p.getD n 0) λd=>if d=ae then .ret (p,n,q) else nu f p (n+1) (q+1)):=er;have one:∀p:Array Nat,Last lt p (n+1) 0:=λp=>⟨by lia,λi j a b c d=>by
   have e1:i=n:=by lia
   have e2:j=n:=by lia
   rw[e1,e2];show O.PQ _⟩
  cases hc:lt (p.getD n 0) (p.getD (n-1) 0) with
  |true =>
   rw[hc,Z_ rfl] at er;have hc2:=O.as _ _ hc;by_cases hq:q>0
   .rw [Z_ hq] at er;have d1:=rev_last ∅ h l;have lq:=l.1;have d2:PF lt (gr p (n-(q+1)) n) (n+1):=by show lE O h1 d1 ?_;rw[UG ∅,cN ∅,Z_ ⟨by lia,by lia⟩];show O.tr _ (p.getD (n-1) 0) _ hc2 (l.2 _ _ ∅ ∅ ∅ ∅)
    obtain⟨a,b,c,d,e⟩:=uQ O f (gr p (n-(q+1)) n) (n+1) 0 ∅ (by rw[xI];lia) d2 (one _) r er;show⟨a.trans (eT _ _ _),by lia,by lia,d,e⟩
   .rw [Zz hq] at er;obtain⟨a,b,c,d,e⟩:=uQ O f p (n+1) 0 ∅ ∅ (lE O h1 h hc2) (one _) r er;show⟨a,by lia,by lia,d,e⟩
  |false =>
   rw[hc,Zz bx] at er;have er:r=told lt (if lt (p.getD (n-1) 0) (p.getD n 0)=ae then mq (p,n,q) else nu f p (n+1) (q+1)):=er
   cases hd:lt (p.getD (n-1) 0) (p.getD n 0) with
   |true =>
    rw[hd,Z_ rfl] at er;subst er;show⟨me _,by show n<=n+(f+1);lia,bp _,h,l⟩
   |false =>
    rw[hd,Zz bx] at er;have lq:=l.1;have l2:Last lt p (n+1) (q+1):=⟨by lia,λi j a b c d=>by
     by_cases hi:i<n
     .by_cases hj:j<n
      .exact l.2 i j ∅ hi ∅ hj
      .have:j=n:=by lia
       subst this;show O.tr _ (p.getD (j-1) 0) _ hd (l.2 i (j-1) ∅ hi ∅ ∅)
     .have:i=n:=by lia
      subst this;by_cases hj:j<i
      .exact O.tr _ (p.getD (i-1) 0) _ (l.2 (i-1) j ∅ ∅ ∅ hj) hc
      .have:j=i:=by lia
       subst this;show(one p).2 j j ∅ ∅ ∅ ∅⟩
    obtain⟨a,b,c,d,e⟩:=uQ O f p (n+1) (q+1) ∅ ∅ (lE O h1 h hd) l2 r er;show⟨a,by lia,by lia,d,e⟩
def AJ{p q:Array Nat}(h:p.Perm q):p.size=q.size:=h.size_eq
def LQ(O:jJ lt)(h1:1<=n)(hn:n<=nrem)(hs:nrem<=p.size)(h:PF lt p n)(r:Nat×Array Nat)(er:r=told lt (Dv n nrem p)):r.2.Perm p/\1<=r.1/\r.1<=nrem/\Up lt r.2 r.1:=by unfold Dv at er;rw[jO] at er;obtain⟨a,b,c,_⟩:=IV O (gr p 0 n) (nrem-n) n h1 (Xd ∅ h);subst er;show⟨eT _ _ _,iq h1 a,(by show told lt _<=nrem;lia),c⟩
def tM(O:jJ lt){n nrem:Nat}{p:Array Nat}(h1:1<=n)(hn:n+1<=nrem)(hs:nrem<=p.size)(h:PF lt p (n+1))(r:Nat×Array Nat)(er:r=told lt (wx n nrem p)):r.2.Perm p/\1<=r.1/\r.1<=nrem/\Up lt r.2 r.1:=by
 unfold wx at er;rw[jO] at er;have one:Last lt p (n+1) 0:=⟨by lia,λi j a b c d=>by
  have e1:i=n:=by lia
  have e2:j=n:=by lia
  rw[e1,e2];show O.PQ _⟩
 obtain⟨a,b,c,d,e⟩:=uQ O (nrem-(n+1)) p (n+1) 0 ∅ ∅ h one _ rfl;generalize told lt (nu (nrem-(n+1)) p (n+1) 0)=z at a b c d e er;have hz:=AJ a;by_cases hq:z.2.2>0
 .rw [Z_ hq] at er;obtain⟨a2,b2,c2,d2⟩:=LQ O (n:=z.2.1) (nrem:=nrem) (p:=gr z.1 (z.2.1-(z.2.2+1)) z.2.1) ∅ ∅ (by rw[xI];lia) (rev_last ∅ d e) r er;show⟨a2.trans ((eT _ _ _).trans a),b2,c2,d2⟩
 .rw [Zz hq] at er;obtain⟨a2,b2,c2,d2⟩:=LQ O (n:=z.2.1) (nrem:=nrem) (p:=z.1) ∅ ∅ ∅ d r er;show⟨a2.trans a,b2,c2,d2⟩
def UH(O:jJ lt)(h1:1<=n)(hs:n<=p.size)(r:Nat×Array Nat)(er:r=told lt (wy n p)):r.2.Perm p/\1<=r.1/\r.1<=n/\Up lt r.2 r.1:=by
 unfold wy at er;rw[jO] at er;obtain⟨a,b,c,d⟩:=IV O p (n-1) 1 (bp _) (λi j hij hj=>by lia);generalize told lt (jc p (n-1) 1)=m at a b c d er;by_cases hm:(m == n)=ae
 .rw [Z_ hm] at er;subst er;show⟨me _,a,by show m<=n;lia,c⟩
 .rw [Zz hm] at er;have hm:m≠n:=λe=>hm (by rw[e];simp);have hlt:=d ∅;by_cases h2:m>1
  .rw [Z_ h2] at er;have er:r=told lt (if lt (p.getD 0 0) (p.getD (m-1) 0)=ae then mq (m,p) else wx m n (gr p 0 m)):=er
   cases hc:lt (p.getD 0 0) (p.getD (m-1) 0) with
   |true =>
    rw[hc,Z_ rfl] at er;subst er;show⟨me _,a,by show m<=n;lia,c⟩
   |false =>
    rw[hc,Zz bx] at er;have all:∀i j,i<m->j<m->lt (p.getD i 0) (p.getD j 0)=ag:=λi j hi hj=>by
     have i0:∀i,i<m->lt (p.getD 0 0) (p.getD i 0)=ag:=λi hi=>by
      by_cases he:i=m-1
      .subst he;show hc
      .exact O.tr _ _ _ (c i (m-1) ∅ ∅) hc
     have PQ:∀x,lt x x=ag:=λx=>by
      cases hb:lt x x with
      |false=>rfl
      |true=>have:=O.as _ _ hb;rw[hb] at this;show this
     have z0:lt (p.getD i 0) (p.getD 0 0)=ag:=by
      by_cases hi0:i=0
      .subst hi0;show PQ _
      ·-- a later one is not less than the first one
       show c 0 i ∅ hi
     show O.tr _ _ _ (i0 j hj) z0
    have dn:PF lt (gr p 0 m) (m+1):=by
     show lE O a (λi j hij hj=>?_) ?_
     .rw [cN ∅,cN ∅,Z_ ⟨by lia,by lia⟩,Z_ ⟨by lia,by lia⟩];show all _ _ ∅ ∅
     .rw [cN ∅,cN ∅,Z_ ⟨by lia,by lia⟩,Zz ∅];show O.tr _ (p.getD (m-1) 0) _ (O.as _ _ hlt) (all _ _ ∅ ∅)
    obtain⟨a2,b2,c2,d2⟩:=tM O a ∅ (by rw[xI];show hs) dn r er;show⟨a2.trans (eT _ _ _),b2,c2,d2⟩
  .rw [Zz h2] at er;have:m=1:=by lia
   subst this;have dn:PF lt p (1+1):=lE O (bp _) (λi j hij hj=>by lia) (O.as _ _ hlt);show tM O (bp _) ∅ hs dn r er
theorem xJ(O:jJ lt)(p:Array Nat)(k:Nat):∀f l r,l<=r->r<=k->r-l<=f->Up lt p k->(∀i,i<l->lt (p.getD k 0) (p.getD i 0)=ag)->(∀i,r<=i->i<k->lt (p.getD i 0) (p.getD k 0)=ag) ->
  told lt (jk p k f l r)<=k/\(∀i,i<told lt (jk p k f l r)->lt (p.getD k 0) (p.getD i 0)=ag) /\∀i,told lt (jk p k f l r)<=i->i<k->lt (p.getD i 0) (p.getD k 0)=ag
 |0,l,r,hlr,hr,hf,_,h1,h2=>by
  have:l=r:=by lia
  subst this;show⟨hr,h1,h2⟩
 |f+1,l,r,hlr,hr,hf,hu,h1,h2=>by
  unfold jk;by_cases hge:l >= r
  .rw [Z_ hge];have:l=r:=by lia
   subst this;show⟨hr,h1,h2⟩
  .rw [Zz hge];show told lt (if lt (p.getD k 0) (p.getD ((l+r)/2) 0)=ae then jk p k f l ((l+r)/2) else jk p k f ((l+r)/2+1) r)<=k/\(∀i,i<told lt (if lt (p.getD k 0) (p.getD ((l+r)/2) 0)=ae then jk p k f l ((l+r)/2) else jk p k f ((l+r)/2+1) r)->lt (p.getD k 0) (p.getD i 0)=ag) /\∀i,told lt (if lt (p.getD k 0) (p.getD ((l+r)/2) 0)=ae then jk p k f l ((l+r)/2) else jk p k f ((l+r)/2+1) r)<=i->i<k->lt (p.getD i 0) (p.getD k 0)=ag
   cases hc:lt (p.getD k 0) (p.getD ((l+r)/2) 0) with
   |true =>
    rw[Z_ rfl];show xJ O p k f l ((l+r)/2) ∅ ∅ ∅ hu h1 λi hi hik=>?_;by_cases he:i=(l+r)/2
    .subst he;show O.as _ _ hc
    .exact O.tr _ _ _ (O.as _ _ hc) (hu _ i ∅ hik)
   |false =>
    rw[Zz bx];show xJ O p k f ((l+r)/2+1) r ∅ hr ∅ hu (λi hi=>?_) h2;by_cases he:i=(l+r)/2
    .subst he;show hc
    .exact O.tr _ _ _ (hu i ((l+r)/2) ∅ ∅) hc
def LR{p:Array Nat}{k l:Nat}(hk:k<p.size)(hl:l<=k)(i:Nat):(bubble p k (k-l)).getD i 0=if i=l then p.getD k 0 else if l<i/\i<=k then p.getD (i-1) 0 else p.getD i 0:=by
 rw[c8,a1I hk _ ∅,show k-(k-l)=l by lia];by_cases h1:i=l
 .rw [Z_ h1,Z_ h1,c8]
 .rw [Zz h1,Zz h1];by_cases h2:l<i/\i<=k
  .rw [Z_ h2,Z_ h2,c8]
  .rw [Zz h2,Zz h2,c8]
theorem UI(O:jJ lt):∀f (p:Array Nat) k,k+f<=p.size->Up lt p k->(told lt (wz f p k)).Perm p/\Up lt (told lt (wz f p k)) (k+f)
 |0,p,k,_,h=>⟨me _,h⟩
 |f+1,p,k,hs,h=>by
  unfold wz;rw[jO];obtain⟨a,b,c⟩:=xJ O p k k 0 k ∅ (bp _) ∅ h (λi hi=>by lia) (λi hi hik=>by lia);generalize told lt (jk p k k 0 k)=l at a b c;have hk:k<p.size:=by lia
  have h2:Up lt (bubble p k (k-l)) (k+1):=λi j hij hj=>by
   rw[LR hk a,LR hk a];by_cases hjl:j=l
   .rw [Z_ hjl,Zz ∅,Zz ∅];show b i ∅
   .rw [Zz hjl];by_cases hj2:l<j/\j<=k
    .rw [Z_ hj2];by_cases hil:i=l
     .rw [Z_ hil];show c (j-1) ∅ ∅
     .rw [Zz hil];by_cases hi2:l<i/\i<=k
      .rw [Z_ hi2];show h _ _ ∅ ∅
      .rw [Zz hi2];show h _ _ ∅ ∅
    .rw [Zz hj2,Zz ∅,Zz ∅];show h _ _ hij ∅
  obtain⟨e,g⟩:=UI O f (bubble p k (k-l)) (k+1) (by rw[bubble_size];lia) h2;show⟨e.trans (Er _ _ _),by rw[show k+(f+1)=k+1+f by lia];show g⟩
def ZC(O:jJ lt){n:Nat}(h1:1<=n):(told lt (rb n)).Perm (r_ (de n))/\Up lt (told lt (rb n)) n:=by
 unfold rb;rw[jO];obtain⟨a,b,c,d⟩:=UH O (n:=n) (p:=r_ (de n)) h1 (by simp) _ rfl;generalize told lt (wy n (r_ (de n)))=r at a b c d;have hs:r.2.size=n:=by rw[AJ a];simp
 by_cases hr:r.1<n
 .rw [Z_ hr,show max r.1 1=r.1 by lia];obtain⟨e,g⟩:=UI O (n-r.1) r.2 r.1 ∅ d;show⟨e.trans a,by rw[show r.1+(n-r.1)=n by lia] at g;show g⟩
 .rw [Zz hr];have:r.1=n:=by lia
  show⟨a,by rw[<- this];show d⟩
end
open Att
section
variable{Ω:bh}{w:az}{A:bu}{s:ak}{Q:Bool->ak->Prop}
theorem HD:∀(us:Q0f) (vs:Q0f) (as bs:Q0e) (i:Nat) (fin:Bool),(fin=Zv (us.length<vs.length))->gu us as->gu vs bs->Q (dY as bs) s->KatLex Ω w A ae fin Q (us.zip vs) i s:=by
 intro us
 induction us with
 |nil =>
  intro vs as bs i fin hf ha hb q;cases ha
  cases hb with
  |nil=>subst hf;show q
  |cons b t' hb=>subst hf;simpa[KatLex,dY] using q
 |cons u us ih =>
  intro vs as bs i fin hf ha hb q
  cases ha with
  |cons a t ha =>
   cases hb with
   |nil=>subst hf;simpa[KatLex,dY] using q
   |cons b t' hb =>
    rename_i as vs bs;show kat_cons (a0p (kat_go (λe=>?_) (λe=>?_)))
    .have e:a=b:=by simpa using e
     show kat_yes (ih _ _ _ (i+1) fin (by rw[hf];simp) ha hb ?_);simpa[dY,e] using q
    .have e:a≠b:=by simpa using e
     have q:Q (Zv (a<b)) s:=by simpa[dY,e] using q
     show kat_no ?_
     cases hc:(ae&&i == 0) with
     |true=>show oneLt_int q
     |false=>show kat_one _ _ (lt_int q)
end
noncomputable def LS(n:Nat){α:Type}:ny α->(α->Prop)->Prop
 |.ret a,Q=>Q a
 |.ask i j k,Q=>i<n/\j<n /\∀b,LS n (k b) Q
theorem lF{n:Nat}{α β:Type}{f:α->ny β}{Q:β->Prop}:∀(t:ny α),LS n t (λa=>LS n (f a) Q)->LS n (t.bind f) Q
 |.ret a,h=>h
 |.ask i j k,h=>⟨h.1,h.2.1,λb=>lF (k b) (h.2.2 b)⟩
def Rg(n:Nat)(p:Array Nat):Prop:=p.Perm (r_ (de n))
theorem Rg.lt(h:Rg n p)(h1:1<=n)(k:Nat):p.getD k 0<n:=by
 rw[c8]
 cases q:p[k]? with
 |none=>show h1
 |some x =>
  have:x∈p:=Array.mem_of_getElem? q;have:=h.mem_iff.mp this;simpa using this
section
variable{n:Nat}
theorem CL(h1:1<=n)(h:Rg n p)(q:∀m,Q m):∀f m,LS n (jc p f m) Q
 |0,m=>q m
 |f+1,m=>⟨h.lt h1 _,h.lt h1 _,λb=>by
  cases b with
  |true=>show q m
  |false=>show CL h1 h q f (m+1)⟩
theorem qP(h1:1<=n)(q:∀r,Rg n r.1->Q r):∀f p m k,Rg n p->LS n (nu f p m k) Q
 |0,p,m,k,h=>q _ h
 |f+1,p,m,k,h=>⟨h.lt h1 _,h.lt h1 _,λb=>by
  cases b with
  |true =>
   show LS n (if k>0 then _ else _) Q;by_cases hk:k>0
   .rw [Z_ hk];show qP h1 q f _ _ _ ((eT _ _ _).trans h)
   .rw [Zz hk];show qP h1 q f _ _ _ h
  |false=>show⟨h.lt h1 _,h.lt h1 _,λd=>by
    cases d with
    |true=>show q _ h
    |false=>show qP h1 q f _ _ _ h⟩⟩
def FL(h1:1<=n){Q:Nat×Array Nat->Prop}(q:∀r,Rg n r.2->Q r){m k:Nat}{p:Array Nat}(h:Rg n p):LS n (Dv m k p) Q :=
 lF _ (CL h1 ((eT _ _ _).trans h) (λm'=>q (m',gr p 0 m) ((eT _ _ _).trans h)) _ _)
def qQ(h1:1<=n){Q:Nat×Array Nat->Prop}(q:∀r,Rg n r.2->Q r){m k:Nat}{p:Array Nat}(h:Rg n p):LS n (wx m k p) Q :=
 lF _ (qP h1 (λr hr=>by
  by_cases hk:r.2.2>0
  .rw [Z_ hk];show FL h1 q ((eT _ _ _).trans hr)
  .rw [Zz hk];show FL h1 q hr) _ _ _ _ h)
def OD(h1:1<=n){Q:Nat×Array Nat->Prop}(q:∀r,Rg n r.2->Q r){k:Nat}{p:Array Nat}(h:Rg n p):LS n (wy k p) Q :=
 lF _ (CL h1 h (λm=>by
  by_cases e:(m == k)=ae
  .rw [Z_ e];show q _ h
  .rw [Zz e];by_cases e2:m>1
   .rw [Z_ e2];show⟨h.lt h1 _,h.lt h1 _,λc=>by
     cases c with
     |true=>show q _ h
     |false=>show qQ h1 q ((eT _ _ _).trans h)⟩
   .rw [Zz e2];show qQ h1 q h) _ _)
theorem rY(h1:1<=n)(h:Rg n p)(q:∀m,Q m)(k:Nat):∀f l r,LS n (jk p k f l r) Q
 |0,l,r=>q l
 |f+1,l,r=>by
  unfold jk;by_cases e:l >= r
  .rw [Z_ e];show q l
  .rw [Zz e];show⟨h.lt h1 _,h.lt h1 _,λc=>by
    cases c with
    |true=>show rY h1 h q k f _ _
    |false=>show rY h1 h q k f _ _⟩
theorem LU(h1:1<=n){Q:Array Nat->Prop}(q:∀p,Q p):∀f p k,Rg n p->LS n (wz f p k) Q
 |0,p,k,h=>q p
 |f+1,p,k,h=>lF _ (rY h1 h (λl=>LU h1 q f _ _ ((Er _ _ _).trans h)) k _ _ _)
def UJ(h1:1<=n){Q:Array Nat->Prop}(q:∀p,Q p):LS n (rb n) Q :=
 lF _ (OD h1 (λr hr=>by
  by_cases e:r.1<n
  .rw [Z_ e];show LU h1 q _ _ _ hr
  .rw [Zz e];show q _) (me _))
variable{X:Cx}
def lG(ts:Q0a)(i:Nat):List Int:=(ts[i]?).getD []
theorem LV(h:∀i j (C:Bool->ak->Prop),i<n->j<n->C (lt i j) s->Dw Ω w A κ vs i j C s){α:Type}:∀(t:ny α) (Q:α->ak->Prop),LS n t (λ_=>True)->Q (told lt t) s->t.kasWp (Dw Ω w A κ vs) Q s
 |.ret a,Q,_,q=>q
 |.ask i j k,Q,sf,q=>h i j _ sf.1 sf.2.1 (LV h (k (lt i j)) Q (sf.2.2 _) q)
def IW(K:ao):List V->Hp->VK->Prop:=λxs H Q=>∃(a:ah) (ps:List ah) (ts:Q0a),xs=[.ref a]/\H a=aa (.lst (ps.map V.ref))/\ps.length=ts.length/\2<=ts.length/\ts.length<64 /\
 (∀(j:Nat) (p:ah) (t:Q0e),ps[j]?=aa p->ts[j]?=aa t->fX K H p (t.map V.int)/\t≠[]) /\
 ∀ix:List Nat,ix.Perm (de ts.length)->(∀i j:Nat,i<j->j<ts.length->dY (lG ts (ix.getD j 0)) (lG ts (ix.getD i 0))=ag) ->∀q,H q=af->Q (.ref q) (upd H q (.lst (ix.map λi=>V.ref (ps.getD i 0))))
theorem AK:∀{ps:List ah} {us:Q0f},θ (ps.map V.ref) us->us=ps.map df
 |[],_,.nil=>rfl
 |p::ps,_,.cons r t=>by rw[AK t];rw[show _=df p from r];rfl
theorem cZ.live(x:L2.cZ P w H h a o):∃u,h.get? a=aa u:=by
 cases o with
 |lst xs=>obtain⟨_,_,_,_,e⟩:=x;show⟨_,e⟩
 |tup xs=>obtain⟨_,_,_,⟨_,e,_⟩,_⟩:=x;show⟨_,e⟩
 |dK χ=>obtain⟨_,_,_,_,o,_,_,e,_⟩:=x;show⟨_,e⟩
 |dT χ=>obtain⟨_,_,_,_,o,_,_,e,_⟩:=x;show⟨_,e⟩
 |dX ob χ=>obtain⟨_,_,e,_⟩:=x;show⟨_,e⟩
 |set S n=>obtain⟨o,_,_,_,e,_⟩:=x;show⟨_,e⟩
 |ins C dx fs=>obtain⟨_,_,_,e,_⟩:=x;show⟨_,e⟩
 |own y=>obtain⟨_,e⟩:=x;show⟨_,e⟩
 |xd fs=>obtain⟨_,⟨_,_,_,e,_⟩,_⟩:=x;show⟨_,e⟩
 |rng lo hi=>obtain⟨_,_,_,e⟩:=x;show⟨_,e⟩
 |tW ob u=>obtain⟨e,_⟩:=x;show⟨_,e⟩
 |KZ q=>obtain⟨_,e,_⟩:=x;show⟨_,e⟩
 |met f y=>show⟨_,(show h.get? a=aa _ from x)⟩
 |ext φ=>obtain⟨_,⟨_,e⟩,_⟩:=x;show⟨_,e⟩
def CM:gM X (.builtin "sorted") (IW X.K):=by
 intro π s σ H xs us Q I r h;obtain⟨a,ps,ts,rfl,ha,hl,h2,i_,ht,q⟩:=h;obtain⟨u,rfl,ru⟩:=vals1 r;cases ru;obtain⟨ι,rv,pl,hz⟩:=I.list (fP.of ha);have Ie:=AK rv;subst Ie;obtain⟨m,hns,_⟩:=id I.loc;have hL:=I.lt;have hn:(ps.map df).length=ts.length:=by rw[bj];show hl
 have tup:∀(j:Nat),j<ts.length ->∃(p:ah) (us:Q0f),ps[j]?=aa p/\gi s.heap p us.toArray/\gu us (lG ts j)/\lG ts j≠[]/\(ps.map df).getD j kn=.ref p:=λj hj=>by
  obtain⟨q1,q2⟩:=ht j ps[j] ts[j] (by simp[hl,hj]) (by simp[hj]);obtain⟨us,ru,pt,_⟩:=I.tuple q1;show⟨ps[j],us,by simp[hl,hj],pt,?_,?_,by simp[hl,hj]⟩
  .unfold lG;rw[cj hj];show intsAre_of ru
  .unfold lG;rw[cj hj];show q2
 show kat_sorted (h₀:=wJ s.heap) (L:=X.env.locals) (m:=m) (news:=ledger s.heap X.env.locals s.heap.objs.size) (vs:=ps.map df) (R6 hns) (λp hp=>?_) pl.isList ∅ ∅ λD e1 h' F' N' hD=>?_
 .obtain ⟨x,o⟩:=p;obtain⟨n1,_,e⟩:=iO.mp hp;show⟨e,n1,oV _ _⟩
 have keep':∀b o,b≠X.env.locals->s.heap.get? b=aa o->h'.get? b=aa o:=λb o hb e =>
  (N' (b,o) (fq _ (iO.mpr ⟨hb,fz (b_ e),e⟩))).1
 have CN:∀{p:ah} {us:Array ai},gi s.heap p us->p≠X.env.locals:=λ{p us} ⟨o,e,c,n,d⟩ z=>by subst z;obtain⟨o2,es,ep,e2,d2,_⟩:=hns;rw[e] at e2;cases e2;rw[d] at d2;cases d2
 -- the kind: tuples that begin with ints
 have kt:∀(ps':List ah) (fs:Q0f),ps'.length=fs.length->(∀(j:Nat) (p:ah) (f:ai),ps'[j]?=aa p->fs[j]?=aa f ->∃us:Array ai,gi h' p us/\us[0]?=aa f)->KatTups h' (ps'.map df) fs:=by
  intro ps'
  induction ps' with
  |nil=>intro fs hf _;cases fs;show trivial;simp at hf
  |cons p ps' ih =>
   intro fs hf h
   cases fs with
   |nil=>simp at hf
   |cons f fs =>
    obtain⟨us,⟨o,e,c,n,d⟩,u0⟩:=h 0 p f rfl rfl;show KatTups.cons e c d u0 (ih fs (by simpa using hf) λj p' f' h1 h2=>h (j+1) p' f' (by simpa using h1) (by simpa using h2))
 have heads:∃fs:Q0f,fs.length=ps.length/\(∀v∈fs,∃i t,v=ke i t) /\∀(j:Nat) (p:ah) (f:ai),ps[j]?=aa p->fs[j]?=aa f ->∃us:Array ai,gi h' p us/\us[0]?=aa f:=by
  have:∀k,k<=ps.length ->∃fs:Q0f,fs.length=k/\(∀v∈fs,∃i t,v=ke i t) /\∀(j:Nat) (p:ah) (f:ai),ps[j]?=aa p->fs[j]?=aa f ->∃us:Array ai,gi h' p us/\us[0]?=aa f:=by
   intro k
   induction k with
   |zero=>intro _;show⟨[],rfl,λv hv=>(nomatch hv),λj p f _ e=>by simp at e⟩
   |succ k ih =>
    intro hk;obtain⟨fs,f1,f2,f3⟩:=ih ∅;obtain⟨p,us,hp,pt,hi,ne,_⟩:=tup k ∅;obtain⟨i,t,us',rfl⟩:∃i t us',us=ke i t::us':=by
     generalize lG ts k=w at hi ne
     cases hi with
     |nil=>show Zw rfl ne
     |cons n t r=>show⟨n,t,_,rfl⟩
    show⟨fs++[ke i t],by simp[f1],λv hv=>?_,λj p' f' h1 h2=>?_⟩
    .rcases gn.mp hv with h|h
     .exact f2 v h
     .exact ⟨i,t,cu.mp h⟩
    .by_cases hj:j<k
     .rw [j_ ∅] at h2;show f3 j p' f' h1 h2
     .have:j=k:=by have:=(cz.mp h2).1;simp[f1] at this;lia
      subst this;rw[jz ∅,f1,ya] at h2;rw[hp] at h1;cases h1;have h2:ke i t=f':=by simpa using h2
      subst h2;obtain⟨o,e,c⟩:=id pt;show⟨_,⟨o,keep' p o (CN pt) e,c⟩,by simp⟩
  show this ps.length (bp _)
 obtain⟨fs,f1,f2,f3⟩:=heads;show kat_kind (T:=.type "int") (kt ps fs f1.symm f3) ∅ (λv hv=>?_) (by decide) ?_
 .obtain ⟨i,t,rfl⟩:=f2 v hv;show a0W rfl
 have O:jJ λi j=>dY (lG ts i) (lG ts j):=⟨λx y a=>GQ _ _ a,λx y z a b=>GR _ _ _ a b⟩;rw[hn];show LV (n:=ts.length) (lt:=λi j=>dY (lG ts i) (lG ts j)) (λi j C hi hj hC=>?_) _ _ (UJ ∅ λ_=>trivial) ?_
 .obtain ⟨p,us,hp,pt,hi',_,ep⟩:=tup i hi;obtain⟨p2,us2,hp2,pt2,hi2,_,ep2⟩:=tup j hj;unfold Dw;rw[ep,ep2,show(nz "int" !=nz "tuple")=ae from by decide];obtain⟨o,e,c,n,d⟩:=id pt;obtain⟨o2,e2,c2,n2,d2⟩:=id pt2;show kat_lt (s:={s with heap:=h' }) (keep' p o (CN pt) e) d (keep' p2 o2 (CN pt2) e2) d2 (HD us us2 _ _ 0 _ rfl hi' hi2 hC)
 obtain⟨sp,su⟩:=ZC O (n:=ts.length) ∅;generalize told (λi j=>dY (lG ts i) (lG ts j)) (rb ts.length)=pp at sp su;show KasFin.intro F' N' (UpdF.head λp hp z=>jf _ (z▸hD p hp)) λh'' c F'' N''=>?_;have nD:D≠X.env.locals:=(N' _ (cx ..)).2.1;have dead:s.heap.get? D=af:=by
  cases e:s.heap.get? D with
  |none=>rfl
  |some o=>show Zw (hD (D,o) (iO.mpr ⟨nD,fz (b_ e),e⟩)) (jf _)
 have qR:∀b o,b≠X.env.locals->s.heap.get? b=aa o->h''.get? b=aa o:=λb o hb e =>
  (N'' (b,o) (fq _ (iO.mpr ⟨hb,fz (b_ e),e⟩))).1
 have Hy:=(N'' (D,_) (cx ..)).1;have hfr:H D=af:=by
  cases e:H D with
  |none=>rfl
  |some u =>
   obtain⟨o,eo⟩:=cZ.live (I.hok D u e);rw[dead] at eo;cases eo
 have neD:∀{b:ah} {o:ax},s.heap.get? b=aa o->b≠D:=λ{b o} e z=>by rw[z,dead] at e;cases e
 have OE:∀{b:ah} {u:HO},H b=aa u->b≠D:=λ{b u} e z=>by rw[z,hfr] at e;cases e
 have hlp:pp.toList.Perm (de ts.length):=by simpa using sp.toList
 show⟨.ref D,upd H D (.lst (pp.toList.map λi=>V.ref (ps.getD i 0))),?_,rfl,q pp.toList hlp (λi j hij hj=>?_) D hfr⟩
 .show L2.Φ X π σ _ {s with heap:=h'' };show I.step (s:=s) (h':=h'') (g':=s.gens) (t':=s.toks) (d':=s.drawn) (ch:=[]) (λb hb=>nomatch hb) (λb o hb _ _ e _=>qR b o hb e) (λb o hb _ _ e _=>⟨o.slots,qR b o hb e⟩) (λb o _ e n=>by rw[aQ (neD e)];show n) (λb o _ e=>?_)
   (λb xs e=>by rw[aQ (OE e)];show e) (λb o u e=>by rw[aQ (OE e)];show e) (λb ps e=>by rw[aQ (OE e),e]) (λm2 hm2=>?_) ?_ I.bare
  .by_cases hb:b=X.env.locals
   .subst hb;obtain⟨o2,_,_,e2,_⟩:=F''.ns;show⟨o2,e2⟩
   .exact ⟨o,qR b o hb e⟩
  .have:m2=m:=by
    obtain⟨oa,ea,pa,h1,h2,_,h3⟩:=hm2;obtain⟨ob,eb,pb,k1,k2,_,k3⟩:=hns;rw[h1] at k1;cases k1;rw[h2] at k2;cases k2
    funext x
    rw[<- h3,<- k3]
   subst this;show F''.ns
  .intro b u e;by_cases hb:b=D
   .subst hb;rw[aO] at e;cases e;show⟨?_,pp.toList.map λi=>df (ps.getD i 0),c,?_,Hy.trans ?_⟩
    .rw [bj,hlp.length_eq,oq,gc];lia
    .have:∀l:List Nat,θ (l.map λi=>V.ref (ps.getD i 0)) (l.map λi=>df (ps.getD i 0)):=λl=>by
      induction l with
      |nil=>show .nil
      |cons a l ih=>show .cons rfl ih
     show this _
    .have:(pp.toList.map λi=>(ps.map df).getD i kn)=pp.toList.map λi=>df (ps.getD i 0):=iy λi hi=>by
      have:i<ts.length:=by simpa using hlp.mem_iff.mp hi
      simp[hl,this]
     rw[this]
   .rw [aQ hb] at e;show(I.hok b u e).stay (λc v hc ev=>qR c v (λz=>?_) ev) (λc ec=>by rw[aQ (OE ec)];show ec) (λc ys ec=>by rw[aQ (OE ec)];show ec) λc o u ec=>by rw[aQ (OE ec)];show ec
    subst z;rcases hc with hc|hc
    .rw [<- hc,I.free] at e;cases e
    .rw [I.free] at hc;cases hc
 .have:=su i j hij hj;rw[c8,c8] at this;simpa using this
theorem UK(ho:s.heap.get? a=aa (seqObj "list" #[v] n))
  (h:P (.done (.ret .none)) {s with heap:=sortedHeap s.heap a [v] #[v]}):ay (au Ω w) A (Builtin.«list.sort» ⟨[.ref a],[]⟩) P E s:=by
 rw[a1G];have hlt:=b_ ho;show aq (a1H ho rfl (aq (xr ho rfl ?_)));have ho1:=a1J ho (λ_=>(#[]:Array ai));show aq (xq ho1 rfl (aq (a0j (aq (q_ (h_ ?_))))));have ho2:(((s.heap.update a (jl λ_=>(#[]:Array ai))).push (seqObj "tuple" #[v] 0)).push (seqObj "list" #[] 0)).get? a=_:=dg _ (dg _ ho1);show ay (au Ω w) A _ P E {s with heap:=((s.heap.update a (jl λ_=>(#[]:Array ai))).push (seqObj "tuple" #[v] 0)).push (seqObj "list" #[] 0)};dsimp only;rw[Z_ (show(#[v]:Array ai).size<2 from yc 1),Z_ (show(#[v]:Array ai).size<2 from yc 1)];show aq (a_ ?_);rw[StateT.run_pure];show aq (a_ (aq (xq ho2 rfl (aq (xr ho2 rfl ?_ (hsz2:=?_))))))
 .simp only[bne_self_eq_false,pd,if_false];have e:(arrOf (oi general' ((#[v]:Array ai).zip #[v]) #[] 7 af)).map (·.2)=#[v]:=by show((#[v]:Array ai).zip #[v]).map (·.2)=#[v];simp
  rw[e];show a_ h
 .show (((#[v]:Array ai).zip #[v]).map (·.2)).size<=bg+1;simp
def IY:List V->Hp->VK->Prop:=λxs H Q=>∃(a:ah) (x:V),xs=[.ref a]/\H a=aa (.lst [x]) /\∀q,H q=af->Q (.ref q) (upd H q (.lst [x]))
def CO:gM X (.builtin "sorted") IY:=by
 intro π s σ H xs us Q I r h;obtain⟨a,x,rfl,ha,q⟩:=h;obtain⟨u,rfl,ru⟩:=vals1 r;cases ru;obtain⟨ι,rv,pl,hz⟩:=I.list (fP.of ha);obtain⟨v,rfl,rx⟩:=vals1 rv;show Ef Em El Eo (Eu (.ref a)) (show ay _ _ (Builtin.«sorted» _) _ _ _ from ?_);unfold Builtin.«sorted»;show aq (m:=checkCount "sorted" 1 1 _) (a_ (aq (collect_list pl.isList (aq (q_ ?_)))));have hsz:((s.heap.push (seqObj "list" #[] 0)).update s.heap.objs.size (jl (· ++ [v].toArray))).objs.size=s.heap.objs.size+1:=by rw[Heap.size_update,size_push']
 have hoL:(((s.heap.push (seqObj "list" #[] 0)).update s.heap.objs.size (jl (· ++ [v].toArray))).push (seqObj "list" [v].toArray 0)).get? (s.heap.objs.size+1)=aa (seqObj "list" #[v] 0):=by rw[<- hsz];show gf _ rfl
 show ay _ _ _ _ _ {s with heap:=((s.heap.push (seqObj "list" #[] 0)).update s.heap.objs.size (jl (· ++ [v].toArray))).push (seqObj "list" [v].toArray 0)};rw[hsz];show aq (h_ (lg Ek ⟨_,hoL,rfl⟩ Ep (UK hoL ⟨_,rfl,?_⟩) (Ew _)));show a_ ⟨.ref (s.heap.objs.size+1),rfl,?_⟩;obtain⟨e1,hat⟩:=a1E s.heap [v] #[v];have I1:L2.Φ X π σ (upd H (s.heap.objs.size+1) (.lst [x])) {s with heap:=sortedAll s.heap [v] #[v]} :=
  I.laid (t':=s.toks) (λb o e=>a1D e) (om _) ⟨by rw[gc];simp,[v],e1,.cons rx .nil,by simpa[seqObj] using hat⟩
 show⟨.ref _,_,I1,rfl,q _ (I.hok.fresh (om _))⟩
theorem CP:gM X (.builtin "sorted") (λxs H Q=>LK xs H Q\/IY xs H Q\/IW X.K xs H Q):=by
 intro π s σ H xs us Q I r h;rcases h with h|h|h
 .exact qL π s σ H xs us Q I r h
 .exact CO π s σ H xs us Q I r h
 .exact CM π s σ H xs us Q I r h
def UL:F1
 |[.lst ds],Q=>∃ts,oD ds=aa ts/\ts.length<64/\(∀t∈ts,t≠[])/\Q (.lst ((sQ ts).map pN))
 |_,_=>False
def UM(h:Cg d=aa t):d=pN t:=by
 cases d<;>first|cases h;done|skip
 rename_i ds;unfold pN;rw[<- ints_of h]
theorem AL:∀{ds:List D} {ts:Q0a},oD ds=aa ts->ds=ts.map pN
 |[],ts,h=>by cases h;rfl
 |d::ds,ts,h=>by unfold oD at h;obtain⟨t,e1,h⟩:=bnd h;obtain⟨us,e2,rfl⟩:=qM h;rw[bt,UM e1,AL e2]
def Xc{K:ao}{S:ah->Prop}{H:Hp}{t:Q0e}{v:V}(h:Dn K S H (pN t) v):∃p,v=.ref p/\H p=aa (.tup (t.map V.int)):=by unfold pN at h;symm at h;obtain⟨a,xs,rfl,hl,da⟩:=h;rw[aV.ints.mp da] at hl;show⟨a,rfl,hl⟩
theorem FN{K:ao}{S:ah->Prop}{H:Hp}:∀{ts:Q0a} {ys:List V},aV K S H (ts.map pN) ys ->∃ps:List ah,ys=ps.map V.ref/\ps.length=ts.length /\∀(j:Nat) (p:ah) (t:Q0e),ps[j]?=aa p->ts[j]?=aa t->H p=aa (.tup (t.map V.int))
 |[],ys,h=>by simp only[ki,aV] at h;show⟨[],h,rfl,λj p t e=>by simp at e⟩
 |t::ts,ys,h=>by
  obtain⟨v,r,rfl,h1,h2⟩:=aV.bN h;obtain⟨p,rfl,hp⟩:=Xc h1;obtain⟨ps,rfl,hl,hh⟩:=FN h2;show⟨p::ps,rfl,by simp[hl],λj q u e1 e2=>?_⟩
  cases j with
  |zero=>cases e1;cases e2;show hp
  |succ j=>show hh j q u (by simpa using e1) (by simpa using e2)
def UN(ts:Q0a):(de ts.length).map (lG ts)=ts:=by
 show tm λi=>?_;rw[dj];by_cases h:i<ts.length
 .rw [sy h];simp[lG,h]
 .rw [kz (by simpa using h),kz (by simpa using h)];rfl
theorem UO{K:ao}:C3F K (λxs H Q=>LK xs H Q\/IY xs H Q\/IW K xs H Q) UL:=by
 intro S H xs ds Q3 Q fc hd hf k
 match ds,hf with
 |[.lst es],hf =>
  obtain⟨v,r,rfl,h1,h2⟩:=hd.bN;simp only[aV] at h2;subst h2;symm at h1;obtain⟨a,ys,rfl,ha,sa,da⟩:=h1;obtain⟨ts,e,i_,hne,q⟩:=hf;rw[AL e] at da;obtain⟨ps,rfl,hl,hh⟩:=FN da;have one:∀(p:ah) (t:Q0e) (H':Hp) (S':ah->Prop),ξ H H'->H p=aa (.tup (t.map V.int))->Dn K S' H' (pN t) (.ref p):=λp t H' S' sm hp=>by unfold pN;symm;show⟨p,_,rfl,sm _ _ hp,aV.ints.mpr rfl⟩
  match ts,hl,hh,i_,hne,q with
  |[],hl,hh,i_,hne,q =>
   have:ps=[]:=ql.mp hl;subst this;show .inl ⟨a,[],rfl,ha,by decide,λns' hp _ p hf=>?_⟩;have:ns'=[]:=List.perm_nil.mp hp;subst this;show k p [] _ [] hf aO (aN hf) (by simp only[aV]) q
  |[t],hl,hh,i_,hne,q =>
   obtain⟨p,rfl⟩:∃p,ps=[p]:=by
    match ps,hl with
    |[p],_=>show⟨p,rfl⟩
   show .inr (.inl ⟨a,.ref p,rfl,ha,λl hf=>k l [.ref p] _ [pN t] hf aO (aN hf) (aV.one (one p t _ _ (aN hf) (hh 0 p t rfl rfl))) q⟩)
  |t1::t2::ts,hl,hh,i_,hne,q =>
   generalize hT:t1::t2::ts=T at *;show .inr (.inr ⟨a,ps,T,rfl,ha,hl,by rw[<- hT];simp,i_,λj p t e1 e2=>⟨fX.of (hh j p t e1 e2),hne t (qi e2)⟩,λix hp hu l hf=>?_⟩);have hlen:ix.length=T.length:=by rw[hp.length_eq,oq]
   have es:sQ T=ix.map (lG T):=by
    show JU ((lS T).trans ?_) (DG T) ?_
    .have:=(hp.map (lG T)).symm;rw[UN] at this;show this
    .rw [UpT,Fq,yf];intro i j hi hj hij;have:=hu i j hij ∅;simpa[hi,hj] using this
   have dn:∀(H':Hp),ξ H H' ->∀jx:List Nat,(∀i∈jx,i<T.length)->aV K (λx=>S x/\x≠l) H' (jx.map λi=>pN (lG T i)) (jx.map λi=>V.ref (ps.getD i 0)):=by
    intro H' sm jx
    induction jx with
    |nil=>intro _;show aV.nil
    |cons i jx ih =>
     intro hh2;have hi:=hh2 i cx;show aV.cons (one _ _ _ _ sm ?_) (ih λx hx=>hh2 x (fq _ hx));show hh i _ _ (by simp[hl,hi]) (by simp[lG,hi])
   show k l _ _ (ix.map λi=>pN (lG T i)) hf aO (aN hf) (dn _ (aN hf) ix λi hi=>by simpa using hp.mem_iff.mp hi) ?_;rw[es,ft] at q;show q
def FO:m8 UL oF:=λds d Q e q=>by
 unfold oF at e;split at e
 .rename_i a;obtain⟨ts,e1,e⟩:=bnd e;by_cases h:ts.length<64/\ts.all (λt=>!t.isEmpty)=ae
  .rw [Z_ h] at e;cases e;show⟨ts,e1,h.1,λt ht z=>?_,q⟩;have:=jh.mp h.2 t ht;rw[z] at this;cases this
  .rw [Zz h] at e;cases e
 .cases e
def UP(hm:X.mg "sorted"=af)(ha:yP X [e] t)(hg:Gl X "sorted":=by rfl)(he:Zs X e []:=by rfl):j6 X (.Call (.Name "sorted" p) [e] [] ν) (eP oF t):=cF (LH CP UO xv hg hm ha (by decide) (by decide) he (by rfl)) (FI FO)
end
open PySem.SeqAt
end L4
namespace L5
open PySem.Spec PyProof.Rows L2 L3 L4
theorem rZ(x:cZ P w H h a o):∃u,h.get? a=aa u:=by
 cases o with
 |lst xs=>obtain⟨_,_,_,_,e⟩:=x;show⟨_,e⟩
 |tup xs=>obtain⟨_,_,_,⟨u,e,_⟩,_⟩:=x;show⟨_,e⟩
 |dK χ=>obtain⟨_,_,_,_,o,_,_,e,_⟩:=x;show⟨_,e⟩
 |dT χ=>obtain⟨_,_,_,_,o,_,_,e,_⟩:=x;show⟨_,e⟩
 |dX ob χ=>obtain⟨_,_,e,_⟩:=x;show⟨_,e⟩
 |set S n=>obtain⟨o,_,_,_,e,_⟩:=x;show⟨_,e⟩
 |ins C dx fs=>obtain⟨_,_,_,e,_⟩:=x;show⟨_,e⟩
 |own y=>obtain⟨_,e⟩:=x;show⟨_,e⟩
 |xd fs=>obtain⟨_,⟨_,_,_,e,_⟩,_⟩:=x;show⟨_,e⟩
 |rng lo hi=>obtain⟨_,_,_,e⟩:=x;show⟨_,e⟩
 |tW ob u=>obtain⟨e,_⟩:=x;show⟨_,e⟩
 |KZ q=>obtain⟨_,e,_⟩:=x;show⟨_,e⟩
 |met f y=>show⟨_,(show h.get? a=aa _ from x)⟩
 |ext φ=>obtain⟨_,⟨_,e⟩,_⟩:=x;show⟨_,e⟩
section
variable{X:Cx}{π:Q0b}{σ:L2.St}{H:Hp}{s:ak}{h':ba}{e:ah}{cls a0:ai}{P:List ah}
def flown(I:Φ X π σ H s)(T:oX X π H s e cls a0 P)(kp:∀b o,b∉P->b∉frs X.stack->s.heap.get? b=aa o->h'.get? b=aa o)(us:s.heap.UpToSlots h'):Φ X π σ H {s with heap:=h' }:=by
 have frame:∀b∈frs X.stack,∃o,s.heap.get? b=aa o /\∀vs,o.data≠.fields vs:=λb hb=>(I.stack.mem hb).2;have old:∀b o,X.s₀.heap.get? b=aa o->b∉P:=λb o q hb=>by rw[T.new b hb] at q;cases q
 have CN:∀b o,X.s₀.heap.get? b=aa o->b≠X.env.locals:=λb o q=>fz (gj (b_ q) I.ok.above);have cellK:∀c v,s.heap.IsCell c v->h'.IsCell c v:=λc v Tr=>by
  obtain⟨o,ho,hd⟩:=Tr;obtain⟨sl,q⟩:=us c o ho λvs z=>by rw[hd] at z;cases z
  show⟨_,q,hd⟩
 obtain⟨m,hn,hl⟩:=id I.loc;show⟨I.ok,I.os,I.bare,⟨λb o eb n hb hx=>?_,λb o eb n hb hx=>?_,I.ω.free,λb o eb hx=>?_,I.ω.tups,I.ω.tX,I.ω.rN⟩,⟨m,us.ns hn,λi x v h1 h2 h3=>?_⟩,λx c ec=>?_,I.free,I.hJ,λp hp=>?_,λb ob eb=>?_,I.len⟩
 .exact kp b o (old b o eb) (λz=>(bz.mp (I.oS b z)).elim (CN b o eb) hb) (I.ω.keep b o eb n hb hx)
 .obtain ⟨sl,q⟩:=I.ω.slot b o eb n hb hx;obtain⟨_,o2,e2,nf⟩:=I.ok.oR.mem hb;rw[eb] at e2;obtain rfl:=fg e2;obtain⟨sl2,q2⟩:=us b {o with slots:=sl} q nf;show⟨sl2,q2⟩
 .obtain ⟨o',q⟩:=I.ω.there b o eb hx;by_cases hf:b∈frs X.stack
  .obtain ⟨o2,e2,nf⟩:=frame b hf;obtain⟨sl,q2⟩:=us b o2 e2 nf;show⟨_,q2⟩
  .exact ⟨o',kp b o' (old b o eb) hf q⟩
 .obtain ⟨u,r,l⟩:=hl i x v h1 h2 h3;show⟨u,r,l.imp id λ⟨k,c,ec,ic⟩=>⟨k,c,ec,cellK _ _ ic⟩⟩
 .obtain ⟨v,ic⟩:=I.cell x c ec;show⟨v,cellK _ _ ic⟩
 .obtain ⟨q,n,ne,nf,d⟩:=I.pin p hp;show⟨kp _ _ (λz=>T.pin _ z p hp rfl) (λz=>(bz.mp (I.oS _ z)).elim ne nf) q,n,ne,nf,d⟩
 .refine (I.hok b ob eb).stay (λc u hc q=>kp c u (λz=>?_) (λz=>?_) q) (λ_ q=>q) λ_ _ q=>q
  .have fr:=T.free c z;rcases hc with rfl|hc
   .rw [fr] at eb;cases eb
   .rw [fr] at hc;cases hc
  .have fr:=I.BZ c z;rcases hc with rfl|hc
   .rw [fr] at eb;cases eb
   .rw [fr] at hc;cases hc
end
def C7(P:bh)(w:az):HU:=λΓ H s E e s'=>∃(ea T:ah) (cls a0:ai) (H':Hp) (oe oT:ax) (vs ts:Array ai),e=.ref ea/\s'.os=s.os/\ku s'.gens/\Un (frs Γ) [] H H' s.heap s'.heap/\n8 P w H' s'.heap /\
 H' ea=af/\H' T=af/\s.heap.get? ea=af/\s.heap.get? T=af/\T≠ea/\s'.heap.get? ea=aa oe/\(oe.cls=cls/\vs[0]?=aa a0)/\oe.data=.fields vs/\vs[1]?=aa (.ref T)/\s'.heap.get? T=aa oT/\oT.data=.fields ts/\ts[3]?=aa .none/\E cls af H'
section
variable{P:bh}{w:az}{K:ao}{mg:Q0d}{ω:ba}{N:Q0g}{qual:aj}{scope:gd}{f:ah}{cd:ai}{A:bu}{Γ:List d_}{s0:ak}{H0:Hp}{E:XK}
theorem UQ(I:Φ (mX (C7 P w) P w K mg ω N qual scope f cd A Γ s0 H0 E) π σ H s)
  (T:oX (mX (C7 P w) P w K mg ω N qual scope f cd A Γ s0 H0 E) π H s e cls a0 Q) (hE:E cls af H):(mX (C7 P w) P w K mg ω N qual scope f cd A Γ s0 H0 E).xe (.ref e) s:=by
 generalize hX:mX (C7 P w) P w K mg ω N qual scope f cd A Γ s0 H0 E=X at I T;have st:X.stack=X.env::Γ:=by rw[<- hX];rfl
 have hin:∀env∈X.stack,∀b,env.frame=aa b->b∈Q++frs X.stack:=λenv he b hb=>ir _ (qj.mpr ⟨env,he,hb⟩);have stay:(hideAll s.heap (Q++frs X.stack)).StaysIn s.heap:=λb o q=>Ds _ q;have fns:s.heap.FunFrames (hideAll s.heap (Q++frs X.stack)) X.stack:=a0Q I.stack hin;have hen:(hideAll s.heap (Q++frs X.stack)).get? e=af:=rf _ (gx _ T.mem);have fin:∀h',Heap.LeftW (hideAll s.heap (Q++frs X.stack)) X.stack e cls a0 s.heap h'->C7 P w Γ H0 s0 E (.ref e) {s with heap:=h' }:=λh' Tq=>by
  obtain⟨k1,k2,k3,k4⟩:=Tq;have J:=flown I T (λb o n1 n2 q=>k1 b o (rh _ q λz=>(gn.mp z).elim n1 n2)) k4;obtain⟨oe,vs,T2,oT,ts,he,hc,hd,h1,hnT,mh,hT,hdT,h3⟩:=k3;have hfr:T2∉frs X.stack:=λz=>by obtain⟨_,o,ho,nf⟩:=I.stack.mem z;obtain⟨sl,q⟩:=k4 T2 o ho nf;rw[hT] at q;cases q;show nf ts hdT
  have qx:T2∈Q\/s.heap.get? T2=af:=by
   by_cases hq:T2∈Q
   .exact .inl hq
   .right
    cases q:s.heap.get? T2 with
    |none=>rfl
    |some o =>
     have:=rh (Q++frs X.stack) q λz=>(gn.mp z).elim hq hfr;rw[hnT] at this;cases this
  have e1:X.fs=frs Γ:=by rw[<- hX];rfl
  have e2:X.ex=[]:=by rw[<- hX];rfl
  have e3:X.H₀=H0:=by rw[<- hX];rfl
  have e4:X.s₀=s0:=by rw[<- hX];rfl
  have e5:X.Ω=P:=by rw[<- hX];rfl
  have e6:X.w=w:=by rw[<- hX];rfl
  have b0:=J.ω;have b1:=J.hok;have b2:=J.os;rw[e1,e2,e3,e4] at b0;rw[e5,e6] at b1;rw[e4] at b2;show⟨e,T2,cls,a0,H,oe,oT,vs,ts,rfl,b2,J.bare,b0,b1,T.free e T.mem,?_,?_,?_,mh,he,hc,hd,h1,hT,hdT,h3,hE⟩
  .rcases qx with z|z
   .exact T.free _ z
   .cases q:H T2 with
    |none=>rfl
    |some o =>
     obtain⟨u,eu⟩:=rZ (I.hok _ _ q);rw[z] at eu;cases eu
  .rw [<- e4];show T.new e T.mem
  .rcases qx with z|z
   .rw [<- e4];show T.new _ z
   .cases q:s0.heap.get? T2 with
    |none=>rfl
    |some o =>
     have tb:=I.ω.there T2 o (by rw[e4];show q) (by rw[e2];simp);obtain⟨o',eo⟩:=tb;rw[z] at eo;cases eo
 have go:ay (au P w) X.A (leaving X.env (.ref e)) (λ_ s''=>C7 P w Γ H0 s0 E (.ref e) s'') (λe' s''=>C7 P w Γ H0 s0 E e' s'') s:=by
  have hfr:=I.ok.frames;have hf:X.env.frame=aa X.env.locals:=by rw[<- hX];rfl
  rw[st] at hfr;rw[st] at fns fin hen stay;rcases T.tr with⟨oe,vs,he,hc,hd,h1,h0⟩|⟨oe,vs,T2,oT,ts,he,hc,hd,h1,hm,mh,hT,hdT,h3⟩
  .subst hc;show wpAny_leaving_firstW hfr fns hf he stay hen hd h1 h0 λh' L=>fin h' L
  .refine wpAny_leaving_nextW hfr fns hf ⟨oe,vs,T2,oT,ts,he,hc,hd,h1,rf _ (gx _ hm),mh,hT,hdT,h3⟩ stay hen λh' L=>fin h' L
 rw[<- hX] at go ⊢;show go
end
theorem FP(hx:X.ex=[])(I:Φ X π σ H s)(c:C7 X.Ω X.w X.stack H s E e s'):
  ∃ea cls a0 H' Q,e=.ref ea/\Φ X π σ H' s'/\oX X π H' s' ea cls a0 Q/\E cls af H':=by
 obtain⟨ea,T,cls,a0,H',oe,oT,vs,ts,rfl,os,bare,un,hok,n1,n2,g1,g2,mh,he,hc,hd,h1,hT,hdT,h3,hE⟩:=c;have J:Φ X π σ H' s':=I.call' (ch:=[]) os un hok bare λb z=>Zw z (by simp);have no:∀q,q∈[ea,T]->s.heap.get? q=af:=λq hq=>by
  rcases bz.1 hq with rfl|hq
  .exact g1
  .rw [cu.mp hq];show g2
 show⟨ea,cls,a0,H',[ea,T],rfl,J,⟨cx,λq hq=>?_,λq hq=>?_,λq hq=>?_,λq hq p hp z=>?_,.inr ⟨oe,vs,T,oT,ts,he,hc,hd,h1,by simp,mh,hT,hdT,h3⟩⟩,hE⟩
 .rcases bz.1 hq with rfl|hq
  .exact n1
  .rw [cu.mp hq];show n2
 .cases k:X.s₀.heap.get? q with
  |none=>rfl
  |some o =>
   obtain⟨o',eo⟩:=I.ω.there q o k (by rw[hx];simp);rw[no q hq] at eo;cases eo
 .rcases bz.1 hq with rfl|hq
  .exact ⟨oe,vs,he,hd⟩
  .rw [cu.mp hq];show⟨oT,ts,hT,hdT⟩
 .have:=(I.pin p hp).1;rw[z,no q hq] at this;cases this
def ZD(K:ao)(mg:Q0d)(R:n6):Sp:=λvs H Q E=>∃(S:ah->Prop) (ds:List D),(∀a,H a=af->S a)/\aV K S H ds vs/\match R ds with
 |.ok d=>∀v H',ξ H H'->Dn K S H' d v->Q v H'
 |.ex c=>∃C:ah,mg c=aa (.ref C) /\∀H',ξ H H'->E (.ref C) af H'
 |.no=>False
theorem Ic{P:bh}{w:az}{K:ao}{mg:Q0d}{ω:ba}{x qual:aj}{st:cf}{f:ah}{fd:gg}{N ps:Q0g}{k n np:Nat}{b:SF}(F:X7 K x qual st f fd)(S:hZ N ps (bD st))(hn:N.length=n)(hp:ps.length=np)
  (hbody:∀(cdv:ai) (A:bu) (Γ:List d_) (s:ak) (H:Hp) (E:XK),gF k (A.deeper (envOfC qual (bD st) s.heap.objs.size f cdv)) ->
   oY (mX (C7 P w) P w K mg ω N qual (bD st) f cdv A Γ s H E) (f9 st) b):lA P w K mg ω (C7 P w) (k+1) f fd ps (ZD K mg (dE n np b)):=by
 subst hn hp;obtain⟨oc,od,kV,doc,pm,an,cdv,ct,osl,rfl,lk,hcd⟩:=F.ex;have hlen:∀ds:List D,dE N.length ps.length b ds≠.no->ds.length=ps.length:=λds h=>by
  by_cases e:ds.length=ps.length
  .exact e
  .exact Zw (show dE N.length ps.length b ds=.no by unfold dE;rw[Zz e]) h
 show Br lk hcd S (λvs H Q E h=>?_) λA Γ s H vs Q E hr h=>?_
 .obtain ⟨S',ds,_,dn,hR⟩:=h;rw[<- dn.len];show hlen ds λz=>by rw[z] at hR;show hR
 .obtain ⟨S',ds,fc,dn,hR⟩:=h;have hl:ds.length=ps.length:=hlen ds λz=>by rw[z] at hR;show hR
  have hdn:=dn.len;show⟨_,hbody cdv A Γ s H E hr,H,S',λ_=>0,kO N ds,[],{nx:=λ_=>dE N.length ps.length b ds=.ok .non,rt:=λd=>dE N.length ps.length b ds=.ok d,ex:=λc=>dE N.length ps.length b ds=.ex c},?_,E3 fc dn,?_,⟨λw' σ' H' ρ' _ st' q=>?_,λv H' d s' d' q=>?_,λ_ _ _ _ _ _ q=>q,λ_ _ _ _ _ _ q=>q,λc H' sm q=>?_⟩⟩
  .have hp:ps.length<=N.length:=by have:=congrArg sr S.pre;rw[ig] at this;lia
   unfold L2.start;show _=N.length;rw[dm,bj,jw];lia
  .have e2:kO N ds=dW N.length ds:=rfl;have e3:dE N.length ps.length b ds=(match b (dW N.length ds) with | .rt d=>.ok d | .nx _=>.ok .non | .ex c=>.ex c | .no=>.no):=by unfold dE;rw[Z_ hl]<;>cases b (dW N.length ds)<;>rfl
   rw[e3] at hR;unfold wS;rw[e2]
   cases hb:b (dW N.length ds) with
   |rt d'=>rw[hb] at e3;show e3
   |nx ρ=>rw[hb] at e3;show e3
   |ex c=>rw[hb] at e3;show e3
   |no=>rw[hb] at hR;show hR
  .rw [q] at hR;show hR .non H' st'.sm (by symm)
  .rw [q] at hR;show hR v H' s' d'
  .rw [q] at hR;obtain⟨C,hm,hE⟩:=hR;show⟨C,hm,λπ σ s' e a0 P I T=>UQ I T (hE H' sm)⟩
theorem fd5{P:bh}{w:az}{K:ao}{mg:Q0d}{ω:ba}{x:aj}{st:cf}{N ps:Q0g}{k n np:Nat}{b:SF}(D:Df K mg x st ps)
  (h:∀{f:ah} {cdv:ai} {A:bu} {Γ:List d_} {s:ak} {H:Hp} {E:XK},gF k (A.deeper (envOfC x (bD st) s.heap.objs.size f cdv))->N.Nodup->oY (mX (C7 P w) P w K mg ω N x (bD st) f cdv A Γ s H E) (f9 st) b)
  (S:hZ N ps (bD st):=by show⟨rfl,rfl,rfl,by decide+kernel,rfl,by decide+kernel,by decide+kernel⟩) (hn:N.length=n:=by rfl) (hp:ps.length=np:=by rfl):Cl P w K mg ω (C7 P w) (k+1) x ps (ZD K mg (dE n np b)):=by
 obtain⟨_,F,m,q⟩:=D;show⟨Ic F S hn hp λ_ _ _ _ _ _ hr=>h hr S.nd,m,F.kp,q⟩
section
variable{X:Cx}{k:Nat}{f:ah}{fd:gg}{ps:Q0g}{R:n6}{x:aj}{p ν:br}{e:av}{es:List av}{t:AF}
theorem Bo(C:Cl X.Ω X.w X.K X.mg X.ω (C7 X.Ω X.w) k x ps (ZD X.K X.mg R))(hr:gF k X.A)
  (ha:yP X (e::es) t) (hg:Gl X x:=by rfl) (hdb:Zu x:=by decide) (he:Zs X e es:=by rfl) (hpl:Q0l X ν es:=by rfl):
  bR X (.Call (.Name x p) (e::es) [] ν) (aT R t):=by
 obtain⟨F,hm,hk,hb⟩:=C;show imp (qD (E:=E0) F hr hg hm hk hb .nil (λπ σ H s e s' _ c=>by obtain⟨_,_,_,_,_,_,_,_,_,_,_,_,_,_,_,_,_,_,_,_,_,_,_,_,_,_,hE⟩:=c;show hE.elim) ha hdb he hpl) λσ H Q Tp=>?_;obtain⟨S,ρ,Q3,fc,sl,⟨d,ed,q3⟩,k⟩:=Tp;obtain⟨ds,et,ed⟩:=bnd ed;show⟨S,ρ,λz=>z=ds,fc,sl,⟨ds,et,rfl⟩,λvs H1 ds' s1 d1 q1=>?_⟩;subst q1;show ZD X.K X.mg R (vs++[]) H1 Q E0;rw[gq];show⟨S,ds',bG fc s1,d1,?_⟩
 cases h:R ds' with
 |ok d'=>rw[h] at ed;cases ed;show λv H' s' d'=>k v H' _ (s1.trans s') d' q3
 |no=>rw[h] at ed;cases ed
 |ex c=>rw[h] at ed;cases ed
def tR(X:Cx)(r:RF):TE:=λσ H _=>∃(S:ah->Prop) (ρ:cM) (c:aj),(∀a,H a=af->S a)/\Sl X.K S H ρ σ/\r ρ=aa c /\∀H',ξ H H'->XC X c H'
def PR(X:Cx)(e:av)(r:RF):Prop:=PE X e (tR X r)
theorem UR(hx:X.ex=[])(C:Cl X.Ω X.w X.K X.mg X.ω (C7 X.Ω X.w) k x ps (ZD X.K X.mg R))(hr:gF k X.A)
  (ha:yP X (e::es) t) (hg:Gl X x:=by rfl) (hdb:Zu x:=by decide) (he:Zs X e es:=by rfl) (hpl:Q0l X ν es:=by rfl):
  PR X (.Call (.Name x p) (e::es) [] ν) (DH R t):=by
 obtain⟨F,hm,hk,hb⟩:=C;show imp (qD (E:=λcls _ H'=>∃c C,cls=.ref C/\X.mg c=aa (.ref C)/\XC X c H') F hr hg hm hk hb .nil (λπ σ H s e s' I c=>by obtain⟨ea,cls,a0,H',Q,rfl,J,T,c,C,rfl,hmc,C2,hm2,xc⟩:=FP hx I c;rw[hmc] at hm2;cases hm2;show xc π σ s' ea a0 Q J T) ha hdb he hpl) λσ H Q hV=>?_
 obtain⟨S,ρ,c,fc,sl,ec,k⟩:=hV;obtain⟨ds,et,ed⟩:=bnd ec;show⟨S,ρ,λz=>z=ds,fc,sl,⟨ds,et,rfl⟩,λvs H1 ds' s1 d1 q1=>?_⟩;subst q1;rw[gq];show⟨S,ds',bG fc s1,d1,?_⟩
 cases h:R ds' with
 |ex c' =>
  rw[h] at ed;cases ed;obtain⟨C,hmC,_⟩:=k H1 s1;show⟨C,hmC,λH' sm=>⟨c,C,rfl,hmC,k H' (s1.trans sm)⟩⟩
 |ok d=>rw[h] at ed;cases ed
 |no=>rw[h] at ed;cases ed
def Xb{e:av}{t u:TE}(h1:PE X e t)(h2:PE X e u):PE X e (λσ H Q=>t σ H Q\/u σ H Q):=λπ s σ H Q I h=>h.elim (h1 π s σ H Q I) (h2 π s σ H Q I)
theorem Bn{i:Nat}{x:aj}{e:av}{f:EF}{r:RF}{ν pos':br}(hN:X.N.Nodup)(h:bR X e f)(hr:PR X e r)(hi:X.N[i]?=aa x:=by rfl)(hx:Loc X.env.scope x:=by walk_at "0")(hs:Si X e x pos' ν:=by rfl)(hf:Zq X x:=by walk_at "0"):
  tL X (.Assign [.Name x pos'] e ν) (DI r (bP i f)):=kM (mW hN hi hx (Xb hr h) hs hf) λB σ H To=>by
 obtain⟨H₀,S,w,ρ,G,E,hl,st,ht,ok⟩:=To;unfold wS DI at ht
 cases hc:r (bK ρ) with
 |some c =>
  rw[hc] at ht;show .inl ⟨S,bK ρ,c,st.PB,st.all,hc,λH' sm=>ok.ex c H' (st.sm.trans sm) ht⟩
 |none =>
  rw[hc] at ht;dsimp only at ht;unfold bP at ht
  cases hf:f (gQ ρ) with
  |none=>rw[hf] at ht;show ht.elim
  |some d =>
   rw[hf] at ht;show .inr ⟨_,gQ ρ,_,st.ID,st.rd,⟨d,hf,ht⟩,λv H' d s' d' q'=>ok.nx w _ H' _ (by rw[gb];show hl) ((st.same s').mZ (by rw[hl];show jA hi) d') q'⟩
end
abbrev bmV:List ai:=[.type "ValueError",.type "Exception",.type "BaseException",.type "object"]
structure ZE (K:ao) (C:ah):Prop where
 ex:∃nm q N bs bm hdct sn sub ab col dd k0 k1 k2 k3 k5,K.lookup C=aa (excClassObj nm q C N bs bm hdct sn sub ab col dd k0 k1 k2 k3 k5 "ValueError.__new__")/\PySem.W.tailIn K bmV bm=ae/\PySem.W.nsOkIn K N=ae/\ie K N "__init__"=aa af
section
variable{X:Cx}
theorem US(hx:X.ex=[])(hcalm:X.calm=ae)(hm:X.mg c=aa (.ref C))(hC:ZE X.K C)(ha:yP X (e::es) t)(hg:Gl X c:=by rfl)(hd:Zu c:=by decide)
  (he:Zs X e es:=by rfl) (hpl:Q0l X cpos es:=by rfl):
  tL X (.Raise (aa (.Call (.Name c np) (e::es) [] cpos)) af ν) (uD t c):=by
 intro π s σ H B I ⟨H₀,S,w,ρ,G,E,hl,st,ht,ok⟩;unfold wS uD at ht
 cases et:t (bK ρ) with
 |none=>rw[et] at ht;show ht.elim
 |some ds =>
  rw[et] at ht;dsimp only at ht;by_cases uk:ds.length<=10
  .rw [Z_ uk] at ht;obtain⟨nm,q,N,bs,bm,hdct,sn,sub,ab,col,dd,k0,k1,k2,k3,k5,lk,tl,no,ni⟩:=hC.ex;show wpAny_Raise_call_subT (C:=C) (nm:=nm) (q:=q) (N:=N) (bs:=bs) (bm:=bm) (hdct:=hdct) (sn:=sn) (sub:=sub) (ab:=ab) (col:=col) (dd:=dd) (k0:=k0) (k1:=k1) (k2:=k2) (k3:=k3) (k5:=k5) (mN:=X.ω.nsMap N)
    PySem.F.excBase_ValueError ((a0L I.uN tl).hasType rfl) (I.ok.hd hcalm) (by rw[he];show(ag||(cp cpos (ar es X.env)).any (·.1))=ag;rw[hpl];rfl) (PySem.W.nsMap_none_of_in I.ok.mod.kin no ni) (uO I hg hm ⟨rfl,?_⟩ hd)
   have hN:X.ω.Ns N (X.ω.nsMap N):=.of_isNs (PySem.W.isNs_of_in I.ok.mod.kin no);have args:=ha cpos π s σ H (λvs H1=>vs.length=ds.length/\ξ H H1) I ⟨S,bK ρ,λz=>z=ds,st.PB,st.all,⟨ds,et,rfl⟩,λvs H1 ds' s1 d1 q1=>⟨by rw[<- d1.len,q1],s1⟩⟩;rw[he] at args ⊢;show a1r (ja args (λus s1 ⟨vs,H1,I1,r,hlen,sm⟩=>?_) λ_ _ z=>z);show⟨rfl,?_,I1.uN _ _ lk,hN.keeps I1.bk,a0L I1.uN tl,λh' ea mk=>?_⟩
   .show us.length<=bg;rw[<- r.length,hlen];show iq uk (by decide)
   .obtain ⟨C',hm',xc⟩:=ok.ex c H1 (st.sm.trans sm) ht;rw[hm] at hm';cases hm';obtain⟨tt,oe,_,_⟩:=mk.there;have I2:Φ X π σ H1 {s1 with heap:=h' }:=I1.kept (t':=s1.toks) mk.keeps;show xc π σ _ ea (.ref tt) [ea] I2 ⟨cx,λq hq=>?_,λq hq=>?_,λq hq=>?_,λq hq p hp z=>?_,.inl ⟨_,_,oe,rfl,rfl,rfl,rfl⟩⟩
    .rw [cu.1 hq]
     cases k:H1 ea with
     |none=>rfl
     |some o =>
      obtain⟨u,eu⟩:=rZ (I1.hok _ _ k);rw[mk.new] at eu;cases eu
    .rw [cu.1 hq]
     cases k:X.s₀.heap.get? ea with
     |none=>rfl
     |some o =>
      obtain⟨o',eo⟩:=I1.ω.there ea o k (by rw[hx];simp);rw[mk.new] at eo;cases eo
    .rw [cu.1 hq];show⟨_,_,oe,rfl⟩
    .have:=(I1.pin p hp).1;rw[z,cu.mp hq,mk.new] at this;cases this
  .rw [Zz uk] at ht;show ht.elim
end
open PySem.W Builtin.ObjectAttr Builtin.Getset_descriptor
structure sA (K:ao) (C:ah):Prop where
 hc:isClsIn K C=ae
 hm:mroIn K C (.type "object")=aa ae
 hs:subIn K (.ref C) (.type "BaseException")=aa ae
 hga:findIn K (.ref C) "__getattribute__"=aa (aa (.builtin "BaseException.__getattribute__"))
 hgg:findIn K (.ref C) "__getattr__"=aa af
 ha:findIn K (.ref C) "__class__"=aa (aa (.builtin "object.__class__"))
 hn:specialIn K (.builtin "object.__class__") "__get__"=aa (aa (.builtin "getset_descriptor.__get__"))
 ht:takesIn K (.builtin "object.__class__")=aa ae
def Is(a C:ah)(h:ba):Prop:=∃o,h.get? a=aa o/\o.cls=.ref C
section
variable{Ω:bh}{w:az}{A:bu}{E:Q0c}{s:ak}{K:ao}{a C:ah}
def nY{M:lh}{h:ba}(i:Is a C h):rj M h (typeOf (.ref a)) (.ref C):=by obtain⟨o,h1,h2⟩:=i;show h2▸Looks.andThen (Looks.ld h1) .now
theorem ZF{tp:ai}{R:xb->ak->Prop}(X:K.In s.heap)(i:Is a C s.heap)(q:sA K C)(h:R (.ok (.ret (.ref C))) s):
  ml (au Ω w) A (.call (.builtin "getset_descriptor.__get__") ⟨[.builtin "object.__class__",.ref a,tp],[]⟩) R s:=by
 obtain⟨hp0,g0,dr0,t0,os0⟩:=s;have L0:=nY (M:=au Ω w) i;have L1:=looks_mroIn (M:=au Ω w) X q.hm;show a0G a0X.plain KF.entry_gs ?_;show a0X.check _ _ _ _ _ _ _ _ KF.type_class (KF.args_gs _ _ _) ?_;unfold Builtin.«getset_descriptor.__get__» descrGet;rw[dga_obj];show aq (a_ ?_);unfold descrGetter descrCheckInstance descrNameAndClass isInstance;simp only[KF.owner_class]
 repeat lk
 show uf (Code.quiet_builtin _ (by decide+kernel)) (ra KF.entry_class ?_);unfold Builtin.«object.__class__» shownTypeOf;repeat lk
 show h
def UT{tk:gy}{Q:xi->ak->Prop}(X:K.In s.heap)(i:Is a C s.heap)(q:sA K C)(hq:Q (.done (.ret (.ref C))) s):ay (au Ω w) A (Builtin.«object.__getattribute__» ⟨[.ref a,.str "__class__" tk],[]⟩) Q E s:=by
 obtain⟨hh,g,d,t,os⟩:=s;have L0:=nY (M:=au Ω w) i;have L1:rj (au Ω w) hh (a3F (.ref a) (.ref C) "__class__") (.bind (.builtin "getset_descriptor.__get__") (.builtin "object.__class__")) :=
  have L3:rj (au Ω w) hh (a3G (aa (.builtin "object.__class__")) (aa (.builtin "getset_descriptor.__get__"))) (aa (.builtin "getset_descriptor.__get__",.builtin "object.__class__")):=(looks_takesIn X q.ht).andThen Looks.now
  (Dt X q.ha).andThen ((looks_specialIn X q.hn).andThen (L3.andThen (Looks.tag .now)))
 unfold xo.«object.__getattribute__»;show aq (a_ (aq (a_ (aq (L0.at (aq (L1.at ?_)))))));show ay _ _ (holding [.builtin "object.__class__"] (call (.builtin "getset_descriptor.__get__") [.builtin "object.__class__",.ref a,.ref C]) >>= ret) _ _ _;show aq (h_ (Cy (ZF (s:=⟨hh,g,d,t,os⟩) X i q (a_ hq))))
def OG{M:lh}{nv:ai}{Q:Unit->ak->Prop}(X:K.In s.heap)(i:Is a C s.heap)(q:sA K C)(hq:Q () s):ay M A (checkBuiltinCall "BaseException.__getattribute__" ⟨[.ref a,nv],[]⟩) Q E s:=by
 obtain⟨hh,g,d,t,os⟩:=s;have L:rj M hh (isInstance (.ref a) (.type "BaseException")) ae:=(nY (M:=M) i).andThen (looks_subIn X q.hs);have k1:builtinKind "BaseException.__getattribute__"=aa .slot:=by decide+kernel
 have k2:splitId "BaseException.__getattribute__"=aa ("BaseException","__getattribute__"):=by decide+kernel
 simp only[checkBuiltinCall,k1,k2];show aq (L.at ?_);rw[Zz (by decide)];show a0i (F.args_bexc_ga (.ref a) nv) hq
def Xa{tk:gy}{Q:Q0c}(X:K.In s.heap)(i:Is a C s.heap)(q:sA K C)(hq:Q (.ref C) s):ay (au Ω w) A (getAttrBy (.ref a) (.str "__class__" tk) ag) Q E s:=by
 obtain⟨hh,g,d,t,os⟩:=s;have L0:=nY (M:=au Ω w) i;have L1:=Dt (M:=au Ω w) X q.hga;have L2:=Dt (M:=au Ω w) X q.hgg;unfold getAttrBy;show h_ (aq (L0.at ?_));show aq (L1.at ?_);dsimp only;have ne:(a01 "BaseException.__getattribute__" == a01 "object.__getattribute__")=ag:=by decide+kernel
 rw[ne,a2C,Zz bx];unfold getAttrByItsOwn hookBefore;rw[Z_ (show onTheHeap (df C)=ae from rfl)];show aq (L2.at (aq (Cz (h_ ?_))));unfold callGetattribute;rw[Zz (by simp)];unfold boundAndCalled;show aq (a0i (a1m.ga.bind (.ref a)) ?_);show Cy (a0G a1m.ga.plain F.entry_bexc_ga (OG (s:=⟨hh,g,d,t,os⟩) X i q (UT (s:=⟨hh,g,d,t,os⟩) X i q ?_)));show handed_on rfl hq
def UU(X:K.In s.heap)(i:Is a C s.heap)(q:sA K C)(hq:Q (aa (.ref C)) {s with toks:=s.toks+1}):ay (au Ω w) A (getAttr? (.ref a) "__class__") Q E s:=by obtain⟨hh,g,d,t,os⟩:=s;unfold getAttr? getAttrBy?;show aq (wpAny_mkText (aq (Cz ?_)));show Xa (s:=⟨hh,g,d,t+1,os⟩) X i q (a_ hq)
theorem UW(q:sA K C):KitX K (.ref a) (.ref C) (Is a C) where
 ty:=λ_ _ _ i=>nY i
 it:=λ_ _ X _=>by
  have hc:(clsIn K C).isSome=ae:=q.hc;unfold clsIn at hc;split at hc
  .rename_i lk;intro A' Q' E' s' k h;unfold isType loadHead;show aq (wpAny_loadPart (k _ _ (X _ _ lk)) (a_ h))
  .cases hc
 ne:=λh tp d0 ι n0 sl0 X htp=>by
  have hc:(clsIn K C).isSome=ae:=q.hc;show a2B.mpr λz=>?_;obtain rfl:C=tp:=a2R (beq_iff_eq.mp z);unfold clsIn at hc;split at hc
  .rename_i lk;cases (X _ _ lk).symm.trans htp
  .cases hc
 ca:=λX i k=>UU X i q k
variable{X:Cx}
def pC(X:Cx)(e C:ah):Prop:=∃oe:ax,(e,oe)∈X.pn/\oe.cls=.ref C
def pC.is(h:pC X e C)(I:Φ X π σ H s):Is e C s.heap:=by obtain⟨oe,hm,hc⟩:=h;show⟨oe,(I.pin _ (gx _ hm)).1,hc⟩
theorem FQ(hp:pC X e C)(q:sA X.K C)(hu:∀u',Ψ v u'->u'=u)(hb:pz X.K (.ref C) u=aa b):
  gM X (.builtin "isinstance") (λxs H Q=>xs=[.ref e,v]/\Q (.bl b) H):=by
 intro π s σ H xs us Q I r h;obtain⟨rfl,h⟩:=h;obtain⟨u1,u2,rfl,r1,r2⟩:=vals2 r;cases r1;obtain rfl:=hu u2 r2;show jb (UW q) I.uN (hp.is I) hb (λz=>nomatch z) λtk=>⟨.bl b,H,I.tok tk,rfl,h⟩
theorem iZ{i:Nat}{n x c:aj}{e C D:ah}{b:Bool}{p p1 p2 ν:br}(hp:pC X e C)(q:sA X.K C)(hm:X.mg "isinstance"=af)(hD:X.mg x=aa (.ref D))(hb:pz X.K (.ref C) (.ref D)=aa b)
  (hN:X.N[i]?=aa n:=by rfl) (hv:x6 X.env.scope n:=by walk_at "1") (hd:Zu n:=by decide) (hcd:Zt n:=by decide)
  (hg:Gl X "isinstance":=by rfl) (hgx:Gl X x:=by rfl) (hdx:Zu x:=by decide)
  (hs:ar [.Name n p1,.Name x p2] X.env=(ag,eval (.Name n p1) X.env)::ar [.Name x p2] X.env:=by rfl) (hs2:ar [.Name x p2] X.env=(ag,eval (.Name x p2) X.env)::ar [] X.env:=by rfl) (hpl:(cp ν (ar [.Name x p2] X.env)).any (·.1)=ag:=by rfl):
  bR X (.Call (.Name "isinstance" p) [.Name n p1,.Name x p2] [] ν) (cC c e b i) :=
 imp (iY (FQ (v:=.ref D) hp q (λu' r=>by cases r;rfl) hb) hg hm Es (dG (x4 i hN hv hd hcd) (dG (XJ (v:=.ref D) hgx hD rfl hdx) iN hs2) hs) (by decide) (by decide) hs hpl) λσ H Q Sm=>by obtain⟨S,ρ,Q3,fc,sl,⟨d,ed,q3⟩,k⟩:=Sm;obtain⟨ev,rfl⟩:=JV ed;show⟨S,ρ,λz=>z=.exc c e,fc,sl,⟨_,ev,rfl⟩,λv H1 d s1 d1 q1=>?_⟩;subst q1;symm at d1;subst d1;show⟨rfl,k _ H1 _ s1 (by symm) q3⟩
theorem Bm(hp:pC X e C)(q:sA X.K C)(hm:X.mg "isinstance"=af)(hD:X.mg x=af)(hbt:bootBuiltins x=aa (.type T))(hb:pz X.K (.ref C) (.type T)=aa b)
  (hN:X.N[i]?=aa n:=by rfl) (hv:x6 X.env.scope n:=by walk_at "1") (hd:Zu n:=by decide) (hcd:Zt n:=by decide)
  (hg:Gl X "isinstance":=by rfl) (hgx:Gl X x:=by rfl) (hnx:x ≠ "__name__":=by decide) (hdx:Zu x:=by decide)
  (hs:ar [.Name n p1,.Name x p2] X.env=(ag,eval (.Name n p1) X.env)::ar [.Name x p2] X.env:=by rfl) (hs2:ar [.Name x p2] X.env=(ag,eval (.Name x p2) X.env)::ar [] X.env:=by rfl) (hpl:(cp ν (ar [.Name x p2] X.env)).any (·.1)=ag:=by rfl):
  bR X (.Call (.Name "isinstance" p) [.Name n p1,.Name x p2] [] ν) (cC c e b i) :=
 imp (iY (FQ (v:=.ty T) hp q (λu' r=>r) hb) hg hm Es (dG (x4 i hN hv hd hcd) (dG (K2 (v:=.ty T) hgx hD hbt rfl hnx hdx) iN hs2) hs) (by decide) (by decide) hs hpl) λσ H Q Sk=>by obtain⟨S,ρ,Q3,fc,sl,⟨d,ed,q3⟩,k⟩:=Sk;obtain⟨ev,rfl⟩:=JV ed;show⟨S,ρ,λz=>z=.exc c e,fc,sl,⟨_,ev,rfl⟩,λv H1 d s1 d1 q1=>?_⟩;subst q1;symm at d1;subst d1;show⟨rfl,k _ H1 _ s1 (by symm) q3⟩
end
def hcx(X:Cx)(hd:Option ai)(pn:Q0b):Cx:={X with A:=X.A.mark hd,calm:=ag,pn:=pn,xe:=λ_ _=>False}
section
variable{X:Cx}{π:Q0b}{σ:L2.St}{H:Hp}{s:ak}
def CQ{n i:Nat}{v:V}(h:(cc n (af:Option V))[i]?=aa (aa v)):False:=by rw[jg] at h;split at h<;>cases h
theorem zv{hd:Option ai}{pn:Q0b}(I:Φ X π σ H s)(hp:∀p∈pn,s.heap.get? p.1=aa p.2/\H p.1=af/\p.1≠X.env.locals/\p.1∉X.fs /\∀v,p.2.data≠.cell v):
  Φ (hcx X hd pn) [] (cc X.N.length af) H s:=by
 obtain⟨m,hn,_⟩:=id I.loc;show⟨⟨I.ok.mod,I.ok.kind,I.ok.glob,I.ok.blt,I.ok.above,I.ok.inj,I.ok.has,I.ok.cab,λz=>(nomatch z),?_,I.ok.stk,I.ok.exf,I.ok.bs,I.ok.RG,I.ok.HK,I.ok.MY,I.ok.oR,I.ok.frf,I.ok.tab⟩,I.os,I.bare,I.ω,⟨m,hn,λi x v _ h2 _=>(CQ h2).elim⟩,I.cell,I.free,I.hJ,λp h=>?_,I.hok,by show(cc X.N.length af).length=X.N.length;rw[jw]⟩
 .exact I.ok.frames
 .have h:p∈pn++[]:=h;rw[gq] at h;show hp p h
def Sj{X:Cx}{π Bl pn:Q0b}{hd:Option ai}{σ':L2.St}{H:Hp}{s:ak}(ok:X.Ok)(I:Φ (hcx X hd pn) Bl σ' H s)(sub:∀p∈X.pn++π,p∈pn):Φ X π (cc X.N.length af) H s:=by obtain⟨m,hn,_⟩:=id I.loc;show⟨ok,I.os,I.bare,I.ω,⟨m,hn,λi x v _ h2 _=>(CQ h2).elim⟩,I.cell,I.free,I.hJ,λp h=>I.pin p (gx _ (sub p h)),I.hok,by rw[jw]⟩
def Bk{h':ba}{m':Q0d}{t:Nat}(I:Φ X π σ H s)(hn:h'.Ns X.env.locals m')(hs:mr X.env.locals s.heap h'):Φ X π (cc X.N.length af) H {s with heap:=h',toks:=t}:=by
 have CN:∀b o,X.s₀.heap.get? b=aa o->b≠X.env.locals:=λb o q=>fz (gj (b_ q) I.ok.above);show⟨I.ok,I.os,I.bare,⟨λb o e n hb hx=>(hs.2 b (CN b o e)).trans (I.ω.keep b o e n hb hx),λb o e n hb hx=>?_,I.ω.free,λb o e hx=>?_,I.ω.tups,I.ω.tX,I.ω.rN⟩,⟨m',hn,λi x v _ h2 _=>(CQ h2).elim⟩,λx c e=>?_,I.free,I.hJ,λp hp=>?_,λb ob e=>?_,by rw[jw]⟩
 .obtain ⟨sl,q⟩:=I.ω.slot b o e n hb hx;show⟨sl,(hs.2 b (CN b o e)).trans q⟩
 .obtain ⟨o',q⟩:=I.ω.there b o e hx;show⟨o',(hs.2 b (CN b o e)).trans q⟩
 .obtain ⟨v,ic⟩:=I.cell x c e;show⟨v,ic.sameBut hs (I.XI x c e)⟩
 .obtain ⟨q,n,ne,nf,d⟩:=I.pin p hp;show⟨(hs.2 _ ne).trans q,n,ne,nf,d⟩
 .refine (I.hok b ob e).stay (λc u hc q=>(hs.2 c λz=>?_).trans q) (λ_ q=>q) λ_ _ q=>q;rcases hc with rfl|hc
  .rw [z,I.free] at e;cases e
  .rw [z,I.free] at hc;cases hc
theorem looked{π:Q0b}{σ:L2.St}{H:Hp}{s:ak}{e:ah}{cls a0:ai}{P:List ah}{E:Q0c}{Q:ak->Prop}(hst:X.stack=X.env::X.Γ)(hf:X.env.frame=aa X.env.locals)(I:Φ X π σ H s)(T:oX X π H s e cls a0 P)
  (k:∀h',Φ X π σ H {s with heap:=h' }->h'.TracedW (hideAll s.heap (P++frs X.stack)) e cls a0->(hideAll s.heap (P++frs X.stack)).StaysIn h'->h'.FunFrames (hideAll s.heap (P++frs X.stack)) X.stack->s.heap.UpToSlots h'->Q {s with heap:=h' }):
  ay (au X.Ω X.w) X.A (noteFrame (.ref e) X.env) (λ_ s2=>ay (au X.Ω X.w) X.A (setFlight (.ref e) af) (λ_ s3=>Q s3) E s2) E s:=by
 have hin:∀env∈X.stack,∀b,env.frame=aa b->b∈P++frs X.stack:=λenv he b hb=>ir _ (qj.mpr ⟨env,he,hb⟩);have stay:(hideAll s.heap (P++frs X.stack)).StaysIn s.heap:=λb o q=>Ds _ q;have fns:s.heap.FunFrames (hideAll s.heap (P++frs X.stack)) X.stack:=a0Q I.stack hin;have hen:(hideAll s.heap (P++frs X.stack)).get? e=af:=rf _ (gx _ T.mem);generalize hB:hideAll s.heap (P++frs X.stack)=B at *;have next:∀h',Heap.NotedW B X.stack e cls a0 (rawInt X.env.locals) s.heap h'->ay (au X.Ω X.w) X.A (setFlight (.ref e) af) (λ_ s3=>Q s3) E {s with heap:=h' }:=λh' Sg=>by
  obtain⟨k1,k2,k3,k4⟩:=Sg;show a0f (s:={s with heap:=h' }) k1 k2 k3 λh2 j1 j2 j3 j4=>?_;have us:s.heap.UpToSlots h2:=λb o eb nf=>by obtain⟨sl,q⟩:=k4 b o eb nf;show⟨sl,j4 b _ q nf⟩
  show k h2 (flown I T (λb o n1 n2 q=>j1 b o ?_) us) j3 j1 j2 us;rw[<- hB];show rh _ q λz=>(gn.mp z).elim n1 n2
 have hfr:=I.ok.frames;rw[hst] at hfr fns next
 rcases T.tr with⟨oe,vs,he,hc,hd,h1,h0⟩|⟨oe,vs,T2,oT,ts,he,hc,hd,h1,hm,mh,hT,hdT,h3⟩
 .subst hc;unfold noteFrame;simp only[hf];show aq (mj (x:=.none) he hd h1 ?_);rw[Zz (by decide)];show wpAny_entryW hfr fns hf he stay hen hd (Array.getElem?_eq_some_iff.mp h1).1 h0 next
 .have qx:B.get? T2=af:=by rw[<- hB];show rf _ (gx _ hm)
  show wpAny_noteFrame_onW hfr fns hf ⟨oe,vs,T2,oT,ts,he,hc,hd,h1,qx,mh,hT,hdT,h3⟩ stay hen next
def CPB(i j:Int):Prop:=0<=j/\j<=100/\i.natAbs<2^1000
def ZG:i9 X (binaryOp .Pow) (rI CPB λi j=>.int (i^j.toNat)):=XO λ_ _ _ _ _ _ _ hc q=>by obtain⟨h0,h1,hb⟩:=hc;show a3J h0 (Gk (Int.mul_le_mul_of_nonneg_right (?_:_<=(1000:Int)) h0) ∅) q;have:=En hb;lia
def Sf(ha:bR X a fa)(hb:bR X b fb):bR X (.BinOp a .Pow b ν) (aC JW fa fb):=cE (SU ZG l4 ha hb) (h8 (fC λi j h=>by simp only[ij,decide_eq_true_eq] at h;show⟨h.1.1,h.1.2,h.2⟩))
def nA{p:Prop}(h:ag=ae):p:=nomatch h
def ExI(mro:Q0f)(sl:List (Option ai))(P:ah->List ai->String->Bool):Prop:=∃C1 bm y0 y1 y2 y3 n y5,mro=.ref C1::bm/\sl=[y0,y1,y2,y3,aa (.builtin n),y5]/\P C1 bm n=ae
theorem OH(h:excIn.match_1 (λ_ _=>Bool) mro sl (λC1 bm _ _ _ _ n _=>P C1 bm n) (λ_ _=>ag)=ae):
  ExI mro sl P:=by
 cases mro with
 |nil=>show nA h
 |cons v bm =>
 cases v with
 |ref C1 =>
  cases sl with
  |nil=>show nA h
  |cons y0 sl =>
  cases sl with
  |nil=>show nA h
  |cons y1 sl =>
  cases sl with
  |nil=>show nA h
  |cons y2 sl =>
  cases sl with
  |nil=>show nA h
  |cons y3 sl =>
  cases sl with
  |nil=>show nA h
  |cons y4 sl =>
  cases y4 with
  |none=>show nA h
  |some w =>
  cases w with
  |builtin n =>
   cases sl with
   |nil=>show nA h
   |cons y5 sl =>
   cases sl with
   |cons z sl=>show nA h
   |nil=>show⟨C1,bm,y0,y1,y2,y3,n,y5,rfl,rfl,h⟩
  |_=>show nA h
 |_=>show nA h
def LW{K:ao}{C:ah}(h:excIn K C bmV "ValueError.__new__"=ae):ZE K C:=by
 unfold excIn at h;split at h
 .rename_i dd cd sl lk;obtain⟨C1,bm,y0,y1,y2,y3,n,y5,e1,e2,h⟩:=OH h;obtain⟨a1,a2,a3,a4,a5,a6,a7,a8,a9,a10,a11⟩:=cd;obtain⟨sl⟩:=sl;dsimp only at e1 e2 h;subst e1 e2;simp only[ij,beq_iff_eq,a2z] at h;obtain⟨⟨⟨⟨⟨g1,g2⟩,g3⟩,g4⟩,g5⟩,g6⟩:=h;subst g1 g2 g3;show⟨⟨a1,a5,a4,a2,bm,a6,a7,a8,a9,a10,dd,y0,y1,y2,y3,y5,lk,g4,g5,g6⟩⟩
 .cases h
end
variable{K:ao}{C D:ah}
structure bB (K:ao) (C D:ah):Prop where
 ne:(df C == df D)=ag
 c:isClsIn K D=ae
 t:typeIn K (.ref D)=aa (.type "type")
 s:subIn K (.ref C) (.ref D)=aa ag
def AM(c:isClsIn K D=ae)(ht:typeIn K (.ref D)=aa (.type "type"))(s:subIn K t (.ref D)=aa b):kitCls K t (.ref D)=aa b:=by have c:(clsIn K D).isSome=ae:=c;unfold kitCls;dsimp only;rw[c,ht,Z_ (by decide)];show s
def bB.one(n:bB K C D):kitOne K (.ref C) (.ref D)=aa ag:=by unfold kitOne;rw[n.ne,Zz bx];show AM n.c n.t n.s
def FR:kitOne K (.ref C) (.ref C)=aa ae:=by unfold kitOne;rw[Z_ (by simp)]
def LX(k:kitMeta T=ae)(s:subIn K (.ref C) (.type T)=aa b):kitOne K (.ref C) (.type T)=aa b:=by unfold kitOne;rw[Zz (show ¬ (df C == nz T)=ae from λz=>by cases beq_iff_eq.mp z)];unfold kitCls;dsimp only;rw[Z_ k];show s
def UX(e1:subIn K (.ref D) (.type "BaseException")=aa ae)(e2:isClsIn K D=ae)(e3:typeIn K (.ref D)=aa (.type "type"))(e4:subIn K (.ref C) (.ref D)=aa b):exmOne K (.ref C) (.ref D)=aa b:=by unfold exmOne;rw[e1,Z_ (by decide)];show AM e2 e3 e4
end L5
namespace L5
open PySem.Spec PyProof.Rows L2 L3 L4
open Att
section
variable{X:Cx}{π:Q0b}{σ:L2.St}{H:Hp}{s:ak}
theorem ZH{D:ah}{u:HO}{m:Q0d}{h':ba}{t':Nat}(I:Φ X π σ H s)(hns:s.heap.Ns X.env.locals m)(ns':h'.Ns X.env.locals m)(qR:∀b o,b≠X.env.locals->s.heap.get? b=aa o->h'.get? b=aa o)(dead:s.heap.get? D=af)
  (ok:cZ X.Ω X.w (upd H D u) h' D u):H D=af/\Φ X π σ (upd H D u) {s with heap:=h',toks:=t' }:=by
 have hfr:H D=af:=by
  cases e:H D with
  |none=>rfl
  |some u =>
   obtain⟨o,eo⟩:=rZ (I.hok D u e);rw[dead] at eo;cases eo
 have neD:∀{b:ah} {o:ax},s.heap.get? b=aa o->b≠D:=λ{b o} e z=>by rw[z,dead] at e;cases e
 have OE:∀{b:ah} {u:HO},H b=aa u->b≠D:=λ{b u} e z=>by rw[z,hfr] at e;cases e
 show⟨hfr,?_⟩;show L2.Φ X π σ _ {s with heap:=h',toks:=t' };show I.step (s:=s) (h':=h') (g':=s.gens) (t':=t') (d':=s.drawn) (ch:=[]) (λb hb=>nomatch hb) (λb o hb _ _ e _=>qR b o hb e) (λb o hb _ _ e _=>⟨o.slots,qR b o hb e⟩) (λb o _ e n=>by rw[aQ (neD e)];show n) (λb o _ e=>?_)
  (λb xs e=>by rw[aQ (OE e)];show e) (λb o u e=>by rw[aQ (OE e)];show e) (λb ps e=>by rw[aQ (OE e),e]) (λm2 hm2=>?_) ?_ I.bare
 .by_cases hb:b=X.env.locals
  .subst hb;obtain⟨o2,_,_,e2,_⟩:=ns';show⟨o2,e2⟩
  .exact ⟨o,qR b o hb e⟩
 .have:m2=m:=by
   obtain⟨oa,ea,pa,h1,h2,_,h3⟩:=hm2;obtain⟨ob,eb,pb,k1,k2,_,k3⟩:=hns;rw[h1] at k1;cases k1;rw[h2] at k2;cases k2
   funext x
   rw[<- h3,<- k3]
  subst this;show ns'
 .intro b v e;by_cases hb:b=D
  .subst hb;rw[aO] at e;cases e;show ok
  .rw [aQ hb] at e;show(I.hok b v e).stay (λc w hc ew=>qR c w (λz=>?_) ew) (λc ec=>by rw[aQ (OE ec)];show ec) (λc ys ec=>by rw[aQ (OE ec)];show ec) λc o u ec=>by rw[aQ (OE ec)];show ec
   subst z;rcases hc with hc|hc
   .rw [<- hc,I.free] at e;cases e
   .rw [I.free] at hc;cases hc
def W_:V->List V->Hp->VK->Prop:=λx xs H Q=>∃z y,x=.str z/\xs=[.str y]/\z.length+2<=bg/\(y.length == 0)=ag /\∀l,H l=af->Q (.ref l) (upd H l (.lst ((n_ z y).map V.str)))
theorem AN:∀l:List (aj×gy),θ ((l.map (·.1)).map V.str) (strValues l)
 |[]=>.nil
 |p::r=>.cons ⟨p.2,rfl⟩ (AN r)
def UY:MtR X "str.split" W_:=by
 intro π s σ H x xs v us Q I rx r h;obtain⟨z,y,rfl,rfl,hz,hy,q⟩:=h;obtain⟨u,rfl,ty,rfl⟩:=vals1 r;obtain⟨tz,rfl⟩:=rx;obtain⟨m,hns,_⟩:=id I.loc;show splitN1 (h₀:=wJ s.heap) (L:=X.env.locals) (m:=m) (news:=ledger s.heap X.env.locals s.heap.objs.size) (R6 hns) (λp hp=>?_) hy (λl h' k e F N=>?_) hz
 .obtain ⟨x,o⟩:=p;obtain⟨n1,_,e⟩:=iO.mp hp;show⟨e,n1,oV _ _⟩
 .have dead:s.heap.get? s.heap.objs.size=af:=a09 (bp _);obtain⟨hf,I'⟩:=ZH (D:=s.heap.objs.size) (u:=.lst ((n_ z y).map V.str)) (t':=k) I hns F.ns (λb o hb e=>(N (b,o) (fq _ (iO.mpr ⟨hb,fz (b_ e),e⟩))).1) dead
   ⟨by rw[bj];show iq (a3K z y).2 hz,strValues l,0,by rw[<- e];show AN l,(N _ (cx ..)).1⟩
  show⟨.ref s.heap.objs.size,_,I',rfl,q _ hf⟩
theorem FT{K:ao}{S:ah->Prop}{H:Hp}:∀l:Q0g,aV K S H (l.map D.str) (l.map V.str)
 |[]=>aV.nil
 |x::r=>aV.cons (by symm) (FT r)
def OJ(h:splitM a b=aa d):∃x y,a=.str x/\b=.str y/\(x.length+2<=lP/\(y.length == 0)=ag)/\d=.lst ((n_ x y).map D.str):=by
 unfold splitM at h;split at h
 .split at h
  .rename_i z;cases h;show⟨_,_,rfl,rfl,z,rfl⟩
  .cases h
 .cases h
def Wz(ho:bR X o fo)(he:bR X e fe)(hbase:attributeBase o "split" X.env (eval o X.env)=eval o X.env:=by rfl)
  (hfew:Zp X cpos e:=by rfl)
  (hline:Q0k apos cpos:=by rfl) (hs:Zs X e []:=by rfl) (hplain:(cp cpos (ar [] X.env)).any (·.1)=ag:=by rfl):
  j6 X (.Call (.Attribute o "split" apos) [e] [] cpos) (aC splitM fo fe) :=
 imp (EU F.plainAttrs_str F.slot_str_split F.type_str_split UY ho (dG he iN hs) hbase hfew hline hs hplain) λσ H Q Se=>by obtain⟨S,ρ,Q3,fc,sl,⟨d,ed,q3⟩,k⟩:=Se;obtain⟨dx,ex,ed⟩:=bnd ed;obtain⟨dy,ey,ed⟩:=bnd ed;obtain⟨x,y,rfl,rfl,hz,rfl⟩:=OJ ed;show⟨S,ρ,λz=>z=.str x,fc,sl,⟨_,ex,rfl⟩,λv H1 d1 s1 pD q1=>?_⟩;subst q1;symm at pD;subst pD;show⟨rfl,S,ρ,λz=>z=.str y,bG fc s1,Sl.fits (.same s1) sl,⟨_,ey,rfl⟩,λv2 H2 d2 s2 t7 q2=>?_⟩;subst q2;symm at t7;subst t7;show⟨x,y,rfl,rfl,hz.1,hz.2,λl hl=>k l _ _ _ ((s1.trans s2).free hl) aO ((s1.trans s2).trans (aN hl)) (FT _) q3⟩
def UZ(he:LN X e f)(hg:YN X tg (wG g))(hs:swapsWithSole [tg] e ν.line X.env=pure ag:=by rfl)(hw:swappedStores [tg] e X.env=pure af:=by rfl)
  (h1:(di [tg] X.env).map (·.2)=[assign tg X.env]:=by rfl):tL X (.Assign [tg] e ν) (GS f g) :=
 kM (RL he hg hs hw h1) λB σ H Sb=>by
  obtain⟨H₀,S,w,ρ,G,E,hl,st,ht,ok⟩:=Sb;unfold wS GS at ht
  cases e1:(f ρ).bind λp=>g p.2 p.1 with
  |none=>rw[e1] at ht;show ht.elim
  |some ρ' =>
   rw[e1] at ht;obtain⟨p,ef,eg⟩:=bnd e1;show⟨H₀,S,w,ρ,G,λρ2 d2=>ρ2=p.1/\d2=p.2,hl,st,⟨p,ef,rfl,rfl⟩,λw' v H' ρ2 d2 st' d' q'=>?_⟩;obtain⟨rfl,rfl⟩:=q';show⟨H₀,S,w',p.1,G,p.2,_,hl,st',d',⟨ρ',eg,ht⟩,λσ' H2 ρ3 hl' st2 q3=>ok.nx w' σ' H2 ρ3 hl' st2 q3⟩
def zu:R2:=λx y H Q=>∃(a b:ah) (ns ms:Q0e),x=.ref a/\y=.ref b/\H a=aa (.lst (ns.map V.int))/\H b=aa (.lst (ms.map V.int))/\Q (.bl (!Zv (ns=ms))) H
def ints_get{ns:Q0e}{us:Q0f}(h:θ (ns.map V.int) us){j:Nat}(h1:j<us.length)(h2:j<ns.length):∃t,us[j]=.int ns[j] t:=by obtain⟨u,hu,ru⟩:=h.get (show(ns.map V.int)[j]?=aa (.int ns[j]) by rw[dj,cj h2];rfl);obtain⟨t,e⟩:=ru;show⟨t,by rw[<- e];show(cz.mp hu).2⟩
def Wy(hu:X.A.units+1<cn):i9 X (compareOp .NotEq) zu:=by
 intro π s σ H x y v u Q I rx ry h;obtain⟨a,b,ns,ms,rfl,rfl,ha,hb,q⟩:=h;cases rx;cases ry;obtain⟨z,ι,n,r,hl,e⟩:=I.EV ha;obtain⟨z2,its2,n2,r2,hl2,e2⟩:=I.EV hb;rw[bj] at hl hl2;have L1:s.heap.IsList a ι.toArray:=⟨_,e,rfl,n,rfl⟩;have L2':s.heap.IsList b its2.toArray:=⟨_,e2,rfl,n2,rfl⟩;by_cases hs:ns.length=ms.length
 .refine a2T (e:=λj=>Zv (ns[j]?=ms[j]?)) L1 L2' (by simp;lia) ∅ (λj j1 j2=>?_) X.Ω X.w _ _ ⟨_,H,I,?_,q⟩
  .have j1:j<ι.length:=by simpa using j1
   have j2:j<its2.length:=by simpa using j2
   obtain⟨t,et⟩:=ints_get r j1 ∅;obtain⟨t2,et2⟩:=ints_get r2 j2 ∅;have key:=xa (A:=X.A.in1) (s:=s) (ns[j]'∅) t (ms[j]'∅) t2;have ee:(ns[j]'∅ == ms[j]'∅)=Zv (ns[j]?=ms[j]?):=by rw[cj ∅,cj ∅];simp[BEq.beq]
   rw[<- ee];simpa[et,et2] using key
  .show L2.Ψ (.bl _) (.bool _);simp only[L2.Ψ];congr 2;rw[qt];simp only[jh,my,decide_eq_true_eq,ck]
   constructor
   .intro hj;apply tm;intro j;by_cases hjl:j<ι.length
    .exact hj j hjl
    .rw [kz ∅,kz ∅]
   .intro hj j _;rw[hj]
 .refine a2S L1 L2' (by simp;lia) ∅ X.Ω X.w _ _ ⟨_,H,I,?_,q⟩;show L2.Ψ (.bl _) (.bool _);simp only[L2.Ψ];rw[Zy (λz=>hs (by rw[z]))];rfl
def zt:F2:=λx y Q=>∃b,Az x y=aa b/\Q (.bl (!b))
theorem xK{K:ao}{S:ah->Prop}{H:Hp}:∀{ns:Q0e} {xs:List V},aV K S H (ns.map D.int) xs->xs=ns.map V.int
 |[],xs,h=>by rw[ki] at h;simp only[aV] at h;show h
 |n::ns,xs,h=>by rw[bt] at h;obtain⟨v,r,rfl,h1,h2⟩:=h.bN;symm at h1;rw[h1,xK h2];rfl
def Wx{K:ao}:O3 K zu zt:=by
 intro S H x y dx dy Q3 Q fc hx hy hf k;obtain⟨b,e,q⟩:=hf;cases dx<;>first|(cases e;done)|skip
 cases dy<;>first|(cases e;done)|skip
 obtain⟨ns,en,e⟩:=bnd e;obtain⟨ms,em,rfl⟩:=qM e;rw[ints_of en] at hx;rw[ints_of em] at hy;symm at hx hy;obtain⟨a,xs,rfl,ha,sa,da⟩:=hx;obtain⟨c,ys,rfl,hc,sc,dc⟩:=hy;rw[xK da] at ha;rw[xK dc] at hc;show⟨a,c,ns,ms,rfl,rfl,ha,hc,k _ H _ (ξ.refl H) (by symm) q⟩
def OK:Tells zt MH:=λx y d Q e q=>by unfold MH at e;obtain⟨b,e1,rfl⟩:=qM e;show⟨b,e1,q⟩
def Sa(hu:X.A.units+9<cn)(ha:bR X a fa)(hb:bR X b fb):x8 X (.Compare a [.NotEq] [b] ν) (tV (aC MH fa fb)):=cT (n9 (Wy ∅) Wx ha hb (i7 _)) (oA OK λx y d e=>by unfold MH at e;obtain⟨b,_,rfl⟩:=qM e;show⟨_,rfl⟩)
end
section
variable{X:Cx}
section
variable{ls fs:Q0g}{fr:List Nat}{sc:gd}{tg iter elt:av}{ifs:List av}{ν:br}{i:Nat}{x:aj}{spos pos':br}
theorem IZ{ti:WI}{g:GE}{tf:WT}{te:WE}(nd:X.N.Nodup)(hc:X.calm=ae)(hi:VY X tg iter ti)
  (hg:∀cl C pn ex s H,(blk X (ls++fs) sc cl C pn ex s H).N.Nodup->PG4 (blk X (ls++fs) sc cl C pn ex s H) ls.length tg g) (hf:∀cl C pn ex s H,NQ (blk X (ls++fs) sc cl C pn ex s H) ifs tf) (he:∀cl C pn ex s H,cR (blk X (ls++fs) sc cl C pn ex s H) elt te)
  (hx0:X.N[i]?=aa x:=by rfl) (hx:X.env.scope.names.lookup x=aa .local:=by rfl) (hsw:Rv X elt tg iter ifs sc ν x pos' spos:=by rfl)
  (B:YQ X.env.scope.names sc X.N ls fs fr=ae:=by rfl) (hs:Zo X iter:=by intro _;rfl):C5 X (.Assign [.Name x pos'] (.ListComp elt [⟨tg,iter,ifs,0⟩] sc ν) spos) (Cp i (FA ls.length fr ti g tf te)) :=
 kM (w4 (g:=w8 X.K ls.length (ls++fs).length g) (tf:=liftT X.K tf) (te:=lift X.K te) nd hx0 hx hc (kQ B) hi (λcl C pn ex s H=>hg cl C pn ex s H (kQ B).nd) hf he hsw hs) λBd σ H R_=>by
 obtain⟨H₀,S,w,ρ,G,E,hl,st,ht,ok⟩:=R_;show rS (n:=(ls++fs).length) (by rw[dm,(kQ B).E1]) ⟨_,bK ρ,_,st.PB,st.all,ht,λp xs H' ds hp hp' s' d' q'=>ok.nx w _ H' _ (by rw[gb];show hl) ((st.same s').mZ (d:=.lst ds) (by rw[hl];show jA hx0) (by symm;show⟨p,xs,rfl,hp',st.ID p hp,aV.A1 q'.1 d'⟩)) q'.2⟩
variable{it:AF}{g:GEF}{t:TF}{e:EF}
def Rz{f:EF}{ρ:cM}{Q:D->Prop}{o:Out}{d:D}(h:f ρ=aa d)(hl:mF d=ae)(q:Q d):wE f ρ λd=>(match d with | .lst ds=>pK ds=ae|_=>False)/\Q d:=by show⟨d,h,?_,q⟩;cases d<;>first|show hl|cases hl
theorem I0(nd:X.N.Nodup)(hc:X.calm=ae)(hi:PI4 X tg iter it)
  (hg:∀cl C pn ex s H,(blk X (ls++fs) sc cl C pn ex s H).N.Nodup->UA (blk X (ls++fs) sc cl C pn ex s H) ls.length tg g) (hf:∀cl C pn ex s H,UB (blk X (ls++fs) sc cl C pn ex s H) ifs t) (he:∀cl C pn ex s H,bR (blk X (ls++fs) sc cl C pn ex s H) elt e)
  (hx0:X.N[i]?=aa x:=by rfl) (hx:X.env.scope.names.lookup x=aa .local:=by rfl) (hsw:Rv X elt tg iter ifs sc ν x pos' spos:=by rfl)
  (B:YQ X.env.scope.names sc X.N ls fs fr=ae:=by rfl) (hs:Zo X iter:=by intro _;rfl):tL X (.Assign [.Name x pos'] (.ListComp elt [⟨tg,iter,ifs,0⟩] sc ν) spos) (mB i (cK ls.length fr it g t e)) :=
 cS (IZ nd hc hi hg hf he hx0 hx hsw B hs) λE ρ w=>by
  unfold wS mB at w
  cases h:cK ls.length fr it g t e (bK ρ) with
  |none=>rw[h] at w;show w.elim
  |some d =>
   rw[h] at w;dsimp only at w;by_cases hl:mF d=ae
   .rw [Z_ hl] at w;show IS _ _ (Rz (o:=.no) (Q:=λd=>E.nx (ρ.set i (.ro d))) h hl w)
   .rw [Zz hl] at w;show w.elim
end
theorem CS:∀(l:Q0e) (a M:Int),(M=a\/M∈l)->a<=M->(∀b∈l,b<=M)->l.foldl (λm b=>if m<b then b else m) a=M
 |[],a,M,h,_,_=>by
  rcases h with h|h
  .exact h.symm
  .cases h
 |b::l,a,M,h,ha,hb=>by
  have hbM:=hb b (by simp);rw[l_];by_cases hab:a<b
  .rw [Z_ hab];show CS l b M ?_ hbM λc hc=>hb c (by simp[hc]);rcases h with h|h
   .omega
   .rcases bz.mp h with h|h
    .exact .inl h
    .exact .inr h
  .rw [Zz hab];show CS l a M ?_ ha λc hc=>hb c (by simp[hc]);rcases h with h|h
   .exact .inl h
   .rcases bz.mp h with h|h
    .exact .inl ∅
    .exact .inr h
end
section
variable{X:Cx}
def Ww{st:cf}{t:TS}(h:PS X.RI st t):PS X st t:=λπ s σ H D I hw=>ja (h π s σ H D (I.wish λ_ _=>False) hw) (λ_ _ q=>SP.lX q) λ_ _ z=>z.elim
theorem Ry{st:cf}{f:SF}(h:tL X.RI st f):tL X st (PM f):=kM (Ww h) λB σ H hq=>by
 obtain⟨H₀,S,w,ρ,G,E,hl,sT,ht,ok⟩:=hq;show⟨H₀,S,w,ρ,G,{E with ex:=λ_=>False},hl,sT,?_,⟨ok.nx,ok.rt,ok.bk,ok.ct,λ_ _ _ q=>q.elim⟩⟩;unfold wS PM at ht;unfold wS
 cases hf:f ρ with
 |nx ρ1=>rw[hf] at ht;show ht
 |rt d=>rw[hf] at ht;show ht
 |no=>rw[hf] at ht;show ht
 |ex c=>rw[hf] at ht;show ht.elim
end
end L5
namespace L6
open PySem.Spec PyProof.Rows
section
variable{Ω:bh}{w:az}{A:bu}{E:Q0c}{s:ak}
theorem stored(ho:s.heap.get? a=aa o)(hd:o.data=.set es ep t):
  (s.heap.update a (a06 es' t')).get? a=aa {o with data:=.set es' (ep+1) t' }:=by
 have q:=xh (a06 es' t') ho (by rw[putSet_of es' t' hd];rfl)
 rwa [putSet_of es' t' hd] at q
end
open L2 L3 L4
def JA:fillsNumberSlot (.type "tuple") "mul"=pure ag :=
 PySem.fillsNumberSlot_seq (id:="tuple.__mul__") (r:=aa (.builtin "tuple.__rmul__")) Ea.lookup (by decide+kernel) a1b.lookup (by decide+kernel)
def JB:seqRepeat? (.type "tuple")=pure (aa (.builtin "tuple.__mul__")):=by unfold seqRepeat?;rw[a0w (T:="tuple") (name:="__mul__") (id:="tuple.__mul__") Ea.lookup (by decide+kernel),a0w (T:="tuple") (name:="__rmul__") (id:="tuple.__rmul__") a1b.lookup (by decide+kernel)];rfl
section
variable{Ω:bh}{w:az}{A:bu}{E:Q0c}{s:ak}
def U0(a:Int)(tk:gy)(t:ah)(items:Array ai):rm (Builtin.«int.__rmul__» ⟨[.int a tk,.ref t],[]⟩) (λ_ R s=>gi s.heap t items/\R (.ok (.ret Value.notImplemented)) s):=by
 show .of_wp λp0 w0 A0 R0 s h=>?_;obtain⟨ht,h⟩:=h;have tt:=ht.typeIs;obtain⟨ot,hot,hct,nt,hdt⟩:=id ht
 wp_walk
 rw[hdt];show a_ ?_;show aq (jj (a_ ⟨_,rfl,h⟩))
theorem ZI(x:Int)(tk:gy)(t:ah)(items:Array ai)(hx:-(2^63:Int)<=x/\x<2^63)(hz:items.size*x.toNat<=2^24):rm (Builtin.«tuple.__mul__» ⟨[.ref t,.int x tk],[]⟩) (λ_ R s=>gi s.heap t items /\
  (items.isEmpty=ae\/x=1->R (.ok (.ret (.ref t))) s)/\(items.isEmpty=ag->x≠1->R (.ok (.ret (.ref s.heap.objs.size))) {s with heap:=s.heap.push {cls:=.type "tuple",data:=.seq ((cc x.toNat items).foldl (· ++ ·) #[])} })):=by
 show .of_wp λp0 w0 A0 R0 s h=>?_;obtain⟨ht,h1,h2⟩:=h;have tt:=ht.typeIs;obtain⟨ot,hot,hct,nt,hdt⟩:=id ht;have e1:(Zv (x < -2^63)||Zv (x >= 2^63))=ag:=by rw[Zy ∅,Zy ∅];rfl
 wp_walk
 rw[Zz (by rw[e1];decide)]
 wp_walk
 rw[hdt];apply a_;apply a_;by_cases hs:(items.isEmpty||x == 1)=ae
 .rw [Z_ hs];show aq (aq (wg tt (a_ ?_)));rw[Z_ (by decide)];show aq (jj (a_ ⟨_,rfl,h1 (by simpa using hs)⟩))
 .rw [Zz hs];have hs':items.isEmpty=ag/\x≠1:=by simpa using hs
  have h2:=h2 hs'.1 hs'.2;dsimp only;by_cases h0:x<=0
  .rw [Z_ (by rw[Zx h0];rfl)];have e0:x.toNat=0:=by lia
   rw[e0] at h2;show aq (nq (a_ ⟨_,rfl,h2⟩) (jn _))
  .have zz:(items.size:Int)*x<=2^24:=by
    have e2:x=(x.toNat:Int):=by lia
    rw[e2]
    exact_mod_cast hz
   rw[Zz (by rw[Zy h0,hs'.1];decide),Zz ∅,Zz (by unfold a3A;rw[gc];simp;lia)];have fl:∀(n:Nat) (ψ:Array ai),((cc n items).foldl (· ++ ·) ψ).size=ψ.size+n*items.size:=by
    intro n
    induction n with
    |zero=>intro ψ;simp
    |succ n ih=>intro ψ;rw[iw,l_,ih,a2G,xy];lia
   show aq (nq (a_ ⟨_,rfl,h2⟩) ?_);show((cc x.toNat items).foldl (· ++ ·) #[]).size<=bg;rw[fl,gc,a1Y];simpa using hz
theorem ZJ(ht:gi s.heap t items)(hx:-(2^63:Int)<=x/\x<2^63)(hz:items.size*x.toNat<=2^24)(h1:items.isEmpty=ae\/x=1->Q (.ref t) s)
  (h2:items.isEmpty=ag->x≠1->Q (.ref s.heap.objs.size) {s with heap:=s.heap.push {cls:=.type "tuple",data:=.seq ((cc x.toNat items).foldl (· ++ ·) #[])} }):ay (au Ω w) A (binaryOp .Mult (.ref t) (.int x u)) Q E s :=
 wpAny_binaryOp_repeat_ref (T:="tuple") (U:="int") (by decide) ht.typeIs (λs'=>Dd s' x u) JA PySem.F.fills_int_mul a1j JB PySem.F.slot_int_index.lookup
  (mn a1j (Dd s x u) PySem.F.entry_int_rmul (PySem.F.args_int_rmul_2 _ _) (U0 x u t items) ⟨ht,rfl,ht.typeIs,mn Ea ht.typeIs PySem.F.entry_tuple_mul (PySem.F.args_tuple_mul_2 _ _) (ZI x u t items hx hz) ⟨ht,h1,h2⟩⟩)
variable{X:Cx}
def Rx(K:ao):R2:=λx y H Q=>∃a n xs,x=.ref a/\y=.int n/\fX K H a xs/\(-(2^63)<=n/\n<2^63)/\xs.length*n.toNat<=bg/\(xs=[]\/n=1->Q (.ref a) H)/\(xs≠[]->n≠1 ->∀p,H p=af->Q (.ref p) (upd H p (.tup (cc n.toNat xs).flatten)))
theorem AO(items:Q0f):∀(n:Nat) (ψ:Array ai),((cc n items.toArray).foldl (· ++ ·) ψ).toList=ψ.toList++(cc n items).flatten
 |0,ψ=>by simp
 |n+1,ψ=>by rw[iw,l_,AO items n,iw,nc];simp
def ZK:i9 X (binaryOp .Mult) (Rx X.K):=by
 intro π s σ H x y v u Q I rx ry h;obtain⟨a,n,xs,rfl,rfl,ha,hn,hz,q1,q2⟩:=h;cases rx;obtain⟨tk,rfl⟩:=ry;obtain⟨ι,rv,pl,_⟩:=I.tuple ha;have hl:=rv.length;have em:ι.toArray.isEmpty=ae↔xs=[]:=by rw[<- ql,hl];simp
 show ZJ (items:=ι.toArray) pl hn (by simpa[<- hl,gc] using hz) (λz=>?_) λz1 z2=>?_
 .exact ⟨.ref a,H,I,rfl,q1 (z.imp em.1 id)⟩
 .have ne:xs≠[]:=λz=>by rw[em.2 z] at z1;cases z1
  show⟨.ref s.heap.objs.size,_,I.laid (t':=s.toks) (o:=.tup (cc n.toNat xs).flatten) (λb o e=>dg _ e) (bp _) ⟨?_,(cc n.toNat ι).flatten,rv.rep _,⟨_,gf _ rfl,rfl,0,?_⟩,EN.new _ _⟩,rfl,q2 ne z2 _ (I.hok.fresh (bp _))⟩
  .have:(cc n.toNat xs).flatten.length=xs.length*n.toNat:=by simp[a1Y]
   rw[this];show hz
  .show a1q _ _=a1q _ _;congr 1;apply a2E.mp;rw[AO];simp
theorem FU{K:ao}{S:ah->Prop}{H:Hp}{ds:List D}{xs:List V}(h:aV K S H ds xs):∀n:Nat,aV K S H (cc n ds).flatten (cc n xs).flatten
 |0=>aV.nil
 |n+1=>by rw[iw,iw,nc,nc];show h.append (FU h n)
def U1(h:sO a b=aa d):∃ds n,a=.tup ds/\b=.int n/\(ds.length*n.toNat<=lP/\n.natAbs<9223372036854775808)/\d=.tup (cc n.toNat ds).flatten:=by
 unfold sO at h;split at h
 .split at h
  .rename_i z;cases h;show⟨_,_,rfl,rfl,z,rfl⟩
  .cases h
 .cases h
def Bj(ha:bR X a fa)(hb:bR X b fb):bR X (.BinOp a .Mult b ν) (aC sO fa fb):=imp (RP ZK ha hb) λσ H Q Ru=>by
 obtain⟨S,ρ,Q3,fc,sl,⟨d,ed,q3⟩,k⟩:=Ru;obtain⟨dx,ex,ed⟩:=bnd ed;obtain⟨dy,ey,ed⟩:=bnd ed;obtain⟨ds,n,rfl,rfl,hz,rfl⟩:=U1 ed;show⟨S,ρ,λz=>z=.tup ds,fc,sl,⟨_,ex,rfl⟩,λv H1 d1 s1 pD e1=>?_⟩;subst e1;show⟨S,ρ,λz=>z=.int n,bG fc s1,Sl.fits (.same s1) sl,⟨_,ey,rfl⟩,λv2 H2 d2 s2 t7 e2=>?_⟩;subst e2;symm at t7;subst t7;have dn3:=Dn.fits (.same s2) _ _ pD;symm at dn3;obtain⟨t,xs,rfl,ht,da⟩:=dn3;have le:=da.len;show⟨t,n,xs,rfl,rfl,(fX.of ht),⟨by have:=hz.2;lia,by have:=hz.2;lia⟩,by rw[<- le,gc];show hz.1,λz=>?_,λz1 z2 p hp=>?_⟩
 .refine k _ H2 _ (s1.trans s2) ?_ q3;have e:(cc n.toNat ds).flatten=ds:=by
   rcases z with z|z
   .have:ds=[]:=ql.mp (by rw[le,z];rfl);rw[this];simp
   .rw [z];simp
  rw[e];symm;show⟨t,xs,rfl,ht,da⟩
 .refine k _ _ _ ((s1.trans s2).trans (aN hp)) ?_ q3;symm;show⟨p,_,rfl,aO,aV.fits (.same (aN hp)) _ _ (FU da _)⟩
end
theorem tN(ht:gi s.heap t ι.toArray)(hz:ι.length<=bg)
  (h:∀h',s.heap.objs.size<=h'.objs.size->(∀b u,s.heap.get? b=aa u->h'.get? b=aa u)->Q ι {s with heap:=h' }):ay (au Ω w) A (collect (.ref t)) Q E s:=by
 obtain⟨ot,hot,hct,nt,hdt⟩:=id ht;unfold collect;apply aq;apply wpAny_runValue;show ra F.entry_proto_collect ?_;rw[xp F.plain_proto_collect]
 wp_walk
 show⟨Di a1l _,ra F.entry_list_iadd ?_⟩;rw[xp a1l];have g0:(s.heap.push {cls:=.type "list",data:=.seq #[]}).get? s.heap.objs.size=aa {cls:=.type "list",data:=.seq #[] 0}:=gf _ rfl;show wpAny_extend_seq (R:=wants _ _) (s:={s with heap:=s.heap.push {cls:=.type "list",data:=.seq #[]} }) s.heap.objs.size t _ 0 (.inr rfl) g0 (dg _ hot) hct hdt ?_ (by simpa using hz);have g1:=xh (jl (· ++ ι.toArray)) g0 rfl;apply aq;apply wpAny_load g1;have fin:=h ((s.heap.push {cls:=.type "list",data:=.seq #[]}).update s.heap.objs.size (jl (· ++ ι.toArray))) (ll (b_ g1)) λb u e=>(D_ _ _ (oj (b_ e))).trans (dg _ e);show a_ ?_;simpa using fin
theorem xM(ht:gi s.heap t ι.toArray)(hv:gu ι ns)(i_:ns.length<64)
  (h:∀h' tk l out ns' e,(∀b u,s.heap.get? b=aa u->h'.get? b=aa u)->s.heap.objs.size<=l->gu out ns'->ns'.Perm ns->ns'.Pairwise (· <= ·)->h'.get? l=aa (seqObj "list" out.toArray e)->Q (.ref l) {s with heap:=h',toks:=tk}):
  ay (au Ω w) A (call (.builtin "sorted") [.ref t]) Q E s:=by
 have lv:ι.length<64:=by rw[Ez hv];show i_
 apply Ef Em El Eo (Eu _);unfold Builtin.«sorted»;show aq (m:=checkCount "sorted" 1 1 _) (a_ (aq (tN (A:=A.in1) ht (by rw[gc];lia) λh1 l1 keep=>?_)));apply aq;show q_ ?_ (by rw[gc];lia);have g1:(h1.push (seqObj "list" ι.toArray 0)).get? h1.objs.size=aa (seqObj "list" ι.toArray 0):=gf _ rfl;show aq (h_ (lg Ek ⟨_,g1,rfl⟩ Ep (list_sort_tree g1 hv lv λout ns' a1 a2 a3=>⟨_,rfl,?_⟩) (Ew _)));obtain⟨e,g2⟩:=a1C (out:=out) g1;show a_ ⟨_,rfl,h _ s.toks _ out.toList ns' e (λb u q=>?_) l1 a1 a2 a3 (by simpa using g2)⟩;have lb:=b_ (keep b u q);rw[a1B (fz lb) (by rw[qa];show qd lb)];show dg _ (keep b u q)
section
variable{X:Cx}
def Wv(K:ao):List V->Hp->VK->Prop:=λxs H Q=>∃(a:ah) (ns:Q0e),xs=[.ref a]/\fX K H a (ns.map V.int)/\ns.length<64 /\∀ns':Q0e,ns'.Perm ns->ns'.Pairwise (· <= ·) ->∀p,H p=af->Q (.ref p) (upd H p (.lst (ns'.map V.int)))
def JC:gM X (.builtin "sorted") (Wv X.K):=by
 intro π s σ H xs us Q I r h;obtain⟨a,ns,rfl,ha,i_,q⟩:=h;obtain⟨u,rfl,ru⟩:=vals1 r;cases ru;obtain⟨ι,rv,pl,hz⟩:=I.tuple ha;show xM pl (intsAre_of rv) i_ λh' tk l out ns' e keep hl a1 a2 a3 g=>?_;have hz2:ns'.length<=bg:=by rw[a2.length_eq,gc];lia
 have I1:=I.laid (t':=tk) (a:=l) (o:=.lst (ns'.map V.int)) keep hl ⟨by rw[bj];show hz2,out,e,f7 a1,by simpa[seqObj] using g⟩;show⟨.ref l,_,I1,rfl,q ns' a2 a3 l (I.hok.fresh hl)⟩
def U2(hm:X.mg "sorted"=af)(ha:yP X [e] t)(hg:Gl X "sorted":=by rfl)(he:Zs X e []:=by rfl):
  j6 X (.Call (.Name "sorted" p) [e] [] ν) (eP mG t) :=
 imp (iY JC hg hm xv ha (by decide) (by decide) he (by rfl)) λσ H Q Rr=>by
  obtain⟨S,ρ,Q3,fc,sl,⟨d,ed,q3⟩,k⟩:=Rr;obtain⟨ds,eds,ed⟩:=bnd ed;show⟨S,ρ,λes=>es=ds,fc,sl,⟨_,eds,rfl⟩,λvs H1 es s1 d1 q1=>?_⟩;subst q1;unfold mG at ed;split at ed
  .rename_i a;obtain⟨ns,e1,ed⟩:=bnd ed;by_cases hl:ns.length<64
   .rw [Z_ hl] at ed;cases ed;rw[ints_of e1] at d1;obtain⟨v,r,rfl,h1,h2⟩:=d1.bN;simp only[aV] at h2;subst h2;symm at h1;obtain⟨t1,xs,rfl,ht,dt⟩:=h1;rw[aV.ints.mp dt] at ht;show⟨t1,ns,rfl,fX.of ht,hl,λns' pm so l hl2=>?_⟩;have e3:ns'=sortI ns:=l5 (pm.trans (kF _).symm) so (iU _);subst e3;show k l _ _ _ (s1.free hl2) aO (s1.trans (aN hl2)) (aV.ints.mpr rfl) q3
   .rw [Zz hl] at ed;cases ed
  .cases ed
end
end L6
namespace L7
open PySem.Spec PyProof.Rows L2 L3 L4 LL
def kI(ns:Q0e):List Key:=ns.map c_
def Rq(ns:Q0e):(kI ns).map kV=ns.map V.int:=by unfold kI;rw[ft];rfl
section
variable(rd:List Int->List (List Int))
abbrev All:ah->Prop:=λ_=>True
end
def At(K:ao)(x:Q0a)(a:Q0e)(p:ah)(σ:L2.St)(H:Hp):Prop :=
 ∃vo va,σ[0]?=aa (aa vo)/\Dn K All H (aW x) vo/\σ[1]?=aa (aa va)/\Dn K All H (τ a) va/\σ[2]?=aa (aa (.ref p))
def At.key{K:ao}{x:Q0a}{a:Q0e}{p:ah}{σ:L2.St}{H:Hp}(h:At K x a p σ H):∃b,σ[1]?=aa (aa (.ref b))/\H b=aa (.tup ((kI a).map kV)):=by obtain⟨vo,va,h1,h2,h3,h4,h5⟩:=h;unfold τ at h4;symm at h4;obtain⟨b,ys,rfl,hb,db⟩:=h4;rw[aV.ints.mp db] at hb;show⟨b,h3,by rw[Rq];show hb⟩
section
variable{K:ao}{rd:List Int->List (List Int)}{x:Q0a}{Ok:List Int->Prop}{a:Q0e}{p:ah}{σ:L2.St}{H:Hp}{χ:List (List Key×V)}
structure Parts (K:ao) (rd:List Int->List (List Int)) (x:Q0a) (a:Q0e) (C1:TT) (T1:TE) (T3:TS):Prop where
 c1:∀p σ H Q,At K x a p σ H->(∀H',ξ H H'->Q (Zv (a.length=x.length)) H')->C1 σ H Q
 t1:∀σ H (Q:VK),(∀H',ξ H H'->Q (.int 1) H')->T1 σ H Q
 t3:∀p (D:Ends) σ H,σ.length=4->At K x a p σ H->a.length<x.length->(∀(σ':L2.St) (H':Hp) (l:ah) (ps:List ah),ξ H H'->At K x a p σ' H'->σ'[3]?=aa (aa (.ref l))->H' l=aa (.lst (ps.map V.ref))->ps.length=(rd a).length ->
  (∀(i:Nat) (q:ah) (b:Q0e),ps[i]?=aa q->(rd a)[i]?=aa b->H' q=aa (.tup (b.map V.int)))->D.nx σ' H')->T3 D σ H
def wst(x:Q0a)(a:Q0e)(p:ah):bT:=[.ro (aW x),.ro (τ a),.ro (.exc "" p),.no]
theorem At.st(h:At K x a p σ H):ST K H All (λ_=>0) σ H (wst x a p) []:=by
 have no:∀(i:Nat) (d:D),(wst x a p)[i]?≠aa (Sv.ow d):=λi d e=>by
  match i,e with
  |0,e=>cases e
  |1,e=>cases e
  |2,e=>cases e
  |3,e=>cases e
  |n+4,e=>simp[wst] at e
 obtain⟨vo,va,h1,h2,h3,h4,h5⟩:=h;show⟨λ_ _=>trivial,ξ.refl H,λi d e=>Zw e (no i d),λi j d e h=>Zw h (no i d),λi d e=>?_,λg hg=>(by cases hg),λi _ e=>Zw e (no i _)⟩;have m:∀b,All b->SO All (λ_=>0) (wst x a p) b:=λb _=>⟨trivial,λi d e=>Zw e (no i d)⟩
 match i,e with
 |0,e=>cases e;show⟨vo,h1,Dn.fits (.mono m) _ _ h2⟩
 |1,e=>cases e;show⟨va,h3,Dn.fits (.mono m) _ _ h4⟩
 |2,e=>cases e;show⟨_,h5,by simp only[Dn]⟩
 |3,e=>cases e
 |n+4,e=>simp[wst] at e
end
end L7
namespace L8
open PySem.Spec PyProof.Rows L2
def iB(χ:List (KX×V×V))(k:KX):Option V:=(χ.find? λp=>Zv (p.1=k)).map (·.2.2)
def fT(χ:List (KX×V×V))(k:KX)(y v:V):List (KX×V×V):=if χ.any (λp=>Zv (p.1=k))=ae then χ.map (λp=>if p.1=k then(p.1,p.2.1,v) else p) else χ++[(k,y,v)]
def U3(H:Hp):KX->V->Prop
 |.inl k,y=>y=kV k
 |.inr ks,y=>∃b,y=.ref b/\mV H ks b
def qS(χ:List (KX×V×V))(k:KX):Prop:=∀p∈χ,p.1.isLeft=k.isLeft
def FV(χ:List (KX×V×V))(k:KX)(y v:V):(fT χ k y v).length<=χ.length+1:=by
 unfold fT;split
 .rw [bj];lia
 .simp
abbrev PL:List (KX×V×V)->List (Key×ai)->Prop:=ik λp q=>p.1=.inl q.1/\p.2.1=kV q.1/\Ψ p.2.2 q.2
abbrev PT(H:Hp):List (KX×V×V)->List (N1×ah×ai)->Prop:=ik λp q=>p.1=.inr q.1/\p.2.1=.ref q.2.1/\mV H q.1 q.2.1/\Ψ p.2.2 q.2.2
theorem PL.val(r:PL χ vs)(k:Key):mU (iB χ (.inl k)) (valueAt vs k):=by
 induction r with
 |nil=>show ji
 | @cons p q ps qs h t ih =>
  by_cases e:q.1=k
  .have e1:p.1=.inl k:=by rw[h.1,e]
   have a:iB (p::ps) (.inl k)=aa p.2.2:=by unfold iB;rw[g_,Zx e1];rfl
   have b:valueAt (q::qs) k=aa q.2:=by unfold valueAt;rw[g_];simp[e]
   rw[a,b];show h.2.2
  .have e1:¬ p.1=.inl k:=λz=>e (by rw[h.1] at z;show we z);have a:iB (p::ps) (.inl k)=iB ps (.inl k):=by unfold iB;rw[g_,Zy e1]
   have b:valueAt (q::qs) k=valueAt qs k:=by unfold valueAt;rw[g_];simp[e]
   rw[a,b];show ih
theorem PT.val(r:PT H χ xs)(k:N1):mU (iB χ (.inr k)) ((atKey xs k).map (·.2)):=by
 induction r with
 |nil=>show ji
 | @cons p q ps qs h t ih =>
  by_cases e:q.1=k
  .have e1:p.1=.inr k:=by rw[h.1,e]
   have a:iB (p::ps) (.inr k)=aa p.2.2:=by unfold iB;rw[g_,Zx e1];rfl
   have b:atKey (q::qs) k=aa q.2:=by unfold atKey;rw[g_];simp[e]
   rw[a,b];show h.2.2.2
  .have e1:¬ p.1=.inr k:=λz=>e (by rw[h.1] at z;show Ct z);have a:iB (p::ps) (.inr k)=iB ps (.inr k):=by unfold iB;rw[g_,Zy e1]
   have b:atKey (q::qs) k=atKey qs k:=by unfold atKey;rw[g_];simp[e]
   rw[a,b];show ih
theorem U4(χ:List (KX×V×V))(k:KX):χ.any (λp=>Zv (p.1=k))=(iB χ k).isSome:=by
 unfold iB;rw[xx]
 induction χ with
 |nil=>rfl
 |cons p ps ih =>
  rw[md,g_,ih];cases Zv (p.1=k)<;>rfl
def PL.put(r:PL χ vs)(k:Key)(rv:Ψ v u):PL (fT χ (.inl k) (kV k) v) (stored vs k u):=by
 have e:χ.any (λp=>Zv (p.1=.inl k))=vs.any (λkv=>kv.1=k):=by
  induction r with
  |nil=>rfl
  | @cons p q ps qs h t ih =>
   rw[md,md,ih,h.1];congr 1;show decide_eq_decide.2 ⟨λz=>we z,λz=>by rw[z]⟩
 unfold fT stored;rw[e];split
 .rename_i hc
  clear hc e
  induction r with
  |nil=>show .nil
  | @cons p q ps qs h t ih =>
   rw[bt,bt];show .cons ?_ ih;by_cases z:q.1=k
   .rw [Z_ z,Z_ (by rw[h.1,z])];show⟨h.1,h.2.1,rv⟩
   .rw [Zz z,Zz (λy=>z (by rw[h.1] at y;show we y))];show h
 .exact xf r ⟨rfl,rfl,rv⟩
def PT.put(r:PT H χ xs)(k:N1)(hb:mV H k b)(rv:Ψ v u):PT H (fT χ (.inr k) (.ref b) v) (storedH xs k b u):=by
 have e:χ.any (λp=>Zv (p.1=.inr k))=(atKey xs k).isSome:=by rw[U4];have:=(PT.val r k).nV;rw[xx] at this;show this
 unfold fT storedH;rw[e];split
 .rename_i hc
  clear hc e
  induction r with
  |nil=>show .nil
  | @cons p q ps qs h t ih =>
   rw[bt,bt];show .cons ?_ ih;unfold putAt;by_cases z:q.1=k
   .rw [Z_ z,Z_ (by rw[h.1,z])];show⟨h.1,h.2.1,h.2.2.1,rv⟩
   .rw [Zz z,Zz (λy=>z (by rw[h.1] at y;show Ct y))];show h
 .exact xf r ⟨rfl,rfl,hb,rv⟩
section
variable{P:bh}{w:az}{H:Hp}{h:ba}{a:ah}{o:ax}{χ:List (KX×V×V)}
def nZ(ok:n8 P w H h)(n:mV H ks b):(jY P w).is h ks b:=by
 obtain⟨vs,e,r⟩:=n;obtain⟨_,ι,rv,⟨q,h1,h2,m,h3⟩,_⟩:=(show cZ P w H h b (.tup vs) from ok b _ e);have go:∀{ks:N1} {vs:List V} {us:Q0f},ik (BX H) ks vs->θ vs us->g9 (bE P w) h ks us:=by
  intro ks vs us r
  induction r generalizing us with
  |nil=>intro rv;cases rv;show .nil
  | @cons k v ks vs i _ ih =>
   intro rv
   cases rv with
   | @cons _ u _ us ru rt =>
    show .cons ?_ (ih rt)
    cases k with
    |inl k =>
     have i:v=kV k:=i;subst i;show qI ru
    |inr k =>
     obtain⟨c,rfl,hc⟩:=i;have ru:u=.ref c:=ru;show⟨c,ru,CB ok hc⟩
 show⟨q,ι.toArray,m,h1,h2,h3,by simpa using go r rv⟩
def qT(x:BY P w H o χ)(ho:h.get? a=aa o)(hp:∀p∈χ,p.1.isLeft=ae):∃vs,PL χ vs/\h.DictOf (bE P w) a vs:=by
 obtain⟨ex,es,ep,ed,hx⟩:=x;rcases hx with⟨vs,r,h1,h2,h3⟩|⟨xs,r,h1,h2⟩
 .exact ⟨vs,r,o,es,ep,ho,ex,ed,h1,h2,h3⟩
 .cases r with
  |nil =>
   have e0:es.toList=[]:=h1;have e1:es=#[]:=by simpa using e0
   subst e1;show⟨[],.nil,o,#[],ep,ho,ex,ed,(λ_ he=>by simp at he),.nil,qh⟩
  | @cons p q ps qs hq t =>
   have:=hp p cx;rw[hq.1] at this;cases this
def uR(ok:n8 P w H h)(x:BY P w H o χ)(ho:h.get? a=aa o)(hp:∀p∈χ,p.1.isLeft=ag):∃xs,PT H χ xs/\h.DictOfH (jY P w) a xs:=by
 obtain⟨ex,es,ep,ed,hx⟩:=x;rcases hx with⟨vs,r,h1,h2,h3⟩|⟨xs,r,h1,h2⟩
 .cases r with
  |nil =>
   have e0:es.toList=[]:=a2p (by rw[h2.length];rfl);show⟨[],.nil,o,es,ep,ho,ex,ed,e0,(λ_ he=>by simp at he),qh⟩
  | @cons p q ps qs hq t =>
   have:=hp p cx;rw[hq.1] at this;cases this
 .refine ⟨xs,r,o,es,ep,ho,ex,ed,h1,?_,h2⟩;have go:∀{χ:List (KX×V×V)} {xs:List (N1×ah×ai)},PT H χ xs ->∀x∈xs,(jY P w).is h x.1 x.2.1:=by
   intro χ xs r
   induction r with
   |nil=>intro x hx;cases hx
   |cons hq _ ih =>
    intro x hx;rcases bz.1 hx with e|hx
    .subst e;show nZ ok hq.2.2.1
    .exact ih x hx
  show go r
variable{X:Cx}{π:Q0b}{σ:L2.St}{s:ak}{y v z:V}{u r:ai}{A:bu}{E:Q0c}{k:KX}
def FW(I:Φ X π σ H s)(e:H a=aa (.dX o χ)):χ.length<=bg/\(a == sysModules)=ag/\s.heap.get? a=aa o/\BY X.Ω X.w H o χ:=I.hok a _ e
def uu{k:Key}(kd:qS χ (.inl k)):∀p∈χ,p.1.isLeft=ae:=kd
def ur{k:N1}(kd:qS χ (.inr k)):∀p∈χ,p.1.isLeft=ag:=kd
theorem OL(hu:A.units+2<cn)(I:Φ X π σ H s)(e:H a=aa (.dX o χ))(hk:U3 H k y)(kd:qS χ k)(hv:iB χ k=aa v)(ry:Ψ y u)(h:∀w' s',Φ X π σ H s'->Ψ v w'->Q w' s'):
  ay (au X.Ω X.w) A (getItem (.ref a) u) Q E s:=by
 obtain⟨z,hs,ho,hx⟩:=FW I e
 cases k with
 |inl k =>
  have hk:y=kV k:=hk;subst hk;obtain⟨vs,rel,dd⟩:=qT hx ho (uu kd);obtain⟨w',hw,HX⟩:=mU.some_of (v:=v) (o:=valueAt vs k) (by rw[<- hv];show PL.val rel k);show a0n (qI ry) dd.mapOf hw (h w' _ (I.tok _) HX)
 |inr k =>
  obtain⟨b,rfl,hb⟩:=hk;obtain rfl:u=df b:=ry;obtain⟨xs,rel,dd⟩:=uR I.hok hx ho (ur kd);obtain⟨w',hw,HX⟩:=mU.some_of (v:=v) (o:=(atKey xs k).map (·.2)) (by rw[<- hv];show PT.val rel k);obtain⟨p,hp,hp2⟩:=jm.mp hw;show a0o (nest_room hu) (nZ I.hok hb) dd hp ?_;rw[hp2];show h w' _ (I.tok _) HX
theorem Jh(neg:Bool)(hu:A.units+2<cn)(I:Φ X π σ H s)(e:H a=aa (.dX o χ))(hk:U3 H k y)(kd:qS χ k)(ry:Ψ y u)(h:∀s',Φ X π σ H s'->Q (.bool (if neg then !(iB χ k).isSome else(iB χ k).isSome)) s'):
  ay (au X.Ω X.w) A (compareOp (if neg then .NotIn else .In) u (.ref a)) Q E s:=by
 obtain⟨z,hs,ho,hx⟩:=FW I e
 cases k with
 |inl k =>
  have hk:y=kV k:=hk;subst hk;obtain⟨vs,rel,dd⟩:=qT hx ho (uu kd);have ev:(iB χ (.inl k)).isSome=(valueAt vs k).isSome:=(PL.val rel k).nV;rw[ev] at h
  cases neg with
  |false=>show wpAny_in_of (qI ry) hs dd.mapOf (h _ (I.tok _))
  |true=>show wpAny_notIn_of (qI ry) hs dd.mapOf (h _ (I.tok _))
 |inr k =>
  obtain⟨b,rfl,hb⟩:=hk;obtain rfl:u=df b:=ry;obtain⟨xs,rel,dd⟩:=uR I.hok hx ho (ur kd);have ev:=(PT.val rel k).nV;rw[xx] at ev;rw[ev] at h
  cases neg with
  |false=>show wpAny_in_heap (nest_room hu) (nZ I.hok hb) hs dd (h _ (I.tok _))
  |true=>show wpAny_notIn_heap (nest_room hu) (nZ I.hok hb) hs dd (h _ (I.tok _))
def U5(I:Φ X π σ H s)(e:H a=aa (.dX o χ)):s.TypeIs (.ref a) "dict":=by obtain⟨z,hs,ho,hx⟩:=FW I e;show⟨o,ho,hx.1.1⟩
def FX{P:bh}{w:az}{h':ba}{H':Hp}{χ:List (KX×V×V)}{vs:List (Key×ai)}(rel:PL χ vs)(dd:h'.DictOf (bE P w) a vs):∃o',h'.get? a=aa o'/\BY P w H' o' χ:=by obtain⟨o',es,ep,h1,h2,h3,h4,h5,h6⟩:=dd;show⟨o',h1,h2,es,ep,h3,.inl ⟨vs,rel,h4,h5,h6⟩⟩
def LY{P:bh}{w:az}{h':ba}{H':Hp}{χ:List (KX×V×V)}{xs:List (N1×ah×ai)}(rel:PT H' χ xs)(dd:h'.DictOfH (jY P w) a xs):∃o',h'.get? a=aa o'/\BY P w H' o' χ:=by obtain⟨o',es,ep,h1,h2,h3,h4,_,h6⟩:=dd;show⟨o',h1,h2,es,ep,h3,.inr ⟨xs,rel,h4,h6⟩⟩
def LZ{H:Hp}{a:ah}{o:ax}{χ:List (KX×V×V)}{u:HO}(e:H a=aa (.dX o χ)):∀b ys,H b=aa (.tup ys)->upd H a u b=aa (.tup ys):=λb ys eb=>by rw[aQ (Bu eb e (λz=>nomatch z))];show eb
theorem OM(hu:A.units+2<cn)(I:Φ X π σ H s)(e:H a=aa (.dX o χ))(hk:U3 H k y)(kd:qS χ k)(hl:χ.length<bg)(ry:Ψ y u)(rv:Ψ v r)(h:∀o' s',Φ X π σ (upd H a (.dX o' (fT χ k y v))) s'->Q () s'):
  ay (au X.Ω X.w) A (setItem (.ref a) u r) Q E s:=by
 obtain⟨z,hs,ho,hx⟩:=FW I e;have hz:(fT χ k y v).length<=bg:=by have:=FV χ k y v;lia
 have mu:Mut (H a):=by rw[e];show ji
 cases k with
 |inl k =>
  have hk:y=kV k:=hk;subst hk;obtain⟨vs,rel,dd⟩:=qT hx ho (uu kd);have hv:vs.length<=bg:=by rw[<- p_ rel];show z
  show a0d (hsz:=hv) (qI ry) dd λh' O9 sb=>?_;obtain⟨o',g1,g2⟩:=FX (H':=upd H a (.dX o (fT χ (.inl k) (kV k) v))) (PL.put rel k rv) O9;show h o' _ (nW I mu sb ⟨o',g1⟩ ⟨hz,hs,g1,g2.stay λb ys eb=>by
   by_cases hb:b=a
   .subst hb;rw[aO] at eb;cases eb
   .rw [aQ hb] at eb ⊢;show eb⟩)
 |inr k =>
  obtain⟨b,rfl,hb⟩:=hk;obtain rfl:u=df b:=ry;obtain⟨xs,rel,dd⟩:=uR I.hok hx ho (ur kd);have hv:xs.length<=bg:=by rw[<- p_ rel];show z
  show a0e (hsz:=hv) (nest_room hu) (nZ I.hok hb) dd λh' O9 sb=>?_;obtain⟨o',g1,g2⟩:=LY (PT.put rel k hb rv) O9;show h o' _ (nW I mu sb ⟨o',g1⟩ ⟨hz,hs,g1,g2.stay (LZ e)⟩)
end
open L7
def Bi(td ty:TE):TE:=λσ H Q=>td σ H λx H1=>ty σ H1 λy H2=>∃a o χ k v,x=.ref a/\H2 a=aa (.dX o χ)/\U3 H2 k y/\qS χ k/\iB χ k=aa v/\Q v H2
def uq(neg:Bool)(ty td:TE):TE:=λσ H Q=>ty σ H λy H1=>td σ H1 λx H2=>∃a o χ k,x=.ref a/\H2 a=aa (.dX o χ)/\U3 H2 k y/\qS χ k/\Q (.bl (if neg then !(iB χ k).isSome else(iB χ k).isSome)) H2
def Rp(td ty tv:TE):TS:=λD σ H=>tv σ H λv H1=>td σ H1 λx H2=>ty σ H2 λy H3=>∃a o χ k,x=.ref a/\H3 a=aa (.dX o χ)/\U3 H3 k y/\qS χ k/\χ.length<bg /\∀o',D.nx σ (upd H3 a (.dX o' (fT χ k y v)))
def Ro:TE:=λ_ H Q=>∀p o,H p=af->Q (.ref p) (upd H p (.dX o []))
def Rm(tk tv:TE):TE:=λσ H Q=>∀p o,H p=af->tk σ (upd H p (.dX o [])) λy H1=>tv σ H1 λz H2=>∃k,U3 H2 k y/\H2 p=aa (.dX o []) /\∀o',Q (.ref p) (upd H2 p (.dX o' [(k,y,z)]))
section
variable{X:Cx}{o i e f value:av}{ν pos':br}{td ty tv tz:TE}
def MA(hu:X.A.units+2<cn)(ho:PE X o td)(hi:PE X i ty)(hs:IC i):PE X (.Subscript o i ν) (Bi td ty):=by intro π s σ H Q I h;show LD a1k.lookup hs (eQ (ho π s σ H _ I h) λu s1 ⟨x,H1,I1,rx,q1⟩=>?_);show eQ (hi π s1 σ H1 _ I1 q1) λiv s2 Rl=>?_;obtain⟨y,H2,I2,ry,a,ob,χ,k,v,ex,e,hk,kd,hv,q2⟩:=Rl;subst ex;obtain rfl:u=df a:=rx;show⟨U5 I2 e,OL hu I2 e hk kd hv ry λw' s3 I3 r3=>⟨v,H2,I3,r3,q2⟩⟩
def ON(hu:X.A.units+2<cn)(hi:PE X i ty)(ho:PE X o td):PC X .NotIn i o (uq ae ty td):=by intro π s σ H Q I h;show eQ (hi π s σ H _ I h) λiv s1 Rk=>?_;obtain⟨y,H1,I1,ry,q1⟩:=Rk;show eQ (ho π s1 σ H1 _ I1 q1) λu s2 Rj=>?_;obtain⟨x,H2,I2,rx,a,ob,χ,k,ex,e,hk,kd,q2⟩:=Rj;subst ex;obtain rfl:u=df a:=rx;show Jh ae hu I2 e hk kd ry λs3 I3=>⟨.bl _,H2,I3,rfl,q2⟩
def ZL(hu:X.A.units+2<cn)(ho:PE X o td)(hi:PE X i ty)(hv:PE X value tv)(hs:e_ value (aa (.Subscript o i pos')) ν.line X.env=pure ag):PS X (.Assign [.Subscript o i pos'] value ν) (Rp td ty tv):=by intro π s σ H D I h;show a0t (eQ (hv π s σ H _ I h) λr s1 ⟨v,H1,I1,rv,q1⟩=>?_) hs;show eQ (ho π s1 σ H1 _ I1 q1) λu s2 Rc=>?_;obtain⟨x,H2,I2,rx,q2⟩:=Rc;show eQ (hi π s2 σ H2 _ I2 q2) λiv s3 Rb=>?_;obtain⟨y,H3,I3,ry,a,ob,χ,k,ex,e,hk,kd,hl,q3⟩:=Rb;subst ex;obtain rfl:u=df a:=rx;show OM hu I3 e hk kd hl ry rv λo' s4 I4=>⟨σ,_,I4,q3 o'⟩
def FY(h:ba)(hb:sysModules<h.objs.size):cZ P w H (h.push {cls:=.type "dict",data:=.dict #[]}) h.objs.size (.dX {cls:=.type "dict",data:=.dict #[]} []) :=
 ⟨jn _,beq_eq_false_iff_ne.mpr (fj (fz hb)),gf _ rfl,⟨rfl,rfl,rfl⟩,#[],0,rfl,.inl ⟨[],.nil,(λ_ he=>by simp at he),.nil,qh⟩⟩
def ZM:PE X (.Dict [] [] ν) Ro:=λπ s σ H Q I h =>
 a0s ⟨.ref s.heap.objs.size,_,I.laid (t':=s.toks) (λ_ _ q=>dg _ q) (bp _) (FY s.heap I.big),rfl,h _ _ (I.hok.fresh (bp _))⟩
theorem OO(hu:A.units+1<cn)(I:Φ X π σ H s)(e:H a=aa (.dX ob []))(hk:U3 H k y)(ry:Ψ y u)(rv:Ψ v r)(h:∀o' s',Φ X π σ (upd H a (.dX o' [(k,y,v)])) s'->Q () s'):
  ay (au X.Ω X.w) A (dictSet a u r) Q E s:=by
 obtain⟨z,hs,ho,hx⟩:=FW I e;have mu:Mut (H a):=by rw[e];show ji
 cases k with
 |inl k =>
  have hk:y=kV k:=hk;subst hk;obtain⟨vs,rel,dd⟩:=qT (a:=a) hx ho (λp hp=>by cases hp);cases rel;show wpAny_dictSet_pairs (hsz:=by decide) (qI ry) dd λh' O9 sb=>?_;obtain⟨o',g1,g2⟩:=FX (H':=upd H a (.dX ob [(.inl k,kV k,v)])) (PL.put .nil k rv) O9;show h o' _ (nW I mu sb ⟨o',g1⟩ ⟨by show 1<=bg;decide,hs,g1,g2.stay λb ys eb=>by
   by_cases hb:b=a
   .subst hb;rw[aO] at eb;cases eb
   .rw [aQ hb] at eb ⊢;show eb⟩)
 |inr k =>
  obtain⟨b,rfl,hb⟩:=hk;obtain rfl:u=df b:=ry;obtain⟨xs,rel,dd⟩:=uR (a:=a) I.hok hx ho (λp hp=>by cases hp);cases rel;show wpAny_dictSet_heap (hsz:=by decide) (show(jY X.Ω X.w).room A from hu) (nZ I.hok hb) dd λh' O9 sb=>?_;obtain⟨o',g1,g2⟩:=LY (PT.put (H:=H) .nil k hb rv) O9;show h o' _ (nW I mu sb ⟨o',g1⟩ ⟨by show 1<=bg;decide,hs,g1,g2.stay (LZ e)⟩)
def FZ(Q:VK)(p:ah)(o:ax):List (V×V)->Hp->Prop
 |[(y,z)],H2=>∃k,U3 H2 k y/\H2 p=aa (.dX o []) /\∀o',Q (.ref p) (upd H2 p (.dX o' [(k,y,z)]))
 |_,_=>False
theorem F5{Q:VK}{p:ah}{o:ax}{ps:List (V×V)}{H2:Hp}(h:FZ Q p o ps H2):∃y z k,ps=[(y,z)]/\U3 H2 k y/\H2 p=aa (.dX o []) /\∀o',Q (.ref p) (upd H2 p (.dX o' [(k,y,z)])):=by
 match ps,h with
 |[(y,z)],⟨k,h1,h2,h3⟩=>show⟨y,z,k,rfl,h1,h2,h3⟩
def ZN(hu:X.A.units+1<cn)(hk:PE X i ty)(hv:PE X value tv):PE X (.Dict [aa i] [value] ν) (Rm ty tv):=by
 intro π s σ H Q I q;have hn:=I.hok.fresh (bp s.heap.objs.size);have I1:=I.laid (t':=s.toks) (λ_ _ z=>dg _ z) (bp _) (FY (P:=X.Ω) (w:=X.w) s.heap I.big);have np:pairTrees [aa i] [value] X.env ν≠[]:=λz=>by have:=Dj [aa i] [value] X.env ν rfl rfl;rw[z] at this;cases this
 rw[arm_eval_Dict,zip_pairTrees [aa i] [value] X.env ν rfl rfl,dictDisplay_pairs _ np (by rw[Dj _ _ _ _ rfl rfl];show 1<17;decide)];apply aq;show wj (aq ?_);unfold subDict;show aq (a0r (aq (h_ ?_)));rw[Z_ (by rw[Dj _ _ _ _ rfl rfl];show 1<=15;decide)];show aq (eQ (SM hk hv YA π _ σ _ (FZ Q s.heap.objs.size _) I1 (q _ _ hn)) λws s2 ⟨ps,H2,I2,rel,q2⟩=>?_);obtain⟨y,z,k,rfl,hk2,hp,q3⟩:=F5 q2;obtain⟨u,r,rfl,hy,hz⟩:∃u r,ws=[(u,r)]/\Ψ y u/\Ψ z r:=by
  cases rel with
  |cons h1 t=>cases t;show⟨_,_,rfl,h1.1,h1.2⟩
 show h_ ?_;rw[m_];show aq (aq (aq (OO hu I2 hp hk2 hy hz λo' s3 I3=>a_ ?_)));show ay _ _ (pure PUnit.unit) _ _ _;show a_ (a_ (a_ (a_ ⟨.ref s.heap.objs.size,_,I3,rfl,q3 o'⟩)))
end
open L3 L4
section
variable{K:ao}{S:ah->Prop}{H:Hp}
def ZO(h:Dn K S H d v)(e:uY d=aa k):v=kV k:=by cases d<;>simp only[uY] at e<;>cases e<;>symm at h<;>show h
theorem F6:∀{ds:List D} {xs:List V} {ks:List Key},aV K S H ds xs->PN ds=aa ks->xs=ks.map kV
 |[],xs,ks,h,e=>by simp only[aV] at h;cases e;show h
 |d::ds,xs,ks,h,e=>by obtain⟨v,r,rfl,h1,h2⟩:=h.bN;obtain⟨k,ek,e⟩:=bnd e;obtain⟨ks',e2,rfl⟩:=qM e;rw[ZO h1 ek,F6 h2 e2];rfl
theorem U6(h:Dn K S H d v)(e:Cf d=aa k):BX H k v:=by
 cases d with
 |tup ds =>
  obtain⟨ks,e2,rfl⟩:=qM e;symm at h;obtain⟨a,xs,rfl,ha,dn⟩:=h;rw[F6 dn e2] at ha;show⟨a,rfl,ha⟩
 |int i=>cases e;symm at h;show h
 |str i=>cases e;symm at h;show h
 |_=>cases e
theorem AQ:∀{ds:List D} {xs:List V} {ks:N1},aV K S H ds xs->rA ds=aa ks->ik (BX H) ks xs
 |[],xs,ks,h,e=>by simp only[aV] at h;cases e;subst h;show .nil
 |d::ds,xs,ks,h,e=>by obtain⟨v,r,rfl,h1,h2⟩:=h.bN;obtain⟨k,ek,e⟩:=bnd e;obtain⟨ks',e2,rfl⟩:=qM e;show .cons (U6 h1 ek) (AQ h2 e2)
theorem qU(h:Dn K S H d v)(e:mH d=aa k):U3 H k v:=by
 cases d with
 |tup ds =>
  obtain⟨ks,e2,rfl⟩:=qM e;symm at h;obtain⟨a,xs,rfl,ha,dn⟩:=h;show⟨a,rfl,xs,ha,AQ dn e2⟩
 |int i=>cases e;symm at h;show h
 |str i=>cases e;symm at h;show h
 |_=>cases e
theorem xN:∀{χ:List (KX×V×V)} {ds:List D},aV K S H ds (χ.map (·.2.2))->(∀d,bS (χ.map (·.1)) ds k=aa d ->∃v,iB χ k=aa v/\Dn K S H d v)/\(bS (χ.map (·.1)) ds k=af->iB χ k=af)
 |[],ds,h=>⟨λd e=>by simp[bS] at e,λ_=>rfl⟩
 |p::χ,ds,h=>by
  cases ds with
  |nil=>show Zw h.len (by simp)
  |cons d0 ds =>
   obtain⟨v,r,e1,h1,h2⟩:=h.bN;rw[bt] at e1;cases e1;have ih:=xN (k:=k) (χ:=χ) (ds:=ds) h2;by_cases e:p.1=k
   .have a:bS ((p::χ).map (·.1)) (d0::ds) k=aa d0:=by simp[bS,e]
    have b:iB (p::χ) k=aa p.2.2:=by simp[iB,e]
    rw[a,b];show⟨λd ed=>by cases ed;show⟨_,rfl,h1⟩,λz=>nomatch z⟩
   .have a:bS ((p::χ).map (·.1)) (d0::ds) k=bS (χ.map (·.1)) ds k:=by simp[bS,e]
    have b:iB (p::χ) k=iB χ k:=by simp[iB,e]
    rw[a,b];show ih
def CT(h:kindB (χ.map (·.1)) k=ae):qS χ k:=λp hp=>by unfold kindB at h;rw[jh] at h;simpa using h p.1 (Ft hp)
theorem Ra(dv:Dn K S H d v):∀{χ:List (KX×V×V)} {ds:List D},aV K S H ds (χ.map (·.2.2)) ->
  (L8.fT χ k y v).map (·.1)=(L4.fT (χ.map (·.1)) ds k d).1/\aV K S H (L4.fT (χ.map (·.1)) ds k d).2 ((L8.fT χ k y v).map (·.2.2)):=by
 intro χ ds h;have e:(χ.map (·.1)).any (λq=>Zv (q=k))=χ.any (λp=>Zv (p.1=k)):=by rw[a2u];rfl
 unfold L8.fT L4.fT;rw[e];split
 .refine ⟨?_,?_⟩
  .simp only[ft];show iy λp _=>?_;show(if p.1=k then(p.1,p.2.1,v) else p).1=p.1;split<;>rfl
  .dsimp only;have go:∀{χ:List (KX×V×V)} {ds:List D},aV K S H ds (χ.map (·.2.2))->aV K S H (((χ.map (·.1)).zip ds).map λp=>if p.1=k then d else p.2) ((χ.map λp=>if p.1=k then(p.1,p.2.1,v) else p).map (·.2.2)):=by
    intro χ
    induction χ with
    |nil=>intro ds h;cases ds with
     |nil=>show aV.nil
     |cons d0 ds=>show Zw h.len (by simp)
    |cons p χ ih =>
     intro ds h
     cases ds with
     |nil=>show Zw h.len (by simp)
     |cons d0 ds =>
      obtain⟨u,r,e1,h1,h2⟩:=h.bN;rw[bt] at e1;cases e1;show aV.cons ?_ (ih h2);by_cases z:p.1=k
      .simpa [z] using dv
      .simpa [z] using h1
   show go h
 .refine ⟨by simp,?_⟩;rw[gp];show h.append (aV.one dv)
end
section
variable{X:Cx}
theorem U7(hu:X.A.units+2<cn)(ho:bR X o fo)(hi:bR X i fi)(hs:IC i:=by intro _ _;rfl):bR X (.Subscript o i ν) (aC A4 fo fi):=imp (MA hu ho hi hs) λσ H Q Q_=>by
 obtain⟨S,ρ,Q3,fc,sl,⟨d,e,q⟩,k⟩:=Q_;obtain⟨x,ex,e⟩:=bnd e;obtain⟨y,ey,e⟩:=bnd e;show⟨S,ρ,λd=>d=x,fc,sl,⟨x,ex,rfl⟩,λv H1 d1 s1 pD e1=>?_⟩;subst e1;show⟨S,ρ,λd=>d=y,bG fc s1,Sl.fits (.same s1) sl,⟨y,ey,rfl⟩,λu H2 d2 s2 t7 e2=>?_⟩;subst e2;have pD:=Dn.fits (.same s2) _ _ pD
 cases d1 with
 |b7 q0 ks ds =>
  obtain⟨kk,ek,e⟩:=bnd e;symm at pD;obtain⟨a,o,χ,rfl,ha,sa,⟨rfl,_⟩,da⟩:=pD;by_cases hk:kindB (χ.map (·.1)) kk=ae
  .rw [Z_ hk] at e;obtain⟨v3,ev,dv⟩:=(xN da).1 d e;show⟨a,o,χ,kk,v3,rfl,ha,qU t7 ek,CT hk,ev,k v3 H2 d (s1.trans s2) dv q⟩
  .rw [Zz hk] at e;cases e
 |_=>cases e
theorem U8(h:lift X.K (wE (aC (MJ neg) fi fo)) σ H Q):uq neg (lift X.K (wE fi)) (lift X.K (wE fo)) σ H Q:=by
 obtain⟨S,ρ,Q3,fc,sl,⟨d,e,q⟩,k⟩:=h;obtain⟨x,ex,e⟩:=bnd e;obtain⟨y,ey,e⟩:=bnd e;show⟨S,ρ,λd=>d=x,fc,sl,⟨x,ex,rfl⟩,λv H1 d1 s1 pD e1=>?_⟩;subst e1;show⟨S,ρ,λd=>d=y,bG fc s1,Sl.fits (.same s1) sl,⟨y,ey,rfl⟩,λu H2 d2 s2 t7 e2=>?_⟩;subst e2;have pD:=Dn.fits (.same s2) _ _ pD
 cases d2 with
 |b7 q0 ks ds =>
  obtain⟨kk,ek,e⟩:=bnd (o:=mH d1) e;symm at t7;obtain⟨a,o,χ,rfl,ha,sa,⟨rfl,_⟩,da⟩:=t7;by_cases hk:kindB (χ.map (·.1)) kk=ae
  .rw [Z_ hk] at e;cases e;have ev:(iB χ kk).isSome=(bS (χ.map (·.1)) ds kk).isSome:=by
    cases hl:bS (χ.map (·.1)) ds kk with
    |none=>rw[(xN da).2 hl];rfl
    |some d3=>obtain⟨v3,e3,_⟩:=(xN da).1 d3 hl;rw[e3];rfl
   show⟨a,o,χ,kk,rfl,ha,qU pD ek,CT hk,?_⟩;rw[ev];show k _ H2 _ (s1.trans s2) (by symm) q
  .rw [Zz hk] at e;cases e
 |_=>cases e
section
variable{o i:av}{ν:br}{fo fi:EF}
def OP(h:liftT X.K (wT (tV (aC (MJ neg) fi fo))) σ H Q):tB (uq neg (lift X.K (wE fi)) (lift X.K (wE fo))) σ H Q:=by
 obtain⟨S,ρ,Q3,fc,sl,⟨b,e,q⟩,k⟩:=h;obtain⟨d,e1,e2⟩:=bnd e;have eb:d=.bl b:=by
  obtain⟨x,ex,e⟩:=bnd e1;obtain⟨y,ey,e⟩:=bnd e
  cases y with
  |b7 q0 ks ds =>
   obtain⟨kk,ek,e⟩:=bnd (o:=mH x) e;by_cases hk:kindB ks kk=ae
   .rw [Z_ hk] at e;cases e;cases e2;rfl
   .rw [Zz hk] at e;cases e
  |_=>cases e
 subst eb;show U8 ⟨S,ρ,λd=>d=.bl b,fc,sl,⟨_,e1,rfl⟩,λv H1 d s1 dn e3=>?_⟩;subst e3;symm at dn;show⟨b,dn,k b H1 s1 q⟩
def Ws(hu:X.A.units+2<cn)(hi:bR X i fi)(ho:bR X o fo)(hm:behindInMarks .NotIn o=ag:=by with_unfolding_all rfl):x8 X (.Compare i [.NotIn] [o] ν) (tV (aC (MJ ae) fi fo)):=NK (aB6 (ON hu hi ho) hm) λ_ _ _=>OP
end
end
section
variable{X:Cx}
def Qz(hN:X.N.Nodup)(hi:X.N[i]?=aa x:=by rfl)(hx:Loc X.env.scope x:=by walk_at "0")(hs:e_ (.Dict [] [] p) (aa (.Name x pos')) ν.line X.env=pure ag:=by rfl)(hf:Zq X x:=by walk_at "0"):
  tL X (.Assign [.Name x pos'] (.Dict [] [] p) ν) (Ce i):=kM (mW hN hi hx ZM hs hf) λB σ H ⟨H₀,S,w,ρ,G,E,hl,st,ht,ok⟩=>λp o hp =>
 ok.nx _ _ _ _ (by rw[gb];show hl) (st.wQ (d:=.b7 iV [] []) (by rw[hl];show jA hi) (aN hp) hp ⟨o,[],aO,⟨rfl,trivial⟩,aV.nil⟩) ht
theorem Wq(hu:X.A.units+1<cn)(hN:X.N.Nodup)(hk:bR X k fk)(hv:bR X v fv)(hi:X.N[i]?=aa x:=by rfl)(hx:Loc X.env.scope x:=by walk_at "0")(hs:e_ (.Dict [aa k] [v] p) (aa (.Name x pos')) ν.line X.env=pure ag:=by rfl)(hf:Zq X x:=by walk_at "0"):
  tL X (.Assign [.Name x pos'] (.Dict [aa k] [v] p) ν) (A5 i fk fv):=kM (mW hN hi hx (ZN hu hk hv) hs hf) λB σ H ⟨H₀,S,w,ρ,G,E,hl,st,ht,ok⟩=>λp o hp=>by
 unfold wS A5 at ht
 cases h:((fk (gQ ρ)).bind λkd=>(fv (gQ ρ)).bind λd=>(mH kd).map λkk=>(kk,d)) with
 |none=>rw[h] at ht;show ht.elim
 |some q =>
  rw[h] at ht;obtain⟨kd,ek,h⟩:=bnd h;obtain⟨d,ed,h⟩:=bnd h;obtain⟨kk,e2,rfl⟩:=qM h;have s0:ξ H (upd H p (.dX o [])):=aN hp;have st0:=st.same s0
  -- p is not among what was there
  have fc0:∀a,upd H p (.dX o []) a=af->(SO S w ρ a/\a≠p):=λa ea=>⟨st0.ID a ea,λz=>by rw[z,aO] at ea;cases ea⟩;have F0:Fits X.K (SO S w ρ) (λa=>SO S w ρ a/\a≠p) H (upd H p (.dX o [])):=(Fits.fresh hp).trans (.same s0);have sl0:Sl X.K (λa=>SO S w ρ a/\a≠p) (upd H p (.dX o [])) (gQ ρ) σ:=Sl.fits F0 st.rd;show⟨_,gQ ρ,λy=>y=kd,fc0,sl0,⟨kd,ek,rfl⟩,λy H1 y' s1 dy ey=>?_⟩;subst ey;show⟨_,gQ ρ,λy=>y=d,bG fc0 s1,Sl.fits (.same s1) sl0,⟨d,ed,rfl⟩,λz H2 z' s2 dz ez=>?_⟩;subst ez;have dy:=Dn.fits (.same s2) _ _ dy;have e3:H2 p=aa (.dX o []):=s2 _ _ (s1 _ _ aO);show⟨kk,qU dy e2,e3,λo'=>?_⟩;have s3:ξ H (upd H2 p (.dX o' [(kk,y,z)])):=λb u hb=>by rw[aQ (aY hb hp)];show s2 _ _ (s1 _ _ (s0 _ _ hb))
  have F3:Fits X.K (λa=>SO S w ρ a/\a≠p) (λa=>SO S w ρ a/\a≠p) H2 (upd H2 p (.dX o' [(kk,y,z)])):=.upd (.inr (.inr ⟨_,_,e3⟩)) (λh=>h.2 rfl);show ok.nx _ _ _ _ (by rw[gb];show hl) (st.wQ (d:=.b7 iV [kk] [z']) (by rw[hl];show jA hi) s3 hp ⟨o',_,aO,⟨rfl,trivial⟩,aV.one (Dn.fits F3 _ _ dz)⟩) ht
def uS(h:DJ o=aa p):o=aa (.ow (.b7 p.1 p.2.1 p.2.2)):=by
 unfold DJ at h;split at h
 .cases h;rfl
 .cases h
theorem U9(hu:X.A.units+2<cn)(he:LN X e f)(hk:bR X k fk)
  (hN:X.N[i]?=aa x:=by rfl) (hv:x6 X.env.scope x:=by walk_at "1") (hd:Zu x:=by decide) (hcd:Zt x:=by decide)
  (hs:e_ e (aa (.Subscript (.Name x p) k pos')) ν.line X.env=pure ag:=by rfl):
  tL X (.Assign [.Subscript (.Name x p) k pos'] e ν) (mI i f fk):=kM (ZL hu (jZ hN hv hd hcd) hk he hs) λB σ H Qy=>by
 obtain⟨H₀,S,w,ρ,G,E,hl,st,ht,ok⟩:=Qy;unfold wS mI at ht;cases h:((f ρ).bind λp=>(DJ p.1[i]?).bind λkd=>(fk (bK p.1)).bind λkv=>(mH kv).bind λkk =>
  if kindB kd.2.1 kk=ae/\kd.2.2.length<lP then aa (p.1.set i (.ow (.b7 (adr kd.1) (L4.fT kd.2.1 kd.2.2 kk p.2).1 (L4.fT kd.2.1 kd.2.2 kk p.2).2))) else af) with
 |none=>rw[h] at ht;show ht.elim
 |some ρ2 =>
  rw[h] at ht;obtain⟨⟨ρ1,d1⟩,eq,h⟩:=bnd h;obtain⟨⟨q0,ks,ds⟩,ed,h⟩:=bnd h;obtain⟨kv,ek,h⟩:=bnd h;obtain⟨kk,e2,h⟩:=bnd h;have o0:=uS ed;by_cases hc:kindB ks kk=ae/\ds.length<lP
  .rw [Z_ hc] at h;cases h;show⟨H₀,S,w,ρ,G,λρ' d=>ρ'=ρ1/\d=d1,hl,st,⟨_,eq,rfl,rfl⟩,λw' v H' ρ' d st' dv q'=>?_⟩;obtain⟨rfl,rfl⟩:=q';obtain⟨a0,_,_⟩:=st'.own i _ o0;show⟨_,a0,S,bK ρ',λy=>y=kv,st'.PB,st'.all,⟨kv,ek,rfl⟩,λy H2 y' s2 dy ey=>?_⟩;subst ey;have st2:=st'.same s2;obtain⟨a,b,c⟩:=st2.own i _ o0;obtain⟨o,χ,hp,⟨e5,hq⟩,dn⟩:=c;subst e5;have nS:¬ SO S w' ρ' (w' i):=λ⟨_,z⟩=>z i _ o0 rfl;show⟨w' i,o,χ,kk,rfl,hp,qU dy e2,CT hc.1,?_,λo'=>?_⟩
   .have:=dn.len;rw[bj] at this;rw[gc,<- this];show hc.2
   .have F:Fits X.K (SO S w' ρ') (SO S w' ρ') H2 (upd H2 (w' i) (.dX o' (L8.fT χ kk y v))):=.upd (.inr (.inr ⟨_,_,hp⟩)) nS;obtain⟨p1,p2⟩:=Ra (k:=kk) (y:=y) (Dn.fits (.same s2) _ _ dv) dn;show ok.nx w' σ _ _ hl (st2.write (d':=.b7 (adr q0) _ _) o0 ⟨o',_,aO,⟨p1,o,hq⟩,aV.fits F _ _ p2⟩) ht
  .rw [Zz hc] at h;cases h
end
def AR{K:ao}{H₀ H H':Hp}{S:ah->Prop}{w:Nat->ah}{σ:L2.St}{ρ:bT}{G:List (D×V)}{i:Nat}{d d':D}(h:ST K H₀ S w σ H ρ G)(e:ρ[i]?=aa (Sv.ow d))(hb:∀b u,b≠w i->H b=aa u->H' b=aa u)(q:wN K (SO S w ρ) H' d' (w i))(hr:∀xs,d'≠.rws xs:=by intro _ z;cases z):ST K H₀ S w σ H' (ρ.set i (.ow d')) G:=by
 obtain⟨a0,b0,c0⟩:=h.own i d e;have wr:=c0.wr;have so:SO S w (ρ.set i (.ow d'))=SO S w ρ:=by
  funext a
  show propext ⟨λ⟨s,n⟩=>⟨s,λj f hf=>?_⟩,λ⟨s,n⟩=>⟨s,λj f hf=>?_⟩⟩
  .by_cases hj:j=i
   .subst hj;show n j d' (by rw[lz (cz.1 e).1])
   .exact n j f (by rw[jo (fj hj)];show hf)
  .by_cases hj:j=i
   .subst hj;show n j d e
   .exact n j f (by rw[jo (fj hj)] at hf;show hf)
 have ne:∀a,SO S w ρ a->a≠w i:=λa z=>z.2 i d e;have nt:∀a xs,H a=aa (.tup xs)->a≠w i:=λa xs z y=>by subst y;rcases wr with⟨_,k⟩|⟨_,k⟩|⟨_,_,k⟩<;>rw[z] at k<;>cases k
 have nf:∀a o u,H a=aa (.tW o u)->a≠w i:=λa o u z y=>by subst y;rcases wr with⟨_,k⟩|⟨_,k⟩|⟨_,_,k⟩<;>rw[z] at k<;>cases k
 have F:Fits K (SO S w ρ) (SO S w ρ) H H':=⟨λa xs z=>hb _ _ (nt a xs z) z,λa ns z=>z.elim (λ⟨o,y⟩=>.inl ⟨o,hb _ _ (nf a o _ y) y⟩) .inr,λa xs z s=>⟨hb _ _ (ne a s) z,s⟩,λa xs z s=>⟨hb _ _ (ne a s) z,s⟩,λa o xs z s=>⟨hb _ _ (ne a s) z,s⟩⟩;show⟨h.fc,λb u z=>hb b u (aY z b0) (h.sm b u z),λj f hf=>?_,λj k d1 e1 h1 h2 z=>?_,λj f hf=>?_,λg hg=>by rw[so];show Dn.fits F _ _ (h.gh g hg),λj xs hx=>?_⟩
 rotate_right
 .rcases get_set hx with⟨_,z,_⟩|⟨hj,z⟩
  .exact Zw (Sv.ow.inj z).symm (hr xs)
  .exact h.rwN z λob hob=>hb _ _ (λy=>hj (h.inj _ _ _ _ z e y)) hob
 .rw [so];rcases get_set hf with⟨hj,z,_⟩|⟨hj,z⟩
  .cases z;subst hj;show⟨a0,b0,q⟩
  .obtain ⟨a,b,c⟩:=h.own j f z;show⟨a,b,c.fits F λob hob=>hb _ _ (λy=>hj (h.inj _ _ _ _ z e y)) hob⟩
 .have old:∀{m:Nat} {y:D},(ρ.set i (.ow d'))[m]?=aa (Sv.ow y) ->∃y2,ρ[m]?=aa (Sv.ow y2):=λ{m y} hm=>by
   rcases get_set hm with⟨hj,_,_⟩|⟨_,z⟩
   .subst hj;show⟨d,e⟩
   .exact ⟨_,z⟩
  obtain⟨_,g1⟩:=old h1;obtain⟨_,g2⟩:=old h2;show h.inj j k _ _ g1 g2 z
 .rw [so];rcases get_set hf with⟨_,z,_⟩|⟨hj,z⟩
  .cases z
  .obtain ⟨u,a,b⟩:=h.ro j f z;show⟨u,a,Dn.fits F f u b⟩
def VA(K:ao)(R:O8):Sp:=λvs H Q _=>∃(T:ah->Prop) (ds:List D) (us:List V) (p:ah) (o:ax) (χ:List (KX×V×V)) (xs:List D) (r:D×KD),vs=us++[.ref p]/\(∀a,H a=af->T a)/\¬ T p/\H p=aa (.dX o χ)/\aV K T H ds us/\aV K T H xs (χ.map (·.2.2))/\R ds (χ.map (·.1),xs)=.ok r /\
 ∀v H' o' kvs',(∀b u,b≠p->H b=aa u->H' b=aa u)->H' p=aa (.dX o' kvs')->kvs'.map (·.1)=r.2.1->aV K T H' r.2.2 (kvs'.map (·.2.2))->Dn K T H' r.1 v->Q v H'
def xO(K:ao)(t:AF)(j:Nat):TA:=λσ H Q=>∃(S:ah->Prop) (ρ:cM) (ds:List D) (p:ah),(∀a,H a=af->S a)/\Sl K S H ρ σ/\t ρ=aa ds/\σ[j]?=aa (aa (.ref p)) /\∀vs H',ξ H H'->aV K S H' ds vs->Q (vs++[.ref p]) H'
section
variable{X:Cx}
def Bh(he:bR X e f)(hr:PA X es (xO X.K g j))(hs:Zs X e es:=by rfl):PA X (e::es) (xO X.K (aA f g) j) :=
 SR (dG he hr hs) λσ H Q Qx=>by obtain⟨S,ρ,ds,p,fc,sl,et,ej,k⟩:=Qx;obtain⟨d,ed,et⟩:=bnd et;obtain⟨r,er,et⟩:=bnd et;cases et;show⟨S,ρ,λy=>y=d,fc,sl,⟨d,ed,rfl⟩,λv H1 d1 s1 pD e1=>?_⟩;subst e1;show⟨S,ρ,r,p,bG fc s1,Sl.fits (.same s1) sl,er,ej,λvs H2 s2 t7=>?_⟩;show k (v::vs) H2 (s1.trans s2) (aV.cons (Dn.fits (.same s2) _ _ pD) t7)
def Qw(hN:X.N[j]?=aa x:=by rfl)(hv:x6 X.env.scope x:=by walk_at "1")(hd:Zu x:=by decide)(hcd:Zt x:=by decide):PA X [.Name x ν] (xO X.K aG j) :=
 SR (dG (jZ hN hv hd hcd) iN) λσ H Q Qu=>by obtain⟨S,ρ,ds,p,fc,sl,et,ej,k⟩:=Qu;cases et;show⟨_,ej,k [] H (ξ.refl H) aV.nil⟩
theorem OQ{R:O8}{t:AF}{j:Nat}{H₀ H:Hp}{S:ah->Prop}{w:Nat->ah}{σ:L2.St}{ρ:bT}{G:List (D×V)}{r:(Nat->ax->Prop)×D×KD}{Q:VK}(st:ST X.K H₀ S w σ H ρ G)(h:stepM R t j ρ=aa r)
  (k:∀v H',ST X.K H₀ S w σ H' (ρ.set j (.ow (.b7 (adr r.1) r.2.2.1 r.2.2.2))) G->Dn X.K (SO S w ρ) H' r.2.1 v->Q v H'):RV (VA X.K R) [] E0 (xO X.K t j) σ H Q:=by
 obtain⟨ds,et,h⟩:=bnd h;obtain⟨⟨q0,ks,xs⟩,eo,h⟩:=bnd h;have o0:=uS eo
 cases hR:R ds (ks,xs) with
 |no=>dsimp only at h;rw[hR] at h;cases h
 |ex c=>dsimp only at h;rw[hR] at h;cases h
 |ok r0 =>
  dsimp only at h;rw[hR] at h;cases h;obtain⟨a0,b0,_⟩:=st.own j _ o0;show⟨SO S w ρ,gQ ρ,ds,w j,st.ID,st.rd,et,a0,λvs H1 s1 dn=>?_⟩;have st1:=st.same s1;obtain⟨_,_,⟨o,χ,hp,⟨e5,hq⟩,dk⟩⟩:=st1.own j _ o0;subst e5;show VA X.K R ((vs++[V.ref (w j)])++[]) H1 Q E0;rw[gq];show⟨SO S w ρ,ds,vs,w j,o,χ,xs,r0,rfl,st1.ID,λz=>z.2 j _ o0 rfl,hp,dn,dk,hR,λv H' o' kvs' hb hp' ek dx dv=>?_⟩;show k v H' (AR st1 o0 hb ⟨o',kvs',hp',⟨ek,o,hq⟩,dx⟩) dv
theorem Jg(C:Cl X.Ω X.w X.K X.mg X.ω eR k y ps (VA X.K R))(hr:gF k X.A)
  (ha:PA X (e::es) (xO X.K t j)) (hg:Gl X y:=by rfl) (hdb:Zu y:=by decide) (he:Zs X e es:=by rfl) (hpl:Q0l X cpos es:=by rfl)
  (hs:e_ (.Call (.Name y p) (e::es) [] cpos) af ν.line X.env=pure ag:=by rfl):
  tL X (.Expr (.Call (.Name y p) (e::es) [] cpos) ν) (V5 R t j):=by
 obtain⟨F,hm,hk,hb⟩:=C;show kM (K5 (qD F hr hg hm hk hb .nil R9 ha hdb he hpl) hs) λB σ H Qt=>?_;obtain⟨H₀,S,w,ρ,G,E,hl,st,ht,ok⟩:=Qt;unfold wS V5 at ht
 cases h:stepM R t j ρ with
 |none=>rw[h] at ht;show ht.elim
 |some r =>
  rw[h] at ht;show OQ st h λv H' st' _=>ok.nx w _ H' _ hl st' ht
abbrev VB(K:ao)(j:Nat)(k:EF):TS:=Aj (Bi (tY j) (lift K (wE k)))
def Qs{st:cf}{b:SF}{j:Nat}{x:aj}{i:av}{k:EF}{p ν pos':br}(hu:X.A.units+2<cn)(h:tL X st b)(hk:bR X i k)(hN:X.N[j]?=aa x:=by rfl)(hv:x6 X.env.scope x:=by walk_at "1")(hd:Zu x:=by decide)(hcd:Zt x:=by decide)(hs:IC i:=by intro _ _;rfl):
  zU X [st,.Return (aa (.Subscript (.Name x p) i ν)) pos'] (MZ (tH X.K (XC X) X.N.length (wS b)) (VB X.K j k)):=wB h (K4 (RJ (MA hu (jZ hN hv hd hcd) hk hs)))
theorem DK{st:cf}{Θ:List cf}{f g:SF}{tl:TS}(h1:tL X st f)(h2:zU X Θ (MZ (tH X.K (XC X) X.N.length (wS g)) tl)):zU X (st::Θ) (MZ (tH X.K (XC X) X.N.length (wS (aM f g))) tl):=E2 (wB h1 h2) λB σ H Qr=>by
 obtain⟨H₀,S,w,ρ,G,E,hl,st,ht,ok⟩:=Qr;unfold wS aM at ht;show⟨H₀,S,w,ρ,G,{E with nx:=wS g E},hl,st,?_,⟨λw' σ' H' ρ' hl' st' q=>⟨H₀,S,w',ρ',G,E,hl',st',q,ok⟩,ok.rt,ok.bk,ok.ct,ok.ex⟩⟩;unfold wS
 cases hf:f ρ with
 |nx ρ'=>rw[hf] at ht;show ht
 |rt d=>rw[hf] at ht;show ht
 |ex c=>rw[hf] at ht;show ht
 |no=>rw[hf] at ht;show ht
end
theorem Jf{P:bh}{w:az}{K:ao}{mg:Q0d}{ω:ba}{x qual:aj}{st:cf}{f:ah}{fd:gg}{N ps:Q0g}{k n np:Nat}{b:SF}{key:EF}(F:X7 K x qual st f fd)(S:hZ N ps (bD st))(hn:N.length=n)(hp:ps.length=np)
  (hbody:∀(cdv:ai) (A:bu) (Γ:List d_) (s:ak) (H:Hp) (E:XK),gF k (A.deeper (envOfC qual (bD st) s.heap.objs.size f cdv)) ->
   ∃xc,zU (mX eR P w K mg ω N qual (bD st) f cdv A Γ s H E).RI (f9 st) (MZ (tH K xc N.length (wS b)) (VB K (np-1) key))):lA P w K mg ω eR (k+1) f fd ps (VA K (runM n np b key)):=by
 subst hn hp;show F.ok S (λvs H Q E h=>?_) λcdv A Γ s H vs Q E hr h=>?_
 .obtain ⟨T,ds,us,p,o,χ,xs,r,rfl,fc,np,hp,du,dx,hR,kk⟩:=h;have hb:=JX hR iV;unfold u6 at hb;split at hb
  .rename_i hl;rw[dm,<- du.len];show hl
  .cases hb
 .obtain ⟨xc,hb⟩:=hbody cdv A Γ s H E hr;obtain⟨T,ds,us,p,o,χ,xs,r,rfl,fc,nT,hp,du,dx,hR,kk⟩:=h;show⟨_,hb,?_⟩;have hq:=JX hR (λa _=>a=p);unfold u6 at hq;split at hq
  case isFalse=>cases hq
  rename_i hl;have hlu:=du.len;have hpN:ps.length<=N.length:=by have:=congrArg sr S.pre;rw[ig] at this;lia
  have j0:ps.length-1=ds.length:=by lia
  have sj:(startM N.length ds (λa _=>a=p) (χ.map (·.1),xs))[ds.length]?=aa (Sv.ow (.b7 (λa _=>a=p) (χ.map (·.1)) xs)):=by unfold startM;rw[jz (by simp)];simp
  have sv:∀i,i<ds.length->(startM N.length ds (λa _=>a=p) (χ.map (·.1),xs))[i]?=(ds[i]?).map Sv.ro:=λi hi=>by unfold startM;rw[j_ (by simpa using hi),dj]
  have sn:∀i,ds.length<i ->∀y,(startM N.length ds (λa _=>a=p) (χ.map (·.1),xs))[i]?=aa y->y=Sv.no:=λi hi y e=>by
   unfold startM at e;rw[jz (by simp;lia)] at e;obtain⟨m,hm⟩:∃m,i-(List.map Sv.ro ds).length=m+1:=⟨i-ds.length-1,by simp;lia⟩;rw[hm,ou,jg] at e;split at e
   .cases e;rfl
   .cases e
  have ow:∀(i:Nat) (d:D),(startM N.length ds (λa _=>a=p) (χ.map (·.1),xs))[i]?=aa (Sv.ow d)->i=ds.length/\d=.b7 (λa _=>a=p) (χ.map (·.1)) xs:=λi d e=>by
   rcases Nat.lt_trichotomy i ds.length with h|h|h
   .rw [sv i h] at e;obtain⟨y,_,ey⟩:=jm.1 e;cases ey
   .subst h;rw[sj] at e;cases e;show⟨rfl,rfl⟩
   .cases sn i h _ e
  have so:∀a,T a->SO (λa=>T a\/a=p) (λ_=>p) (startM N.length ds (λa _=>a=p) (χ.map (·.1),xs)) a:=λa ta=>⟨.inl ta,λi d e z=>nT (by rw[<- show a=p from z];show ta)⟩;have σl:L2.start N (us++[.ref p])=us.map aa++aa (.ref p)::cc (N.length-(us.length+1)) af:=by unfold L2.start;simp
  cases hbs:b (startM N.length ds (λa _=>a=p) (χ.map (·.1),xs)) with
  |no=>rw[hbs] at hq;cases hq
  |rt d=>rw[hbs] at hq;cases hq
  |ex c=>rw[hbs] at hq;cases hq
  |nx ρ1 =>
   rw[hbs] at hq;dsimp only at hq;show⟨λc=>if c=p then af else H c,λa=>T a\/a=p,λ_=>p,startM N.length ds (λa _=>a=p) (χ.map (·.1),xs),[],{nx:=λρ=>ρ=ρ1,rt:=λ_=>False,bk:=λ_=>False,ct:=λ_=>False,ex:=λ_=>False},?_,?_,?_,?_⟩
   .rw [σl];simp;lia
   .refine ⟨λa e=>?_,λc u e=>?_,λi d e=>?_,λi i' d d' h1 h2 _=>(ow i d h1).1.trans (ow i' d' h2).1.symm,λi d e=>?_,λg hg=>(by cases hg),λi xs e=>by have:=(ow i _ e).2;cases this⟩
    .by_cases z:a=p
     .exact .inr z
     .exact .inl (fc a (by simpa[z] using e))
    .by_cases z:c=p
     .simp [z] at e
     .simpa [z] using e
    .obtain ⟨rfl,rfl⟩:=ow i d e;show⟨?_,by simp,o,χ,hp,⟨rfl,rfl⟩,aV.fits (.mono so) _ _ dx⟩;rw[σl,jz (by simp;lia)];simp[hlu]
    .by_cases hi:i<ds.length
     .rw [sv i hi] at e;obtain⟨y,e1,ey⟩:=jm.1 e;cases ey;obtain⟨v,ev,dv⟩:=du.get e1;show⟨v,?_,Dn.fits (.mono so) _ _ dv⟩;have hv:i<us.length:=(cz.1 ev).1;rw[σl,j_ (by simpa using hv),dj,ev];rfl
     .rcases Nat.lt_or_ge ds.length i with h|h
      .cases sn i h _ e
      .have:i=ds.length:=by lia
       subst this;rw[sj] at e;cases e
   .unfold wS;rw[hbs]
   .refine ⟨λw' σ' H' ρ' hl' st' e=>?_,λ_ _ _ _ _ z=>z.elim,λ_ _ _ _ _ _ z=>z.elim,λ_ _ _ _ _ _ z=>z.elim,λ_ _ _ z=>z.elim⟩;subst e;rw[j0] at hq ⊢;obtain⟨⟨q',ks',xs'⟩,eo,hq⟩:=bnd hq;obtain⟨kv,ek,hq⟩:=bnd hq;obtain⟨kk',e2,hq⟩:=bnd hq;have o0:=uS eo;obtain⟨a0,b0,⟨o1,JD,hp1,⟨e5,hq1⟩,dk1⟩⟩:=st'.own ds.length _ o0;split at hq
    case isFalse=>cases hq
    rename_i hc;obtain⟨d,ed,hq9⟩:=qM hq;obtain⟨_,hwp⟩:=hc.2 _ _ hq1;have hwp:w' ds.length=p:=hwp;show⟨_,a0,SO (λa=>T a\/a=p) w' ρ',gQ ρ',λy=>y=kv,st'.ID,st'.rd,⟨kv,ek,rfl⟩,λy H2 y' s2 dy ey=>?_⟩;subst ey;have st2:=st'.same s2;obtain⟨_,_,⟨o2,VC,hp2,⟨e6,_⟩,dk2⟩⟩:=st2.own ds.length _ o0;have toT:∀a,SO (λa=>T a\/a=p) w' ρ' a->T a:=λa z=>z.1.elim id λy=>Zw (y.trans hwp.symm) (z.2 _ _ o0);have e7:VC.map (·.1)=ks':=e6;have hk2:kindB (VC.map (·.1)) kk'=ae:=by rw[e7];show hc.1
    have ed2:bS (VC.map (·.1)) xs' kk'=aa d:=by rw[e7];show ed
    obtain⟨v3,ev,dv⟩:=(xN dk2).1 d ed2;show⟨w' ds.length,o2,VC,kk',v3,rfl,hp2,qU dy e2,CT hk2,ev,?_⟩;have er:r=(d,ks',xs'):=hq9.symm;subst er;rw[hwp] at hp2;show kk v3 H2 o2 VC (λc u ne hc=>s2 _ _ (st'.sm c u (by simpa[ne] using hc))) hp2 e7 (aV.fits (.mono toT) _ _ dk2) (Dn.fits (.mono toT) _ _ dv)
theorem fdM{P:bh}{w:az}{K:ao}{mg:Q0d}{ω:ba}{x:aj}{st:cf}{N ps:Q0g}{k n np:Nat}{b:SF}{key:EF}(D:Df K mg x st ps)
  (h:∀{f:ah} {cdv:ai} {A:bu} {Γ:List d_} {s:ak} {H:Hp} {E:XK},gF k (A.deeper (envOfC x (bD st) s.heap.objs.size f cdv))->N.Nodup ->∃xc,zU (mX eR P w K mg ω N x (bD st) f cdv A Γ s H E).RI (f9 st) (MZ (tH K xc N.length (wS b)) (VB K (np-1) key)))
  (S:hZ N ps (bD st):=by show⟨rfl,rfl,rfl,by decide+kernel,rfl,by decide+kernel,by decide+kernel⟩) (hn:N.length=n:=by rfl) (hp:ps.length=np:=by rfl):Cl P w K mg ω eR (k+1) x ps (VA K (runM n np b key)):=by
 obtain⟨_,F,m,q⟩:=D;show⟨Jf F S hn hp λ_ _ _ _ _ _ hr=>h hr S.nd,m,F.kp,q⟩
def Qq{P:bh}{w:az}{K:ao}{mg:Q0d}{ω:ba}{k:Nat}{f:ah}{fd:gg}{ps:Q0g}:lA P w K mg ω eR k f fd ps (VA K λ_ _=>.no) :=
 ⟨λ_ _ _ _ h=>(by obtain⟨_,_,_,_,_,_,_,_,_,_,_,_,_,_,e,_⟩:=h;cases e),λ_ _ _ _ _ _ _ _ _ _ _ _ _ h=>(by obtain⟨_,_,_,_,_,_,_,_,_,_,_,_,_,_,e,_⟩:=h;cases e)⟩
def nnM{P:bh}{w:az}{K:ao}{mg:Q0d}{ω:ba}{k:Nat}{x:aj}{st:cf}{ps:Q0g}(D:Df K mg x st ps):Cl P w K mg ω eR k x ps (VA K λ_ _=>.no):=by obtain⟨_,F,m,q⟩:=D;show⟨Qq,m,F.kp,q⟩
open L5
def Qp(hx:0<=x)(hy:0<=y):a1t x y=((x.toNat ||| y.toNat:Nat):Int):=by unfold a1t;rw[bitAnd_nn (by unfold Eg;lia) (by unfold Eg;lia)];unfold Eg;rw[show(-(-x-1)-1:Int)=x by lia,show(-(-y-1)-1:Int)=y by lia];lia
section
variable{X:Cx}
def CNN(i j:Int):Prop:=0<=i/\0<=j
def Bf(h:nnC i j=ae):CNN i j:=by unfold nnC at h;rw[ij] at h;show⟨of_decide_eq_true h.1,of_decide_eq_true h.2⟩
def ZP:i9 X (binaryOp .BitAnd) (rI CNN λi j=>.int ((i.toNat &&& j.toNat:Nat):Int)):=XO λi j _ _ _ _ _ hc q=>and_int (by rw[bitAnd_pp hc.1 hc.2];show q)
def Wo:i9 X (binaryOp .BitOr) (rI CNN λi j=>.int ((i.toNat ||| j.toNat:Nat):Int)):=XO λi j _ _ _ _ _ hc q=>or_int (by rw[Qp hc.1 hc.2];show q)
section
variable{a b:av}{fa fb:EF}{ν:br}
def MB(ha:bR X a fa)(hb:bR X b fb):bR X (.BinOp a .BitAnd b ν) (aC mJ fa fb):=cE (SU ZP l4 ha hb) (h8 (fC λi j h=>Bf h))
def Je(ha:bR X a fa)(hb:bR X b fb):bR X (.BinOp a .BitOr b ν) (aC V6 fa fb):=cE (SU Wo l4 ha hb) (h8 (fC λi j h=>Bf h))
def zr(ha:bR X a fa)(hb:bR X b fb):bR X (.BinOp a .RShift b ν) (aC GV fa fb):=cE (SU Yn l4 ha hb) (h8 (fC λi j h=>by simpa using h))
def VD(ha:bR X a fa)(hb:bR X b fb):bR X (.BinOp a .LShift b ν) (aC A6 fa fb):=cE (SU Yo l4 ha hb) (h8 (fC λi j h=>by
 simp only[ij,decide_eq_true_eq] at h;show⟨h.1.1,by lia,?_⟩;have:(2:Nat)^64=18446744073709551616:=by decide
 rw[this];show h.2))
end
end
end L8
namespace L9
open PySem.Spec PyProof.Rows L2 L3 L4 L5
section
variable{X:Cx}
def Be(K:ao):List V->Hp->VK->Prop:=λxs H Q=>∃(a:ah) (ns:Q0e),xs=[.ref a]/\fP K H a (ns.map V.int)/\ns≠[]/\Q (.int (GU ns)) H
theorem OR(hc:X.calm=ae):gM X (.builtin "max") (Be X.K):=by
 intro π s σ H xs us Q I r h;obtain⟨a,ns,rfl,ha,hne,q⟩:=h;obtain⟨u,rfl,ru⟩:=vals1 r;cases ru;obtain⟨ι,rv,p,hz⟩:=I.list ha;have hi:=intsAre_of rv;obtain⟨zs,ez⟩:=hi.allInts.items;have en:zs.toList.map (·.1)=ns:=by rw[<- a0z,<- ez];show hi.numsOf
 have sz:zs.size=ns.length:=by rw[<- en,bj,gk]
 have hpos:0<zs.size:=by rw[sz];show List.length_pos_iff.2 hne
 have pl:s.heap.IsList a ι.toArray:=p.isList;have pt:s.heap.IsList a (intItems zs):=ez▸pl;have hlt:a<s.heap.objs.size:=by obtain⟨_,_,e,_⟩:=p;show b_ e
 show call_max_walk (wq pt ?_);show⟨_,_,_,_,_,_,_,rfl,a0K (A:=X.A.in1) (I.ok.hd hc) _ a (fz hlt) (intItems zs),⟨⟨_,gf _ rfl,rfl,rfl⟩,pt.push _⟩,?_,by simpa[intItems] using hpos,CmpOf.ints_gt (numAt zs) (λ_ _=>a0C),λv h' tk hP hk=>?_⟩
 .intro b hb;show Nat.lt_of_lt_of_eq ?_ (qa _ _).symm;have two:b=s.heap.objs.size\/b=a:=by simpa using hb
  rcases two with z|z
  .rw [z];show yc _
  .rw [z];show qd hlt
 .have hP:(intItems zs)[argBest (λi j=>Zv (numAt zs i>numAt zs j)) (zs.size-1)]?=aa v:=by simpa[intItems] using hP
  obtain⟨t,rfl⟩:=a0C hP;obtain⟨b1,b2⟩:=argBest_gt (numAt zs) (zs.size-1);generalize argBest (λi j=>Zv (numAt zs i>numAt zs j)) (zs.size-1)=J at b1 b2;have atz:∀j,j<ns.length->numAt zs j=ns.getD j 0:=λj hj=>by rw[numAt_eq,en]
  have mem:numAt zs J∈ns:=by rw[atz J ∅,ox,cj ∅];show sx _
  have top:∀b∈ns,b<=numAt zs J:=λb hb=>by obtain⟨j,hj,ej⟩:=ly hb;subst ej;have:=b2 j ∅;rw[atz j hj,ox,cj hj] at this;show this
  have key:GU ns=numAt zs J:=by
   cases ns with
   |nil=>show Zw rfl hne
   |cons c l=>show CS l c _ (bz.1 mem) (top c (by simp)) λb hb=>top b (by simp[hb])
  show⟨.int (GU ns),H,I.kept λb o e=>hk b o (λhb=>?_) (dg _ e),⟨t,by rw[key]⟩,q⟩;have:b=s.heap.objs.size:=by simpa using hb
  show jf _ (this▸b_ e)
def Bd:F1
 |[.lst ds],Q=>∃ns:Q0e,ds=ns.map D.int/\ns≠[]/\Q (.int (GU ns))
 |_,_=>False
theorem ZQ{K:ao}:C3 K (Be K) Bd:=by
 intro S H xs ds Q3 Q fc hd hf k
 match ds,hf with
 |[.lst es],⟨ns,e,ne,q⟩ =>
  subst e;obtain⟨v,r,rfl,h1,h2⟩:=hd.bN;simp only[aV] at h2;subst h2;symm at h1;obtain⟨a,ys,rfl,ha,_,da⟩:=h1;have e2:=aV.ints.1 da;subst e2;show⟨a,ns,rfl,(fP.of ha),ne,k _ H _ (ξ.refl H) (by symm) q⟩
def JE:m8 Bd JY:=λds d Q e q=>by
 unfold JY at e;split at e
 .obtain ⟨ns,e1,e⟩:=bnd e;by_cases ne:ns=[]
  .rw [Z_ ne] at e;cases e
  .rw [Zz ne] at e;cases e;have:=ints_of e1;subst this;show⟨ns,rfl,ne,q⟩
 .cases e
def Qo(hc:X.calm=ae)(hm:X.mg "max"=af)(ha:yP X [e] t)(hg:Gl X "max":=by rfl)(he:Zs X e []:=by rfl):bR X (.Call (.Name "max" p) [e] [] ν) (eP JY t) :=
 cE (CG (OR hc) ZQ a3N hg hm ha (by decide) (by decide) he (by rfl)) (FI JE)
variable{π:Q0b}{σ:L2.St}{H:Hp}{s:ak}
def Wn(ok:X.Ok)(I:Φ (hcx X hd pn) Bl σ' H s)(sub:∀p∈X.pn++π,p∈pn):Φ X π σ' H s :=
 ⟨ok,I.os,I.bare,I.ω,I.loc,I.cell,I.free,I.hJ,λp h=>I.pin p (gx _ (sub p h)),I.hok,I.len⟩
theorem Wm(I:Φ X π σ H s)(hN:X.N.Nodup)(hi:X.N[i]?=aa n)
  (hm:∀(j:Nat) (x:aj) (v:V),X.N[j]?=aa x->σ[j]?=aa (aa v)->x6 X.env.scope x ->∃u,Ψ v u/\Look X.env s.heap m x u)
  (hn:h'.Ns X.env.locals (λx=>if x=n then v0 else m x)) (hs:mr X.env.locals s.heap h'):Φ X π (σ.set i af) H {s with heap:=h',toks:=t}:=by
 have W:=Bk (t:=t) I hn hs;show⟨W.ok,W.os,W.bare,W.ω,⟨_,hn,λj x v h1 h2 h3=>?_⟩,W.cell,W.free,W.hJ,W.pin,W.hok,by rw[gb];show I.len⟩;rcases get_set h2 with⟨_,z,_⟩|⟨ne,z⟩
 .cases z
 .obtain ⟨u,r,l⟩:=hm j x v h1 z h3;show⟨u,r,?_⟩;have xn:x≠n:=λe=>by subst e;obtain⟨a1,a2⟩:=cz.1 h1;obtain⟨b1,b2⟩:=cz.1 hi;show ne ((List.getElem?_inj a1 hN).1 (h1.trans hi.symm))
  rcases l with⟨k,e⟩|⟨k,c,e,ic⟩
  .refine .inl ⟨k,?_⟩;show(if x=n then v0 else m x)=aa u;rw[Zz xn];show e
  .exact .inr ⟨k,c,e,ic.sameBut hs (I.XI x c e)⟩
theorem ZR{π:Q0b}{σ:L2.St}{H:Hp}{s:ak}{e C C0:ah}{a0:ai}{P:List ah}{E:Q0c}{R0 n:aj}{i:Nat}{b0:cf}{suite:List cf}{np hpos:br}{h5:ba}{B:Ends}{N1:L2.St->Hp->Prop}(I:Φ X π σ H s)(T:oX X π H s e (.ref C) a0 P)
  (tr:h5.TracedW (hideAll s.heap (P++frs X.stack)) e (.ref C) a0) (stay:(hideAll s.heap (P++frs X.stack)).StaysIn h5) (fns:h5.FunFrames (hideAll s.heap (P++frs X.stack)) X.stack) (us:s.heap.UpToSlots h5)
  (hm0:X.mg R0=aa (.ref C0)) (hg0:Gl X R0) (hd0:Zu R0) (hx:a0S X.K (.ref C) (.ref C0)=aa ae) (hN:X.N.Nodup) (hi:X.N[i]?=aa n) (hl:X.env.scope.names.lookup n=aa .local)
  (hB:∀σ2 H2,N1 σ2 H2->B.nx (σ2.set i af) H2)
  (run:∀(oe:ax) (s7:ak),oe.cls=.ref C->Φ (hcx X (aa (.ref e)) (X.pn++π++[(e,oe)])) [] ((cc X.N.length af).set i (aa (.ref e))) H s7 ->
   ay (au X.Ω X.w) (X.A.mark (aa (.ref e))) (execs (b0::suite) X.env) (SP (hcx X (aa (.ref e)) (X.pn++π++[(e,oe)])) [] {nx:=N1,rt:=B.rt}) (λ_ _=>False) s7):
  ay (au X.Ω X.w) X.A (handleBy (.ref e) X.env [.ExceptHandler (aa (.Name R0 np)) (aa n) (b0::suite) hpos]) (SP X π B) E {s with heap:=h5}:=by
 have kp:∀h',(hideAll s.heap (P++frs X.stack)).StaysIn h' ->∀b o,b∉P->b∉frs X.stack->s.heap.get? b=aa o->h'.get? b=aa o:=λh' st b o n1 n2 q=>st b o (rh _ q λz=>(gn.1 z).elim n1 n2);have J5:Φ X π σ H {s with heap:=h5}:=flown I T (kp h5 stay) us;show wpAny_handleBy_cons (codeAny_handlers_test ?_) (by intro q;cases q);have Z5:Φ (hcx X (aa (.ref e)) []) [] _ H {s with heap:=h5}:=zv J5 λp hp=>nomatch hp;show uO (X:=hcx X (aa (.ref e)) []) Z5 hg0 hm0 ?_ hd0;have LT:rj (au X.Ω X.w) h5 (typeOf (.ref e)) (.ref C):=by obtain⟨oe,_,_,_,_,he,hc,_⟩:=tr;show nY ⟨oe,he,hc.1⟩
 show(PySem.W.exm_one (K:=X.K) J5.uN LT hx).here ?_;show codeAny_handlers_suite_as (n:=n) ?_;show a0f (s:={s with heap:=h5}) stay fns tr.at λh7 j1 j2 j3 j4=>?_;have us7:s.heap.UpToSlots h7:=λb o eb nf=>by obtain⟨sl,q⟩:=us b o eb nf;show⟨sl,j4 b _ q nf⟩
 have J7:Φ X π σ H {s with heap:=h7}:=flown I T (kp h7 j1) us7;obtain⟨oe,vs,T2,oT,ts,he,⟨hc,_⟩,hd,_⟩:=j3;have Y7:Φ (hcx X (aa (.ref e)) (X.pn++π++[(e,oe)])) [] _ H {s with heap:=h7}:=zv J7 λp hp=>by
  rcases gn.1 hp with hp|hp
  .exact J7.pin p hp
  .rw [cu.1 hp];show⟨he,T.free e T.mem,λz=>?_,λz=>?_,λv z=>by rw[hd] at z;cases z⟩
   .obtain ⟨m,⟨o,es,ep,ho,hod,_⟩,_⟩:=J7.loc;have z:e=X.env.locals:=z;rw[<- z] at ho;have q:=he.symm.trans ho;cases q;rw[hd] at hod;cases hod
   .obtain ⟨_,o,ho,nf⟩:=J7.oR.mem z;have q:=he.symm.trans ho;cases q;show nf vs hd
 show vZ (X:=hcx X (aa (.ref e)) (X.pn++π++[(e,oe)])) Y7 hN hi (.inl hl) (v:=.ref e) rfl (λs8 I8=>?_) (.inr hl);show ja (run oe s8 hc I8) (λf s9 h9=>?_) λ_ _ z=>z.elim
 cases f with
 |ret u =>
  obtain⟨v,σ',H',I9,rv,q⟩:=h9;have B9:Φ X π _ H' s9:=Sj I.ok I9 λp hp=>gx _ hp;obtain⟨m,hn,_⟩:=id B9.loc;show wpAny_nameGoes hl hn (by rw[I.ok.kind];rfl) λh' m' hn' hs'=>⟨v,_,H',Bk B9 hn' hs',rv,q⟩
 |next =>
  obtain⟨σ',H',I9,q⟩:=h9;have B9:Φ X π σ' H' s9:=Wn I.ok I9 λp hp=>gx _ hp;obtain⟨m,hn,hm⟩:=id B9.loc;show wpAny_nameGoes_keeps hl hn (by rw[I.ok.kind];rfl) λh' v0 hn' hs'=>⟨σ'.set i af,H',Wm B9 hN hi hm hn' hs',hB _ _ q⟩
 |brk=>obtain⟨_,_,_,q⟩:=h9;show q.elim
 |cont=>obtain⟨_,_,_,q⟩:=h9;show q.elim
def ST.Wl{K:ao}{H₀ H:Hp}{S:ah->Prop}{w:Nat->ah}{σ:L2.St}{ρ:bT}{i:Nat}(h:ST K H₀ S w σ H ρ [])(hi:∀d,ρ[i]?≠aa (Sv.ow d)):ST K H₀ S w (σ.set i af) H (ρ.set i .no) []:=by
 have other:∀{j:Nat} {s:Sv},s≠.no->(ρ.set i .no)[j]?=aa s->j≠i/\ρ[j]?=aa s:=λ{j s} hs q=>by
  rcases get_set q with⟨_,z,_⟩|z
  .exact Zw z hs
  .exact z
 have keep:∀{j:Nat} {v:V},j≠i->σ[j]?=aa (aa v)->(σ.set i af)[j]?=aa (aa v):=λ{j v} ne q=>by rw[jo (fj ne)];show q
 have so:∀a,SO S w ρ a->SO S w (ρ.set i .no) a:=SO.mono λj d q=>⟨d,(other (by intro z;cases z) q).2⟩;show⟨h.fc,h.sm,λj d q=>?_,λj k d e q1 q2 z=>?_,λj d q=>?_,λg hg=>(nomatch hg),λj xs q=>h.rw j xs (other (by intro z;cases z) q).2⟩
 .obtain ⟨ne,q⟩:=other (by intro z;cases z) q;obtain⟨a,b,c⟩:=h.own j d q;show⟨keep ne a,b,c.fits (.mono so) λ_ z=>z⟩
 .exact h.inj j k d e (other (by intro z;cases z) q1).2 (other (by intro z;cases z) q2).2 z
 .obtain ⟨ne,q⟩:=other (by intro z;cases z) q;obtain⟨v,a,b⟩:=h.ro j d q;show⟨v,keep ne a,Dn.fits (.mono so) d v b⟩
theorem Bc{R0 n:aj}{C0:ah}{i:Nat}{body:List cf}{b0:cf}{suite Θ:List cf}{np hpos ν:br}{fb fr:SF}{fh:aj->Option bT}(hst:X.stack=X.env::X.Γ)(hf:X.env.frame=aa X.env.locals)(hm0:X.mg R0=aa (.ref C0))(hN:X.N.Nodup)
  (hbody:∀pn xe,oY {X with pn:=pn,xe:=xe} body fb) (hrest:oY X Θ fr)
  (hh:∀c ρ1,fh c=aa ρ1 ->∃(C:ah) (g:Nat->SF) (ρh:Nat->bT),X.mg c=aa (.ref C)/\a0S X.K (.ref C) (.ref C0)=aa ae/\(∀e:Nat,g e ((cc X.N.length Sv.no).set i (.ro (.exc c e)))=.nx (ρh e)/\(ρh e).set i .no=ρ1 /\∀d,(ρh e)[i]?≠aa (Sv.ow d)) /\
   ∀(e:ah) (oe:ax) (pn:Q0b),oe.cls=.ref C->oY (hcx X (aa (.ref e)) (pn++[(e,oe)])) (b0::suite) (g e))
  (hi:X.N[i]?=aa n:=by rfl) (hl:X.env.scope.names.lookup n=aa .local:=by rfl) (hg0:Gl X R0:=by rfl) (hd0:Zu R0:=by decide):
  oY X (.Try body [.ExceptHandler (aa (.Name R0 np)) (aa n) (b0::suite) hpos] [] [] ν::Θ) (sR fb fh fr):=by
 intro π s σ H B I ⟨H₀,S,w,ρ,G,E,hlen,st,ht,ok⟩;generalize mi:({B with nx:=λσ' H'=>tH X.K (XC X) X.N.length (wS fr) B σ' H' }:Ends)=B2;show Cw (eQ (Q:=SP X π B2) ?_ λf s1 q=>?_)
 rotate_left
 .subst mi
  cases f with
  |next =>
   obtain⟨σ',H',I',q⟩:=q;show hrest π s1 σ' H' B I' q
  |ret v=>show q
  |brk=>show q
  |cont=>show q
 show wpAny_Try_except ?_;generalize hxe:(λ(e:ai) (s1:ak)=>ay (au X.Ω X.w) X.A (noteFrame e X.env) (λ_ s2=>ay (au X.Ω X.w) X.A (setFlight e af) (λ_ s3=>ay (au X.Ω X.w) X.A (handleBy e X.env [.ExceptHandler (aa (.Name R0 np)) (aa n) (b0::suite) hpos]) (SP X π B2) X.xe s3) X.xe s2) X.xe s1)=xe;have I':Φ {X with pn:=X.pn++π,xe:=xe} [] σ H s :=
  ⟨⟨I.ok.mod,I.ok.kind,I.ok.glob,I.ok.blt,I.ok.above,I.ok.inj,I.ok.has,I.ok.cab,I.ok.hd,I.ok.frames,I.ok.stk,I.ok.exf,I.ok.bs,I.ok.RG,I.ok.HK,I.ok.MY,I.ok.oR,I.ok.frf,I.ok.tab⟩,I.os,I.bare,I.ω,I.loc,I.cell,I.free,I.hJ,λp hp=>I.pin p (by have hp:p∈(X.pn++π)++[]:=hp;rw[gq] at hp;show hp),I.hok,I.len⟩
 have back:∀{aAp:Q0b} {σ2:L2.St} {H2:Hp} {s2:ak},Φ {X with pn:=X.pn++π,xe:=xe} aAp σ2 H2 s2->Φ X π σ2 H2 s2:=λJ=>⟨I.ok,J.os,J.bare,J.ω,J.loc,J.cell,J.free,J.hJ,λp hp=>J.pin p (gx _ hp),J.hok,J.len⟩;have ht':wS fb {E with nx:=λρ'=>wS fr E ρ',ex:=λc=>∃ρ1 d,fh c=aa ρ1/\fr ρ1=.rt d/\E.rt d} ρ:=by
  unfold wS sR at ht;unfold wS
  cases hb:fb ρ with
  |nx ρ'=>rw[hb] at ht;show ht
  |rt d=>rw[hb] at ht;show ht
  |no=>rw[hb] at ht;show ht
  |ex c =>
   rw[hb] at ht;dsimp only at ht ⊢
   cases hc:fh c with
   |none=>rw[hc] at ht;show ht.elim
   |some ρ1 =>
    rw[hc] at ht;dsimp only at ht
    cases hr:fr ρ1 with
    |rt d=>rw[hr] at ht;show⟨ρ1,d,rfl,hr,ht⟩
    |nx _=>rw[hr] at ht;show ht.elim
    |no=>rw[hr] at ht;show ht.elim
    |ex _=>rw[hr] at ht;show ht.elim
 have ok':TB X.K (XC {X with pn:=X.pn++π,xe:=xe}) X.N.length H₀ S G {E with nx:=λρ'=>wS fr E ρ',ex:=λc=>∃ρ1 d,fh c=aa ρ1/\fr ρ1=.rt d/\E.rt d} B2:=⟨λw2 σ2 H2 ρ2 l2 st2 q=>by
   rw[<- mi];show⟨H₀,S,w2,ρ2,G,E,l2,st2,q,ok⟩,λv H2 d2 s2 dn z=>by rw[<- mi];show ok.rt v H2 d2 s2 dn z,λw2 σ2 H2 ρ2 l2 st2 z=>by rw[<- mi];show ok.bk w2 σ2 H2 ρ2 l2 st2 z,λw2 σ2 H2 ρ2 l2 st2 z=>by rw[<- mi];show ok.ct w2 σ2 H2 ρ2 l2 st2 z,λc H' sm ⟨ρ1,d,hfd,hfr,q⟩=>by
  obtain⟨C,g,ρh,hmc,hx,hg,hs⟩:=hh c ρ1 hfd;show⟨C,hmc,λaAp σ2 s2 e a0 P I2 T2=>?_⟩;have IX:=back I2;have TX:oX X π H' s2 e (.ref C) a0 P:=⟨T2.mem,T2.free,T2.new,T2.fld,λq hq p hp=>T2.pin q hq p (gx _ hp),T2.tr⟩;show xe (.ref e) s2;rw[<- hxe];obtain⟨g1,g2,g3⟩:=hg e;show looked hst hf IX TX λh' J tr stay fns us=>ZR (N1:=λσ3 H3=>∃w3,σ3.length=X.N.length/\ST X.K H₀ S w3 σ3 H3 (ρh e) []) IX TX tr stay fns us hm0 hg0 hd0 hx hN hi hl (λσ3 H3 ⟨w3,l3,st3⟩=>?_) λoe s7 hc I7=>?_
  .rw [<- mi];show⟨H₀,S,w3,(ρh e).set i .no,[],{nx:=λ_=>False,rt:=E.rt},by rw[gb];show l3,ST.Wl st3 g3,?_,⟨λ_ _ _ _ _ _ z=>z.elim,λv H2 d2 s2 dn z=>ok.rt v H2 d2 s2 dn z,λ_ _ _ _ _ _ z=>z.elim,λ_ _ _ _ _ _ z=>z.elim,λ_ _ _ z=>z.elim⟩⟩;show wS fr _ _;unfold wS;rw[g2,hfr];show q
  .have hrt:B2.rt=B.rt:=by rw[<- mi]
   rw[hrt];show(hs e oe (X.pn++π) hc) [] s7 _ H' _ I7 ⟨H₀,S,λ_=>0,(cc X.N.length Sv.no).set i (.ro (.exc c e)),[],{nx:=λρ2=>ρ2=ρh e,rt:=λ_=>False},?_,⟨st.fc,sm,λj d2 z=>?_,λj k d1 d2 z=>?_,λj d2 z=>?_,λg hg=>(nomatch hg),Pz⟩,?_,⟨λw3 σ3 H3 ρ3 l3 st3 z=>⟨w3,l3,by rw[<- z];show st3⟩,λ_ _ _ _ _ z=>z.elim,λ_ _ _ _ _ _ z=>z,λ_ _ _ _ _ _ z=>z,λ_ _ _ z=>z.elim⟩⟩
   .show ((cc X.N.length (af:Option V)).set i (aa (.ref e))).length=X.N.length;rw[gb,jw]
   .rcases get_set z with⟨_,z,_⟩|⟨_,z⟩
    .cases z
    .rw [jg] at z;split at z<;>cases z
   .rcases get_set z with⟨_,z,_⟩|⟨_,z⟩
    .cases z
    .rw [jg] at z;split at z<;>cases z
   .rcases get_set z with⟨rfl,z,hj⟩|⟨_,z⟩
    .cases z;show⟨.ref e,lz (by simpa using hj),by simp only[Dn]⟩
    .rw [jg] at z;split at z<;>cases z
   .show wS (g e) _ _;unfold wS;rw[g1]⟩
 have run:=hbody (X.pn++π) xe [] s σ H B2 I' ⟨H₀,S,w,ρ,G,_,hlen,st,ht',ok'⟩;rw[<- hxe] at run ⊢;show ja run (λf s1 h=>?_) λ_ _ z=>z
 cases f with
 |next =>
  obtain⟨σ',H',J,q⟩:=h;rw[hxe] at J;show K3 π s1 σ' H' B2 (back J) q
 |brk=>obtain⟨σ',H',J,q⟩:=h;rw[hxe] at J;show⟨σ',H',back J,q⟩
 |cont=>obtain⟨σ',H',J,q⟩:=h;rw[hxe] at J;show⟨σ',H',back J,q⟩
 |ret u=>obtain⟨v,σ',H',J,rv,q⟩:=h;rw[hxe] at J;show⟨v,σ',H',back J,rv,q⟩
end
open PySem.SeqAt
section
variable{X:Cx}
theorem xP:∀{bs:List Bool} {us:Q0f},θ (bs.map V.bl) us->us=bs.map kg
 |[],_,.nil=>rfl
 |b::bs,_,.cons r t=>by have e:=xP t;subst e;cases r;rfl
def Bb{bs:List Bool}{A:bu}{s:ak}:∀y,y∈bs.map kg->rk A s y (.bool ae) (isBoolOf ae y):=λy hy=>by obtain⟨b,_,rfl⟩:=gm.1 hy;show a05 b ae
def VE(b:Bool):isBoolOf ae (.bool b)=b:=by cases b<;>rfl
theorem VF:∀bs:List Bool,(bs.map kg).countP (isBoolOf ae)=(bs.filter id).length
 |[]=>rfl
 |b::bs=>by have ih:=VF bs;rw[bt,List.countP_cons,VE,ih,Ge];cases b<;>rfl
def ZS(K:ao):V->List V->Hp->VK->Prop:=λx xs H Q=>∃(a:ah) (bs:List Bool),x=.ref a/\xs=[.bl ae]/\fP K H a (bs.map V.bl)/\Q (.int ((bs.filter id).length:Nat)) H
def OS:MtR X "list.count" (ZS X.K):=by intro π s σ H x xs v us Q I rx r h;obtain⟨a,bs,rfl,rfl,ha,q⟩:=h;obtain⟨u,rfl,ru⟩:=vals1 r;cases ru;cases rx;obtain⟨ι,rv,p,hz⟩:=I.list ha;have ei:=xP rv;subst ei;obtain⟨o,n,ho,hc,hd,hq⟩:=id p;obtain⟨cls,dd,data,sl⟩:=o;simp only at hc hd hq;subst hc hd hq;show mn a1h ⟨_,ho,rfl⟩ PySem.F.entry_list_count (PySem.F.args_list_count_2 _ _) (list_countAt a (bs.map kg).toArray n af sl (.bool ae) (isBoolOf ae)) ⟨ho,λy hy=>Bb y (by simpa using hy),?_⟩;rw[show(bs.map kg).toArray.toList=bs.map kg from rfl,VF];show⟨.int ((bs.filter id).length:Nat),H,I.kept λ_ _ e=>e,⟨_,rfl⟩,q⟩
def ZT(K:ao):V->List V->Hp->VK->Prop:=λx xs H Q=>∃(a:ah) (bs:List Bool) (i:Nat),x=.ref a/\xs=[.bl ae]/\fP K H a (bs.map V.bl)/\bs.findIdx? id=aa i/\Q (.int (i:Int)) H
def OT:MtR X "list.index" (ZT X.K):=by
 intro π s σ H x xs v us Q I rx r h;obtain⟨a,bs,i,rfl,rfl,ha,hi,q⟩:=h;obtain⟨u,rfl,ru⟩:=vals1 r;cases ru;cases rx;obtain⟨ι,rv,p,hz⟩:=I.list ha;have ei:=xP rv;subst ei;obtain⟨o,n,ho,hc,hd,hq⟩:=id p;obtain⟨cls,dd,data,sl⟩:=o;simp only at hc hd hq;subst hc hd hq;obtain⟨hil,hit,hno⟩:=List.findIdx?_eq_some_iff_getElem.1 hi;have hl:bs.length<=bg:=by rw[bj] at hz;show hz
 have hb:bg<2^62:=by decide
 show mn a1f ⟨_,ho,rfl⟩ PySem.F.entry_list_index (PySem.F.args_list_index_2 _ _) (list_indexAt a (bs.map kg).toArray n af sl (.bool ae) (isBoolOf ae) i (by simpa using hil) ∅ ?_ λm hm hlt=>?_) ⟨ho,λy hy=>Bb y (by simpa using hy),?_⟩
 .simp only[yl,ym,VE];show hit
 .simp only[yl,ym,VE];have:=hno m hlt;simpa using this
 .exact ⟨.int (i:Int),H,I.kept λ_ _ e=>e,⟨_,rfl⟩,q⟩
theorem CU{K:ao}{S:ah->Prop}{H:Hp}:∀{ds:List D} {bs:List Bool} {xs:List V},L4.sM ds=aa bs->aV K S H ds xs->xs=bs.map V.bl
 |[],bs,xs,h,hd=>by cases h;simp only[aV] at hd;show hd
 |d::ds,bs,xs,h,hd=>by
  cases d with
  |bl b =>
   obtain⟨bs',e,h2⟩:=jm.1 (show(L4.sM ds).map (b :: ·)=aa bs from h);subst h2;obtain⟨v,r,rfl,h1,h3⟩:=hd.bN;symm at h1;subst h1;rw[CU e h3];rfl
  |_=>cases h
section
variable{o e:av}{fo fe:EF}{apos cpos:br}
def ZU(ho:bR X o fo)(he:bR X e fe)(hbase:attributeBase o "count" X.env (eval o X.env)=eval o X.env:=by rfl)
  (hfew:Zp X cpos e:=by rfl)
  (hline:Q0k apos cpos:=by rfl) (hs:Zs X e []:=by rfl) (hplain:(cp cpos (ar [] X.env)).any (·.1)=ag:=by rfl):
  bR X (.Call (.Attribute o "count" apos) [e] [] cpos) (aC uE fo fe) :=
 imp (EU Ec a1h F.type_list_count OS ho (dG he iN hs) hbase hfew hline hs hplain) λσ H Q Qn=>by
  obtain⟨S,ρ,Q3,fc,sl,⟨d,ed,q3⟩,k⟩:=Qn;obtain⟨dx,ex,ed⟩:=bnd ed;obtain⟨dy,ey,ed⟩:=bnd ed;unfold uE at ed;split at ed
  .rename_i ds _;obtain⟨bs,eb,rfl⟩:=jm.1 ed;show⟨S,ρ,λz=>z=.lst ds,fc,sl,⟨_,ex,rfl⟩,λv H1 d1 s1 pD q1=>?_⟩;subst q1;symm at pD;obtain⟨a,xs,rfl,ha,hS,pD⟩:=pD;have ex2:=CU eb pD;subst ex2;show⟨.inl ⟨rfl,_,fP.of ha⟩,S,ρ,λz=>z=.bl ae,bG fc s1,Sl.fits (.same s1) sl,⟨_,ey,rfl⟩,λv2 H2 d2 s2 t7 q2=>?_⟩;subst q2;symm at t7;subst t7;show⟨a,bs,rfl,rfl,fP.of (s2 _ _ ha),k _ H2 _ (s1.trans s2) (by symm) q3⟩
  .cases ed
def ZV(ho:bR X o fo)(he:bR X e fe)(hbase:attributeBase o "index" X.env (eval o X.env)=eval o X.env:=by rfl)
  (hfew:Zp X cpos e:=by rfl)
  (hline:Q0k apos cpos:=by rfl) (hs:Zs X e []:=by rfl) (hplain:(cp cpos (ar [] X.env)).any (·.1)=ag:=by rfl):
  bR X (.Call (.Attribute o "index" apos) [e] [] cpos) (aC uF fo fe) :=
 imp (EU Ec a1f F.type_list_index OT ho (dG he iN hs) hbase hfew hline hs hplain) λσ H Q Qm=>by
  obtain⟨S,ρ,Q3,fc,sl,⟨d,ed,q3⟩,k⟩:=Qm;obtain⟨dx,ex,ed⟩:=bnd ed;obtain⟨dy,ey,ed⟩:=bnd ed;unfold uF at ed;split at ed
  .rename_i ds _;obtain⟨bs,eb,ed⟩:=bnd ed;obtain⟨i,ei,rfl⟩:=jm.1 ed;show⟨S,ρ,λz=>z=.lst ds,fc,sl,⟨_,ex,rfl⟩,λv H1 d1 s1 pD q1=>?_⟩;subst q1;symm at pD;obtain⟨a,xs,rfl,ha,hS,pD⟩:=pD;have ex2:=CU eb pD;subst ex2;show⟨.inl ⟨rfl,_,fP.of ha⟩,S,ρ,λz=>z=.bl ae,bG fc s1,Sl.fits (.same s1) sl,⟨_,ey,rfl⟩,λv2 H2 d2 s2 t7 q2=>?_⟩;subst q2;symm at t7;subst t7;show⟨a,bs,i,rfl,rfl,fP.of (s2 _ _ ha),ei,k _ H2 _ (s1.trans s2) (by symm) q3⟩
  .cases ed
end
end
abbrev vI(p:Int×gy):ai:=.int p.1 p.2
theorem Wk(l b:ah)(ps qs:List (Int×gy))(n n2:Nat)(dd dd2:Option ah)(sl sl2:Array (Option ai)):
  rm (Builtin.«tuple.__lt__» ⟨[.ref l,.ref b],[]⟩) λA R s =>
   s.heap.get? l=aa ⟨.type "tuple",dd,.seq (ps.map vI).toArray n,sl⟩/\s.heap.get? b=aa ⟨.type "tuple",dd2,.seq (qs.map vI).toArray n2,sl2⟩/\R (.ok (.ret (.bool (dY (ps.map (·.1)) (qs.map (·.1)))))) s :=
 .of_wp λΩ w A R s h=>by
  obtain⟨hh,g,d,tk,os⟩:=s;obtain⟨hl,hb,h⟩:=h;have f2:=a3H
  wp_walk using a0k hl,a0k hb,wpAny_forIn_list _ (λΘ c s'=>c.1=af/\s'=⟨hh,g,d,tk,os⟩ /\∃us vs:List (Int×gy),Θ=(us.map vI).zip (vs.map vI)/\us.length+qs.length=vs.length+ps.length/\R (.ok (.ret (.bool (dY (us.map (·.1)) (vs.map (·.1)))))) ⟨hh,g,d,tk,os⟩) _
  case turn =>
   rintro⟨x,y⟩ Θ c s' ⟨hc,rfl,us,vs,hz,hs,hR⟩
   cases us with
   |nil=>cases hz
   |cons p us =>
    cases vs with
    |nil=>cases hz
    |cons q vs =>
     rw[bt,bt,yd] at hz;injection hz with h1 h2;obtain⟨rfl,rfl⟩:=E_ h1;rw[bt,bt,dY] at hR;show aq (xa p.1 p.2 q.1 q.2 Ω w _ _ ?_);by_cases e:p.1=q.1
     .rw [Z_ e] at hR;rw[show(p.1 == q.1)=ae from beq_iff_eq.2 e]
      wp_walk
      show⟨rfl,rfl,us,vs,h2,by simp only[fu] at hs;lia,hR⟩
     .rw [Zz e] at hR;rw[show(p.1 == q.1)=ag from beq_eq_false_iff_ne.2 e];have step:∀{A:bu} {Q:Q0c} {E:Q0c},Q (.bool (Zv (p.1<q.1))) ⟨hh,g,d,tk,os⟩->ay (au Ω w) A (richCompare .Lt (vI p) (vI q)) Q E ⟨hh,g,d,tk,os⟩:=λh=>lt_int h
      wp_walk using step
      show⟨_,rfl,hR⟩
  case fin =>
   rintro⟨b1,b2⟩ s' ⟨hc,rfl,us,vs,hz,hs,hR⟩;simp only at hc;subst hc;have e:dY (us.map (·.1)) (vs.map (·.1))=Zv (ps.length<qs.length):=by
    cases us with
    |nil =>
     cases vs with
     |nil =>
      show(Zy ?_).symm;simp only[jy] at hs;lia
     |cons q vs =>
      show(Zx ?_).symm;simp only[jy,fu] at hs;lia
    |cons p us =>
     cases vs with
     |nil =>
      show(Zy ?_).symm;simp only[jy,fu] at hs;lia
     |cons q vs=>cases hz
   rw[e] at hR
   wp_walk
   show⟨_,rfl,by simpa[a3C] using hR⟩
  show⟨rfl,rfl,ps,qs,rfl,by lia,h⟩
section
variable{X:Cx}
def zq(K:ao):V->V->Hp->VK->Prop:=λx y H Q=>∃(a b:ah) (is js:Q0e),x=.ref a/\y=.ref b/\fX K H a (is.map V.int)/\fX K H b (js.map V.int)/\Q (.bl (dY is js)) H
theorem f7:∀{is:Q0e} {us:Q0f},θ (is.map V.int) us ->∃ps:List (Int×gy),us=ps.map vI/\ps.map (·.1)=is
 |[],_,.nil=>⟨[],rfl,rfl⟩
 |i::is,_,.cons r t=>by obtain⟨ps,e,h⟩:=f7 t;obtain⟨k,e2⟩:=r;show⟨(i,k)::ps,by rw[e,e2];rfl,by rw[bt,h]⟩
def Wj(hu:X.A.units<cn):i9 X (compareOp .Lt) (zq X.K):=by intro π s σ H x y v u Q I rx ry h;obtain⟨a,b,is,js,rfl,rfl,ha,hb,q⟩:=h;cases rx;cases ry;obtain⟨t1,v1,p1,_⟩:=I.tuple ha;obtain⟨t2,v2,p2,_⟩:=I.tuple hb;obtain⟨ps,e1,f1⟩:=f7 v1;obtain⟨qs,e2,f2⟩:=f7 v2;subst e1 e2;obtain⟨⟨c1,d1,g1,sl1⟩,o1,oc1,n1,od1⟩:=id (show s.heap.IsTuple a (ps.map vI).toArray from p1);obtain⟨⟨c2,d2,g2,sl2⟩,o2,oc2,n2,od2⟩:=id (show s.heap.IsTuple b (qs.map vI).toArray from p2);simp only at oc1 od1 oc2 od2;subst oc1 od1 oc2 od2;show richCompare_meets_room (op:=.Lt) ⟨_,o1,rfl⟩ ⟨_,o2,rfl⟩ F.slot_tuple_lt F.entry_tuple_lt (F.args_tuple_lt_2 _ _) (Wk a b ps qs n1 n2 d1 d2 sl1 sl2) ⟨o1,o2,?_⟩ hu;rw[f1,f2];show⟨(λz=>by cases z),.bl (dY is js),H,I,rfl,q⟩
def zp:F2:=λx y Q=>∃d,MK x y=aa d/\Q d
def VG:Tells zp MK:=λx y d Q e q=>⟨d,e,q⟩
def Wi{K:ao}:O3 K (zq K) zp:=by
 intro S H x y dx dy Q3 Q fc hx hy ⟨d,e,q⟩ k;unfold MK at e;split at e
 .rename_i a b;obtain⟨is,e1,e⟩:=bnd e;obtain⟨js,e2,rfl⟩:=jm.1 e;have e1:=L4.ints_of e1;have e2:=L4.ints_of e2;subst e1 e2;symm at hx hy;obtain⟨p,xs,rfl,hp,da⟩:=hx;obtain⟨p2,ys,rfl,hq,dc⟩:=hy;have f1:=aV.ints.1 da;have f2:=aV.ints.1 dc;subst f1 f2;show⟨p,p2,is,js,rfl,rfl,fX.of hp,fX.of hq,k _ H _ (ξ.refl H) (by symm) q⟩
 .cases e
def Jd(hu:X.A.units+9<cn)(ha:bR X a fa)(hb:bR X b fb):bR X (.Compare a [.Lt] [b] ν) (aC MK fa fb):=cE (SX (Wj ∅) Wi ha hb (i7 _)) (h8 VG)
end
end L9
namespace L4
open PySem.Spec PyProof.Rows L2 L3 PySem.W Att
section
variable{X:Cx}{π:Q0b}{σ:L2.St}{H:Hp}{s:ak}{P:Q0b}{f:ai}{t:V->Hp->VK->Prop}{xs:List V}{us:Q0f}{a kS:ah}{e1:Nat}{E:Q0c}
 {W:Nat->List V->Hp->Prop}
end
theorem ZW:∀(us:Q0f),us.length=1 ->∃a0,us=[a0]
 |[a0],_=>⟨a0,rfl⟩
theorem ZX:∀(us:Q0f),us.length=2 ->∃a0 a1,us=[a0,a1]
 |[a0,a1],_=>⟨a0,a1,rfl⟩
theorem ZY:∀(us:Q0f),us.length=3 ->∃a0 a1 a2,us=[a0,a1,a2]
 |[a0,a1,a2],_=>⟨a0,a1,a2,rfl⟩
theorem ZZ:∀(us:Q0f),us.length=4 ->∃a0 a1 a2 a3,us=[a0,a1,a2,a3]
 |[a0,a1,a2,a3],_=>⟨a0,a1,a2,a3,rfl⟩
def nB{K:ao}{x:aj}(h:nsIn K dq x=aa af):tabIn K x=af:=by unfold tabIn;rw[h]
theorem OU{K:ao}{r1 r2 r3 r4 r5:Option (ah×ah)}(h1:tabIn K "going_of"=r1)(h2:tabIn K "count_of_chain"=r2)(h3:tabIn K "cut_paper"=r3)(h4:tabIn K "downsets"=r4)(h5:tabIn K "strictest_chains"=r5):
  fR K=([("going_of",r1),("count_of_chain",r2),("cut_paper",r3),("downsets",r4),("strictest_chains",r5)]:List (aj×Option (ah×ah))).filterMap λp=>p.2.map λt=>(p.1,t.1,t.2):=by
 subst h1 h2 h3 h4 h5;rfl
def tabs_ok{K:ao}{q:bh}{L:List (aj×ah×ah)}(h:fR K=L)(nd:(L.map (·.2.2)).Nodup)(rc:∀t∈L,∃e,(recsOf q).find? (λe=>e.name == t.1)=aa e):TabsOk K q:=⟨by rw[h];show nd,by rw[h];show rc⟩
section
variable{Ω:bh}{w:az}{A:bu}{E:Q0c}{s:ak}{z TI TO i1 i2:ah}{f1 f2:List ah}{n1 n2 k:Nat}{P1 P2:Nat->ai->Prop}{S1 S2:Nat->ba->Prop}{a b:ai}
structure Zap (z TI TO i1 i2:ah) (f1 f2:List ah):Prop where
 zO:z≠TO
 zI:z≠TI
 OI:TO≠TI
 m1:i1∈f1
 m2:i2∈f2
 z1:z∉f1
 z2:z∉f2
 o1:TO∉f1
 o2:TO∉f2
 c1:i1∉f2
 c2:i2∉f1
 I1:TI≠i1
 I2:TI≠i2
def Zap.q1(p:Zap z TI TO i1 i2 f1 f2):z≠i1:=λe=>p.z1 (e▸p.m1)
def Zap.q2(p:Zap z TI TO i1 i2 f1 f2):z≠i2:=λe=>p.z2 (e▸p.m2)
def Zap.p1(p:Zap z TI TO i1 i2 f1 f2):TO≠i1:=λe=>p.o1 (e▸p.m1)
def Zap.p2(p:Zap z TI TO i1 i2 f1 f2):TO≠i2:=λe=>p.o2 (e▸p.m2)
end
open PySem.SeqAt
theorem OV{Ω:bh}{w:az}{A:bu}{E:Q0c}{items:Array ai}{x:ai}{e:ai->Bool}{j:Nat}{Q:Option xi×Unit->ak->Prop}{s:ak}(hj:j<items.size)(hit:(e items[j])=ae)(hno:∀m (hm:m<items.size),m<j->e items[m]=ag)
  (he:∀y,y∈items->rk A s y x (e y)) (q:Q (aa (.done (.ret (.int j s.toks))),()) {s with toks:=s.toks+1}):∀(m i:Nat),i<=j->i+m=items.size ->
  ay (au Ω w) A (forIn (a2e i m) ((af,()):Option xi×Unit) λ(i:Nat) __s=>match items[i]? with
   |some y=>do
    let __do_lift <- eqBool y x
    if __do_lift=ae then do
      let __do_lift <- retInt (i:Int)
      pure (Gp (aa __do_lift,()))
     else pure (kj (af,()))
   |_=>pure (kj (af,()))) Q E s:=by
 intro m
 induction m with
 |zero=>intro i hi hm;lia
 |succ m ih =>
  intro i hi hm;have hlt:i<items.size:=by(lia)
  rw[a2d];rw[m_];apply aq;rw[(ph hlt)];dsimp only;apply aq;show he _ (Array.getElem_mem hlt) Ω w _ _ ?_;by_cases h:i=j
  .subst h;rw[hit,Z_ rfl];apply aq;unfold retInt
   wp_walk
   show q
  .rw [hno i hlt ∅,Zz bx];show a_ (ih (i+1) ∅ ∅)
theorem yS(l:ah)(items:Array ai)(n:Nat)(dd:Option ah)(sl:Array (Option ai))(x:ai)(e:ai->Bool)(j:Nat)(hj:j<items.size)
  (hit:(e items[j])=ae) (hno:∀m (hm:m<items.size),m<j->e items[m]=ag):
  rm (Builtin.«tuple.index» ⟨[.ref l,x],[]⟩)
   (λA R s=>s.heap.get? l=aa {cls:=.type "tuple",dict:=dd,data:=.seq items n,slots:=sl}/\(∀y,y∈items->rk A.in1 s y x (e y))/\R (.ok (.ret (.int j s.toks))) {s with toks:=s.toks+1}):=by
 show .of_wp λp0 w0 A0 R0 s h=>?_;obtain⟨hl,he,h⟩:=h;unfold Builtin.«tuple.index»;apply aq;apply a_;apply aq;unfold Eh at ⊢;apply aq;show wm hl rfl (a_ ?_);dsimp only;apply aq;apply a_;apply aq;apply a_;apply aq;rw[(a2P)];have hz:([0:min items.size items.size]:a2Q).size=items.size:=by simp[a2O]
 rw[hz];show OV hj hit hno he ?_ items.size 0 (jn _) ∅;show a_ ⟨_,rfl,h⟩
section
variable{X:Cx}
noncomputable def isI(k:Int):ai->Bool
 |.int a _=>a == k
 |_=>ag
theorem nC:∀{ns:Q0e} {us:Q0f},θ (ns.map V.int) us ->∀(j:Nat) (y:ai),us[j]?=aa y ->∃a u,ns[j]?=aa a/\y=ke a u
 |[],_,.nil,j,y,h=>by cases h
 |n::ns,_,.cons q r,j,y,h=>by
  cases j with
  |zero =>
   obtain⟨t,e⟩:=q;cases h;show⟨n,t,rfl,e⟩
  |succ j=>show nC r j y h
def Z0(K:ao):V->List V->Hp->VK->Prop:=λx xs H Q=>∃(a:ah) (ns:Q0e) (k:Int),x=.ref a/\xs=[.int k]/\fX K H a (ns.map V.int)/\k∈ns/\Q (.int ((ns.idxOf k:Nat):Int)) H
def OW:MtR X "tuple.index" (Z0 X.K):=by
 intro π s σ H x xs v us Q I rx r h;obtain⟨a,ns,k,rfl,rfl,ha,hk,q⟩:=h;obtain⟨u,rfl,t,rfl⟩:=vals1 r;cases rx;obtain⟨ι,rv,p,hz⟩:=I.tuple ha;obtain⟨o,ho,hc,n,hd⟩:=id p;obtain⟨cls,dd,data,sl⟩:=o;simp only at hc hd;subst hc hd;have hlen:ns.length=ι.length:=by have:=rv.length;rwa [bj] at this
 have hj:ns.idxOf k<ns.length:=a2k.2 hk;have at':∀(m:Nat) (hm:m<ι.length),isI k ι[m]=(ns[m]'∅ == k):=λm hm=>by obtain⟨b,w,e1,e2⟩:=nC rv m ι[m] (cj hm);rw[e2];rw[cj ∅] at e1;have e1:=fg e1;show(b == k)=_;rw[<- e1]
 show mn a1c ⟨_,ho,rfl⟩ PySem.F.entry_tuple_index (PySem.F.args_tuple_index_2 _ _) (yS a ι.toArray n dd sl (.int k t) (isI k) (ns.idxOf k) (by simpa[hlen] using hj) ?_ λm hm hlt=>?_) ⟨ho,λy hy=>?_,?_⟩
 .have:=at' (ns.idxOf k) ∅;simp only[yl];rw[this];simpa using (List.getElem_idxOf hj)
 .have hm:m<ι.length:=by simpa using hm
  simp only[yl];rw[at' m hm];have:=List.not_of_lt_findIdx (p:=λy=>y == k) (xs:=ns) (i:=m) hlt;simpa using this
 .have hy:y∈ι:=by simpa using hy
  obtain⟨m,hm,e⟩:=ly hy;obtain⟨b,w,e1,e2⟩:=nC rv m y (by rw[cj hm,e]);rw[e2];show xa b w k t
 .exact ⟨.int ((ns.idxOf k:Nat):Int),H,I.tok _,⟨_,rfl⟩,q⟩
section
variable{o e:av}{fo fe:EF}{apos cpos:br}
def MC(ho:bR X o fo)(he:bR X e fe)(hbase:attributeBase o "index" X.env (eval o X.env)=eval o X.env:=by rfl)
  (hfew:Zp X cpos e:=by rfl)
  (hline:Q0k apos cpos:=by rfl) (hs:Zs X e []:=by rfl) (hplain:(cp cpos (ar [] X.env)).any (·.1)=ag:=by rfl):
  bR X (.Call (.Attribute o "index" apos) [e] [] cpos) (aC JZ fo fe) :=
 imp (EU PySem.F.plainAttrs_tuple a1c PySem.F.type_tuple_index OW ho (dG he iN hs) hbase hfew hline hs hplain) λσ H Q Ql=>by
  obtain⟨S,ρ,Q3,fc,sl,⟨d,ed,q3⟩,k⟩:=Ql;obtain⟨dx,ex,edA⟩:=bnd ed;obtain⟨dy,ey,edB⟩:=bnd edA;obtain⟨ds,i,rfl,rfl⟩:∃ds i,dx=.tup ds/\dy=.int i:=by cases dx<;>(try cases edB)<;>cases dy<;>first|show⟨_,_,rfl,rfl⟩|cases edB
  clear ed edA
  .have ed:((intsOf ds).bind λns=>if ns.contains i=ae then aa (D.int ((ns.idxOf i:Nat):Int)) else af)=aa d:=edB
   clear edB
   obtain⟨ns,eb,ed⟩:=bnd ed;by_cases hc:ns.contains i=ae
   case neg=>rw[Zz hc] at ed;cases ed
   rw[Z_ hc] at ed;cases ed;show⟨S,ρ,λz=>z=.tup ds,fc,sl,⟨_,ex,rfl⟩,λv H1 d1 s1 pD q1=>?_⟩;subst q1;symm at pD;obtain⟨a,xs,rfl,ha,pD⟩:=pD;rw[ints_of eb] at pD;have ex2:=aV.ints.mp pD;subst ex2;show⟨.inr (.inr (.inr (.inr ⟨rfl,_,ha⟩))),S,ρ,λz=>z=.int i,bG fc s1,Sl.fits (.same s1) sl,⟨_,ey,rfl⟩,λv2 H2 d2 s2 t7 q2=>?_⟩;subst q2;symm at t7;subst t7;show⟨a,ns,i,rfl,rfl,fX.of (s2 _ _ ha),by simpa using hc,k _ H2 _ (s1.trans s2) (by symm) q3⟩
end
end
end L4
namespace L4
open PySem.Spec PyProof.Rows PySem.W
abbrev fL(κ:mw)(it:Array dh)(p:Array Nat)(q:Array (Nat×Nat×Nat))(g:Nat):cm:=oi κ (p.map (bo it)) q g af
def Asks(Ω:bh)(w:az)(A:bu)(s:ak)(κ:mw)(it:Array dh)(n:Nat)(lt:Nat->Nat->Bool):Prop :=
 ∀(i j:Nat) (C:Bool->ak->Prop),i<n->j<n->C (lt i j) s->kas_cmp Ω w A κ it i j C s
def uT:Bool->dh->Array dh->Nat->Nat->Nat->StateT cm fm (Option Nat):=sortPriv% PySem.Builtin.gallop
section
variable{Ω:bh}{w:az}{A:bu}{E:Q0c}{s:ak}{κ:mw}{it:Array dh}{n:Nat}{lt:Nat->Nat->Bool}
theorem F7{i j:Nat}{p:Array Nat}{q:Array (Nat×Nat×Nat)}{g:Nat}{Q:Option Bool->cm->Prop}(hA:Asks Ω w A s κ it n lt)(hi:i<n)(hj:j<n)(h:Q (aa (lt i j)) (fL κ it p q g)):
  wpS (au Ω w) A E s (lt' (bo it i) (bo it j)) Q (fL κ it p q g):=by
 rw[lt'_eq];show bb (kr ?_);show bb (og (Cz (ja (hA i j (λc s'=>c=lt i j/\s'=s) hi hj ⟨rfl,rfl⟩) (λc s' hc=>?_) λ_ _ z=>z.elim)));obtain⟨rfl,rfl⟩:=hc;show⟨rfl,bq h⟩
def fY{a:Array Nat}{i:Nat}{st:cm}{Q:dh->cm->Prop}(hi:i<a.size)(h:Q (bo it (a.getD i 0)) st):wpS (au Ω w) A E s (elem' (a.map (bo it)) i) Q st:=by
 rw[elem'_eq];have e:(a.map (bo it))[i]?=aa (bo it (a.getD i 0)):=by simp[kb,hi]
 rw[e];show bq h
theorem AS{left:Bool}{key:Nat}{arr:Array Nat}{ω cnt hint:Nat}{p:Array Nat}{q:Array (Nat×Nat×Nat)}{g:Nat}{Q:Option Nat->cm->Prop}(hA:Asks Ω w A s κ it n lt)(hk:key<n)(hb:ω+cnt<=arr.size)(hn:∀i,i<arr.size->arr.getD i 0<n)(hh:hint<cnt)
  (B:Nat->Bool) (hB:∀i,i<cnt->B i=if left=ae then lt (arr.getD (ω+i) 0) key else !lt key (arr.getD (ω+i) 0)) (mono:∀i j,i<=j->j<cnt->B j=ae->B i=ae)
  (h:∀k,k<=cnt->(∀i,i<k->B i=ae)->(∀i,k<=i->i<cnt->B i=ag)->Q (aa k) (fL κ it p q g)):
  wpS (au Ω w) A E s (uT left (bo it key) (arr.map (bo it)) ω cnt hint) Q (fL κ it p q g):=by
 have ask:∀(i:Nat) (R:Option Bool->cm->Prop),i<cnt->R (aa (B i)) (fL κ it p q g)->wpS (au Ω w) A E s (do
   let x <- elem' (arr.map (bo it)) (ω+i)
   if left then lt' x (bo it key) else return (<- lt' (bo it key) x).map (!·)) R (fL κ it p q g):=λi R hi hR=>by
  show bb (fY ∅ ?_);rw[hB i hi] at hR
  cases left with
  |true=>show F7 hA (hn _ ∅) hk hR
  |false=>show bb (F7 hA hk (hn _ ∅) (bq hR))
 have fin:∀lo hi:Nat,lo<=hi->hi<=cnt->(∀i,i<lo->B i=ae)->(∀i,hi<=i->i<cnt->B i=ag) ->∀R:Option (Option Nat)×Nat×Nat->cm->Prop,(∀l k,k<=cnt->(∀i,i<k->B i=ae)->(∀i,k<=i->i<cnt->B i=ag)->R (af,l,k) (fL κ it p q g))->wpS (au Ω w) A E s (forIn [0:cnt] ((af,lo,hi):Option (Option Nat)×Nat×Nat) λ_ c=>if c.2.1 >= c.2.2 then pure (.done (af,c.2.1,c.2.2)) else do
   let x <- (do
    let x <- elem' (arr.map (bo it)) (ω+(c.2.1+(c.2.2-c.2.1)/2))
    if left then lt' x (bo it key) else return (<- lt' (bo it key) x).map (!·):StateT cm fm (Option Bool))
   match x with
   |some m=>if m=ae then pure (.yield (af,c.2.1+(c.2.2-c.2.1)/2+1,c.2.2)) else pure (.yield (af,c.2.1,c.2.1+(c.2.2-c.2.1)/2))
   |_=>pure (.done (aa af,c.2.1,c.2.2))) R (fL κ it p q g):=λlo hi h1 h2 h3 h4 R hR=>by
  show ip (I:=λx c st=>st=fL κ it p q g /\∃l k,c=(af,l,k)/\l<=k/\k<=cnt/\k-l<=cnt-x/\(∀i,i<l->B i=ae)/\(∀i,k<=i->i<cnt->B i=ag)) ?_ ?_ ⟨rfl,lo,hi,rfl,h1,h2,by lia,h3,h4⟩
  .rintro x c st _ hx ⟨rfl,l,k,rfl,a1,a2,a3,a4,a5⟩;dsimp only;by_cases hl:l >= k
   .rw [Z_ hl];show bq (hR l k a2 (λi hi=>a4 i ∅) a5)
   .rw [Zz hl];show bb (ask _ _ ∅ ?_)
    cases hb:B (l+(k-l)/2) with
    |true =>
     show bq ⟨rfl,_,_,rfl,by lia,a2,by lia,λi hi=>?_,a5⟩;show mono i _ ∅ ∅ hb
    |false =>
     show bq ⟨rfl,_,_,rfl,by lia,by lia,by lia,a4,λi h1 h2=>?_⟩
     cases hb2:B i with
     |false=>rfl
     |true=>rw[mono _ i h1 h2 hb2] at hb;cases hb
  .rintro c st ⟨rfl,l,k,rfl,a1,a2,a3,a4,a5⟩;show hR l k a2 (λi hi=>a4 i ∅) a5
 unfold uT;show bb (ask hint _ hh ?_)
 cases hr:B hint with
 |true =>
  show bb (je (ip (I:=λx c st=>st=fL κ it p q g /\∃l o,c=(af,l,o)/\x<o/\l<o/\hint+l<cnt/\B (hint+l)=ae) (Q:=λc st=>st=fL κ it p q g /\∃l o,c=(af,l,o)/\l<o/\hint+l<cnt/\B (hint+l)=ae/\(o<cnt-hint->B (hint+o)=ag)) ?_ ?_ ⟨rfl,0,1,rfl,by lia,by lia,by lia,hr⟩) ?_)
  .rintro x c st _ hx ⟨rfl,l,o,rfl,a1,a2,a3,a4⟩;dsimp only;by_cases hl:o >= cnt-hint
   .rw [Z_ hl];show bq ⟨rfl,l,o,rfl,a2,a3,a4,λz=>by lia⟩
   .rw [Zz hl];show bb (ask _ _ ∅ ?_)
    cases hb:B (hint+o) with
    |true=>show bq ⟨rfl,_,_,rfl,by lia,by lia,by lia,hb⟩
    |false=>show bq ⟨rfl,l,o,rfl,a2,a3,a4,λ_=>hb⟩
  .rintro c st ⟨rfl,l,o,rfl,a1,a2,a3,a4⟩;show⟨rfl,l,o,rfl,a2,a3,a4,λz=>by lia⟩
  .rintro c st ⟨rfl,l,o,rfl,a2,a3,a4,a5⟩;dsimp only;show bb (fin _ _ ∅ ∅ (λi hi=>mono i (hint+l) ∅ a3 a4) (λi h1 h2=>?_) _ λl k k1 k2 k3=>bq (h k k1 k2 k3))
   cases hb2:B i with
   |false=>rfl
   |true =>
    have:=a5 ∅;rw[mono _ i ∅ h2 hb2] at this;cases this
 |false =>
  show bb (je (ip (I:=λx c st=>st=fL κ it p q g /\∃l o,c=(af,l,o)/\x<o/\l<o/\l<=hint/\B (hint-l)=ag) (Q:=λc st=>st=fL κ it p q g /\∃l o,c=(af,l,o)/\l<o/\l<=hint/\B (hint-l)=ag/\(o<hint+1->B (hint-o)=ae)) ?_ ?_ ⟨rfl,0,1,rfl,by lia,by lia,by lia,hr⟩) ?_)
  .rintro x c st _ hx ⟨rfl,l,o,rfl,a1,a2,a3,a4⟩;dsimp only;by_cases hl:o >= hint+1
   .rw [Z_ hl];show bq ⟨rfl,l,o,rfl,a2,a3,a4,λz=>by lia⟩
   .rw [Zz hl];show bb (ask _ _ ∅ ?_)
    cases hb:B (hint-o) with
    |true=>show bq ⟨rfl,l,o,rfl,a2,a3,a4,λ_=>hb⟩
    |false=>show bq ⟨rfl,_,_,rfl,by lia,by lia,by lia,hb⟩
  .rintro c st ⟨rfl,l,o,rfl,a1,a2,a3,a4⟩;show⟨rfl,l,o,rfl,a2,a3,a4,λz=>by lia⟩
  .rintro c st ⟨rfl,l,o,rfl,a2,a3,a4,a5⟩;dsimp only;show bb (fin _ _ ∅ ∅ (λi hi=>mono i (hint-o) ∅ ∅ (a5 ∅)) (λi h1 h2=>?_) _ λl k k1 k2 k3=>bq (h k k1 k2 k3))
   cases hb2:B i with
   |false=>rfl
   |true =>
    rw[mono _ i h1 h2 hb2] at a4;cases a4
end
def F8:Array dh->Array dh->StateT cm fm (Array dh):=sortPriv% PySem.Builtin.mergeLo
def F9:Array dh->Array dh->StateT cm fm (Array dh):=sortPriv% PySem.Builtin.mergeHi
section
variable{lt:Nat->Nat->Bool}{all out xs ys u v:List Nat}
abbrev UpL(lt:Nat->Nat->Bool)(l:List Nat):Prop:=l.Pairwise λa b=>lt b a=ag
structure Mg (lt:Nat->Nat->Bool) (all out xs ys:List Nat):Prop where
 pm:(out++(xs++ys)).Perm all
 ux:UpL lt (out++xs)
 uy:UpL lt (out++ys)
def Mg.swap(h:Mg lt all out xs ys):Mg lt all out ys xs:=⟨((List.perm_append_comm).append_left out).trans h.pm,h.uy,h.ux⟩
def Mg.mv(h:Mg lt all out (u++v) ys)(hu:∀a∈u,∀b∈ys,lt b a=ag):Mg lt all (out++u) v ys:=by
 obtain⟨pm,ux,uy⟩:=h;have e:=ng out u v;show⟨by simpa using pm,by rw[e];show ux,?_⟩;rw[<- e] at ux;have a:=qg.1 uy;show qg.2 ⟨(qg.1 ux).1,a.2.1,λx hx y hy=>?_⟩;rcases gn.1 hx with hx|hx
 .exact a.2.2 x hx y hy
 .exact hu x hx y hy
end
def xQ{lt:Nat->Nat->Bool}{a:Array Nat}:UpL lt a.toList↔Up lt a a.size:=by
 unfold UpL Up;rw[yf];show⟨λh i j hij hj=>?_,λh i j hi hj hij=>?_⟩
 .have:=h i j (by simp;lia) (by simpa using hj) hij;simpa[kb,hj,yb hij hj] using this
 .have hj:j<a.size:=by simpa using hj
  have:=h i j hij hj;simpa[kb,hj,yb hij hj] using this
def uU{a:Array Nat}{i x:Nat}(h:x∈a.toList.drop i):∃j,i<=j/\j<a.size/\x=a.getD j 0:=by obtain⟨k,hk,e⟩:=ly h;rw[mz,gk] at hk;show⟨i+k,by lia,by lia,?_⟩;rw[<- e,Fy];simp[kb,show i+k<a.size by lia]
def Z1{a:Array Nat}{i x:Nat}(h:x∈a.toList.take i):∃j,j<i/\j<a.size/\x=a.getD j 0:=by obtain⟨k,hk,e⟩:=ly h;rw[ig,gk] at hk;show⟨k,by lia,by lia,?_⟩;rw[<- e,Fx];simp[kb,show k<a.size by lia]
def VH{a:Array Nat}{j:Nat}(h:j<a.size):a.getD j 0∈a.toList:=by simp[kb,h]
def Mk(lt:Nat->Nat->Bool)(it:Array dh)(all:List Nat)(a b:Array Nat)(c:Nat)(out:Array dh)(i j:Nat):Prop :=
 ∃o:Array Nat,out=o.map (bo it)/\Mg lt all o.toList (a.toList.drop i) (b.toList.drop j)/\c<=o.size
def Res(lt:Nat->Nat->Bool)(it:Array dh)(all:List Nat)(r:Array dh):Prop:=∃m:Array Nat,r=m.map (bo it)/\m.toList.Perm all/\UpL lt m.toList
section
variable{lt:Nat->Nat->Bool}{it:Array dh}{all:List Nat}{a b:Array Nat}{c i j k:Nat}{out:Array dh}
def Mk.swap(h:Mk lt it all a b c out i j):Mk lt it all b a c out j i:=by obtain⟨o,e,m,hc⟩:=h;show⟨o,e,m.swap,hc⟩
def Mk.few(h:Mk lt it all a b c out i j){d:Nat}(hd:d<=c):Mk lt it all a b d out i j:=by obtain⟨o,e,m,hc⟩:=h;show⟨o,e,m,by lia⟩
def Mk.size(h:Mk lt it all a b c out i j):c+(a.size-i)+(b.size-j)<=all.length:=by obtain⟨o,e,m,hc⟩:=h;have:=m.pm.length_eq;simp only[dm,mz,gk] at this;lia
theorem Mk.mv(h:Mk lt it all a b c out i j)(hk:i+k<=a.size)(hu:∀x y,i<=x->x<i+k->j<=y->y<b.size->lt (b.getD y 0) (a.getD x 0)=ag):
  Mk lt it all a b (c+k) (out++(a.map (bo it)).extract i (i+k)) (i+k) j:=by
 obtain⟨o,e,m,hc⟩:=h;have es:a.toList.drop i=(a.extract i (i+k)).toList++a.toList.drop (i+k):=by rw[ud,tj,a16,<- List.drop_drop,qf]
 rw[es] at m;show⟨o++a.extract i (i+k),by rw[e,yt,qu],?_,?_⟩
 .rw [ue];show m.mv λx hx y hy=>?_;obtain⟨y',y1,y2,rfl⟩:=uU hy;rw[ud,tj,a16] at hx;obtain⟨q,hq,e⟩:=ly hx;rw[ig,mz,gk] at hq;have:x=a.getD (i+q) 0:=by rw[<- e,Fx,Fy];simp[kb,show i+q<a.size by lia]
  rw[this];show hu _ _ ∅ ∅ y1 y2
 .simp [Gw];lia
def Mk.push(h:Mk lt it all a b c out i j)(hk:i<a.size)(hu:∀y,j<=y->y<b.size->lt (b.getD y 0) (a.getD i 0)=ag):Mk lt it all a b (c+1) (out.push (bo it (a.getD i 0))) (i+1) j:=by
 have:=h.mv (k:=1) ∅ λx y x1 x2 y1 y2=>by rw[show x=i by lia];show hu y y1 y2
 have e:(a.map (bo it)).extract i (i+1)=#[bo it (a.getD i 0)]:=by rw[a2K ∅ (by simpa using hk)];have e0:(a.map (bo it)).extract i i=#[]:=nj (bp _);rw[e0];simp[kb,hk]
 rwa [e] at this
def Mk.fin(h:Mk lt it all a b c out i j)(hb:b.size<=j):Res lt it all (out++(a.map (bo it)).extract i a.size++(b.map (bo it)).extract j b.size):=by
 obtain⟨o,e,m,hc⟩:=h;have eb:b.toList.drop j=[]:=tq (by simpa using hb);have ea:(a.extract i a.size).toList=a.toList.drop i:=by rw[ud,tj,<- gk,<- mz,sd]
 have eb2:(b.map (bo it)).extract j b.size=#[]:=by simp[hb]
 show⟨o++a.extract i a.size,by rw[e,eb2,pj,yt,qu],?_,?_⟩
 .have:=m.pm;rw[eb,gq] at this
  rwa [ue,ea]
 .rw [ue,ea];show m.ux
def Mk.fin'(h:Mk lt it all a b c out i j)(ha:a.size<=i):Res lt it all (out++(a.map (bo it)).extract i a.size++(b.map (bo it)).extract j b.size):=by have r:=h.swap.fin ha;rw[show(a.map (bo it)).extract i a.size=#[] from nj ha,pj] at r ⊢;show r
def Mk.last(h:Mk lt it all a b c out i j)(ha:i+1=a.size)(hu:∀y∈b.toList,lt (a.getD (a.size-1) 0) y=ag):Res lt it all (out++(b.map (bo it)).extract j b.size++(a.map (bo it)).extract i a.size):=by
 by_cases hj:j<=b.size
 .have:=h.swap.mv (k:=b.size-j) ∅ λx y x1 x2 y1 y2=>by rw[show y=a.size-1 by lia];show hu _ (VH ∅)
  rw[show j+(b.size-j)=b.size by lia] at this;have r:=this.swap.fin (bp _)
  rwa [show(b.map (bo it)).extract b.size b.size=#[] from nj (bp _),pj] at r
 .have r:=h.fin ∅;rw[show(b.map (bo it)).extract j b.size=#[] from nj ∅,pj] at r ⊢;show r
variable{Ω:bh}{w:az}{A:bu}{E:Q0c}{s:ak}{κ:mw}{n:Nat}
def aZ{α:Type}{c:Prop}[Decidable c]{t e:StateT cm fm α}{Q:α->cm->Prop}{st:cm}{M:lh}(h1:c->wpS M A E s t Q st)(h2:¬ c->wpS M A E s e Q st):wpS M A E s (if c then t else e) Q st:=by
 by_cases h:c
 .rw [Z_ h];show h1 h
 .rw [Zz h];show h2 h
def sC{α β γ:Type}{F:β->γ->StateT cm fm α}{P:β->γ->Prop}{m:StateT cm fm α}{Q:α->cm->Prop}{st:cm}{M:lh}(h1:∀x y,P x y->wpS M A E s (F x y) Q st)(h2:(∀x y,P x y->wpS M A E s (F x y) Q st)->wpS M A E s m Q st):wpS M A E s m Q st:=h2 h1
theorem VI{key:Nat}{arr:Array Nat}{ω cnt hint:Nat}{p:Array Nat}{q:Array (Nat×Nat×Nat)}{g:Nat}{Q:Option Nat->cm->Prop}(hA:Asks Ω w A s κ it n lt)(O:jJ lt)(hk:key<n)(hb:ω+cnt<=arr.size)(hn:∀i,i<arr.size->arr.getD i 0<n)(hh:hint<cnt)(up:∀i j,ω<=i->i<j->j<ω+cnt->lt (arr.getD j 0) (arr.getD i 0)=ag)
  (h:∀k,k<=cnt->(∀i,ω<=i->i<ω+k->lt key (arr.getD i 0)=ag)->(∀i,ω+k<=i->i<ω+cnt->lt key (arr.getD i 0)=ae)->Q (aa k) (fL κ it p q g)):
  wpS (au Ω w) A E s (uT ag (bo it key) (arr.map (bo it)) ω cnt hint) Q (fL κ it p q g):=by
 show AS hA hk hb hn hh (λi=>!lt key (arr.getD (ω+i) 0)) (λ_ _=>rfl) (λi j hij hj hB=>?_) λk k1 k2 k3=>h k k1 (λi h1 h2=>?_) λi h1 h2=>?_
 .by_cases e:i=j
  .rw [e];show hB
  .have hB:lt key (arr.getD (ω+j) 0)=ag:=by simpa using hB
   have:=O.tr _ _ _ (up (ω+i) (ω+j) ∅ ∅ ∅) hB;simpa using this
 .have:=k2 (i-ω) ∅;rw[show ω+(i-ω)=i by lia] at this;simpa using this
 .have:=k3 (i-ω) ∅ ∅;rw[show ω+(i-ω)=i by lia] at this;simpa using this
theorem VJ{key:Nat}{arr:Array Nat}{ω cnt hint:Nat}{p:Array Nat}{q:Array (Nat×Nat×Nat)}{g:Nat}{Q:Option Nat->cm->Prop}(hA:Asks Ω w A s κ it n lt)(O:jJ lt)(hk:key<n)(hb:ω+cnt<=arr.size)(hn:∀i,i<arr.size->arr.getD i 0<n)(hh:hint<cnt)(up:∀i j,ω<=i->i<j->j<ω+cnt->lt (arr.getD j 0) (arr.getD i 0)=ag)
  (h:∀k,k<=cnt->(∀i,ω<=i->i<ω+k->lt (arr.getD i 0) key=ae)->(∀i,ω+k<=i->i<ω+cnt->lt (arr.getD i 0) key=ag)->Q (aa k) (fL κ it p q g)):
  wpS (au Ω w) A E s (uT ae (bo it key) (arr.map (bo it)) ω cnt hint) Q (fL κ it p q g):=by
 show AS hA hk hb hn hh (λi=>lt (arr.getD (ω+i) 0) key) (λ_ _=>rfl) (λi j hij hj hB=>?_) λk k1 k2 k3=>h k k1 (λi h1 h2=>?_) λi h1 h2=>?_
 .by_cases e:i=j
  .rw [e];show hB
  .cases hc:lt (arr.getD (ω+i) 0) key with
   |true=>rfl
   |false =>
    have:=O.tr _ _ _ hc (up (ω+i) (ω+j) ∅ ∅ ∅);rw[this] at hB;cases hB
 .have:=k2 (i-ω) ∅
  rwa [show ω+(i-ω)=i by lia] at this
 .have:=k3 (i-ω) ∅ ∅
  rwa [show ω+(i-ω)=i by lia] at this
theorem Qk{a b:Array Nat}{p:Array Nat}{q:Array (Nat×Nat×Nat)}{g:Nat}{Q:Array dh->cm->Prop}(hA:Asks Ω w A s κ it n lt)(O:jJ lt)(ha:1<=a.size)(hb:1<=b.size)(an:∀i,i<a.size->a.getD i 0<n)(bn:∀i,i<b.size->b.getD i 0<n)
  (ua:Up lt a a.size) (ub:Up lt b b.size) (h1:∀i,i<a.size->lt (a.getD i 0) (b.getD 0 0)=ag) (h2:∀y∈b.toList,lt (a.getD (a.size-1) 0) y=ag)
  (h:∀(r:Array dh) (g:Nat),Res lt it (a.toList++b.toList) r->Q r (fL κ it p q g)):
  wpS (au Ω w) A E s (F8 (a.map (bo it)) (b.map (bo it))) Q (fL κ it p q g):=by
 obtain⟨all,hall⟩:∃l,l=a.toList++b.toList:=⟨_,rfl⟩;have tot:all.length=a.size+b.size:=by rw[hall];simp
 rw[<- hall] at h;have M0:Mk lt it all a b 0 #[] 0 0:=⟨#[],by simp,⟨by rw[hall];simp,by simpa using xQ.2 ua,by simpa using xQ.2 ub⟩,by simp⟩;have M1:=(M0.swap.push ∅ λy _ hy=>h1 y hy).swap;rw[qc] at M1;have b0:#[].push (bo it (b.getD 0 0))=#[bo it (b.getD 0 0)]:=rfl;rw[b0] at M1
 -- whose turn it is
 have bw:∀{i j:Nat},j<b.size->lt (b.getD j 0) (a.getD i 0)=ae ->∀y,i<=y->y<a.size->lt (a.getD y 0) (b.getD j 0)=ag:=λ{i j} hj hl y y1 y2=>by
  by_cases e:y=i
  .rw [e];show O.as _ _ hl
  .exact O.tr _ _ _ (O.as _ _ hl) (ua i y ∅ y2)
 have aw:∀{i j:Nat},i<a.size->lt (b.getD j 0) (a.getD i 0)=ag ->∀y,j<=y->y<b.size->lt (b.getD y 0) (a.getD i 0)=ag:=λ{i j} hi hl y y1 y2=>by
  by_cases e:y=j
  .rw [e];show hl
  .exact O.tr _ _ _ hl (ub j y ∅ y2)
 unfold F8;show bb (og (jj ⟨rfl,?_⟩));show bb (fY ∅ ?_);simp -zeta -zetaHave only[Gv,beq_iff_eq]
 extract_lets out ia ib
 by_cases e1:1=b.size
 .rw [Z_ e1];show bq (h _ g (M1.fin ∅))
 rw[Zz e1];by_cases e2:0+1=a.size
 .rw [Z_ e2];show bq (h _ g (M1.last e2 h2))
 rw[Zz e2];show bb (kr ?_)
 extract_lets mg
 show bb (je (ip (I:=λx c st=>(∃g,st=fL κ it p q g)/\c.1=af/\Mk lt it all a b (x+1) c.2.1 c.2.2.1 c.2.2.2.1/\c.2.2.1+1<a.size/\c.2.2.2.1<b.size) (Q:=λc st=>(∃g,st=fL κ it p q g) /\∃z,c.1=aa z/\Res lt it all z) ?_ ?_ ⟨⟨_,rfl⟩,rfl,M1,show 0+1<a.size by lia,show 1<b.size by lia⟩) ?_)
 .rintro x ⟨_,out,i,j,mg⟩ st _ hx ⟨⟨g,rfl⟩,rfl,M,hi,hj⟩
  extract_lets
  show bb (je (ip (I:=λy c st=>(∃g,st=fL κ it p q g)/\c.1=af/\Mk lt it all a b (x+1+y) c.2.1 c.2.2.1 c.2.2.2.1/\c.2.2.1+1<a.size/\c.2.2.2.1<b.size) (Q:=λc st=>(∃g,st=fL κ it p q g)/\((∃z,c.1=aa z/\Res lt it all z)\/(c.1=af/\Mk lt it all a b (x+2) c.2.1 c.2.2.1 c.2.2.2.1/\c.2.2.1+1<a.size/\c.2.2.2.1<b.size))) ?_ ?_ ⟨⟨_,rfl⟩,rfl,M,hi,hj⟩) ?_)
  .rintro y ⟨_,out,i,j,ac,bc⟩ st _ hy ⟨⟨g,rfl⟩,rfl,M,hi,hj⟩;dsimp only at M hi hj ⊢;show bb (fY hj (bb (fY (show i<a.size by lia) (bb (F7 hA (bn _ hj) (an _ ∅) ?_)))))
   cases hl:lt (b.getD j 0) (a.getD i 0) with
   |true =>
    have M2:=(M.swap.push hj (bw hj hl)).swap;show bb (fY hj ?_);show aZ (λe=>bq ⟨⟨_,rfl⟩,.inl ⟨_,rfl,M2.fin ∅⟩⟩) λe=>aZ (λ_=>bq ⟨⟨_,rfl⟩,.inr ⟨rfl,M2.few (d:=x+2) ∅,hi,show j+1<b.size by lia⟩⟩) λ_=>bq ⟨⟨_,rfl⟩,rfl,M2,hi,show j+1<b.size by lia⟩
   |false =>
    have M2:=M.push ∅ (aw ∅ hl);show bb (fY (show i<a.size by lia) ?_);show aZ (λe=>bq ⟨⟨_,rfl⟩,.inl ⟨_,rfl,M2.last e h2⟩⟩) λe=>aZ (λ_=>bq ⟨⟨_,rfl⟩,.inr ⟨rfl,M2.few (d:=x+2) ∅,show i+1+1<a.size by lia,hj⟩⟩) λ_=>bq ⟨⟨_,rfl⟩,rfl,M2,show i+1+1<a.size by lia,hj⟩
  .rintro ⟨_,out,i,j,ac,bc⟩ st ⟨⟨g,rfl⟩,rfl,M,hi,hj⟩;have:=M.size;dsimp only at this hi hj;lia
  .rintro ⟨r,out,i,j,ac,bc⟩ st ⟨⟨g,rfl⟩,⟨z,er,hz⟩|⟨er,M,hi,hj⟩⟩
   .dsimp only at er;subst er;show bq ⟨⟨_,rfl⟩,z,rfl,hz⟩
   .dsimp only at er M hi hj;subst er;show bb (og (jj ⟨rfl,?_⟩))
    extract_lets
    show bb (je (ip (I:=λy c st=>(∃g,st=fL κ it p q g)/\c.1=af/\Mk lt it all a b (x+2+y) c.2.1 c.2.2.1 c.2.2.2.1/\c.2.2.1+1<a.size/\c.2.2.2.1<b.size) (Q:=λc st=>(∃g,st=fL κ it p q g)/\((∃z,c.1=aa z/\Res lt it all z)\/(c.1=af/\Mk lt it all a b (x+2) c.2.1 c.2.2.1 c.2.2.2.1/\c.2.2.1+1<a.size/\c.2.2.2.1<b.size))) ?_ ?_ ⟨⟨_,rfl⟩,rfl,M,hi,hj⟩) ?_)
    .rintro y ⟨_,out,i,j,mg,ac,bc⟩ st _ hy ⟨⟨g,rfl⟩,rfl,M,hi,hj⟩;dsimp only at M hi hj
     extract_lets -merge
     rename_i jp _;show sC (F:=jp) (P:=λ_ _=>True) (λ_ m _=>?_) λtO=>aZ (λ_=>tO () _ trivial) λ_=>tO () _ trivial;show bb (lj (bb (fY hj (bb (VI (ω:=i) (cnt:=a.size-i) (hint:=0) hA O (bn _ hj) ∅ an ∅ (λx y _ h2 h3=>ua x y h2 ∅) λk k1 k2 k3=>?_)))));have M2:=M.mv (k:=k) ∅ λu v u1 u2 v1 v2=>aw ∅ (k2 u u1 u2) v v1 v2
     dsimp -zeta -zetaHave only
     extract_lets -merge
     rename_i jp2 _ _;show sC (F:=jp2 ()) (P:=λout i'=>Mk lt it all a b (x+2+y) out i' j/\i'+1<a.size /\∀u,i'<=u->u<a.size->lt (b.getD j 0) (a.getD u 0)=ae) (λout i' ⟨M,hi,gt⟩=>?_) λtO=>aZ (λ(e:k>0)=>?_) λ(e:¬ k>0)=>?_
     .have M2:=(M.swap.push hj λu u1 u2=>O.as _ _ (gt u u1 u2)).swap;show bb (fY hj ?_)
      extract_lets
      show aZ (λ(e:j+1=b.size)=>bq ⟨⟨_,rfl⟩,.inl ⟨_,rfl,M2.fin ∅⟩⟩) λ(e:¬ j+1=b.size)=>?_;show bb (fY (show i'<a.size by lia) (bb (VJ (ω:=j+1) (cnt:=b.size-(j+1)) (hint:=0) hA O (an _ ∅) ∅ bn ∅ (λx y _ h2 h3=>ub x y h2 ∅) λk k1 k2 k3=>?_)));have M3:=(M2.swap.mv (k:=k) ∅ λu v u1 u2 v1 v2=>bw ∅ (k2 u u1 u2) v v1 v2).swap
      dsimp -zeta -zetaHave only
      extract_lets -merge
      rename_i jp3 _ _;show sC (F:=jp3 ()) (P:=λout j'=>Mk lt it all a b (x+2+y) out i' j'/\j'<b.size /\∀u,j'<=u->u<b.size->lt (b.getD u 0) (a.getD i' 0)=ag) (λout j' ⟨M,hj,gt⟩=>?_) λtO=>aZ (λ(e:k>0)=>?_) λ(e:¬ k>0)=>?_
      .have M2:=M.push ∅ λu u1 u2=>gt u u1 u2;show bb (fY (show i'<a.size by lia) ?_);show aZ (λ(e:i'+1+1=a.size)=>bq ⟨⟨_,rfl⟩,.inl ⟨_,rfl,M2.last e h2⟩⟩) λ(e:¬ i'+1+1=a.size)=>aZ (λ_=>bq ⟨⟨_,rfl⟩,.inr ⟨rfl,M2.few (d:=x+2) ∅,show i'+1+1<a.size by lia,hj⟩⟩) λ_=>bq ⟨⟨_,rfl⟩,rfl,M2,show i'+1+1<a.size by lia,hj⟩
      .extract_lets
       show aZ (λ(e:j+1+k=b.size)=>bq ⟨⟨_,rfl⟩,.inl ⟨_,rfl,M3.fin ∅⟩⟩) λ(e:¬ j+1+k=b.size)=>tO _ _ ⟨M3.few ∅,show j+1+k<b.size by lia,λu u1 u2=>k3 u u1 ∅⟩
      .have:k=0:=by lia
       subst this;show tO _ _ ⟨M2.few ∅,show j+1<b.size by lia,λu u1 u2=>k3 u u1 ∅⟩
     .extract_lets
      show aZ (λ(e:i+k+1=a.size)=>bq ⟨⟨_,rfl⟩,.inl ⟨_,rfl,M2.last e h2⟩⟩) λ(_:¬ i+k+1=a.size)=>aZ (λ(e:i+k=a.size)=>bq ⟨⟨_,rfl⟩,.inl ⟨_,rfl,M2.fin' ∅⟩⟩) λ(e:¬ i+k=a.size)=>tO _ _ ⟨M2.few ∅,show i+k+1<a.size by lia,λu u1 u2=>k3 u u1 ∅⟩
     .have:k=0:=by lia
      subst this;show tO _ _ ⟨M,hi,λu u1 u2=>k3 u u1 ∅⟩
    .rintro ⟨_,out,i,j,ac,bc⟩ st ⟨⟨g,rfl⟩,rfl,M,hi,hj⟩;have:=M.size;dsimp only at this hi hj;lia
    .rintro ⟨r,out,i,j,mg,ac,bc⟩ st ⟨⟨g,rfl⟩,⟨z,er,hz⟩|⟨er,M,hi,hj⟩⟩
     .dsimp only at er;subst er;show bq ⟨⟨_,rfl⟩,z,rfl,hz⟩
     .dsimp only at er M hi hj;subst er;show bb (lj ?_);show bq ⟨⟨_,rfl⟩,rfl,M,hi,hj⟩
 .rintro ⟨_,out,i,j,mg⟩ st ⟨⟨g,rfl⟩,rfl,M,hi,hj⟩;have:=M.size;dsimp only at this hi hj;lia
 .rintro ⟨r,out,i,j,mg⟩ st ⟨⟨g,rfl⟩,z,er,hz⟩;dsimp only at er;subst er;show bq (h _ _ hz)
end
def Mh(lt:Nat->Nat->Bool)(it:Array dh)(all:List Nat)(a b:Array Nat)(c:Nat)(out:Array dh)(i j:Nat):Prop :=
 ∃o:Array Nat,out=o.map (bo it)/\Mg (λx y=>lt y x) all o.toList (a.toList.take i).reverse (b.toList.take j).reverse/\c<=o.size
section
variable{lt:Nat->Nat->Bool}{it:Array dh}{all:List Nat}{a b:Array Nat}{c i j k:Nat}{out:Array dh}
def Mh.swap(h:Mh lt it all a b c out i j):Mh lt it all b a c out j i:=by obtain⟨o,e,m,hc⟩:=h;show⟨o,e,m.swap,hc⟩
def Mh.few(h:Mh lt it all a b c out i j){d:Nat}(hd:d<=c):Mh lt it all a b d out i j:=by obtain⟨o,e,m,hc⟩:=h;show⟨o,e,m,by lia⟩
def Mh.size(h:Mh lt it all a b c out i j):c+min i a.size+min j b.size<=all.length:=by obtain⟨o,e,m,hc⟩:=h;have:=m.pm.length_eq;simp only[dm,List.length_reverse,ig,gk] at this;lia
theorem Mh.mv(h:Mh lt it all a b c out i j)(hk:k<=i)(hi:i<=a.size)(hu:∀x y,k<=x->x<i->y<j->y<b.size->lt (a.getD x 0) (b.getD y 0)=ag):
  Mh lt it all a b (c+(i-k)) (out++((a.map (bo it)).extract k i).reverse) k j:=by
 obtain⟨o,e,m,hc⟩:=h;have e0:(a.extract k i).toList=(a.toList.take i).drop k:=by rw[ud,tj,List.drop_take]
 have es:(a.toList.take i).reverse=(a.extract k i).toList.reverse++(a.toList.take k).reverse:=by
  rw[e0,<- List.reverse_append];congr 1
  conv=>lhs;rw[<- qf k (a.toList.take i)]
  rw[List.take_take,a13 hk]
 rw[es] at m;show⟨o++(a.extract k i).reverse,by rw[e,yt,a2H,qu],?_,?_⟩
 .rw [ue,Array.toList_reverse];show m.mv λx hx y hy=>?_;obtain⟨y',y1,y2,rfl⟩:=Z1 (a2h.1 hy);rw[a2h,e0] at hx;obtain⟨q,hq,e⟩:=ly hx;rw[mz,ig,gk] at hq;have:x=a.getD (k+q) 0:=by rw[<- e,Fy,Fx];simp[kb,show k+q<a.size by lia]
  rw[this];show hu _ _ ∅ ∅ y1 y2
 .simp [Gw];lia
def Mh.push(h:Mh lt it all a b c out i j)(h0:1<=i)(hk:i<=a.size)(hu:∀y,y<j->y<b.size->lt (a.getD (i-1) 0) (b.getD y 0)=ag):Mh lt it all a b (c+1) (out.push (bo it (a.getD (i-1) 0))) (i-1) j:=by
 have:=h.mv (k:=i-1) ∅ ∅ λx y x1 x2 y1 y2=>by rw[show x=i-1 by lia];show hu y y1 y2
 obtain⟨i,rfl⟩:∃k,i=k+1:=⟨i-1,by lia⟩;rw[Nat.add_sub_cancel] at this ⊢;have e:((a.map (bo it)).extract i (i+1)).reverse=#[bo it (a.getD i 0)]:=by rw[a2K ∅ (by simp;lia)];have e0:(a.map (bo it)).extract i i=#[]:=nj (bp _);rw[e0];simp[kb,show i<a.size by lia]
 rw[e,show i+1-i=1 by lia] at this;show this
def Mh.fin(h:Mh lt it all a b c out i 0):Res lt it all ((a.map (bo it)).extract 0 i++(b.map (bo it)).extract 0 0++out.reverse):=by
 obtain⟨o,e,m,hc⟩:=h;have ea:(a.extract 0 i).toList=a.toList.take i:=by rw[ud,tj,oy,x_]
 have eb2:(b.map (bo it)).extract 0 0=#[]:=nj (bp _);have er:(a.extract 0 i++o.reverse).toList=(o.toList++(a.toList.take i).reverse).reverse:=by simp[ea]
 show⟨a.extract 0 i++o.reverse,by rw[e,eb2,pj,yt,qu,a2H],?_,?_⟩
 .rw [er];have:=m.pm;rw[a18,List.reverse_nil,gq] at this;show(Fo _).trans this
 .rw [er];show Fp.2 m.ux
def Mh.Z2(h:Mh lt it all a b c out i j)(hi:i=0):Res lt it all ((a.map (bo it)).extract 0 i++(b.map (bo it)).extract 0 j++out.reverse):=by
 subst hi;have r:=h.swap.fin;rw[show(a.map (bo it)).extract 0 0=#[] from nj (bp _)] at r ⊢
 rwa [pj,<- a2N (xs:=(b.map (bo it)).extract 0 j)] at r
def Mh.Ib(h:Mh lt it all a b c out i j)(hj:j=0):Res lt it all ((a.map (bo it)).extract 0 i++(b.map (bo it)).extract 0 j++out.reverse):=by subst hj;show h.fin
def Mh.last(h:Mh lt it all a b c out i j)(hj:j=1)(hi:i<=a.size)(hb:1<=b.size)(hu:∀x,x<a.size->lt (a.getD x 0) (b.getD 0 0)=ag):Res lt it all ((b.map (bo it)).extract 0 j++(a.map (bo it)).extract 0 i++out.reverse):=by
 subst hj;have:=h.mv (k:=0) ∅ hi λx y x1 x2 y1 y2=>by rw[show y=0 by lia];show hu _ ∅
 have r:=this.swap.fin;rw[show(a.map (bo it)).extract 0 0=#[] from nj (bp _),pj,Array.reverse_append,Array.reverse_reverse,<- Array.append_assoc] at r;show r
variable{Ω:bh}{w:az}{A:bu}{E:Q0c}{s:ak}{κ:mw}{n:Nat}
theorem Qj{a b:Array Nat}{p:Array Nat}{q:Array (Nat×Nat×Nat)}{g:Nat}{Q:Array dh->cm->Prop}(hA:Asks Ω w A s κ it n lt)(O:jJ lt)(ha:1<=a.size)(hb:1<=b.size)(an:∀i,i<a.size->a.getD i 0<n)(bn:∀i,i<b.size->b.getD i 0<n)
  (ua:Up lt a a.size) (ub:Up lt b b.size) (h1:∀i,i<a.size->lt (a.getD i 0) (b.getD 0 0)=ag) (h2:∀y,y<b.size->lt (a.getD (a.size-1) 0) (b.getD y 0)=ag)
  (h:∀(r:Array dh) (g:Nat),Res lt it (a.toList++b.toList) r->Q r (fL κ it p q g)):
  wpS (au Ω w) A E s (F9 (a.map (bo it)) (b.map (bo it))) Q (fL κ it p q g):=by
 obtain⟨all,hall⟩:∃l,l=a.toList++b.toList:=⟨_,rfl⟩;have tot:all.length=a.size+b.size:=by rw[hall];simp
 rw[<- hall] at h;have M0:Mh lt it all a b 0 #[] a.size b.size:=by
  show⟨#[],by simp,⟨?_,?_,?_⟩,by simp⟩
  .rw [hall,<- gk,<- gk,sd,sd];show(Fo _).append (Fo _)
  .rw [<- gk,sd];show Fp.2 (xQ.2 ua)
  .rw [<- gk,sd];show Fp.2 (xQ.2 ub)
 have M1:=M0.push ∅ ∅ λy _ hy=>h2 y hy;rw[qc] at M1;have b0:#[].push (bo it (a.getD (a.size-1) 0))=#[bo it (a.getD (a.size-1) 0)]:=rfl;rw[b0] at M1
 -- whose turn it is
 have aw:∀{u j:Nat},1<=j->j<=b.size->lt (b.getD (j-1) 0) (a.getD u 0)=ae ->∀y,y<j->y<b.size->lt (a.getD u 0) (b.getD y 0)=ag:=λ{u j} h0 hj hl y y1 y2=>by
  by_cases e:y=j-1
  .rw [e];show O.as _ _ hl
  .exact O.tr _ _ _ (ub y (j-1) ∅ ∅) (O.as _ _ hl)
 have bw:∀{i v:Nat},1<=i->i<=a.size->lt (b.getD v 0) (a.getD (i-1) 0)=ag ->∀x,x<i->x<a.size->lt (b.getD v 0) (a.getD x 0)=ag:=λ{i v} h0 hi hl x x1 x2=>by
  by_cases e:x=i-1
  .rw [e];show hl
  .exact O.tr _ _ _ (ua x (i-1) ∅ ∅) hl
 unfold F9;show bb (og (jj ⟨rfl,?_⟩));simp -zeta -zetaHave only[Gv,beq_iff_eq]
 extract_lets
 show bb (fY (show a.size-1<a.size by lia) ?_)
 extract_lets
 show aZ (λ(e:a.size-1=0)=>bq (h _ g ?_)) λ(e1:¬ a.size-1=0)=>aZ (λ(e:b.size=1)=>bq (h _ g ?_)) λ(e2:¬ b.size=1)=>?_
 .exact M1.Z2 e
 .exact M1.last e ∅ hb h1
 show bb (kr ?_)
 extract_lets
 let J (x na nb:Nat) (out:Array dh):Prop:=Mh lt it all a b x out na nb/\1<=na/\na<=a.size/\2<=nb/\nb<=b.size
 show bb (je (ip (I:=λx c st=>(∃g,st=fL κ it p q g)/\c.1=af/\J (x+1) c.2.1 c.2.2.1 c.2.2.2.1) (Q:=λc st=>(∃g,st=fL κ it p q g) /\∃z,c.1=aa z/\Res lt it all z) ?_ ?_ ⟨⟨_,rfl⟩,rfl,M1,show 1<=a.size-1 by lia,show a.size-1<=_ by lia,show 2<=b.size by lia,bp _⟩) ?_)
 .rintro x ⟨_,i,j,out,mg⟩ st _ hx ⟨⟨g,rfl⟩,rfl,M,i1,i2,j1,j2⟩
  extract_lets
  show bb (je (ip (I:=λy c st=>(∃g,st=fL κ it p q g)/\c.1=af/\J (x+1+y) c.2.1 c.2.2.1 c.2.2.2.1) (Q:=λc st=>(∃g,st=fL κ it p q g)/\((∃z,c.1=aa z/\Res lt it all z)\/(c.1=af/\J (x+2) c.2.1 c.2.2.1 c.2.2.2.1))) ?_ ?_ ⟨⟨_,rfl⟩,rfl,M,i1,i2,j1,j2⟩) ?_)
  .rintro y ⟨_,i,j,out,ac,bc⟩ st _ hy ⟨⟨g,rfl⟩,rfl,M,i1,i2,j1,j2⟩;dsimp only at M i1 i2 j1 j2 ⊢;show bb (fY (show j-1<b.size by lia) (bb (fY (show i-1<a.size by lia) (bb (F7 hA (bn _ ∅) (an _ ∅) ?_)))))
   cases hl:lt (b.getD (j-1) 0) (a.getD (i-1) 0) with
   |true =>
    have M2:=M.push i1 i2 (aw ∅ j2 hl);show bb (fY (show i-1<a.size by lia) ?_);show aZ (λe=>bq ⟨⟨_,rfl⟩,.inl ⟨_,rfl,M2.Z2 e⟩⟩) λe=>aZ (λ_=>bq ⟨⟨_,rfl⟩,.inr ⟨rfl,M2.few (d:=x+2) ∅,show 1<=i-1 by lia,show i-1<=_ by lia,j1,j2⟩⟩) λ_=>bq ⟨⟨_,rfl⟩,rfl,M2,show 1<=i-1 by lia,show i-1<=_ by lia,j1,j2⟩
   |false =>
    have M2:=(M.swap.push ∅ j2 (bw ∅ i2 hl)).swap;show bb (fY (show j-1<b.size by lia) ?_);show aZ (λe=>bq ⟨⟨_,rfl⟩,.inl ⟨_,rfl,M2.last e i2 hb h1⟩⟩) λe=>aZ (λ_=>bq ⟨⟨_,rfl⟩,.inr ⟨rfl,M2.few (d:=x+2) ∅,i1,i2,show 2<=j-1 by lia,show j-1<=_ by lia⟩⟩) λ_=>bq ⟨⟨_,rfl⟩,rfl,M2,i1,i2,show 2<=j-1 by lia,show j-1<=_ by lia⟩
  .rintro ⟨_,i,j,out,ac,bc⟩ st ⟨⟨g,rfl⟩,rfl,M,i1,i2,j1,j2⟩;have:=M.size;dsimp only at this i1 i2 j1 j2;lia
  .rintro ⟨r,i,j,out,ac,bc⟩ st ⟨⟨g,rfl⟩,⟨z,er,hz⟩|⟨er,M,i1,i2,j1,j2⟩⟩
   .dsimp only at er;subst er;show bq ⟨⟨_,rfl⟩,z,rfl,hz⟩
   .dsimp only at er M i1 i2 j1 j2;subst er;show bb (og (jj ⟨rfl,?_⟩))
    extract_lets
    show bb (je (ip (I:=λy c st=>(∃g,st=fL κ it p q g)/\c.1=af/\J (x+2+y) c.2.1 c.2.2.1 c.2.2.2.1) (Q:=λc st=>(∃g,st=fL κ it p q g)/\((∃z,c.1=aa z/\Res lt it all z)\/(c.1=af/\J (x+2) c.2.1 c.2.2.1 c.2.2.2.1))) ?_ ?_ ⟨⟨_,rfl⟩,rfl,M,i1,i2,j1,j2⟩) ?_)
    .rintro y ⟨_,i,j,out,mg,ac,bc⟩ st _ hy ⟨⟨g,rfl⟩,rfl,M,i1,i2,j1,j2⟩;dsimp only at M i1 i2 j1 j2
     extract_lets -merge
     rename_i jp _;show sC (F:=jp) (P:=λ_ _=>True) (λ_ m _=>?_) λtO=>aZ (λ_=>tO () _ trivial) λ_=>tO () _ trivial;show bb (lj (bb (fY (show j-1<b.size by lia) (bb (VI (ω:=0) (cnt:=i) (hint:=i-1) hA O (bn (j-1) ∅) ∅ an ∅ (λx y _ h2 h3=>ua x y h2 ∅) λk k1 k2 k3=>?_)))));have M2:=M.mv (k:=k) ∅ i2 λu v u1 u2 v1 v2=>aw ∅ j2 (k3 u ∅ ∅) v v1 v2
     dsimp -zeta -zetaHave only
     extract_lets -merge
     rename_i jp2 _ _;show sC (F:=jp2 ()) (P:=λi' out=>Mh lt it all a b (x+2+y) out i' j/\1<=i'/\i'<=a.size /\∀u,u<i'->u<a.size->lt (b.getD (j-1) 0) (a.getD u 0)=ag) (λi' out ⟨M,i1,i2,gt⟩=>?_) λtO=>aZ (λ(e:i-k>0)=>?_) λ(e:¬ i-k>0)=>?_
     .have M2:=(M.swap.push ∅ j2 gt).swap;show bb (fY (show j-1<b.size by lia) ?_)
      extract_lets
      show aZ (λ(e:j-1=1)=>bq ⟨⟨_,rfl⟩,.inl ⟨_,rfl,M2.last e i2 hb h1⟩⟩) λ(e:¬ j-1=1)=>?_;show bb (fY (show i'-1<a.size by lia) (bb (VJ (ω:=0) (cnt:=j-1) (hint:=j-1-1) hA O (an (i'-1) ∅) ∅ bn ∅ (λx y _ h2 h3=>ub x y h2 ∅) λk k1 k2 k3=>?_)));have M3:=(M2.swap.mv (k:=k) ∅ ∅ λu v u1 u2 v1 v2=>bw i1 i2 (k3 u ∅ ∅) v v1 v2).swap
      dsimp -zeta -zetaHave only
      extract_lets -merge
      rename_i jp3 _ _;show sC (F:=jp3 ()) (P:=λj' out=>Mh lt it all a b (x+2+y) out i' j'/\2<=j'/\j'<=b.size /\∀u,u<j'->u<b.size->lt (b.getD u 0) (a.getD (i'-1) 0)=ae) (λj' out ⟨M,j1,j2,gt⟩=>?_) λtO=>aZ (λ(e:j-1-k>0)=>?_) λ(e:¬ j-1-k>0)=>?_
      .have M2:=M.push i1 i2 λu u1 u2=>O.as _ _ (gt u u1 u2);show bb (fY (show i'-1<a.size by lia) ?_);show aZ (λ(e:i'-1=0)=>bq ⟨⟨_,rfl⟩,.inl ⟨_,rfl,M2.Z2 e⟩⟩) λ(e:¬ i'-1=0)=>aZ (λ_=>bq ⟨⟨_,rfl⟩,.inr ⟨rfl,M2.few (d:=x+2) ∅,show 1<=i'-1 by lia,show i'-1<=_ by lia,j1,j2⟩⟩) λ_=>bq ⟨⟨_,rfl⟩,rfl,M2,show 1<=i'-1 by lia,show i'-1<=_ by lia,j1,j2⟩
      .extract_lets
       show aZ (λ(e:k=1)=>bq ⟨⟨_,rfl⟩,.inl ⟨_,rfl,M3.last e i2 hb h1⟩⟩) λ(_:¬ k=1)=>aZ (λ(e:k=0)=>bq ⟨⟨_,rfl⟩,.inl ⟨_,rfl,M3.Ib e⟩⟩) λ(e:¬ k=0)=>tO _ _ ⟨M3.few ∅,show 2<=k by lia,show k<=_ by lia,λu u1 u2=>k2 u ∅ ∅⟩
      .have:k=j-1:=by lia
       subst this;show tO (j-1) _ ⟨M2.few ∅,show 2<=j-1 by lia,show j-1<=_ by lia,λu u1 u2=>k2 u ∅ ∅⟩
     .extract_lets
      show aZ (λ(e:k=0)=>bq ⟨⟨_,rfl⟩,.inl ⟨_,rfl,M2.Z2 e⟩⟩) λ(e:¬ k=0)=>tO _ _ ⟨M2.few ∅,show 1<=k by lia,show k<=_ by lia,λu u1 u2=>k2 u ∅ ∅⟩
     .have:k=i:=by lia
      subst this;show tO k _ ⟨M,i1,i2,λu u1 u2=>k2 u ∅ ∅⟩
    .rintro ⟨_,i,j,out,mg,ac,bc⟩ st ⟨⟨g,rfl⟩,rfl,M,i1,i2,j1,j2⟩;have:=M.size;dsimp only at this i1 i2 j1 j2;lia
    .rintro ⟨r,i,j,out,mg,ac,bc⟩ st ⟨⟨g,rfl⟩,⟨z,er,hz⟩|⟨er,M,i1,i2,j1,j2⟩⟩
     .dsimp only at er;subst er;show bq ⟨⟨_,rfl⟩,z,rfl,hz⟩
     .dsimp only at er M i1 i2 j1 j2;subst er;show bb (lj ?_);show bq ⟨⟨_,rfl⟩,rfl,M,i1,i2,j1,j2⟩
 .rintro ⟨_,i,j,out,mg⟩ st ⟨⟨g,rfl⟩,rfl,M,i1,i2,j1,j2⟩;have:=M.size;dsimp only at this i1 i2 j1 j2;lia
 .rintro ⟨r,i,j,out,mg⟩ st ⟨⟨g,rfl⟩,z,er,hz⟩;dsimp only at er;subst er;show bq (h _ _ hz)
end
abbrev Pn(n:Nat)(p:Array Nat):Prop:=p.Perm (de n).toArray
abbrev C8(lt:Nat->Nat->Bool)(p:Array Nat)(lo m:Nat):Prop:=∀i j,lo<=i->i<j->j<lo+m->lt (p.getD j 0) (p.getD i 0)=ag
abbrev DnS(lt:Nat->Nat->Bool)(p:Array Nat)(lo m:Nat):Prop:=∀i j,lo<=i->i<j->j<lo+m->lt (p.getD i 0) (p.getD j 0)=ag
section
variable{n lo:Nat}{p p':Array Nat}{lt:Nat->Nat->Bool}
def Pn.size(h:Pn n p):p.size=n:=by have:=h.size_eq;simpa using this
def Pn.bd(h:Pn n p){i:Nat}(hi:i<n):p.getD i 0<n:=by
 have hs:=h.size;have:p.getD i 0∈p:=by simp[kb,hs,hi]
 simpa using h.mem_iff.1 this
abbrev Kp(p p':Array Nat)(lo:Nat):Prop:=∀i,i<lo->p'.getD i 0=p.getD i 0
def JF{k d:Nat}(hk:k<p.size)(hd:d<=k)(i:Nat):(bubble p k d).getD i 0=if i=k-d then p.getD k 0 else if k-d<i/\i<=k then p.getD (i-1) 0 else p.getD i 0:=by
 rw[c8,c8,c8,c8,a1I hk d hd];by_cases h1:i=k-d
 .rw [Z_ h1,Z_ h1]
 .rw [Zz h1,Zz h1];by_cases h2:k-d<i/\i<=k
  .rw [Z_ h2,Z_ h2]
  .rw [Zz h2,Zz h2]
end
section
variable{Ω:bh}{w:az}{A:bu}{E:Q0c}{s:ak}{κ:mw}{it:Array dh}{n:Nat}{lt:Nat->Nat->Bool}{p:Array Nat}{q:Array (Nat×Nat×Nat)}{g:Nat}
def GA{i j:Nat}{Q:Option Bool->cm->Prop}(hA:Asks Ω w A s κ it n lt)(hp:Pn n p)(hi:i<n)(hj:j<n)(h:Q (aa (lt (p.getD i 0) (p.getD j 0))) (fL κ it p q g)):wpS (au Ω w) A E s (ltAt' i j) Q (fL κ it p q g):=by have hs:=hp.size;rw[ltAt'_eq];show bb (kr (bb (fY ∅ (bb (fY ∅ (F7 hA (hp.bd hi) (hp.bd hj) h))))))
def CV{i j:Nat}{Q:Unit->cm->Prop}(h:Q () (fL κ it (gr p i j) q g)):wpS (au Ω w) A E s (reverseSlice' i j) Q (fL κ it p q g):=by rw[reverseSlice'_eq];show lj ?_;have e:mirror (p.map (bo it)) i j ((j-i)/2)=(gr p i j).map (bo it):=a0P (bo it) (λk=>i+k) (λk=>j-1-k) _ p;show Q () (oi κ (mirror (p.map (bo it)) i j ((j-i)/2)) q g af);rw[e];show h
def Z3{k l:Nat}{Q:Unit->cm->Prop}(h:Q () (fL κ it (bubble p k (k-l)) q g)):wpS (au Ω w) A E s (moveDown' k l) Q (fL κ it p q g):=by rw[moveDown'_eq];show lj ?_;have e:bubble (p.map (bo it)) k (k-l)=(bubble p k (k-l)).map (bo it):=a0P (bo it) (λi=>k-i) (λi=>k-i-1) _ p;show Q () (oi κ (bubble (p.map (bo it)) k (k-l)) q g af);rw[e];show h
theorem Wh{lo m ok:Nat}{Q:Bool->cm->Prop}(hA:Asks Ω w A s κ it n lt)(O:jJ lt)(hp:Pn n p)(hm:lo+m<=n)(h1:1<=ok)(hok:ok<=m)(hu:C8 lt p lo ok)
  (h:∀p',Pn n p'->Kp p p' lo->C8 lt p' lo m->Q ae (fL κ it p' q g)):wpS (au Ω w) A E s (binarySort' lo m ok) Q (fL κ it p q g):=by
 unfold binarySort';show bb (je (ip (I:=λk c st=>c.1=af /\∃p',st=fL κ it p' q g/\Pn n p'/\Kp p p' lo/\C8 lt p' lo k/\k<=m) (Q:=λc st=>c.1=af /\∃p',st=fL κ it p' q g/\Pn n p'/\Kp p p' lo/\C8 lt p' lo m) ?_ ?_ ⟨rfl,p,rfl,hp,λ_ _=>rfl,by rw[show max ok 1=ok by lia];show hu,by lia⟩) ?_)
 .rintro k ⟨_,_⟩ st k1 k2 ⟨rfl,p',rfl,hp',hk,u,_⟩;have hs:=hp'.size;dsimp only;show bb (je (ip (I:=λx c st=>st=fL κ it p' q g /\∃l r,c=(af,l,r)/\l<=r/\r<=k/\r-l<=k-x/\(∀i,lo<=i->i<lo+l->lt (p'.getD (lo+k) 0) (p'.getD i 0)=ag) /\∀i,lo+r<=i->i<lo+k->lt (p'.getD i 0) (p'.getD (lo+k) 0)=ag)
   (Q:=λc st=>st=fL κ it p' q g /\∃l r,c=(af,l,r)/\l<=k/\(∀i,lo<=i->i<lo+l->lt (p'.getD (lo+k) 0) (p'.getD i 0)=ag) /\∀i,lo+l<=i->i<lo+k->lt (p'.getD i 0) (p'.getD (lo+k) 0)=ag) ?_ ?_ ⟨rfl,0,k,rfl,by lia,by lia,by lia,λi h1 h2=>by lia,λi h1 h2=>by lia⟩) ?_)
  .rintro x c st _ hx ⟨rfl,l,r,rfl,a1,a2,a3,a4,a5⟩;dsimp only;show aZ (λe=>bq ⟨rfl,l,r,rfl,by lia,a4,λi h1 h2=>a5 i ∅ h2⟩) λe=>bb (GA hA hp' ∅ ∅ ?_)
   cases hl:lt (p'.getD (lo+k) 0) (p'.getD (lo+(l+r)/2) 0) with
   |true =>
    show bq ⟨rfl,l,(l+r)/2,rfl,by lia,by lia,by lia,a4,λi h1 h2=>?_⟩;by_cases e2:i=lo+(l+r)/2
    .rw [e2];show O.as _ _ hl
    .exact O.tr _ _ _ (O.as _ _ hl) (u _ i ∅ ∅ h2)
   |false =>
    show bq ⟨rfl,(l+r)/2+1,r,rfl,by lia,by lia,by lia,λi h1 h2=>?_,a5⟩;by_cases e2:i=lo+(l+r)/2
    .rw [e2];show hl
    .exact O.tr _ _ _ (u i _ h1 ∅ ∅) hl
  .rintro c st ⟨rfl,l,r,rfl,a1,a2,a3,a4,a5⟩;show⟨rfl,l,r,rfl,by lia,a4,λi h1 h2=>a5 i ∅ h2⟩
  .rintro c st ⟨rfl,l,r,rfl,a1,a4,a5⟩;dsimp only;show bb (Z3 (bq ⟨rfl,_,rfl,(Er _ _ _).trans hp',?_,?_,by lia⟩))
   all_goals rw[show lo+k-(lo+l)=k-l by lia]
   .intro i hi;rw[JF ∅ ∅,Zz ∅,Zz ∅];show hk i hi
   .intro i j h1 h2 h3;rw[JF ∅ ∅,JF ∅ ∅];by_cases c1:i=lo+k-(k-l)
    .rw [Z_ c1,Zz ∅,Z_ ∅];show a5 _ ∅ ∅
    .rw [Zz c1];by_cases c2:j=lo+k-(k-l)
     .rw [Z_ c2,Zz ∅];show a4 _ h1 ∅
     .rw [Zz c2];split<;>split<;>show u _ _ ∅ ∅ ∅
 .rintro ⟨_,_⟩ st ⟨rfl,p',rfl,a,b,c,d⟩;show⟨rfl,p',rfl,a,b,by rwa [show max (max ok 1) m=m by lia] at c⟩
 .rintro ⟨_,_⟩ st ⟨rfl,p',rfl,a,b,c⟩;show bq (h p' a b c)
theorem VL{lo a:Nat}{Q:Option (Option Nat)×Nat->cm->Prop}(hA:Asks Ω w A s κ it n lt)(O:jJ lt)(hp:Pn n p)(h1:1<=a)(ha:lo+a<=n)(hu:C8 lt p lo a)
  (h:∀m,a<=m->lo+m<=n->C8 lt p lo m->(lo+m<n->lt (p.getD (lo+m) 0) (p.getD (lo+m-1) 0)=ae)->Q (af,m) (fL κ it p q g)):
  wpS (au Ω w) A E s (forIn [a:n-lo] ((af,a):Option (Option Nat)×Nat) λ_ c=>do
   let z <- ltAt' (lo+c.2) (lo+c.2-1)
   match z with
   |some b=>if b=ae then pure (.done (af,c.2)) else pure (.yield (af,c.2+1))
   |_=>pure (.done (aa af,c.2))) Q (fL κ it p q g):=by
 show ip (I:=λx c st=>st=fL κ it p q g/\c=(af,x)/\C8 lt p lo x) ?_ ?_ ⟨rfl,rfl,hu⟩
 .rintro x c st x1 x2 ⟨rfl,rfl,u⟩;show bb (GA hA hp (show lo+x<n by lia) (show lo+x-1<n by lia) ?_)
  cases hl:lt (p.getD (lo+x) 0) (p.getD (lo+x-1) 0) with
  |true=>show bq (h x x1 ∅ u λ_=>hl)
  |false =>
   show bq ⟨rfl,rfl,λi j h1 h2 h3=>?_⟩;by_cases e:j=lo+x
   .subst e;by_cases e2:i=lo+x-1
    .rw [e2];show hl
    .exact O.tr _ _ _ (u i (lo+x-1) h1 ∅ ∅) hl
   .exact u i j h1 h2 ∅
 .rintro c st ⟨rfl,rfl,u⟩;rw[show max a (n-lo)=n-lo by lia] at u ⊢;show h _ ∅ ∅ u λz=>by lia
abbrev Ls(lt:Nat->Nat->Bool)(p:Array Nat)(e k:Nat):Prop:=∀i j,e-(k+1)<=i->i<e->e-(k+1)<=j->j<e->lt (p.getD i 0) (p.getD j 0)=ag
def VM{lo m k:Nat}(O:jJ lt)(hm:lo+m<=p.size)(hk:k+1<=m)(hd:DnS lt p lo m)(hl:Ls lt p (lo+m) k):DnS lt (gr p (lo+m-(k+1)) (lo+m)) lo m:=λi j h1 h2 h3=>by
 rw[cN hm,cN hm];by_cases c1:lo+m-(k+1)<=i/\i<lo+m
 .rw [Z_ c1,Z_ ∅];show hl _ _ ∅ ∅ ∅ ∅
 .rw [Zz c1];by_cases c2:lo+m-(k+1)<=j/\j<lo+m
  .rw [Z_ c2];show hd _ _ h1 ∅ ∅
  .rw [Zz c2];show hd _ _ h1 h2 h3
theorem VN{lo:Nat}{Q:Option Nat->cm->Prop}(hA:Asks Ω w A s κ it n lt)(O:jJ lt)(hp:Pn n p)(hlo:lo<n)
  (h:∀m p',Pn n p'->Kp p p' lo->1<=m->lo+m<=n->C8 lt p' lo m->Q (aa m) (fL κ it p' q g)):wpS (au Ω w) A E s (countRun' lo (n-lo)) Q (fL κ it p q g):=by
 have hs:=hp.size
 -- they fall: turned about
 have tail:∀(m:Nat) (p':Array Nat) (F:Option (Option Nat)×Nat->StateT cm fm (Option Nat)),Pn n p'->Kp p p' lo->1<=m->lo+m<=n->DnS lt p' lo m->(∀m,F (af,m)=pure (aa m))->wpS (au Ω w) A E s (do
   reverseSlice' lo (lo+m)
   let c <- forIn [m:n-lo] ((af,m):Option (Option Nat)×Nat) λ_ c=>do
    let z <- ltAt' (lo+c.2) (lo+c.2-1)
    match z with
    |some b=>if b=ae then pure (.done (af,c.2)) else pure (.yield (af,c.2+1))
    |_=>pure (.done (aa af,c.2))
   F c) Q (fL κ it p' q g):=λm p' F hp' hk m1 m2 hd hF=>by
  have hs':=hp'.size;have hp2:Pn n (gr p' lo (lo+m)):=(eT _ _ _).trans hp';show bb (CV (bb (VL hA O hp2 m1 m2 (λi j h1 h2 h3=>?_) λm' a b u _=>?_)))
  .rw [cN ∅,cN ∅,Z_ ∅,Z_ ∅];show hd _ _ ∅ ∅ ∅
  .rw [hF];show bq (h m' _ hp2 (λi hi=>?_) ∅ b u);rw[cN ∅,Zz ∅];show hk i hi
 unfold countRun';show bb (VL hA O hp (bp 1) ∅ (λi j h1 h2 h3=>by lia) λm m1 m2 u hx=>?_)
 dsimp -zeta -zetaHave only
 extract_lets -merge
 rename_i jp;have tO:∀p',Pn n p'->Kp p p' lo->lo+m<n->DnS lt p' lo (m+1)->wpS (au Ω w) A E s (jp ()) Q (fL κ it p' q g):=λp' hp' hk hm hd=>by
  show bb (og (jj ⟨rfl,?_⟩));show bb (je (ip (I:=λx c st=>∃p' k,st=fL κ it p' q g/\c=(af,x,k)/\Pn n p'/\Kp p p' lo/\DnS lt p' lo x/\k+1<=x/\Ls lt p' (lo+x) k) (Q:=λc st=>∃x p' k,st=fL κ it p' q g/\c=(af,x,k)/\Pn n p'/\Kp p p' lo/\DnS lt p' lo x/\k+1<=x/\lo+x<=n/\Ls lt p' (lo+x) k) ?_ ?_ ⟨p',0,rfl,rfl,hp',hk,hd,show 0+1<=m+1 by lia,λi j (a:lo+(m+1)-1<=i) (b:i<lo+(m+1)) c d=>by rw[show i=j by lia];show O.PQ _⟩) ?_)
  .rintro x c st (x1:m+1<=x) x2 ⟨p',k,rfl,rfl,hp',hk,hd,k1,ls⟩;have hs':=hp'.size;have one:∀P:Array Nat,DnS lt P lo x->lt (P.getD (lo+x-1) 0) (P.getD (lo+x) 0)=ag->DnS lt P lo (x+1):=λP hP hl i j h1 h2 h3=>by
    by_cases e:j=lo+x
    .subst e;by_cases e2:i=lo+x-1
     .rw [e2];show hl
     .exact O.tr _ _ _ hl (hP i (lo+x-1) h1 ∅ ∅)
    .exact hP i j h1 h2 ∅
   dsimp only;show bb (GA hA hp' (show lo+x<n by lia) (show lo+x-1<n by lia) ?_)
   cases hl:lt (p'.getD (lo+x) 0) (p'.getD (lo+x-1) 0) with
   |true =>
    dsimp only;rw[Z_ rfl];have l1:∀P:Array Nat,Ls lt P (lo+(x+1)) 0:=λP i j a b c d=>by rw[show i=j by lia];show O.PQ _
    show aZ (λ(e:k>0)=>bb (CV (bq ⟨_,0,rfl,rfl,(eT _ _ _).trans hp',λi hi=>?_,one _ (VM O ∅ k1 hd ls) ?_,by lia,l1 _⟩))) λ(e:¬ k>0)=>bq ⟨_,0,rfl,rfl,hp',hk,one _ hd (O.as _ _ hl),by lia,l1 _⟩
    .rw [cN (show lo+x<=p'.size by lia),Zz ∅];show hk i hi
    .rw [cN (show lo+x<=p'.size by lia),cN (show lo+x<=p'.size by lia),Z_ ∅,Zz ∅];have a:=O.as _ _ hl;by_cases e2:lo+x-(k+1)+(lo+x)-1-(lo+x-1)=lo+x-1
     .rw [e2];show a
     .exact O.tr _ _ _ a (ls _ _ ∅ ∅ ∅ ∅)
   |false =>
    show bb (GA hA hp' (show lo+x-1<n by lia) (show lo+x<n by lia) ?_)
    cases hl2:lt (p'.getD (lo+x-1) 0) (p'.getD (lo+x) 0) with
    |true=>show bq ⟨x,p',k,rfl,rfl,hp',hk,hd,k1,by lia,ls⟩
    |false =>
     show bq ⟨p',k+1,rfl,rfl,hp',hk,one _ hd hl2,by lia,λi j a b c d=>?_⟩;have f1:lt (p'.getD i 0) (p'.getD (lo+x-1) 0)=ag:=by
      by_cases e:i=lo+x
      .rw [e];show hl
      .exact ls _ _ ∅ ∅ ∅ ∅
     have f2:lt (p'.getD (lo+x-1) 0) (p'.getD j 0)=ag:=by
      by_cases e:j=lo+x
      .rw [e];show hl2
      .exact ls _ _ ∅ ∅ ∅ ∅
     show O.tr _ _ _ f2 f1
  .rintro c st ⟨p',k,rfl,rfl,hp',hk,hd,k1,ls⟩;show⟨_,p',k,rfl,rfl,hp',hk,hd,k1,show lo+max (m+1) (n-lo)<=n by lia,ls⟩
  .rintro c st ⟨x,p',k,rfl,rfl,hp',hk,hd,k1,hx,ls⟩;have hs':=hp'.size;dsimp only;show aZ (λ(e:k>0)=>bb (CV (tail x _ _ ((eT _ _ _).trans hp') (λi hi=>?_) ∅ hx (VM O ∅ k1 hd ls) λ_=>rfl))) λ(e:¬ k>0)=>tail x _ _ hp' hk ∅ hx hd λ_=>rfl;rw[cN (show lo+x<=p'.size by lia),Zz ∅];show hk i hi
 show aZ (λe=>bq (h m p hp (λ_ _=>rfl) m1 m2 u)) λe=>?_;have e:¬ m=n-lo:=by simpa using e
 have hx:=hx ∅;show aZ (λ(e1:m>1)=>bb (GA hA hp hlo (show lo+m-1<n by lia) ?_)) λ(e1:¬ m>1)=>tO p hp (λ_ _=>rfl) ∅ λi j h1 h2 h3=>?_
 .cases hl:lt (p.getD lo 0) (p.getD (lo+m-1) 0) with
  |true=>show bq (h m p hp (λ_ _=>rfl) m1 m2 u)
  |false =>
   show bb (CV (tO _ ((eT _ _ _).trans hp) (λi hi=>?_) ∅ λi j h1 h2 h3=>?_))
   .rw [cN (show lo+m<=p.size by lia),Zz ∅]
   .rw [cN (show lo+m<=p.size by lia),cN (show lo+m<=p.size by lia),Z_ ∅];by_cases e:j=lo+m
    .rw [Zz ∅,e];show O.tr _ _ _ (O.as _ _ hx) (O.tr _ _ _ hl ?_);by_cases e2:lo+(lo+m)-1-i=lo
     .rw [e2];show O.PQ _
     .exact u _ _ ∅ ∅ ∅
    .rw [Z_ ∅];show u _ _ ∅ ∅ ∅
 .rw [show i=lo+m-1 by lia,show j=lo+m by lia];show O.as _ _ hx
variable{α:Type}
theorem qV(L:Nat):∀(m:List α) (d:Nat) (arr:Array α) (i:Nat),L+d+m.length<=arr.size->((m.zipIdx d).foldl (λa q=>a.setIfInBounds (L+q.2) q.1) arr)[i]?=if L+d<=i/\i<L+d+m.length then m[i-(L+d)]? else arr[i]?
 |[],d,arr,i,h=>by rw[Zz (by simp)];rfl
 |x::m,d,arr,i,h=>by
  rw[fu] at h ⊢;rw[List.zipIdx_cons,l_,qV L m (d+1) _ i (by rw[Array.size_setIfInBounds];lia)];by_cases e:i=L+d
  .rw [Zz ∅,Z_ ∅,e,a2I,Z_ rfl,Z_ (by show L+d<_;lia)];simp
  .by_cases c:L+(d+1)<=i/\i<L+(d+1)+m.length
   .rw [Z_ c,Z_ ∅,show i-(L+d)=i-(L+(d+1))+1 by lia,ou]
   .rw [Zz c,Zz ∅,a2I,Zz (λz=>e z.symm)]
end
def seg(p:Array Nat)(L:Nat)(m:Array Nat):Array Nat:=(m.toList.zipIdx 0).foldl (λa q=>a.setIfInBounds (L+q.2) q.1) p
def Z4{p m:Array Nat}{L:Nat}(it:Array dh)(h:L+m.size<=p.size):(((m.map (bo it)).toList.zipIdx 0).foldl (λa q=>a.setIfInBounds (L+q.2) q.1) (p.map (bo it)))=(seg p L m).map (bo it):=by apply a2L;intro i;unfold seg;rw[qV L _ 0 _ i (by simpa using h),Gx,Gx,qV L _ 0 _ i (by simpa using h)];simp only[a2D,bj,dj,Gx];split<;>rfl
def CW{p m:Array Nat}{L i:Nat}(h:L+m.size<=p.size):(seg p L m).getD i 0=if L<=i/\i<L+m.size then m.getD (i-L) 0 else p.getD i 0:=by unfold seg;rw[c8,c8,c8,qV L _ 0 _ i (by simpa using h)];simp only[Fl,gk,pf];split<;>rfl
def VO{p m:Array Nat}{L:Nat}(h:L+m.size<=p.size)(hm:m.Perm (p.extract L (L+m.size))):(seg p L m).Perm p:=by
 have e:seg p L m=p.extract 0 L++m++p.extract (L+m.size) p.size:=by
  apply a2L;intro i;unfold seg;rw[qV L _ 0 _ i (by simpa using h)];simp only[Fl,gk,pf,Array.getElem?_append,Gy,Gw,a2G,a12]
  repeat' split
  all_goals first|rfl|(exfalso;lia)|(congr 1;lia)|(simp;lia)
 have e2:p=p.extract 0 L++p.extract L (L+m.size)++p.extract (L+m.size) p.size:=by simp[show L<=L+m.size by lia,h]
 rw[e]
 conv=>rhs;rw[e2]
 show((me _).append hm).append (me _)
section
variable{Ω:bh}{w:az}{A:bu}{E:Q0c}{s:ak}{κ:mw}{it:Array dh}{n:Nat}{lt:Nat->Nat->Bool}{p:Array Nat}{q:Array (Nat×Nat×Nat)}{g:Nat}
def Z6{st st':cm}{Q:PUnit->cm->Prop}{M:lh}(h:Q ⟨⟩ st'):wpS M A E s (set st':StateT cm fm PUnit) Q st:=by unfold wpS;rw[StateT.run_set];show a_ ⟨rfl,h⟩
theorem VP{i sa na pw nb pw':Nat}{Q:Bool->cm->Prop}(hA:Asks Ω w A s κ it n lt)(O:jJ lt)(hp:Pn n p)(q1:q[i]?=aa (sa,na,pw))(q2:q[i+1]?=aa (sa+na,nb,pw'))(h1:1<=na)(h2:1<=nb)(hn:sa+na+nb<=n)
  (ua:C8 lt p sa na) (ub:C8 lt p (sa+na) nb)
  (h:∀p' g',Pn n p'->(∀j,j<sa\/sa+na+nb<=j->p'.getD j 0=p.getD j 0)->C8 lt p' sa (na+nb)->Q ae (fL κ it p' ((q.setIfInBounds i (sa,na+nb,pw)).eraseIdxIfInBounds (i+1)) g')):
  wpS (au Ω w) A E s (mergeAt' i) Q (fL κ it p q g):=by
 have hs:=hp.size;unfold mergeAt';show bb (kr ?_);dsimp only;rw[q1,q2];dsimp only;obtain⟨q',hq⟩:∃z,z=(q.setIfInBounds i (sa,na+nb,pw)).eraseIdxIfInBounds (i+1):=⟨_,rfl⟩;rw[<- hq] at h ⊢;show bb (Z6 ?_);show bb (fY (show sa+na<p.size by lia) (bb (VI (ω:=sa) (cnt:=na) (hint:=0) hA O (hp.bd ∅) ∅ (λi hi=>hp.bd ∅) ∅ (λi j a b c=>ua i j a b c) λk k1 k2 k3=>?_)))
 -- below the first of the second run
 have F2:∀u v,sa<=u->u<sa+k->sa+na<=v->v<sa+na+nb->lt (p.getD v 0) (p.getD u 0)=ag:=λu v u1 u2 v1 v2=>by
  by_cases e:v=sa+na
  .rw [e];show k2 u u1 u2
  .exact O.tr _ _ _ (k2 u u1 u2) (ub (sa+na) v (bp _) ∅ v2)
 show aZ (λe=>bq (h p g hp (λ_ _=>rfl) λu v u1 u2 v2=>?_)) λe=>?_
 .have e:na-k=0:=by simpa using e
  by_cases c1:v<sa+na
  .exact ua u v u1 u2 c1
  .by_cases c2:u<sa+na
   .exact F2 u v u1 ∅ ∅ ∅
   .exact ub u v ∅ u2 ∅
 have e:¬ na-k=0:=by simpa using e
 show bb (fY (show sa+k+(na-k)-1<p.size by lia) ?_);rw[show sa+k+(na-k)-1=sa+na-1 by lia];show bb (VJ (ω:=sa+na) (cnt:=nb) (hint:=nb-1) hA O (hp.bd ∅) ∅ (λi hi=>hp.bd ∅) ∅ (λi j a b c=>ub i j a b c) λc c1 c2 c3=>?_);have F3:∀u v,sa<=u->u<sa+na->sa+na+c<=v->v<sa+na+nb->lt (p.getD v 0) (p.getD u 0)=ag:=λu v u1 u2 v1 v2=>by
  by_cases e:u=sa+na-1
  .rw [e];show c3 v v1 v2
  .exact O.tr _ _ _ (ua u (sa+na-1) u1 ∅ ∅) (c3 v v1 v2)
 show aZ (λe=>bq (h p g hp (λ_ _=>rfl) λu v u1 u2 v2=>?_)) λe2=>?_
 .have e:c=0:=by simpa using e
  by_cases c1:v<sa+na
  .exact ua u v u1 u2 c1
  .by_cases c2:u<sa+na
   .exact F3 u v u1 ∅ ∅ ∅
   .exact ub u v ∅ u2 ∅
 have e2:¬ c=0:=by simpa using e2
 -- what the merge leaves
 let x:=p.extract (sa+k) (sa+na)
 let y:=p.extract (sa+na) (sa+na+c)
 have xs:x.size=na-k:=by simp[x];lia
 have ys:y.size=c:=by simp[y];lia
 have xg:∀i,i<x.size->x.getD i 0=p.getD (sa+k+i) 0:=λi hi=>by rw[c8,c8,Gy,Z_ ∅]
 have yg:∀i,i<y.size->y.getD i 0=p.getD (sa+na+i) 0:=λi hi=>by rw[c8,c8,Gy,Z_ ∅]
 have fin:∀(r:Array dh) (g':Nat),Res lt it (x.toList++y.toList) r->wpS (au Ω w) A E s (do
   modify λs=>setArr s (r.toList.zipIdx.foldl (λa z=>a.setIfInBounds (sa+k+z.2) z.1) (arrOf s))
   return (failedOf (<- get)).isNone) Q (fL κ it p q' g'):=λr g' Qi=>by
  obtain⟨m,er,pm,um⟩:=Qi;have ms:m.size=na-k+c:=by have:=pm.length_eq;simpa[xs,ys] using this
  have hL:sa+k+m.size<=p.size:=by lia
  show bb (lj (bb (kr (bq ?_))));have es:setArr (fL κ it p q' g') (r.toList.zipIdx.foldl (λa z=>a.setIfInBounds (sa+k+z.2) z.1) (arrOf (fL κ it p q' g')))=fL κ it (seg p (sa+k) m) q' g':=by rw[er];show oi κ _ q' g' af=oi κ _ q' g' af;rw[<- Z4 it hL]
  rw[es];have mp:∀u,u<m.size ->∃v,sa+k<=v/\v<sa+na+c/\m.getD u 0=p.getD v 0:=λu hu=>by
   have:=pm.mem_iff.1 (VH hu);rcases gn.1 this with z|z
   .obtain ⟨v,_,v2,e⟩:=uU (i:=0) z;rw[e,xg v v2];show⟨_,by lia,by lia,rfl⟩
   .obtain ⟨v,_,v2,e⟩:=uU (i:=0) z;rw[e,yg v v2];show⟨_,by lia,by lia,rfl⟩
  have um:=xQ.1 um;show h _ g' ((VO hL ?_).trans hp) (λj hj=>by rw[CW hL,Zz ∅]) λu v u1 u2 v2=>?_
  .have:x++y=p.extract (sa+k) (sa+k+m.size):=by rw[show sa+k+m.size=sa+na+c by lia];simp only[x,y];rw[Array.extract_append_extract,a13 ∅,Nat.max_eq_right ∅]
   rw[<- this,Array.perm_iff_toList_perm,ue];show pm
  .rw [CW hL,CW hL];by_cases a1:u<sa+k
   .rw [Zz (show ¬ (sa+k<=u/\u<sa+k+m.size) by lia)];have F4:∀v,sa+k<=v->v<sa+na+nb->lt (p.getD v 0) (p.getD u 0)=ag:=λv v1 v2=>by
     by_cases z:v<sa+na
     .exact ua u v u1 ∅ z
     .exact F2 u v u1 a1 ∅ v2
    by_cases a2:sa+k<=v/\v<sa+k+m.size
    .rw [Z_ a2];obtain⟨z,z1,z2,e⟩:=mp (v-(sa+k)) ∅;rw[e];show F4 z z1 ∅
    .rw [Zz a2];by_cases a3:v<sa+k
     .exact ua u v u1 u2 ∅
     .exact F4 v ∅ ∅
   .by_cases a2:u<sa+k+m.size
    .rw [Z_ (show sa+k<=u/\u<sa+k+m.size by lia)];by_cases a3:v<sa+k+m.size
     .rw [Z_ (show sa+k<=v/\v<sa+k+m.size by lia)];show um _ _ ∅ ∅
     .rw [Zz (show ¬ (sa+k<=v/\v<sa+k+m.size) by lia)];obtain⟨z,z1,z2,e⟩:=mp (u-(sa+k)) ∅;rw[e];by_cases z3:z<sa+na
      .exact F3 z v ∅ z3 ∅ ∅
      .exact ub z v ∅ ∅ ∅
    .rw [Zz (show ¬ (sa+k<=u/\u<sa+k+m.size) by lia),Zz (show ¬ (sa+k<=v/\v<sa+k+m.size) by lia)];show ub u v ∅ u2 ∅
 have ex:(p.map (bo it)).extract (sa+k) (sa+na)=x.map (bo it):=by rw[qu]
 have ey:(p.map (bo it)).extract (sa+na) (sa+na+c)=y.map (bo it):=by rw[qu]
 rw[ex,ey];have an:∀i,i<x.size->x.getD i 0<n:=λi hi=>by rw[xg i hi];show hp.bd ∅
 have bn:∀i,i<y.size->y.getD i 0<n:=λi hi=>by rw[yg i hi];show hp.bd ∅
 have ux:Up lt x x.size:=λi j a b=>by rw[xg i ∅,xg j b];show ua _ _ ∅ ∅ ∅
 have uy:Up lt y y.size:=λi j a b=>by rw[yg i ∅,yg j b];show ub _ _ ∅ ∅ ∅
 have g1:∀i,i<x.size->lt (x.getD i 0) (y.getD 0 0)=ag:=λi hi=>by rw[xg i hi,yg 0 ∅];show O.as _ _ (k3 _ ∅ ∅)
 have g2:∀j,j<y.size->lt (x.getD (x.size-1) 0) (y.getD j 0)=ag:=λj hj=>by rw[xg _ ∅,yg j hj,show sa+k+(x.size-1)=sa+na-1 by lia];show O.as _ _ (c2 _ ∅ ∅)
 show aZ (λ_=>bb (Qk hA O ∅ ∅ an bn ux uy g1 (λz hz=>?_) fin)) λ_=>bb (Qj hA O ∅ ∅ an bn ux uy g1 g2 fin);obtain⟨j,_,j2,e⟩:=uU (i:=0) hz;rw[e];show g2 j j2
end
theorem AU{α:Type}{x y z:α}{l2:List α}:∀l1:List α,((l1++x::y::l2).set l1.length z).eraseIdx (l1.length+1)=l1++z::l2
 |[]=>rfl
 |a::l1=>congrArg (a :: ·) (AU l1)
noncomputable def Rn(lt:Nat->Nat->Bool)(p:Array Nat):List (Nat×Nat×Nat)->Nat->Nat->Prop
 |[],a,b=>a=b
 |r::l,a,b=>r.1=a/\1<=r.2.1/\C8 lt p a r.2.1/\Rn lt p l (a+r.2.1) b
section
variable{lt:Nat->Nat->Bool}{p p':Array Nat}
theorem Rn.len:∀{l:List (Nat×Nat×Nat)} {a b:Nat},Rn lt p l a b->a+l.length<=b
 |[],a,b,h=>lp h
 |r::l,a,b,⟨_,h1,_,h⟩=>by have:=Rn.len h;rw[fu];lia
theorem Rn.keep:∀{l:List (Nat×Nat×Nat)} {a b:Nat},Rn lt p l a b->(∀i,a<=i->i<b->p'.getD i 0=p.getD i 0)->Rn lt p' l a b
 |[],a,b,h,_=>h
 |r::l,a,b,⟨e,h1,u,h⟩,k=>by have:=Rn.len h;show⟨e,h1,λi j a1 a2 a3=>?_,h.keep λi a1 a2=>k i ∅ a2⟩;rw[k i a1 ∅,k j ∅ ∅];show u i j a1 a2 a3
theorem Rn.same:∀{l m:List (Nat×Nat×Nat)} {a b:Nat},Rn lt p l a b->l.map (λr=>(r.1,r.2.1))=m.map (λr=>(r.1,r.2.1))->Rn lt p m a b
 |[],m,a,b,h,e=>by
  cases m with
  |nil=>show h
  |cons _ _=>cases e
 |r::l,m,a,b,⟨e1,h1,u,h⟩,e=>by
  cases m with
  |nil=>cases e
  |cons r' m =>
   rw[bt,bt,a2r,Prod.mk.injEq] at e;obtain⟨⟨z1,z2⟩,z3⟩:=e;show⟨z1▸e1,z2▸h1,z2▸u,?_⟩;rw[<- z2];show h.same z3
theorem Rn.split:∀{l m:List (Nat×Nat×Nat)} {a b:Nat},Rn lt p (l++m) a b ->∃c,Rn lt p l a c/\Rn lt p m c b
 |[],m,a,b,h=>⟨a,rfl,h⟩
 |r::l,m,a,b,⟨e,h1,u,h⟩=>by obtain⟨c,x,y⟩:=Rn.split h;show⟨c,⟨e,h1,u,x⟩,y⟩
theorem Rn.join:∀{l m:List (Nat×Nat×Nat)} {a b c:Nat},Rn lt p l a c->Rn lt p m c b->Rn lt p (l++m) a b
 |[],m,a,b,c,h,k=>by cases h;show k
 |r::l,m,a,b,c,⟨e,h1,u,h⟩,k=>⟨e,h1,u,h.join k⟩
end
section
variable{Ω:bh}{w:az}{A:bu}{E:Q0c}{s:ak}{κ:mw}{it:Array dh}{n:Nat}{lt:Nat->Nat->Bool}{p:Array Nat}{q:Array (Nat×Nat×Nat)}{g:Nat}
theorem MD{i lo:Nat}{Q:Bool->cm->Prop}(hA:Asks Ω w A s κ it n lt)(O:jJ lt)(hp:Pn n p)(hq:Rn lt p q.toList 0 lo)(hlo:lo<=n)(hi:i+1<q.size)
  (h:∀p' q' g',Pn n p'->(∀j,lo<=j->p'.getD j 0=p.getD j 0)->Rn lt p' q'.toList 0 lo->q'.size+1=q.size->Q ae (fL κ it p' q' g')):
  wpS (au Ω w) A E s (mergeAt' i) Q (fL κ it p q g):=by
 obtain⟨⟨sa,na,pw⟩,h1⟩:∃x,q[i]?=aa x:=⟨_,ph ∅⟩;obtain⟨⟨sb,nb,pw'⟩,h2⟩:∃x,q[i+1]?=aa x:=⟨_,ph hi⟩;have g1:q.toList[i]?=aa (sa,na,pw):=by rw[pf];show h1
 have g2:q.toList[i+1]?=aa (sb,nb,pw'):=by rw[pf];show h2
 obtain⟨l1,l2,e,hl⟩:∃l1 l2,q.toList=l1++(sa,na,pw)::(sb,nb,pw')::l2/\l1.length=i:=by
  show⟨q.toList.take i,q.toList.drop (i+2),?_,by simp;lia⟩;obtain⟨hx,ex⟩:=cz.1 g1;obtain⟨hy,ey⟩:=cz.1 g2
  conv=>lhs;rw[<- qf i q.toList,ma hx,ma hy,ex,ey]
 rw[e] at hq;obtain⟨c,r1,e1,n1,u1,e2,n2,u2,r2⟩:=hq.split;dsimp only at e1 n1 u1 e2 n2 u2 r2;subst e1;subst e2;have b1:=r1.len;have b2:=r2.len;show VP hA O hp h1 h2 n1 n2 ∅ u1 u2 λp' g' hp' k u=>h p' _ g' hp' (λj hj=>k j ∅) ?_ ?_
 .have eq:((q.setIfInBounds i (sa,na+nb,pw)).eraseIdxIfInBounds (i+1)).toList=l1++(sa,na+nb,pw)::l2:=by
   have:((q.setIfInBounds i (sa,na+nb,pw)).eraseIdxIfInBounds (i+1)).toList=(q.toList.set i (sa,na+nb,pw)).eraseIdx (i+1):=by simp[a2M,hi]
   rw[this,e,<- hl];show AU l1
  rw[eq];show Rn.join (c:=sa) (r1.keep λj _ hj=>k j (.inl hj)) ⟨rfl,by dsimp only;lia,u,?_⟩;dsimp only;rw[<- Fm];show r2.keep λj hj _=>k j (.inr hj)
 .simp [a2M,hi];lia
def VQ{α β γ:Type}{F:β->γ->StateT cm fm α}{P:γ->cm->Prop}{m:StateT cm fm α}{Q:α->cm->Prop}{st:cm}{M:lh}(h1:∀x y st,P y st->wpS M A E s (F x y) Q st)(h2:(∀x y st,P y st->wpS M A E s (F x y) Q st)->wpS M A E s m Q st):wpS M A E s m Q st:=h2 h1
theorem Z7{Q:Unit->cm->Prop}(hA:Asks Ω w A s κ it n lt)(O:jJ lt)(hp:Pn n p)(h1:1<=n)
  (h:∀p' q' g',Pn n p'->C8 lt p' 0 n->Q () (fL κ it p' q' g')):wpS (au Ω w) A E s sortRuns' Q (fL κ it p #[] g):=by
 have hs:=hp.size;unfold sortRuns';show bb (kr ?_);simp -zeta -zetaHave only[Gv,hs]
 extract_lets
 show bb (je (ip (I:=λx c st=>∃p' q' g' lo,st=fL κ it p' q' g'/\c=(af,lo)/\Pn n p'/\Rn lt p' q'.toList 0 lo/\lo<=n/\(x<=lo\/lo=n)) (Q:=λc st=>∃p' q' g',st=fL κ it p' q' g'/\c=(af,n)/\Pn n p'/\Rn lt p' q'.toList 0 n) ?_ ?_ ⟨p,#[],g,0,rfl,rfl,hp,rfl,by lia,.inl (bp _)⟩) ?_)
 .rintro x c st _ (hx:x<n) ⟨p',q',g',lo,rfl,rfl,hp',hq,hlo,hxl⟩
  extract_lets -merge
  rename_i jp fo _;show aZ (λ(e:lo >= n)=>by
   have e2:lo=n:=by lia
   subst e2;show bq ⟨p',q',g',rfl,rfl,hp',hq⟩) λ(e:¬ lo >= n)=>?_
  show bb (VN hA O hp' ∅ λm p1 hp1 k1 m1 m2 u1=>?_);have hq1:=hq.keep (p':=p1) λi _ hi=>k1 i hi
  dsimp -zeta -zetaHave only
  extract_lets -merge
  show VQ (F:=jp) (P:=λm st=>∃p1,st=fL κ it p1 q' g'/\Pn n p1/\Rn lt p1 q'.toList 0 lo/\1<=m/\lo+m<=n/\C8 lt p1 lo m) (λ_ m st ⟨p1,est,hp1,hq1,m1,m2,u1⟩=>?_) λtO=>aZ (λe2=>?_) λe2=>tO () m _ ⟨p1,rfl,hp1,hq1,m1,m2,u1⟩
  .subst est;show bb (kr ?_)
   extract_lets -merge
   rename_i jp2;show VQ (F:=λ_:Unit=>jp2) (P:=λ_ st=>∃p2 q2 g2,st=fL κ it p2 q2 g2/\Pn n p2/\Rn lt p2 q2.toList 0 lo/\C8 lt p2 lo m) (λ_ _ st ⟨p2,q2,g2,est,hp2,hq2,u2⟩=>?_) λtO=>?_
   .subst est;show bb (lj (bq ⟨p2,q2.push (lo,m,0),g2,lo+m,rfl,rfl,hp2,?_,m2,by lia⟩));rw[Array.toList_push];show hq2.join ⟨rfl,m1,u2,rfl⟩
   .show wpS _ _ _ _ (match q'.back? with|some (s1,n1,_)=>_|_=>_) _ _
    cases hb:q'.back? with
    |none=>show tO () () _ ⟨p1,q',g',rfl,hp1,hq1,u1⟩
    |some r =>
     obtain⟨s1,n1,z1⟩:=r
     dsimp -zeta -zetaHave only
     extract_lets pw
     show bb (je (ip (I:=λx c st=>c.1=af /\∃p2 q2 g2,st=fL κ it p2 q2 g2/\Pn n p2/\Rn lt p2 q2.toList 0 lo/\C8 lt p2 lo m) (Q:=λc st=>c.1=af /\∃p2 q2 g2,st=fL κ it p2 q2 g2/\Pn n p2/\Rn lt p2 q2.toList 0 lo/\C8 lt p2 lo m) ?_ (λc st h=>h) ⟨rfl,p1,q',g',rfl,hp1,hq1,u1⟩) ?_)
     .rintro y ⟨_,_⟩ st _ hy ⟨rfl,p2,q2,g2,rfl,hp2,hq2,u2⟩;show bb (kr ?_);show wpS _ _ _ _ (match if q2.size>1 then q2[q2.size-2]? else af with|some (_,_,older)=>_|_=>_) _ _;by_cases c1:q2.size>1
      .rw [Z_ c1];obtain⟨⟨r1,r2,r3⟩,er⟩:∃r,q2[q2.size-2]?=aa r:=⟨_,ph ∅⟩;rw[er];show aZ (λ_=>bq ⟨rfl,p2,q2,g2,rfl,hp2,hq2,u2⟩) λ_=>bb (MD hA O hp2 hq2 ∅ (show q2.size-2+1<q2.size by lia) λp3 q3 g3 hp3 k3 hq3 _=>bq ⟨rfl,p3,q3,g3,rfl,hp3,hq3,λi j i1 i2 i3=>?_⟩);rw[k3 i i1,k3 j ∅];show u2 i j i1 i2 i3
      .rw [Zz c1];show bq ⟨rfl,p2,q2,g2,rfl,hp2,hq2,u2⟩
     .rintro ⟨_,_⟩ st ⟨rfl,p2,q2,g2,rfl,hp2,hq2,u2⟩;show bb (lj (tO () () _ ⟨p2,_,g2,rfl,hp2,hq2.same ?_,u2⟩));show tm λi=>?_;rw[dj,dj,pf,pf];show _=a1Q _ (q2.modify _ _)[i]?;rw[Array.getElem?_modify];split
      .cases q2[i]?<;>rfl
      .rfl
  .refine bb (og (jj ⟨rfl,?_⟩));have f1:m<=fo:=by show m<=min (n-lo) _;have:m<_:=e2;lia
   have f2:lo+fo<=n:=by show lo+min (n-lo) _<=n;lia
   show bb (Wh hA O hp1 f2 m1 f1 u1 λp2 hp2 k2 u2=>tO () fo _ ⟨p2,rfl,hp2,hq1.keep λi _ hi=>k2 i hi,by lia,f2,u2⟩)
 .rintro c st ⟨p',q',g',lo,rfl,rfl,hp',hq,hlo,(hxl:max 0 n<=lo\/lo=n)⟩;have e:lo=n:=by lia
  subst e;show⟨p',q',g',rfl,rfl,hp',hq⟩
 .rintro c st ⟨p1,q1,g1,rfl,rfl,hp1,hq1⟩;show bb (je (ip (I:=λx c st=>c.1=af /\∃p2 q2 g2,st=fL κ it p2 q2 g2/\Pn n p2/\Rn lt p2 q2.toList 0 n/\(q2.size<=1\/q2.size+x<=n)) (Q:=λc st=>c.1=af /\∃p2 q2 g2,st=fL κ it p2 q2 g2/\Pn n p2/\Rn lt p2 q2.toList 0 n/\q2.size<=1) ?_ ?_ ⟨rfl,p1,q1,g1,rfl,hp1,hq1,.inr (by have:=hq1.len;rw[gk] at this;lia)⟩) ?_)
  .rintro y ⟨_,_⟩ st _ hy ⟨rfl,p2,q2,g2,rfl,hp2,hq2,hz⟩;show bb (kr ?_)
   extract_lets
   show aZ (λ(e:q2.size<=1)=>bq ⟨rfl,p2,q2,g2,rfl,hp2,hq2,e⟩) λ(e:¬ q2.size<=1)=>?_;rename_i i1 bf i;have hi:∀(c:Prop) [Decidable c],(if c then q2.size-2-1 else q2.size-2)+1<q2.size:=λc _=>by split<;>lia
   show bb (MD hA O hp2 hq2 (bp _) (hi _) λp3 q3 g3 hp3 _ hq3 z3=>bq ⟨rfl,p3,q3,g3,rfl,hp3,hq3,by lia⟩)
  .rintro ⟨_,_⟩ st ⟨rfl,p2,q2,g2,rfl,hp2,hq2,(hz:q2.size<=1\/q2.size+max 0 n<=n)⟩;show⟨rfl,p2,q2,g2,rfl,hp2,hq2,by lia⟩
  .rintro ⟨_,_⟩ st ⟨rfl,p2,q2,g2,rfl,hp2,hq2,hz⟩;show bq (h p2 q2 g2 hp2 ?_);rw[<- gk] at hz
   cases hl:q2.toList with
   |nil =>
    rw[hl] at hq2;have:0=n:=hq2;lia
   |cons r l =>
    rw[hl] at hq2 hz
    cases l with
    |cons _ _=>simp at hz
    |nil =>
     obtain⟨_,_,u,e⟩:=hq2;have e:0+r.2.1=n:=e;rw[qc] at e
     rwa [e] at u
end
end L4
namespace L6
open PySem.Spec PyProof.Rows L2 L3 L4 PySem.W
section
variable{Ω:bh}{w:az}{A:bu}{E:Q0c}{s:ak}{vs:Q0f}{ns:Q0e}
abbrev ltZ(ns:Q0e)(i j:Nat):Bool:=Zv (ns.getD i 0<ns.getD j 0)
def Ri:jJ (ltZ ns):=⟨λa b h=>by simp at h ⊢;lia,λa b c h1 h2=>by simp at h1 h2 ⊢;lia⟩
theorem int_at:∀{vs:Q0f} {ns:Q0e},gu vs ns ->∀i,i<vs.length ->∃t,vs.getD i kn=.int (ns.getD i 0) t
 |_,_,.nil,i,hi=>Zw hi (Fg i)
 |_,_,.cons _ _ h,0,_=>⟨_,rfl⟩
 |_,_,.cons _ _ h,i+1,hi=>int_at h i (Nat.lt_of_succ_lt_succ hi)
def Wg(hI:gu vs ns):Asks Ω w A s oneType' (pairsOf vs) vs.length (ltZ ns):=λi j C hi hj hC=>by obtain⟨t,e1⟩:=int_at hI i hi;obtain⟨u,e2⟩:=int_at hI j hj;rw[<- kas_ask_eq];show ay (au Ω w) A (keyLt' oneType' (vs.getD i kn) (vs.getD j kn)) C (λ_ _=>False) s;rw[e1,e2,keyLt'_oneType];show oneLt_int hC
theorem AV(hI:gu vs ns):∀ix:List Nat,(∀i∈ix,i<vs.length)->gu (ix.map λi=>vs.getD i kn) (ix.map λi=>ns.getD i 0)
 |[],_=>.nil
 |i::ix,h=>by obtain⟨t,e⟩:=int_at hI i (h i cx);rw[bt,bt,e];show .cons _ t (AV hI ix λj hj=>h j (fq _ hj))
theorem VR{a:ah}{n:Nat}{P:xi->ak->Prop}(ho:s.heap.get? a=aa (seqObj "list" vs.toArray n))(hI:gu vs ns)(h2:2<=vs.length)(hz:vs.length<=5000)
  (h:∀(out:Array ai) (ns':Q0e),gu out.toList ns'->ns'.Perm ns->ns'.Pairwise (· <= ·)->P (.done (.ret .none)) {s with heap:=sortedHeap s.heap a vs out}):ay (au Ω w) A (Builtin.«list.sort» ⟨[.ref a],[]⟩) P E s:=by
 have ha:=b_ ho;obtain⟨e1,o1⟩:∃e1,(s.heap.update a (jl λ_=>#[])).get? a=aa (seqObj "list" #[] e1):=⟨_,a1J ho λ_=>#[]⟩;have o2:=dg (seqObj "list" #[] 0) (dg (seqObj "tuple" vs.toArray 0) o1);have zl:bg=16777216:=rfl;rw[a1G];show aq (a1H ho rfl (aq (xr ho rfl (aq (xq o1 rfl (aq (a0j (aq (q_ (h_ ?_) (jn _))) (by show vs.length<=_;lia))))) (by rw[ck];lia) (jn _))));have n2:¬ vs.toArray.size<2:=by rw[ck];lia
 dsimp only;rw[Zz n2,Zz n2];show aq (kas_kind (T:=.type "int") h2 (λv hv=>?_) rfl rfl ?_)
 .obtain ⟨i,hi,e⟩:=ly hv;obtain⟨t,et⟩:=int_at hI i hi;have:v=.int (ns.getD i 0) t:=by rw[<- et,<- e];simp[hi]
  rw[this];show a0W rfl
 have es:oi oneType' (vs.toArray.zip vs.toArray) #[] 7 af=fL oneType' (pairsOf vs) (de vs.length).toArray #[] 7:=by have e:=kas_range (pairsOf vs);rw[pairsOf_size] at e;unfold fL;rw[e];rfl
 rw[es];show aq (ja (Z7 (n:=vs.length) (lt:=ltZ ns) (Q:=λ_ st=>∃p' q' g',st=fL oneType' (pairsOf vs) p' q' g'/\Pn vs.length p'/\C8 (ltZ ns) p' 0 vs.length) (Wg hI) Ri (me _) ∅ λp' q' g' a b=>⟨p',q',g',rfl,a,b⟩) ?_ λ_ _ z=>z);rintro⟨⟨⟩,st⟩ s' ⟨rfl,p',q',g',est,hp,hu⟩;dsimp only at est;subst est;have hs:=hp.size;have out:(arrOf (fL oneType' (pairsOf vs) p' q' g')).map (·.2)=(p'.toList.map λi=>vs.getD i kn).toArray:=by show(p'.map (bo (pairsOf vs))).map (·.2)=_;apply a2E.1;rw[Array.map_map,a2D];show iy λi _=>by show(bo (pairsOf vs) i).2=_;rw[kas_item_eq]
 dsimp only;rw[out];show aq (xq o2 rfl (aq (xr o2 rfl ?_ (jn _) (by show(r_ _).size<=_;rw[ck,bj,gk];lia))));show ay _ _ (if(e1 !=e1)=ae then _ else _) _ _ _;rw[Zz (by simp)];have pl:p'.toList.Perm (de vs.length):=by simpa using hp.toList
 have nl:=Ez hI;show a_ (h _ (p'.toList.map λi=>ns.getD i 0) (AV hI _ λi hi=>by simpa using pl.mem_iff.1 hi) ?_ ?_)
 .have:ns=(de vs.length).map λi=>ns.getD i 0:=tm λi=>by
   rw[dj];by_cases hi:i<ns.length
   .rw [sy ∅];simp[hi]
   .rw [kz ∅,kz (by simp;lia)];rfl
  conv=>rhs;rw[this]
  show pl.map _
 .rw [Fq,yf];intro i j hi hj hij;rw[gk] at hi hj;have:=hu i j ∅ hij ∅;simpa[kb,hi,hj] using this
theorem Z8{t:ah}{Q:Q0c}(ht:gi s.heap t vs.toArray)(hv:gu vs ns)(hz:ns.length<=5000)
  (h:∀h' tk l out ns' e,(∀b u,s.heap.get? b=aa u->h'.get? b=aa u)->s.heap.objs.size<=l->gu out ns'->ns'.Perm ns->ns'.Pairwise (· <= ·)->h'.get? l=aa (seqObj "list" out.toArray e)->Q (.ref l) {s with heap:=h',toks:=tk}):
  ay (au Ω w) A (call (.builtin "sorted") [.ref t]) Q E s:=by
 have lv:=Ez hv;by_cases h2:vs.length<2
 .exact xM ht hv ∅ h
 have zl:bg=16777216:=rfl;apply Ef Em El Eo (Eu _);unfold Builtin.«sorted»;show aq (m:=checkCount "sorted" 1 1 _) (a_ (aq (tN (A:=A.in1) ht ∅ λh1 l1 keep=>?_)));apply aq;show q_ ?_ ∅;have g1:(h1.push (seqObj "list" vs.toArray 0)).get? h1.objs.size=aa (seqObj "list" vs.toArray 0):=gf _ rfl;show aq (h_ (lg Ek ⟨_,g1,rfl⟩ Ep (VR g1 hv ∅ ∅ λout ns' a1 a2 a3=>⟨_,rfl,?_⟩) (Ew _)));obtain⟨e,g2⟩:=a1C (out:=out) g1;show a_ ⟨_,rfl,h _ s.toks _ out.toList ns' e (λb u q=>?_) l1 a1 a2 a3 (by simpa using g2)⟩;have lb:=b_ (keep b u q);rw[a1B (fz lb) (by rw[qa];show qd lb)];show dg _ (keep b u q)
end
end L6
namespace L8
open PySem.Spec PyProof.Rows L2 L3 L4
def VS{K:ao}{T:ah->Prop}{H H':Hp}{p:ah}(wr:Wr H p)(nT:¬ T p)(hb:∀b u,b≠p->H b=aa u->H' b=aa u):Fits K T T H H':=by
 have ne:∀a,T a->a≠p:=λa t e=>nT (e▸t);have nt:∀a xs,H a=aa (.tup xs)->a≠p:=λa xs z y=>by subst y;rcases wr with⟨_,k⟩|⟨_,k⟩|⟨_,_,k⟩<;>rw[z] at k<;>cases k
 have nf:∀a o u,H a=aa (.tW o u)->a≠p:=λa o u z y=>by subst y;rcases wr with⟨_,k⟩|⟨_,k⟩|⟨_,_,k⟩<;>rw[z] at k<;>cases k
 show⟨λa xs z=>hb _ _ (nt a xs z) z,λa ns z=>z.elim (λ⟨o,y⟩=>.inl ⟨o,hb _ _ (nf a o _ y) y⟩) .inr,λa xs z s=>⟨hb _ _ (ne a s) z,s⟩,λa xs z s=>⟨hb _ _ (ne a s) z,s⟩,λa o xs z s=>⟨hb _ _ (ne a s) z,s⟩⟩
theorem AW{R:O8}{o:D}:∀{l:List D} {kd:KD} {r:List D×KD},foldM R o l kd=aa r->r.1.length=l.length
 |[],kd,r,h=>by cases h;rfl
 |v::l,kd,r,h=>by
  unfold foldM at h;split at h
  .obtain ⟨p,e,rfl⟩:=jm.1 h;rw[fu,fu,AW e]
  .cases h
section
variable{K:ao}{R:O8}{io il j:Nat}{H₀ H:Hp}{S:ah->Prop}{w:Nat->ah}{σ:L2.St}{ρ:bT}{G:List (D×V)}{o:D}{vs xs:List D}{q0:Nat->ax->Prop}{ks:List x5}{r:List D×KD}{ns:Q0e}{Q:VK}
abbrev Ba(K:ao)(R:O8)(io il j:Nat):TE:=E7 1 [io,j] (RN K (tY il)) (zV 0) (λ_ H Q=>Q ae H) (RV (VA K R) [] E0 (tD (tY 1) (tD (tY 0) (tD (tY 2) XX))))
theorem VT(st:ST K H₀ S w σ H ρ G)(eo:aB io (gQ ρ)=aa o)(el:aB il (gQ ρ)=aa (.lst vs))(o0:ρ[j]?=aa (.ow (.b7 q0 ks xs)))(hf:foldM R o vs (ks,xs)=aa r)(hn:r.1=ns.map D.int)(hz:vs.length<bg)
  (k:∀ψ H',H' ψ=aa (.lst (ns.map V.int))->ST K H₀ S w σ H' (ρ.set j (.ow (.b7 (adr q0) r.2.1 r.2.2))) G->Q (.ref ψ) H'):Ba K R io il j σ H Q:=by
 obtain⟨a0,b0,ob,χ,hp,⟨e5,hq⟩,dk⟩:=st.own j _ o0;subst e5;have wr:Wr H (w j):=.inr (.inr ⟨_,_,hp⟩);have nT:¬ SO S w ρ (w j):=λz=>z.2 j _ o0 rfl;have nl:ns.length=vs.length:=by have:=AW hf;rw[hn,bj] at this;show this
 have rd:=st.rd;obtain⟨vo,so,dno⟩:=rd io o (by unfold aB at eo;cases h:(gQ ρ)[io]? with|none=>rw[h] at eo;cases eo|some z=>rw[h] at eo;cases z with|none=>cases eo|some z=>cases eo;rfl);obtain⟨vl,sl,dl⟩:=rd il _ (by unfold aB at el;cases h:(gQ ρ)[il]? with|none=>rw[h] at el;cases el|some z=>rw[h] at el;cases z with|none=>cases el|some z=>cases el;rfl);symm at dl;obtain⟨l,us,rfl,hl,tl,du⟩:=dl;have lw:l≠w j:=λz=>nT (z▸tl);have ul:us.length=vs.length:=du.len.symm;show⟨_,sl,l,rfl,⟨_,fP.of hl⟩,λψ ha=>?_⟩;have al:l≠ψ:=λz=>by rw[z,ha] at hl;cases hl
 have ap:w j≠ψ:=λz=>by rw[z,ha] at hp;cases hp
 let T:ah->Prop:=λa=>SO S w ρ a/\a≠ψ
 have Hu:¬ T (w j):=λz=>nT z.1;have F0:Fits K (SO S w ρ) T H (upd H ψ (.lst [])):=(Fits.fresh ha).trans (.same (aN ha));show⟨λi mm H1 ys=>i+mm=vs.length /\∃kd1 r1,foldM R o (vs.drop i) kd1=aa r1/\r1.1=(ns.drop i).map D.int/\r1.2=r.2/\ys=(ns.take i).map V.int/\H1 ψ=aa (.lst ys)/\(∀b u,b≠w j->H b=aa u->H1 b=aa u) /\∃o1 JD,H1 (w j)=aa (.dX o1 JD)/\JD.map (·.1)=kd1.1/\aV K T H1 kd1.2 (JD.map (·.2.2)),
  ⟨vs.length,by lia,(χ.map (λz:KX×V×V=>z.1),xs),r,by rw[oy];show hf,hn,rfl,rfl,aO,λb u n h=>by rw[aQ (aY h ha)];show h,ob,χ,by rw[aQ ap];show hp,rfl,aV.fits F0 _ _ dk⟩,?_⟩
 rintro i mm H1 ys ⟨e1,kd1,r1,e2,e3,e4,e5,e6,e7,o1,JD,e8,e9,zk⟩;show⟨e6,?_⟩;have hl1:=e7 _ _ lw hl;by_cases hi:i<vs.length
 .refine .inr ⟨⟨_,us[i],fP.of hl1,by simp[ul,hi]⟩,λv H2 hy=>?_⟩;obtain⟨rfl,hy⟩:=hy;have hv:=hy _ (fP.of hl1);rw[cj ∅] at hv;cases hv;rw[ma hi] at e2;have hni:i<ns.length:=by lia
  rw[ma hni,bt] at e3;unfold foldM at e2;split at e2
  case h_2=>cases e2
  rename_i r2 hR;obtain⟨r3,H_,er⟩:=jm.1 e2;subst er;injection e3 with e3 e3';have F1:Fits K (SO S w ρ) (SO S w ρ) H H2:=VS wr nT e7;have F2:Fits K (SO S w ρ) T H H2:=⟨F1.t,F1.s,λa xs z s=>⟨(F1.l a xs z s).1,s,aY z ha⟩,λa xs z s=>⟨(F1.d a xs z s).1,s,aY z ha⟩,λa o xs z s=>⟨(F1.e a o xs z s).1,s,aY z ha⟩⟩;obtain⟨ui,hui,dvi⟩:=du.get (cj hi);rw[cj ∅] at hui;cases hui;show⟨by show[(σ[io]?).join,(σ[j]?).join]=_;rfl,?_⟩;show(if ae=ae then _ else _);rw[Z_ rfl];show⟨vo,by show aa ((σ[io]?).join)=_;rw[so];rfl,us[i],rfl,.ref (w j),by show aa ((σ[j]?).join)=_;rw[a0];rfl,?_⟩;show⟨T,[o,vs[i]],[vo,us[i]],w j,o1,JD,kd1.2,r2,rfl,λa z=>⟨st.ID a ?_,λy=>by rw[y,e6] at z;cases z⟩,Hu,e8,aV.cons (Dn.fits F2 _ _ dno) (aV.cons (Dn.fits F2 _ _ dvi) aV.nil),zk,by rw[e9];show hR,λv2 H' o' kvs' hb hp' ek dx dv=>?_⟩
  .cases h:H a with
   |none=>rfl
   |some u =>
    have na:a≠w j:=λy=>by rw[y,e8] at z;cases z
    rw[e7 a u na h] at z;cases z
  .rw [e3] at dv;symm at dv;subst dv;have ea:=hb _ _ ap.symm e6;have F3:Fits K T T H' (upd H' ψ (.lst (ys++[V.int ns[i]]))):=.upd (.inl ⟨_,ea⟩) λz=>z.2 rfl;show⟨ea,by rw[e5,bj,ig];lia,mm-1,by lia,by lia,r2.2,r3,H_,e3',e4,by rw[e5,List.take_succ_eq_append_getElem hni,gp];rfl,aO,λb u n h=>?_,o',kvs',by rw[aQ ap];show hp',ek,aV.fits F3 _ _ dx⟩;rw[aQ (aY h ha)];show hb _ _ n (e7 _ _ n h)
 .refine .inl ⟨⟨_,fP.of hl1,by lia⟩,k ψ H1 ?_ (AR st o0 e7 ⟨o1,JD,e8,⟨?_,ob,hq⟩,?_⟩)⟩
  .rw [e6,e5,qe ∅]
  .rw [tq ∅] at e2;cases e2;rw[e9,<- e4]
  .rw [tq ∅] at e2;cases e2;rw[<- e4];show aV.fits (.mono λa z=>z.1) _ _ zk
end
theorem Rh{X:Cx}{k:Nat}{ps fs:Q0g}{v:aj}{R:O8}{io il j:Nat}{y:aj}{sc:gd}{tg iter e:av}{es:List av}{p p2 ν cpos spos:br}(C:Cl X.Ω X.w X.K X.mg X.ω eR k y ps (VA X.K R))(hr:gF k X.A)(hc:X.calm=ae)(hm:X.mg "sum"=af)
  (hi:PI X tg iter (RN X.K (tY il))) (hg:∀cl C pn ex s H,PG (blk X ([v]++fs) sc cl C pn ex s H) tg (zV 0)) (ha:∀cl C pn ex s H,PA (blk X ([v]++fs) sc cl C pn ex s H) (e::es) (tD (tY 1) (tD (tY 0) (tD (tY 2) XX))))
  (hgy:∀cl C pn ex s H,Gl (blk X ([v]++fs) sc cl C pn ex s H) y) (he:∀cl C pn ex s H,ar (e::es) (blk X ([v]++fs) sc cl C pn ex s H).env=(ag,eval e (blk X ([v]++fs) sc cl C pn ex s H).env)::ar es (blk X ([v]++fs) sc cl C pn ex s H).env) (hpl:∀cl C pn ex s H,(cp cpos (ar es (blk X ([v]++fs) sc cl C pn ex s H).env)).any (·.1)=ag) (hdb:Zu y)
  (B:YQ X.env.scope.names sc X.N [v] fs [io,j]=ae:=by rfl) (hs:Zo X iter:=by intro _;rfl) (hgs:Gl X "sum":=by rfl):LN X (.Call (.Name "sum" p) [.ListComp (.Call (.Name y p2) (e::es) [] cpos) [⟨tg,iter,[],0⟩] sc ν] [] spos) (QR R io il j):=by
 obtain⟨F,hm2,hk,hb⟩:=C;show imp (iY (AE hc) hgs hm a1L (dG (LJ (g:=zV 0) (tf:=λ_ H Q=>Q ae H) hc (kQ B) hi hg (λcl C pn ex s H=>LI) (λcl C pn ex s H=>qD F hr (hgy cl C pn ex s H) hm2 hk hb .nil R9 (ha cl C pn ex s H) hdb (he cl C pn ex s H) (hpl cl C pn ex s H)) hs) iN)) ?_;rintro σ H Q ⟨H₀,S,w,ρ,G,Q3,hl2,st,⟨r,e,q⟩,k⟩;obtain⟨o,eo,f1⟩:=bnd e;obtain⟨l,el,f2⟩:=bnd f1;obtain⟨vs,ev,f3⟩:=bnd f2;obtain⟨⟨q0,ks,xs⟩,ed,f4⟩:=bnd f3;obtain⟨r2,ef,f5⟩:=bnd f4;obtain⟨ns,en,f6⟩:=bnd f5
 clear e f1 f2 f3 f4 f5
 have el2:l=.lst vs:=by cases l<;>first|cases ev;rfl|cases ev
 subst el2;by_cases hz:vs.length<lP
 .rw [Z_ hz] at f6;cases f6;show Ba X.K R io il j σ H λu H1=>u_ [u] H1 Q;show VT st eo el (uS ed) ef (ints_of en) (by rw[gc];show hz) λψ H' ha st'=>⟨ψ,ns,rfl,ha,k w (.int ns.sum) H' _ (.int ns.sum) st' (by symm) q⟩
 .rw [Zz hz] at f6;cases f6
end L8
namespace L6
open PySem.Spec PyProof.Rows L2 L3 L4
section
variable{X:Cx}
def Wf(K:ao):List V->Hp->VK->Prop:=λxs H Q=>∃(a:ah) (ns:Q0e),xs=[.ref a]/\fX K H a (ns.map V.int)/\ns.length<=5000 /\∀ns':Q0e,ns'.Perm ns->ns'.Pairwise (· <= ·) ->∀p,H p=af->Q (.ref p) (upd H p (.lst (ns'.map V.int)))
def JG:gM X (.builtin "sorted") (Wf X.K):=by
 intro π s σ H xs us Q I r h;obtain⟨a,ns,rfl,ha,hb,q⟩:=h;obtain⟨u,rfl,ru⟩:=vals1 r;cases ru;obtain⟨ι,rv,pl,hz⟩:=I.tuple ha;show Z8 pl (intsAre_of rv) hb λh' tk l out ns' e keep hl a1 a2 a3 g=>?_;have hz2:ns'.length<=bg:=by rw[a2.length_eq,gc];lia
 show⟨.ref l,_,I.laid (t':=tk) (a:=l) (o:=.lst (ns'.map V.int)) keep hl ⟨by rw[bj];show hz2,out,e,f7 a1,by simpa[seqObj] using g⟩,rfl,q ns' a2 a3 l (I.hok.fresh hl)⟩
def VU{p ν:br}{e:av}{t:AF}(hm:X.mg "sorted"=af)(ha:yP X [e] t)(hg:Gl X "sorted":=by rfl)(he:Zs X e []:=by rfl):
  j6 X (.Call (.Name "sorted" p) [e] [] ν) (eP p5 t) :=
 imp (iY JG hg hm xv ha (by decide) (by decide) he (by rfl)) λσ H Q Rf=>by
  obtain⟨S,ρ,Q3,fc,sl,⟨d,ed,q3⟩,k⟩:=Rf;obtain⟨ds,eds,ed⟩:=bnd ed;show⟨S,ρ,λes=>es=ds,fc,sl,⟨_,eds,rfl⟩,λvs H1 es s1 d1 q1=>?_⟩;subst q1;unfold p5 at ed;split at ed
  .obtain ⟨ns,e1,ed⟩:=bnd ed;by_cases hl:ns.length<=5000
   .rw [Z_ hl] at ed;cases ed;rw[ints_of e1] at d1;obtain⟨v,r,rfl,h1,h2⟩:=d1.bN;simp only[aV] at h2;subst h2;symm at h1;obtain⟨t1,xs,rfl,ht,dt⟩:=h1;rw[aV.ints.mp dt] at ht;show⟨t1,ns,rfl,fX.of ht,hl,λns' pm so l hl2=>?_⟩;cases l5 (pm.trans (kF _).symm) so (iU _);show k l _ _ _ (s1.free hl2) aO (s1.trans (aN hl2)) (aV.ints.mpr rfl) q3
   .rw [Zz hl] at ed;cases ed
  .cases ed
end
end L6
namespace K11
open L2 L3 L4 L6 L7 L8 L9 L5
def top(i : Nat):cf:=PySem.Challenge.pw_risecount_k11_goings_numbered.main.body.getD i (.Pass ⟨0,0,0,0⟩)
section
variable(P:bh)(w:az){K:ao}{mg:Q0d}(ω:ba)(kk:Nat)
def JH(F:Df K mg "ties_of" (top 16) ["order"])(fG:mg "sorted"=af)(cH:mg "tuple"=af)(gT:mg "enumerate"=af):Cl P w K mg ω eR (kk+1) "ties_of" ["order"] (gH K LL.iL):=by
 show xH (N:=["order","ties","b","row"]) F (λhr nd=>?_);show(bA (IU (i:=1) nd (pA aL))
  (bA (yR rfl ko (xF gT (aE (x4 0) aL)) (LP (i:=2) (j:=3) rfl nd)
   (aR (AH (Y9 (i:=1) (rX (j6.pe (jB (ls:=["a"]) (fs:=["b"]) (fr:=[2]) rfl (j8 (x4 3)) (λ_ _ _ _ _ _ nd=>fD (i:=0) nd (by decide)) (λ_ _ _ _ _ _=>lD) (λ_ _ _ _ _ _=>(m7 (aE (x4 0) (aE (x4 1) aL)))))))))))
  (aR (c9 (rW cH (aE (j6.pe (UP fG (aE (x4 1) aL))) aL))))))
def OX(F:Df K mg "joined" (top 20) ["ahead","thing"])(fG:mg "sorted"=af)(cH:mg "tuple"=af):Cl P w K mg ω eR (kk+1) "joined" ["ahead","thing"] (gH K LL.iW):=by show xH (N:=["ahead","thing"]) F (λhr nd=>?_);show(aR (c9 (rW cH (aE (j6.pe (U2 fG (aE (iQ (x4 0) (m7 (aE (x4 1) aL))) aL))) aL))))
def t9(F:Df K mg "ready_things" (top 19) ["order","ahead"])(iC:mg "all"=af)(bQ:mg "len"=af)(bF:mg "range"=af):Cl P w K mg ω eR (kk+1) "ready_things" ["order","ahead"] (gH K LL.bY):=by
 show xH (N:=["order","ahead","others"]) F (λhr nd=>?_);show(bA (nX (i:=2) (ls:=["thing"]) (fs:=["ahead"]) (fr:=[1]) nd rfl (fS bF (kR bQ (aE (x4 0) aL))) (λ_ _ _ _ _ _ nd=>fD (i:=0) nd (by decide)) (λ_ _ _ _ _ _=>m9 (T7 (x4 0) (x4 1))) (λ_ _ _ _ _ _=>(x4 0)))
  (aR (c9 (j6.pe (jB (ls:=["thing"]) (fs:=["ahead","order"]) (fr:=[1,0]) rfl (j8 (x4 2)) (λ_ _ _ _ _ _ nd=>fD (i:=0) nd (by decide)) (λ_ _ _ _ _ _=>m9 (m6 (OC rfl iC (aE (j6.pe (jB (ls:=["lower"]) (fs:=["ahead"]) (fr:=[1]) rfl (j8 (j7 (x4 2) (x4 0))) (λ_ _ _ _ _ _ nd=>fD (i:=0) nd (by decide)) (λ_ _ _ _ _ _=>lD) (λ_ _ _ _ _ _=>(in4 (x4 0) (x4 1))))) aL)))) (λ_ _ _ _ _ _=>(x4 0)))))))
theorem qW(F:Df K mg "find_ways" (top 22) ["order","ahead","ways"])(c5:Cl P w K mg ω eR kk "ready_things" ["order","ahead"] (gH K LL.bY))(lH:Cl P w K mg ω eR kk "joined" ["ahead","thing"] (gH K LL.iW))(jC:mg "sum"=af)(bQ:mg "len"=af):∀n:Nat,Cl P w K mg ω eR (kk+n) "find_ways" ["order","ahead","ways"] (VA K (cD n))
 |0=>nnM F
 |n+1=>by
  have nE:=qW F c5 lH jC bQ n;have c5:=c5.up (Fi kk n);have lH:=lH.up (Fi kk n);show fdM (N:=["order","ahead","ways","further"]) F (λhr nd=>?_);show⟨_,(DK (fQ (oZ (kR bQ (aE (x4 1) aL)) (kR bQ (aE (x4 0) aL)))
   (aR (U9 (i:=2) (u2 hr) (rX i4) (x4 1)))
   gG)
  (Qs (j:=2) (u2 hr) (fQ (Ws (u2 hr) (x4 1) (x4 2))
   (bA (nX (i:=3) (ls:=["thing"]) (fs:=["ahead"]) (fr:=[1]) nd rfl (j8 (bL c5 hr (aE (x4 0) (aE (x4 1) aL)))) (λ_ _ _ _ _ _ nd=>fD (i:=0) nd (by decide)) (λ_ _ _ _ _ _=>lD) (λ_ _ _ _ _ _=>(bL lH hr (aE (x4 1) (aE (x4 0) aL)))))
   (aR (U9 (i:=2) (u2 hr) (Rh (v:="longer") (fs:=["order","ways"]) (io:=0) (il:=3) (j:=2) nE hr rfl jC (XN (jZ (i:=3) rfl (by first|show .inl rfl|show .inr (.inl rfl)|show .inr (.inr rfl)))) (λ_ _ _ _ _ _=>lY (i:=0) (show(["longer","order","ways"]:Q0g).Nodup by decide+kernel) rfl (.inl rfl)) (λ_ _ _ _ _ _=>dG (jZ (i:=1) rfl (by first|show .inl rfl|show .inr (.inl rfl)|show .inr (.inr rfl))) (dG (jZ (i:=0) rfl (.inl rfl)) (dG (jZ (i:=2) rfl (by first|show .inl rfl|show .inr (.inl rfl)|show .inr (.inr rfl))) iN))) (λ_ _ _ _ _ _=>rfl) (λ_ _ _ _ _ _=>rfl) (λ_ _ _ _ _ _=>rfl) (by decide)) (x4 1))))
   gG) (x4 1)))⟩
def JI(F:Df K mg "ways_on" (top 21) ["order"])(nE:Cl P w K mg ω eR kk "find_ways" ["order","ahead","ways"] (VA K (cD 11))):Cl P w K mg ω eR (kk+1) "ways_on" ["order"] (gH K fZ):=by
 show xH (N:=["order","ways"]) F (λhr nd=>?_);show(bA (Qz (i:=1) nd)
  (bA (Jg (j:=1) nE hr (Bh (x4 0) (Bh (m7 aL) (Qw (j:=1)))))
  (aR (c9 (x4 1)))))
def xR(F:Df K mg "goings_many" (top 18) ["order"])(lI:Cl P w K mg ω eR kk "ways_on" ["order"] (gH K fZ)):Cl P w K mg ω eR (kk+1) "goings_many" ["order"] (gH K gL):=by show xH (N:=["order"]) F (λhr nd=>?_);show(aR (c9 (U7 (u2 hr) (bL lI hr (aE (x4 0) aL)) (m7 aL))))
def sD(F:Df K mg "ways_ahead_of" (top 25) ["order","ways","ahead","thing"])(lH:Cl P w K mg ω eR kk "joined" ["ahead","thing"] (gH K LL.iW))(c5:Cl P w K mg ω eR kk "ready_things" ["order","ahead"] (gH K LL.bY))(jC:mg "sum"=af):Cl P w K mg ω eR (kk+1) "ways_ahead_of" ["order","ways","ahead","thing"] (gH K bV):=by
 show xH (N:=["order","ways","ahead","thing","lesser"]) F (λhr nd=>?_);show(bA (nX (i:=4) (ls:=["other"]) (fs:=["thing"]) (fr:=[3]) nd rfl (j8 (bL c5 hr (aE (x4 0) (aE (x4 2) aL)))) (λ_ _ _ _ _ _ nd=>fD (i:=0) nd (by decide)) (λ_ _ _ _ _ _=>m9 (Y2 (x4 0) (x4 1))) (λ_ _ _ _ _ _=>(x4 0)))
  (aR (c9 (Y8 rfl jC (aE (j6.pe (jB (ls:=["other"]) (fs:=["ways","ahead"]) (fr:=[1,2]) rfl (j8 (x4 4)) (λ_ _ _ _ _ _ nd=>fD (i:=0) nd (by decide)) (λ_ _ _ _ _ _=>lD) (λ_ _ _ _ _ _=>(U7 (u2 hr) (x4 1) (bL lH hr (aE (x4 2) (aE (x4 0) aL))))))) aL)))))
def GB(F:Df K mg "thing_at" (top 24) ["order","ways","ahead","rest"])(fH:Cl P w K mg ω eR kk "ways_ahead_of" ["order","ways","ahead","thing"] (gH K bV))(c5:Cl P w K mg ω eR kk "ready_things" ["order","ahead"] (gH K LL.bY))(VW:mg "max"=af):Cl P w K mg ω eR (kk+1) "thing_at" ["order","ways","ahead","rest"] (gH K jW):=by
 show xH (N:=["order","ways","ahead","rest","ready"]) F (λhr nd=>?_);show(bA (dH (i:=4) nd (bL c5 hr (aE (x4 0) (aE (x4 2) aL))))
  (aR (c9 (Qo rfl VW (aE (j6.pe (jB (ls:=["thing"]) (fs:=["rest","order","ways","ahead"]) (fr:=[3,0,1,2]) rfl (j8 (x4 4)) (λ_ _ _ _ _ _ nd=>fD (i:=0) nd (by decide)) (λ_ _ _ _ _ _=>m9 (Jv (bL fH hr (aE (x4 2) (aE (x4 3) (aE (x4 4) (aE (x4 0) aL))))) (x4 1))) (λ_ _ _ _ _ _=>(x4 0)))) aL)))))
def GC(F:Df K mg "going_at" (top 23) ["order","number"])(fH:Cl P w K mg ω eR kk "ways_ahead_of" ["order","ways","ahead","thing"] (gH K bV))(JJ:Cl P w K mg ω eR kk "thing_at" ["order","ways","ahead","rest"] (gH K jW))(lI:Cl P w K mg ω eR kk "ways_on" ["order"] (gH K fZ)){aJ:ah}(eO:mg "NoNumber"=aa (.ref aJ))(pE:ZE K aJ)(bQ:mg "len"=af)(bF:mg "range"=af):Cl P w K mg ω (C7 P w) (kk+1) "going_at" ["order","number"] (ZD K mg dM):=by
 show fd5 (N:=["order","number","ways","going","rest","step","thing"]) F (λhr nd=>?_);show(bA (dH (i:=2) nd (bL lI hr (aE (x4 0) aL)))
  (bA (fQ (m5 (Y5 Bs RQ Ss Su i4 (x4 1) (U7 (u2 hr) (x4 2) (m7 aL))))
   (aR (US rfl rfl eO pE (aE s4 aL)))
   gG)
  (bA (dH (i:=3) nd (m7 aL))
  (bA (dH (i:=4) nd (x4 1))
  (bA (Ry (yR rfl ko (fS bF (kR bQ (aE (x4 0) aL))) (qO (i:=5) nd)
   (bA (dH (i:=6) nd (bL JJ hr (aE (x4 0) (aE (x4 2) (aE (x4 3) (aE (x4 4) aL))))))
   (bA (dH (i:=4) nd (xB (x4 4) (bL fH hr (aE (x4 0) (aE (x4 2) (aE (x4 3) (aE (x4 6) aL)))))))
   (aR (dH (i:=3) nd (iQ (x4 3) (m7 (aE (x4 6) aL)))))))))
  (aR (c9 (x4 3))))))))
def GD(F:Df K mg "is_going" (top 27) ["order","going"])(OY:Cl P w K mg ω eR kk "ties_of" ["order"] (gH K LL.iL))(iC:mg "all"=af)(fG:mg "sorted"=af)(bQ:mg "len"=af)(l6:mg "list"=af)(bF:mg "range"=af):Cl P w K mg ω eR (kk+1) "is_going" ["order","going"] (gH K jX):=by
 show xH (N:=["order","going"]) F (λhr nd=>?_);show(bA (fQ (Sa (u9 hr) (j6.pe (VU fG (aE (x4 1) aL))) (j6.pe (xE rfl l6 bF (aE (kR bQ (aE (x4 0) aL)) aL))))
   (aR (c9 b4))
   gG)
  (aR (c9 (OC rfl iC (aE (j6.pe (jB (ls:=["a","b"]) (fs:=["going"]) (fr:=[1]) rfl (j8 (bL OY hr (aE (x4 0) aL))) (λ_ _ _ _ _ _ nd=>UC (i:=0) (j:=1) rfl nd (by decide) (by decide)) (λ_ _ _ _ _ _=>lD) (λ_ _ _ _ _ _=>(lt4 (MC (x4 2) (x4 0)) (MC (x4 2) (x4 1)))))) aL)))))
def uA(F:Df K mg "going_number" (top 26) ["order","going"])(fH:Cl P w K mg ω eR kk "ways_ahead_of" ["order","ways","ahead","thing"] (gH K bV))(lI:Cl P w K mg ω eR kk "ways_on" ["order"] (gH K fZ))(JK:Cl P w K mg ω eR kk "is_going" ["order","going"] (gH K jX)){aK:ah}(fM:mg "NoGoing"=aa (.ref aK))(sE:ZE K aK)(gT:mg "enumerate"=af)(jC:mg "sum"=af):Cl P w K mg ω (C7 P w) (kk+1) "going_number" ["order","going"] (ZD K mg bZ):=by
 show fd5 (N:=["order","going","ways"]) F (λhr nd=>?_);show(bA (fQ (m5 (m6 (bL JK hr (aE (x4 0) (aE (x4 1) aL)))))
   (aR (US rfl rfl fM sE (aE s4 aL)))
   gG)
  (bA (dH (i:=2) nd (bL lI hr (aE (x4 0) aL)))
  (aR (c9 (Y8 rfl jC (aE (j6.pe (jB (ls:=["place","thing"]) (fs:=["order","ways","going"]) (fr:=[0,2,1]) rfl (xF gT (aE (x4 1) aL)) (λ_ _ _ _ _ _ nd=>UC (i:=0) (j:=1) rfl nd (by decide) (by decide)) (λ_ _ _ _ _ _=>lD) (λ_ _ _ _ _ _=>(bL fH hr (aE (x4 2) (aE (x4 3) (aE (sl4 (x4 4) no4 (po4 (x4 0))) (aE (x4 1) aL)))))))) aL))))))
def OZ(F:Df K mg "_law_cell" (top 29) ["_law_script","_law_k"])(bQ:mg "len"=af):Cl P w K mg ω eR (kk+1) "_law_cell" ["_law_script","_law_k"] (gH K LL.gI):=by
 show xH (N:=["_law_script","_law_k"]) F (λhr nd=>?_);show(bA (fQ (oZ (kR bQ (aE (x4 0) aL)) i4)
   (aR (c9 i4))
   gG)
  (aR (c9 (j7 (x4 0) (iA (x4 1) (kR bQ (aE (x4 0) aL)))))))
def JL(F:Df K mg "_law_mixed" (top 30) ["_law_cell_here","_law_k","_law_salt"]):Cl P w K mg ω eR (kk+1) "_law_mixed" ["_law_cell_here","_law_k","_law_salt"] (gH K LL.fJ):=by
 show xH (N:=["_law_cell_here","_law_k","_law_salt","_law_one","_law_two"]) F (λhr nd=>?_);show(bA (dH (i:=3) nd (iA (yQ (iQ (iQ (iQ (x4 0) (yQ (yQ i4 (x4 1)) (x4 1))) (yQ i4 (x4 1))) (x4 2)) i4) i4))
  (bA (dH (i:=4) nd (iA (iQ (iQ (yQ (x4 3) (iQ (Y0 (x4 3) i4) i4)) (yQ i4 (x4 1))) (x4 2)) i4))
  (aR (c9 (iA (yQ (x4 4) i4) i4)))))
def JM(F:Df K mg "_law_draws" (top 31) ["_law_cell_here","_law_many","_law_salt"])(sF:Cl P w K mg ω eR kk "_law_mixed" ["_law_cell_here","_law_k","_law_salt"] (gH K LL.fJ))(bF:mg "range"=af):Cl P w K mg ω eR (kk+1) "_law_draws" ["_law_cell_here","_law_many","_law_salt"] (gH K LL.fK):=by
 show xH (N:=["_law_cell_here","_law_many","_law_salt","_law_found","_law_left","_law_k"]) F (λhr nd=>?_);show(bA (IU (i:=3) nd (pA aL))
  (bA (dH (i:=4) nd i4)
  (bA (fQ (uw (x4 0) (Y1 i4 i4))
   (aR (dH (i:=4) nd (x4 0)))
   gG)
  (bA (yR rfl ko (fS bF (x4 1)) (qO (i:=5) nd)
   (aR (fQ (uz (x4 4) i4)
    (bA (AH (UD (i:=3) (rX (iA (x4 4) i4))))
    (aR (dH (i:=4) nd (Y0 (x4 4) i4))))
    (aR (AH (UD (i:=3) (rX (bL sF hr (aE (x4 0) (aE (x4 5) (aE (x4 2) aL)))))))))))
  (aR (c9 (x4 3)))))))
def JN(F:Df K mg "_law_great" (top 32) ["_law_cell_here","_law_most","_law_salt"])(sF:Cl P w K mg ω eR kk "_law_mixed" ["_law_cell_here","_law_k","_law_salt"] (gH K LL.fJ))(bF:mg "range"=af):Cl P w K mg ω eR (kk+1) "_law_great" ["_law_cell_here","_law_most","_law_salt"] (gH K LL.jM):=by
 show xH (N:=["_law_cell_here","_law_most","_law_salt","_law_found","_law_k"]) F (λhr nd=>?_);show(bA (fQ (uw (x4 0) (Y1 i4 i4))
   (aR (c9 (iA (Y0 (x4 0) i4) (x4 1))))
   gG)
  (bA (dH (i:=3) nd i4)
  (bA (yR rfl ko (fS bF i4) (qO (i:=4) nd)
   (aR (dH (i:=3) nd (iQ (yQ (x4 3) i4) (bL sF hr (aE (x4 0) (aE (x4 4) (aE (x4 2) aL))))))))
  (aR (c9 (iA (x4 3) (x4 1)))))))
theorem AX(F:Df K mg "_law_same" (top 33) ["_law_found","_law_due"])(aF:mg "isinstance"=af)(ME:mg "str"=af)(tP:mg "int"=af)(l7:mg "bool"=af)(cH:mg "tuple"=af)(bQ:mg "len"=af)(bF:mg "range"=af)(iC:mg "all"=af):∀n:Nat,Cl P w K mg ω eR (kk+n) "_law_same" ["_law_found","_law_due"] (gH K (LL.cL n))
 |0=>nn4 F
 |n+1=>by
  have lJ:=AX F aF ME tP l7 cH bQ bF iC n;show xH (N:=["_law_found","_law_due"]) F (λhr nd=>?_);show(bA (fQ (m6 (xD C6.t aF cH xu (x4 1)))
   (bA (fQ (GK.pt (FH (m5 (m6 (xD C6.t aF cH xu (x4 0)))) (N2 (Y3 (kR bQ (aE (x4 0) aL)) (kR bQ (aE (x4 1) aL))))))
    (aR (c9 b4))
    gG)
   (aR (c9 (OC rfl iC (aE (j6.pe (jB (ls:=["_law_k"]) (fs:=["_law_found","_law_due"]) (fr:=[0,1]) rfl (fS bF (kR bQ (aE (x4 1) aL))) (λ_ _ _ _ _ _ nd=>fD (i:=0) nd (by decide)) (λ_ _ _ _ _ _=>lD) (λ_ _ _ _ _ _=>(bL lJ hr (aE (j7 (x4 1) (x4 0)) (aE (j7 (x4 2) (x4 0)) aL)))))) aL)))))
   gG)
  (bA (fQ (Jt (x4 1) n4)
   (aR (c9 (is4 (x4 0) n4)))
   gG)
  (bA (fQ (m6 (xD C6.b aF l7 xw (x4 1)))
   (aR (c9 (CI (xD C6.b aF l7 xw (x4 0)) (IP (eq4 (x4 0) (x4 1))))))
   gG)
  (bA (fQ (m6 (xD C6.i aF tP Et (x4 1)))
   (aR (c9 (CI (xD C6.i aF tP Et (x4 0)) (CI (Jo (xD C6.b aF l7 xw (x4 0))) (IP (eq4 (x4 0) (x4 1)))))))
   gG)
  (aR (c9 (CI (xD C6.s aF ME a3M (x4 0)) (IP (eq4 (x4 0) (x4 1))))))))))
def JO(F:Df K mg "_law_order" (top 34) ["_law_draws_here","_law_n","_law_thick"])(bF:mg "range"=af)(fG:mg "sorted"=af)(cH:mg "tuple"=af)(bQ:mg "len"=af)(l6:mg "list"=af):Cl P w K mg ω eR (kk+1) "_law_order" ["_law_draws_here","_law_n","_law_thick"] (gH K LL.kT):=by
 show xH (N:=["_law_draws_here","_law_n","_law_thick","_law_rest","_law_word_here","_law_k","_law_low","_law_at_here","_law_j","_law_under","_law_i"]) F (λhr nd=>?_);show(bA (IU (i:=3) nd (xE rfl l6 bF (aE (x4 1) aL)))
  (bA (IU (i:=4) nd (pA aL))
  (bA (yR rfl ko (fS bF (x4 1)) (qO (i:=5) nd)
   (aR (AH (UD (i:=4) (Ih (i:=3) (px4 (iA (j7 (x4 0) (x4 5)) (kR bQ (aE (x4 3) aL)))))))))
  (bA (UE (i:=6) nd)
  (bA (dH (i:=7) nd (x4 1))
  (bA (yR rfl ko (fS bF (x4 1)) (qO (i:=8) nd)
   (bA (dH (i:=9) nd (j6.pe (pA aL)))
   (bA (yR rfl ko (fS bF (x4 8)) (qO (i:=10) nd)
    (bA (fQ (Y2 (iA (j7 (x4 0) (x4 7)) i4) (x4 2))
     (aR (Sn (i:=9) nd (Co (x4 9) (j6.pe (jB (ls:=["_law_a"]) (fs:=["_law_under"]) (fr:=[9]) rfl (j8 (iQ (zw (u1 hr) (x4 6) (j7 (x4 4) (x4 10))) (j6.pe (pA (aE (j7 (x4 4) (x4 10)) aL))))) (λ_ _ _ _ _ _ nd=>fD (i:=0) nd (by decide)) (λ_ _ _ _ _ _=>m9 (T7 (x4 0) (x4 1))) (λ_ _ _ _ _ _=>(x4 0)))))))
     gG)
    (aR (dH (i:=7) nd (iQ (x4 7) i4)))))
   (aR (Tv (i:=6) (u1 hr) (rX (x4 9)) (j7 (x4 4) (x4 8)))))))
  (aR (c9 (rW cH (aE (j6.pe (jB (ls:=["_law_b"]) (fs:=["_law_low"]) (fr:=[6]) rfl (fS bF (x4 1)) (λ_ _ _ _ _ _ nd=>fD (i:=0) nd (by decide)) (λ_ _ _ _ _ _=>lD) (λ_ _ _ _ _ _=>(rW cH (aE (j6.pe (Y6 fG (aE (zw (u1 hr) (x4 1) (x4 0)) aL))) aL))))) aL))))))))))
def JP(F:Df K mg "_law_drawn" (top 35) ["_law_script","_law_k","_law_most","_law_salt"])(O0:Cl P w K mg ω eR kk "_law_order" ["_law_draws_here","_law_n","_law_thick"] (gH K LL.kT))(jP:Cl P w K mg ω eR kk "_law_draws" ["_law_cell_here","_law_many","_law_salt"] (gH K LL.fK))(lK:Cl P w K mg ω eR kk "_law_cell" ["_law_script","_law_k"] (gH K LL.gI)):Cl P w K mg ω eR (kk+1) "_law_drawn" ["_law_script","_law_k","_law_most","_law_salt"] (gH K LL.kU):=by
 show xH (N:=["_law_script","_law_k","_law_most","_law_salt","_law_head","_law_n","_law_draws_here"]) F (λhr nd=>?_);show(bA (dH (i:=4) nd (bL jP hr (aE (bL lK hr (aE (x4 0) (aE (x4 1) aL))) (aE i4 (aE (x4 3) aL)))))
  (bA (dH (i:=5) nd (iA (j7 (x4 4) i4) (iQ (x4 2) i4)))
  (bA (dH (i:=6) nd (bL jP hr (aE (bL lK hr (aE (x4 0) (aE (iQ (x4 1) i4) aL))) (aE (iQ (x4 5) (Y0 (yQ (x4 5) (xB (x4 5) i4)) i4)) (aE (iQ (x4 3) i4) aL)))))
  (aR (c9 (bL O0 hr (aE (x4 6) (aE (x4 5) (aE (j7 (j6.pe (pA (aE i4 (aE i4 (aE i4 (aE i4 (aE i4 (aE i4 (aE i4 (aE i4 aL)))))))))) (iA (j7 (x4 4) i4) i4)) aL)))))))))
def JQ(F:Df K mg "_law_masks" (top 36) ["_law_order_here"])(jC:mg "sum"=af):Cl P w K mg ω eR (kk+1) "_law_masks" ["_law_order_here"] (gH K LL.k6):=by show xH (N:=["_law_order_here"]) F (λhr nd=>?_);show(aR (c9 (j6.pe (jB (ls:=["_law_row"]) (fs:=[]) (fr:=[]) rfl (j8 (x4 0)) (λ_ _ _ _ _ _ nd=>fD (i:=0) nd (by decide)) (λ_ _ _ _ _ _=>lD) (λ_ _ _ _ _ _=>(Y8 rfl jC (aE (j6.pe (jB (ls:=["_law_a"]) (fs:=[]) (fr:=[]) rfl (j8 (x4 0)) (λ_ _ _ _ _ _ nd=>fD (i:=0) nd (by decide)) (λ_ _ _ _ _ _=>lD) (λ_ _ _ _ _ _=>(VD i4 (x4 0))))) aL)))))))
def uB(F:Df K mg "_law_going_ways" (top 37) ["_law_order_here"])(O1:Cl P w K mg ω eR kk "_law_masks" ["_law_order_here"] (gH K LL.k6))(bF:mg "range"=af)(iC:mg "all"=af)(jC:mg "sum"=af)(bQ:mg "len"=af):Cl P w K mg ω eR (kk+1) "_law_going_ways" ["_law_order_here"] (gH K fV):=by
 show xH (N:=["_law_order_here","_law_masks_here","_law_n","_law_ways","_law_turn","_law_mask","_law_nexts"]) F (λhr nd=>?_);show(bA (dH (i:=1) nd (bL O1 hr (aE (x4 0) aL)))
  (bA (dH (i:=2) nd (kR bQ (aE (x4 0) aL)))
  (bA (Wq (i:=3) (u1 hr) nd (xB (VD i4 (x4 2)) i4) i4)
  (bA (yR rfl ko (fS bF (xB (VD i4 (x4 2)) i4)) (qO (i:=4) nd)
   (bA (dH (i:=5) nd (xB (xB (VD i4 (x4 2)) i4) (x4 4)))
   (aR (fQ (m6 (OC rfl iC (aE (j6.pe (jB (ls:=["_law_b"]) (fs:=["_law_mask","_law_masks_here"]) (fr:=[5,1]) rfl (fS bF (x4 2)) (λ_ _ _ _ _ _ nd=>fD (i:=0) nd (by decide)) (λ_ _ _ _ _ _=>m9 (oZ (MB (zr (x4 1) (x4 0)) i4) i4)) (λ_ _ _ _ _ _=>(eq4 (MB (j7 (x4 2) (x4 0)) (x4 1)) (j7 (x4 2) (x4 0)))))) aL)))
    (bA (nX (i:=6) (ls:=["_law_b"]) (fs:=["_law_mask","_law_masks_here"]) (fr:=[5,1]) nd rfl (fS bF (x4 2)) (λ_ _ _ _ _ _ nd=>fD (i:=0) nd (by decide)) (λ_ _ _ _ _ _=>m9 (GK.pt (Cj (oZ (MB (zr (x4 1) (x4 0)) i4) i4) (Ck (oZ (MB (j7 (x4 2) (x4 0)) (x4 1)) (j7 (x4 2) (x4 0))))))) (λ_ _ _ _ _ _=>(x4 0)))
    (aR (U9 (i:=3) (u2 hr) (px4 (Y8 rfl jC (aE (j6.pe (jB (ls:=["_law_b"]) (fs:=["_law_ways","_law_mask"]) (fr:=[3,5]) rfl (j8 (x4 6)) (λ_ _ _ _ _ _ nd=>fD (i:=0) nd (by decide)) (λ_ _ _ _ _ _=>lD) (λ_ _ _ _ _ _=>(U7 (u2 hr) (x4 1) (Je (x4 2) (VD i4 (x4 0))))))) aL))) (x4 5))))
    gG))))
  (aR (c9 (U7 (u2 hr) (x4 3) i4)))))))
def O2(F:Df K mg "_law_word" (top 38) ["_law_order_here","_law_draws_here"])(cH:mg "tuple"=af)(bQ:mg "len"=af)(bF:mg "range"=af)(iC:mg "all"=af):Cl P w K mg ω eR (kk+1) "_law_word" ["_law_order_here","_law_draws_here"] (gH K LL.k8):=by
 show xH (N:=["_law_order_here","_law_draws_here","_law_found","_law_k","_law_nexts"]) F (λhr nd=>?_);show(bA (IU (i:=2) nd (pA aL))
  (bA (yR rfl ko (fS bF (kR bQ (aE (x4 0) aL))) (qO (i:=3) nd)
   (bA (I0 (i:=4) (ls:=["_law_b"]) (fs:=["_law_found","_law_order_here"]) (fr:=[2,0]) nd rfl (fS bF (kR bQ (aE (x4 0) aL))) (λ_ _ _ _ _ _ nd=>fD (i:=0) nd (by decide)) (λ_ _ _ _ _ _=>m9 (GK.pt (Cj (T7 (x4 0) (x4 1)) (Ck (m6 (OC rfl iC (aE (j6.pe (jB (ls:=["_law_a"]) (fs:=["_law_found"]) (fr:=[1]) rfl (j8 (j7 (x4 2) (x4 0))) (λ_ _ _ _ _ _ nd=>fD (i:=0) nd (by decide)) (λ_ _ _ _ _ _=>lD) (λ_ _ _ _ _ _=>(in4 (x4 0) (x4 1))))) aL))))))) (λ_ _ _ _ _ _=>(x4 0)))
   (aR (AH (UD (i:=2) (rX (j7 (x4 4) (iA (j7 (x4 1) (x4 3)) (kR bQ (aE (x4 4) aL))))))))))
  (aR (c9 (rW cH (aE (x4 2) aL))))))
def yT(F:Df K mg "_law_is_going" (top 39) ["_law_order_here","_law_word_here"])(iC:mg "all"=af)(bQ:mg "len"=af)(aF:mg "isinstance"=af)(l7:mg "bool"=af)(tP:mg "int"=af)(cH:mg "tuple"=af):Cl P w K mg ω eR (kk+1) "_law_is_going" ["_law_order_here","_law_word_here"] (gH K LL.dF):=by
 show xH (N:=["_law_order_here","_law_word_here","_law_seen","_law_thing"]) F (λhr nd=>?_);show(bA (fQ (GK.pt (FH (m5 (m6 (xD C6.t aF cH xu (x4 1)))) (N2 (Y3 (kR bQ (aE (x4 1) aL)) (kR bQ (aE (x4 0) aL))))))
   (aR (c9 b4))
   gG)
  (bA (IU (i:=2) nd (pA aL))
  (bA (yR rfl ko (j8 (x4 1)) (qO (i:=3) nd)
   (bA (fQ (GK.pt (FH (m5 (m6 (xD C6.i aF tP Et (x4 3)))) (FH (m6 (xD C6.b aF l7 xw (x4 3))) (FH (Y2 (x4 3) i4) (N2 (uw (x4 3) (kR bQ (aE (x4 0) aL))))))))
    (aR (c9 b4))
    gG)
   (bA (fQ (GK.pt (FH (Ju (x4 3) (x4 2)) (N2 (m5 (m6 (OC rfl iC (aE (j6.pe (jB (ls:=["_law_a"]) (fs:=["_law_seen"]) (fr:=[2]) rfl (j8 (j7 (x4 0) (x4 3))) (λ_ _ _ _ _ _ nd=>fD (i:=0) nd (by decide)) (λ_ _ _ _ _ _=>lD) (λ_ _ _ _ _ _=>(in4 (x4 0) (x4 1))))) aL)))))))
    (aR (c9 b4))
    gG)
   (aR (AH (UD (i:=2) (rX (x4 3))))))))
  (aR (c9 b4)))))
def CY(F:Df K mg "_law_refusal" (top 40) ["_law_kinds"]):Cl P w K mg ω eR (kk+1) "_law_refusal" ["_law_kinds"] (gH K gK.eA):=by
 show xH (N:=["_law_kinds","_law_names"]) F (λhr nd=>?_);show(bA (dH (i:=1) nd s4)
  (bA (dH (i:=1) nd (iQ (x4 1) s4))
  (bA (fQ (GK.pt (FH (Y3 (ZU (x4 0) b4) i4) (N2 (m5 (m6 (j7 (x4 0) i4))))))
   (aR (c9 s4))
   gG)
  (aR (c9 (j7 (j6.pe (Wz (x4 1) s4)) (ZV (x4 0) b4)))))))
def Z9(F:Df K mg "_law_at" (top 41) ["_law_order_here","_law_number_here"])(nF:Cl P w K mg ω eR kk "_law_refusal" ["_law_kinds"] (gH K gK.eA))(xS:Cl P w K mg ω (C7 P w) kk "going_at" ["order","number"] (ZD K mg dM)){iD eB aK iE iF aJ gA jK gB gC eD fE bH fF:ah}(lM:mg "Looped"=aa (.ref iD))(gU:mg "NoFilling"=aa (.ref eB))(fM:mg "NoGoing"=aa (.ref aK))(lN:mg "NoLine"=aa (.ref iE))(lO:mg "NoName"=aa (.ref iF))(eO:mg "NoNumber"=aa (.ref aJ))(jQ:mg "NoOrder"=aa (.ref gA))(n5:mg "NoRow"=aa (.ref jK))(jR:mg "NoShape"=aa (.ref gB))(jS:mg "NoThing"=aa (.ref gC))(gW:mg "NotForest"=aa (.ref eD))(iR:mg "NotLoose"=aa (.ref fE))(gX:mg "RiseError"=aa (.ref bH))(iS:mg "TooGreat"=aa (.ref fF))(e1:kc K (.ref bH) (.type "BaseException")=aa ae)(e2:Dx K bH=ae)(e3:Dq K (.ref bH)=aa (.type "type"))(bI:sA K aJ)(iG:kc K (.ref aJ) (.type "ValueError")=aa ae)(eE:bB K aJ iE)(eF:bB K aJ iF)(dN:bB K aJ gB)(c6:bB K aJ eD)(dA:bB K aJ fE)(c7:bB K aJ eB)(eU:bB K aJ jK)(dO:bB K aJ aK)(dB:bB K aJ fF)(dP:bB K aJ gA)(eG:bB K aJ iD)(dQ:bB K aJ gC)(i5:kc K (.ref aJ) (.ref bH)=aa ae)(bQ:mg "len"=af)(aF:mg "isinstance"=af)(gD:mg "ValueError"=af):Cl P w K mg ω eR (kk+1) "_law_at" ["_law_order_here","_law_number_here"] (gH K kL):=by
 show xH (N:=["_law_order_here","_law_number_here","_law_found","_law_kinds","e"]) F (λhr nd=>?_);show(bA (dH (i:=2) nd n4)
  (bA (dH (i:=3) nd (j6.pe (pA aL)))
  (Bc (i:=4) rfl rfl gX nd (λpn xe=>(aR (Bn (i:=2) nd (Bo xS hr (aE (x4 0) (aE (x4 1) aL))) (UR rfl xS hr (aE (x4 0) (aE (x4 1) aL))))))
  (bA (fQ (uz (kR bQ (aE (x4 3) aL)) i4)
   (aR (c9 (m7 (aE s4 (aE (bL nF hr (aE (x4 3) aL)) aL)))))
   gG)
  (aR (c9 (m7 (aE s4 (aE (x4 2) aL)))))) (λc ρ1 h=>by
   by_cases hc0:c="NoNumber"
   .subst hc0;rw[Z_ rfl] at h;cases h;show⟨aJ,λe=>(bP 3 (iI (aA (cC "NoNumber" e ag 4) (aA (cC "NoNumber" e ag 4) (aA (cC "NoNumber" e ag 4) (aA (cC "NoNumber" e ae 4) (aA (cC "NoNumber" e ag 4) (aA (cC "NoNumber" e ag 4) (aA (cC "NoNumber" e ag 4) (aA (cC "NoNumber" e ag 4) (aA (cC "NoNumber" e ag 4) (aA (cC "NoNumber" e ag 4) (aA (cC "NoNumber" e ag 4) (aA (cC "NoNumber" e ag 4) (aA (cC "NoNumber" e ag 4) (aA (cC "NoNumber" e ae 4) aG)))))))))))))))),λe=>[.no,.no,.no,.ro (.lst [.bl ag,.bl ag,.bl ag,.bl ae,.bl ag,.bl ag,.bl ag,.bl ag,.bl ag,.bl ag,.bl ag,.bl ag,.bl ag,.bl ae]),.ro (.exc "NoNumber" e)],eO,UX e1 e2 e3 i5,λe=>⟨by
     show(bP 3 (iI (aA (cC "NoNumber" e ag 4) (aA (cC "NoNumber" e ag 4) (aA (cC "NoNumber" e ag 4) (aA (cC "NoNumber" e ae 4) (aA (cC "NoNumber" e ag 4) (aA (cC "NoNumber" e ag 4) (aA (cC "NoNumber" e ag 4) (aA (cC "NoNumber" e ag 4) (aA (cC "NoNumber" e ag 4) (aA (cC "NoNumber" e ag 4) (aA (cC "NoNumber" e ag 4) (aA (cC "NoNumber" e ag 4) (aA (cC "NoNumber" e ag 4) (aA (cC "NoNumber" e ae 4) aG)))))))))))))))) ((cc 5 Sv.no).set 4 (.ro (.exc "NoNumber" e)))=.nx _;simp only[aM,cB,bP,aB,eC,kG,pq,yA,iH,aG,aA,cC,l9,lP,bK,gQ,Sv.all,Sv.rd,bt,ki,s_,ou,r6,r9,cq,mx,se,sg,iw,si,and_self,if_true,reduceIte,pd,t_,uc,fu,jy,Nat.reduceAdd,Nat.reduceLeDiff,aT,yC,dE,dW,iI,aC,dI,eP,gO,oo,tu,gq,dm,Nat.reduceSub],rfl,λd z=>by cases z⟩,λe oe pn hoe=>?_⟩
    have cg:∀{Y:Cx},pC (hcx Y (aa (.ref e)) (pn++[(e,oe)])) e aJ:=λ{Y}=>⟨oe,ir _ cx,hoe⟩;show(aR (dH (i:=3) nd (j6.pe (pA (aE (iZ cg bI aF jS dQ.one) (aE (iZ cg bI aF lM eG.one) (aE (iZ cg bI aF jQ dP.one) (aE (iZ cg bI aF eO FR) (aE (iZ cg bI aF iS dB.one) (aE (iZ cg bI aF fM dO.one) (aE (iZ cg bI aF n5 eU.one) (aE (iZ cg bI aF gU c7.one) (aE (iZ cg bI aF iR dA.one) (aE (iZ cg bI aF gW c6.one) (aE (iZ cg bI aF jR dN.one) (aE (iZ cg bI aF lO eF.one) (aE (iZ cg bI aF lN eE.one) (aE (Bm cg bI aF gD PyProof.Rows.Boot.«ValueError» (LX (by decide+kernel) iG)) aL))))))))))))))))))
   rw[Zz hc0] at h;cases h))))
def GF(F:Df K mg "_law_number" (top 42) ["_law_order_here","_law_word_here"])(nF:Cl P w K mg ω eR kk "_law_refusal" ["_law_kinds"] (gH K gK.eA))(nG:Cl P w K mg ω (C7 P w) kk "going_number" ["order","going"] (ZD K mg bZ)){iD eB aK iE iF aJ gA jK gB gC eD fE bH fF:ah}(lM:mg "Looped"=aa (.ref iD))(gU:mg "NoFilling"=aa (.ref eB))(fM:mg "NoGoing"=aa (.ref aK))(lN:mg "NoLine"=aa (.ref iE))(lO:mg "NoName"=aa (.ref iF))(eO:mg "NoNumber"=aa (.ref aJ))(jQ:mg "NoOrder"=aa (.ref gA))(n5:mg "NoRow"=aa (.ref jK))(jR:mg "NoShape"=aa (.ref gB))(jS:mg "NoThing"=aa (.ref gC))(gW:mg "NotForest"=aa (.ref eD))(iR:mg "NotLoose"=aa (.ref fE))(gX:mg "RiseError"=aa (.ref bH))(iS:mg "TooGreat"=aa (.ref fF))(e1:kc K (.ref bH) (.type "BaseException")=aa ae)(e2:Dx K bH=ae)(e3:Dq K (.ref bH)=aa (.type "type"))(bO:sA K aK)(i6:kc K (.ref aK) (.type "ValueError")=aa ae)(eV:bB K aK iE)(eW:bB K aK iF)(eI:bB K aK gB)(dC:bB K aK eD)(dR:bB K aK fE)(dD:bB K aK eB)(fI:bB K aK jK)(dS:bB K aK fF)(dU:bB K aK aJ)(eJ:bB K aK gA)(eX:bB K aK iD)(eK:bB K aK gC)(j9:kc K (.ref aK) (.ref bH)=aa ae)(bQ:mg "len"=af)(aF:mg "isinstance"=af)(gD:mg "ValueError"=af):Cl P w K mg ω eR (kk+1) "_law_number" ["_law_order_here","_law_word_here"] (gH K fW):=by
 show xH (N:=["_law_order_here","_law_word_here","_law_found","_law_kinds","e"]) F (λhr nd=>?_);show(bA (dH (i:=2) nd n4)
  (bA (dH (i:=3) nd (j6.pe (pA aL)))
  (Bc (i:=4) rfl rfl gX nd (λpn xe=>(aR (Bn (i:=2) nd (Bo nG hr (aE (x4 0) (aE (x4 1) aL))) (UR rfl nG hr (aE (x4 0) (aE (x4 1) aL))))))
  (bA (fQ (uz (kR bQ (aE (x4 3) aL)) i4)
   (aR (c9 (m7 (aE s4 (aE (bL nF hr (aE (x4 3) aL)) aL)))))
   gG)
  (aR (c9 (m7 (aE s4 (aE (x4 2) aL)))))) (λc ρ1 h=>by
   by_cases hc0:c="NoGoing"
   .subst hc0;rw[Z_ rfl] at h;cases h;show⟨aK,λe=>(bP 3 (iI (aA (cC "NoGoing" e ag 4) (aA (cC "NoGoing" e ag 4) (aA (cC "NoGoing" e ag 4) (aA (cC "NoGoing" e ag 4) (aA (cC "NoGoing" e ag 4) (aA (cC "NoGoing" e ae 4) (aA (cC "NoGoing" e ag 4) (aA (cC "NoGoing" e ag 4) (aA (cC "NoGoing" e ag 4) (aA (cC "NoGoing" e ag 4) (aA (cC "NoGoing" e ag 4) (aA (cC "NoGoing" e ag 4) (aA (cC "NoGoing" e ag 4) (aA (cC "NoGoing" e ae 4) aG)))))))))))))))),λe=>[.no,.no,.no,.ro (.lst [.bl ag,.bl ag,.bl ag,.bl ag,.bl ag,.bl ae,.bl ag,.bl ag,.bl ag,.bl ag,.bl ag,.bl ag,.bl ag,.bl ae]),.ro (.exc "NoGoing" e)],fM,UX e1 e2 e3 j9,λe=>⟨by
     show(bP 3 (iI (aA (cC "NoGoing" e ag 4) (aA (cC "NoGoing" e ag 4) (aA (cC "NoGoing" e ag 4) (aA (cC "NoGoing" e ag 4) (aA (cC "NoGoing" e ag 4) (aA (cC "NoGoing" e ae 4) (aA (cC "NoGoing" e ag 4) (aA (cC "NoGoing" e ag 4) (aA (cC "NoGoing" e ag 4) (aA (cC "NoGoing" e ag 4) (aA (cC "NoGoing" e ag 4) (aA (cC "NoGoing" e ag 4) (aA (cC "NoGoing" e ag 4) (aA (cC "NoGoing" e ae 4) aG)))))))))))))))) ((cc 5 Sv.no).set 4 (.ro (.exc "NoGoing" e)))=.nx _;simp only[aM,cB,bP,aB,eC,kG,pq,yA,iH,aG,aA,cC,l9,lP,bK,gQ,Sv.all,Sv.rd,bt,ki,s_,ou,r6,r9,cq,mx,se,sg,iw,si,and_self,if_true,reduceIte,pd,t_,uc,fu,jy,Nat.reduceAdd,Nat.reduceLeDiff,aT,yC,dE,dW,iI,aC,dI,eP,gO,oo,tu,gq,dm,Nat.reduceSub],rfl,λd z=>by cases z⟩,λe oe pn hoe=>?_⟩
    have cg:∀{Y:Cx},pC (hcx Y (aa (.ref e)) (pn++[(e,oe)])) e aK:=λ{Y}=>⟨oe,ir _ cx,hoe⟩;show(aR (dH (i:=3) nd (j6.pe (pA (aE (iZ cg bO aF jS eK.one) (aE (iZ cg bO aF lM eX.one) (aE (iZ cg bO aF jQ eJ.one) (aE (iZ cg bO aF eO dU.one) (aE (iZ cg bO aF iS dS.one) (aE (iZ cg bO aF fM FR) (aE (iZ cg bO aF n5 fI.one) (aE (iZ cg bO aF gU dD.one) (aE (iZ cg bO aF iR dR.one) (aE (iZ cg bO aF gW dC.one) (aE (iZ cg bO aF jR eI.one) (aE (iZ cg bO aF lO eW.one) (aE (iZ cg bO aF lN eV.one) (aE (Bm cg bO aF gD PyProof.Rows.Boot.«ValueError» (LX (by decide+kernel) i6)) aL))))))))))))))))))
   rw[Zz hc0] at h;cases h))))
def GG(F:Df K mg "_law_spoilt" (top 43) ["_law_word_here","_law_draws_here"])(cH:mg "tuple"=af)(l6:mg "list"=af)(bQ:mg "len"=af):Cl P w K mg ω eR (kk+1) "_law_spoilt" ["_law_word_here","_law_draws_here"] (gH K eM):=by
 show xH (N:=["_law_word_here","_law_draws_here","_law_many","_law_at_here","_law_other","_law_found"]) F (λhr nd=>?_);show(bA (dH (i:=2) nd (kR bQ (aE (x4 0) aL)))
  (bA (fQ (oZ (iA (j7 (x4 1) i4) i4) i4)
   (aR (c9 (iQ (x4 0) (sl4 (iQ (Bj (x4 0) i4) (Bj (m7 (aE i4 aL)) i4)) no4 (po4 (iQ i4 (iA (iQ (yQ i4 (j7 (x4 1) i4)) (j7 (x4 1) i4)) i4)))))))
   gG)
  (bA (fQ (oZ (iA (j7 (x4 1) i4) i4) i4)
   (bA (dH (i:=3) nd (iA (j7 (x4 1) i4) (iQ (x4 2) i4)))
   (aR (c9 (iQ (iQ (sl4 (x4 0) no4 (po4 (x4 3))) (m7 (aE (j7 (j6.pe (pA (aE (x4 2) (aE (T8 i4) (aE i4 aL))))) (iA (j7 (x4 1) i4) i4)) aL))) (sl4 (x4 0) (po4 (x4 3)) no4)))))
   gG)
  (bA (fQ (oZ (x4 2) i4)
   (aR (c9 (m7 (aE (xB (iA (j7 (x4 1) i4) i4) i4) aL))))
   gG)
  (bA (dH (i:=3) nd (iA (j7 (x4 1) i4) (x4 2)))
  (bA (dH (i:=4) nd (iA (j7 (x4 1) i4) (x4 2)))
  (bA (IU (i:=5) nd (Sr l6 (aE (x4 0) aL)))
  (bA (fQ (Y2 (iA (j7 (x4 1) i4) i4) i4)
   (bA (ZA (i:=5) (rX (j7 (x4 0) (x4 4))) (x4 3))
   (aR (ZA (i:=5) (rX (j7 (x4 0) (x4 3))) (x4 4))))
   (aR (fQ (oZ (iA (j7 (x4 1) i4) i4) i4)
    (aR (ZA (i:=5) (rX (j7 (x4 0) (x4 4))) (x4 3)))
    (aR (fQ (oZ (iA (j7 (x4 1) i4) i4) i4)
     (aR (So (i:=5) nd (Co (sl4 (x4 5) no4 (po4 (x4 3))) (sl4 (x4 5) (po4 (iQ (x4 3) i4)) no4))))
     (aR (ZA (i:=5) (px4 (j7 (j6.pe (pA (aE (x4 2) (aE (T8 i4) (aE (T8 i4) (aE (xB (j7 (x4 5) (x4 3)) (x4 2)) aL)))))) (iA (j7 (x4 1) i4) i4))) (x4 3))))))))
  (aR (c9 (rW cH (aE (x4 5) aL))))))))))))
def We{f:ah}{fd:gg}(F:X7 K "law" "law" (top 44) f fd)(l8:Cl P w K mg ω eR kk "_law_is_going" ["_law_order_here","_law_word_here"] (gH K LL.dF))(CZ:Cl P w K mg ω eR kk "_law_at" ["_law_order_here","_law_number_here"] (gH K kL))(lJ:Cl P w K mg ω eR kk "_law_same" ["_law_found","_law_due"] (gH K (LL.cL 6)))(xT:Cl P w K mg ω eR kk "_law_number" ["_law_order_here","_law_word_here"] (gH K fW))(AZ:Cl P w K mg ω eR kk "_law_great" ["_law_cell_here","_law_most","_law_salt"] (gH K LL.jM))(xU:Cl P w K mg ω eR kk "_law_spoilt" ["_law_word_here","_law_draws_here"] (gH K eM))(jP:Cl P w K mg ω eR kk "_law_draws" ["_law_cell_here","_law_many","_law_salt"] (gH K LL.fK))(lK:Cl P w K mg ω eR kk "_law_cell" ["_law_script","_law_k"] (gH K LL.gI))(VX:Cl P w K mg ω eR kk "_law_word" ["_law_order_here","_law_draws_here"] (gH K LL.k8))(yU:Cl P w K mg ω eR kk "goings_many" ["order"] (gH K gL))(xV:Cl P w K mg ω eR kk "_law_going_ways" ["_law_order_here"] (gH K fV))(O5:Cl P w K mg ω eR kk "_law_drawn" ["_law_script","_law_k","_law_most","_law_salt"] (gH K LL.kU)):lA P w K mg ω eR (kk+1) f fd ["_law_script"] (gH K zL):=by
 have S:hZ ["_law_script","_law_order_here","_law_head","_law_cell_here","_law_many","_law_far","_law_number_here","_law_word_here","_law_draws_here","_law_told","_law_found","_law_later"] ["_law_script"] (bD (top 44)):=⟨rfl,rfl,rfl,by decide+kernel,rfl,by decide+kernel,by decide+kernel⟩;have nd:=S.nd;show zy F S rfl rfl (λ_ _ _ _ _ _ hr=>?_);show(bA (dH (i:=1) nd (bL O5 hr (aE (x4 0) (aE i4 (aE i4 (aE i4 aL))))))
  (bA (dH (i:=2) nd (bL jP hr (aE (bL lK hr (aE (x4 0) (aE i4 aL))) (aE i4 (aE i4 aL)))))
  (bA (dH (i:=3) nd (bL lK hr (aE (x4 0) (aE i4 aL))))
  (bA (dH (i:=4) nd (bL xV hr (aE (x4 1) aL)))
  (bA (fQ (m5 (m6 (bL lJ hr (aE (bL yU hr (aE (x4 1) aL)) (aE (x4 4) aL)))))
   (aR (c9 b4))
   gG)
  (bA (fQ (oZ (iA (j7 (x4 2) i4) i4) i4)
   (bA (dH (i:=5) nd (bL AZ hr (aE (x4 3) (aE (xB (Sf (Y1 i4 i4) i4) (Y1 i4 i4)) (aE i4 aL)))))
   (bA (dH (i:=6) nd (j7 (j6.pe (pA (aE (T8 i4) (aE (x4 4) (aE (iQ (x4 4) (x4 5)) (aE (xB (T8 i4) (x4 5)) aL)))))) (iA (j7 (x4 2) i4) i4)))
   (aR (c9 (bL lJ hr (aE (bL CZ hr (aE (x4 1) (aE (x4 6) aL))) (aE (m7 (aE s4 (aE s4 aL))) aL)))))))
   gG)
  (bA (fQ (oZ (iA (j7 (x4 2) i4) i4) i4)
   (bA (dH (i:=7) nd (bL VX hr (aE (x4 1) (aE (bL jP hr (aE (x4 3) (aE i4 (aE i4 aL)))) aL))))
   (bA (dH (i:=8) nd (bL jP hr (aE (bL lK hr (aE (x4 0) (aE i4 aL))) (aE i4 (aE i4 aL)))))
   (bA (dH (i:=7) nd (bL xU hr (aE (x4 7) (aE (x4 8) aL))))
   (bA (fQ (oZ (iA (j7 (x4 8) i4) i4) i4)
    (aR (dH (i:=7) nd (sl4 (bL xU hr (aE (x4 7) (aE (sl4 (x4 8) (po4 i4) no4) aL))) no4 (po4 i4))))
    gG)
   (bA (UZ (rX (bL xT hr (aE (x4 1) (aE (x4 7) aL)))) (LP (i:=9) (j:=10) rfl nd))
   (bA (fQ (m5 (m6 (bL l8 hr (aE (x4 1) (aE (x4 7) aL)))))
    (aR (c9 (CI (eq4 (x4 9) s4) (IP (eq4 (x4 10) s4)))))
    gG)
   (aR (c9 (CI (eq4 (x4 9) s4) (IP (bL lJ hr (aE (bL CZ hr (aE (x4 1) (aE (x4 10) aL))) (aE (m7 (aE s4 (aE (x4 7) aL))) aL)))))))))))))
   gG)
  (bA (dH (i:=6) nd (bL AZ hr (aE (x4 3) (aE (x4 4) (aE i4 aL)))))
  (bA (fQ (oZ (iA (j7 (x4 2) i4) i4) i4)
   (aR (dH (i:=6) nd (xB (x4 4) i4)))
   gG)
  (bA (UZ (rX (bL CZ hr (aE (x4 1) (aE (x4 6) aL)))) (LP (i:=9) (j:=7) rfl nd))
  (bA (fQ (GK.pt (FH (Y3 (x4 9) s4) (N2 (m5 (m6 (bL l8 hr (aE (x4 1) (aE (x4 7) aL))))))))
   (aR (c9 b4))
   gG)
  (bA (fQ (m5 (m6 (bL lJ hr (aE (bL xT hr (aE (x4 1) (aE (x4 7) aL))) (aE (m7 (aE s4 (aE (x4 6) aL))) aL)))))
   (aR (c9 b4))
   gG)
  (bA (UZ (rX (bL CZ hr (aE (x4 1) (aE (iQ (x4 6) i4) aL)))) (LP (i:=9) (j:=11) rfl nd))
  (bA (fQ (oZ (iQ (x4 6) i4) (x4 4))
   (aR (c9 (CI (eq4 (x4 9) s4) (IP (eq4 (x4 11) s4)))))
   gG)
  (aR (c9 (CI (eq4 (x4 9) s4) (CI (bL l8 hr (aE (x4 1) (aE (x4 11) aL))) (IP (Jd (u9 hr) (x4 7) (x4 11)))))))))))))))))))))
end
theorem all_mk{l:p0}{w:az}{K:ao}{h:ba}{mg:Q0d}{fa:ah}(X:K.In h)(G:h.Ns dq mg)(hfa:mg "law"=aa (.ref fa))
  {iD eB aK iE iF aJ gA jK gB gC eD fE bH fF:ah}
  (xW:ie K dq "Looped"=aa (aa (.ref iD)))
  (nH:ie K dq "NoFilling"=aa (aa (.ref eB)))
  (sG:ie K dq "NoGoing"=aa (aa (.ref aK)))
  (xX:ie K dq "NoLine"=aa (aa (.ref iE)))
  (xZ:ie K dq "NoName"=aa (aa (.ref iF)))
  (pF:ie K dq "NoNumber"=aa (aa (.ref aJ)))
  (sH:ie K dq "NoOrder"=aa (aa (.ref gA)))
  (C4:ie K dq "NoRow"=aa (aa (.ref jK)))
  (sI:ie K dq "NoShape"=aa (aa (.ref gB)))
  (sJ:ie K dq "NoThing"=aa (aa (.ref gC)))
  (nI:ie K dq "NotForest"=aa (aa (.ref eD)))
  (pG:ie K dq "NotLoose"=aa (aa (.ref fE)))
  (nJ:ie K dq "RiseError"=aa (aa (.ref bH)))
  (pH:ie K dq "TooGreat"=aa (aa (.ref fF)))
  (sL:excIn K aK bmV "ValueError.__new__"=ae)
  (pI:excIn K aJ bmV "ValueError.__new__"=ae)
  (e1:kc K (.ref bH) (.type "BaseException")=aa ae)
  (e2:Dx K bH=ae)
  (e3:Dq K (.ref bH)=aa (.type "type"))
  (bI:sA K aJ)
  (iG:kc K (.ref aJ) (.type "ValueError")=aa ae)
  (eE:bB K aJ iE)
  (eF:bB K aJ iF)
  (dN:bB K aJ gB)
  (c6:bB K aJ eD)
  (dA:bB K aJ fE)
  (c7:bB K aJ eB)
  (eU:bB K aJ jK)
  (dO:bB K aJ aK)
  (dB:bB K aJ fF)
  (dP:bB K aJ gA)
  (eG:bB K aJ iD)
  (dQ:bB K aJ gC)
  (i5:kc K (.ref aJ) (.ref bH)=aa ae)
  (bO:sA K aK)
  (i6:kc K (.ref aK) (.type "ValueError")=aa ae)
  (eV:bB K aK iE)
  (eW:bB K aK iF)
  (eI:bB K aK gB)
  (dC:bB K aK eD)
  (dR:bB K aK fE)
  (dD:bB K aK eB)
  (fI:bB K aK jK)
  (dS:bB K aK fF)
  (dU:bB K aK aJ)
  (eJ:bB K aK gA)
  (eX:bB K aK iD)
  (eK:bB K aK gC)
  (j9:kc K (.ref aK) (.ref bH)=aa ae)
  (D1:Df K mg "ties_of" (top 16) ["order"])
  (D2:Df K mg "joined" (top 20) ["ahead","thing"])
  (D3:Df K mg "ready_things" (top 19) ["order","ahead"])
  (D4:Df K mg "find_ways" (top 22) ["order","ahead","ways"])
  (D5:Df K mg "ways_on" (top 21) ["order"])
  (D6:Df K mg "goings_many" (top 18) ["order"])
  (D7:Df K mg "ways_ahead_of" (top 25) ["order","ways","ahead","thing"])
  (D8:Df K mg "thing_at" (top 24) ["order","ways","ahead","rest"])
  (D9:Df K mg "going_at" (top 23) ["order","number"])
  (D10:Df K mg "is_going" (top 27) ["order","going"])
  (D11:Df K mg "going_number" (top 26) ["order","going"])
  (D12:Df K mg "_law_cell" (top 29) ["_law_script","_law_k"])
  (D13:Df K mg "_law_mixed" (top 30) ["_law_cell_here","_law_k","_law_salt"])
  (D14:Df K mg "_law_draws" (top 31) ["_law_cell_here","_law_many","_law_salt"])
  (D15:Df K mg "_law_great" (top 32) ["_law_cell_here","_law_most","_law_salt"])
  (D16:Df K mg "_law_same" (top 33) ["_law_found","_law_due"])
  (D17:Df K mg "_law_order" (top 34) ["_law_draws_here","_law_n","_law_thick"])
  (D18:Df K mg "_law_drawn" (top 35) ["_law_script","_law_k","_law_most","_law_salt"])
  (D19:Df K mg "_law_masks" (top 36) ["_law_order_here"])
  (D20:Df K mg "_law_going_ways" (top 37) ["_law_order_here"])
  (D21:Df K mg "_law_word" (top 38) ["_law_order_here","_law_draws_here"])
  (D22:Df K mg "_law_is_going" (top 39) ["_law_order_here","_law_word_here"])
  (D23:Df K mg "_law_refusal" (top 40) ["_law_kinds"])
  (D24:Df K mg "_law_at" (top 41) ["_law_order_here","_law_number_here"])
  (D25:Df K mg "_law_number" (top 42) ["_law_order_here","_law_word_here"])
  (D26:Df K mg "_law_spoilt" (top 43) ["_law_word_here","_law_draws_here"])
  (D27:Df K mg "law" (top 44) ["_law_script"])
  (fG:mg "sorted"=af) (cH:mg "tuple"=af) (gT:mg "enumerate"=af) (iC:mg "all"=af) (bQ:mg "len"=af) (bF:mg "range"=af) (jC:mg "sum"=af) (VW:mg "max"=af) (l6:mg "list"=af) (aF:mg "isinstance"=af) (ME:mg "str"=af) (tP:mg "int"=af) (l7:mg "bool"=af) (gD:mg "ValueError"=af):
  ∃fd:gg,(∀(s:ak) (v:ai),qb s fd ⟨[v],[]⟩ [("_law_script",v)]) /\∀ω:ba,K.In ω->ω.Ns dq mg->lA l.prog w K mg ω eR 19 fa fd ["_law_script"] (gH K zL):=by
 obtain @⟨_,fd,_,F,m,_⟩:=D27;cases hfa.symm.trans m;have lM:=iu X G xW;have gU:=iu X G nH;have fM:=iu X G sG;have lN:=iu X G xX;have lO:=iu X G xZ;have eO:=iu X G pF;have jQ:=iu X G sH;have n5:=iu X G C4;have jR:=iu X G sI;have jS:=iu X G sJ;have gW:=iu X G nI;have iR:=iu X G pG;have gX:=iu X G nJ;have iS:=iu X G pH;have sE:=LW sL;have pE:=LW pI;show⟨fd,λs v=>?_,λω _ _=>?_⟩
 .obtain ⟨_,_,_,_,_,_,_,_,_,e,_⟩:=F.ex;rw[e];show .of_eq rfl
 have o1:=JH l.prog w ω 3 D1 fG cH gT;have o2:=OX l.prog w ω 3 D2 fG cH;have o3:=t9 l.prog w ω 3 D3 iC bQ bF;have o4:=qW l.prog w ω 4 D4 o3.up o2.up jC bQ 11;have o5:=JI l.prog w ω 15 D5 o4.up;have o6:=xR l.prog w ω 16 D6 o5.up;have o7:=sD l.prog w ω 4 D7 o2.up o3.up jC;have o8:=GB l.prog w ω 5 D8 o7.up o3.up VW;have o9:=GC l.prog w ω 16 D9 o7.up o8.up o5.up eO pE bQ bF;have Ht:=GD l.prog w ω 4 D10 o1.up iC fG bQ l6 bF;have Hs:=uA l.prog w ω 16 D11 o7.up o5.up Ht.up fM sE gT jC;have zd:=OZ l.prog w ω 3 D12 bQ;have zb:=JL l.prog w ω 3 D13 ;have za:=JM l.prog w ω 4 D14 zb.up bF;have Hr:=JN l.prog w ω 4 D15 zb.up bF;have Hq:=AX l.prog w ω 3 D16 aF ME tP l7 cH bQ bF iC 6;have Ho:=JO l.prog w ω 3 D17 bF fG cH bQ l6;have Hn:=JP l.prog w ω 5 D18 Ho.up za.up zd.up;have Hm:=JQ l.prog w ω 3 D19 jC;have Hl:=uB l.prog w ω 4 D20 Hm.up bF iC jC bQ;have Hk:=O2 l.prog w ω 3 D21 cH bQ bF iC;have Hj:=yT l.prog w ω 3 D22 iC bQ aF l7 tP cH;have y_:=CY l.prog w ω 3 D23 ;have Hi:=Z9 l.prog w ω 17 D24 y_.up o9.up lM gU fM lN lO eO jQ n5 jR jS gW iR gX iS e1 e2 e3 bI iG eE eF dN c6 dA c7 eU dO dB dP eG dQ i5 bQ aF gD;have Hh:=GF l.prog w ω 17 D25 y_.up Hs.up lM gU fM lN lO eO jQ n5 jR jS gW iR gX iS e1 e2 e3 bO i6 eV eW eI dC dR dD fI dS dU eJ eX eK j9 bQ aF gD;have Hg:=GG l.prog w ω 3 D26 cH l6 bQ;show We l.prog w ω 18 F Hj.up Hi.up Hq.up Hh.up Hr.up Hg.up za.up zd.up Hk.up o6.up Hl.up Hn.up
def Wd{K:ao}{H:Hp}{a:ah}{ns:Q0e}(o:Only H)(h:fP K H a (ns.map V.int)):Scr K H a ns:=by
 rcases h with h|h
 .rcases h with h|⟨b,h⟩
  .rcases o a with z|⟨_,_,z⟩|⟨_,z⟩<;>rw[z] at h<;>cases h
  .exact .inl ⟨b,h⟩
 .exact .inr (.inr h)
theorem walk{l:p0}{q:bh}{loose:Q0g}{XP:(aj->Option ai)->ba->Prop}{YP:az->ba->Prop}{d:DefRec}{K:Params->ao}(hn:l.most=aa 63)(hdf:d.params.defaults=[])
  (hY:∀(w:az) (h:ba),YP w h->(K w.params).In h) (qw:∀w:az,TabsOk (K w.params) q) (hnt:∀w:az,noTabs (K w.params)=ae)
  (F:∀(w:az) (mg:Q0d) (fa:ah) (h:ba),(K w.params).In h->h.Ns dq mg->mg d.name=aa (.ref fa) ->
   ∃fd:gg,(∀(s:ak) (u:ai),qb s fd ⟨[u],[]⟩ [("_law_script",u)]) /\∀ω:ba,(K w.params).In ω->ω.Ns dq mg->lA l.prog w (K w.params) mg ω eR 19 fa fd ["_law_script"] (gH (K w.params) zL)):
  Dy q loose XP YP l.row.toRowW d [] (λf vs=>Dp f vs) :=
 L2.X6 (n:=63) (k:=19) (x:="_law_script") (CX:=λ_=>eR) (sp:=λw=>gH (K w.params) zL) hn (by decide) hdf ⟨rfl,by decide,by decide⟩ hY qw hnt F
  (λ_ H a ns hl o hS=>⟨λa=>H a=af,[.pJ ns],λd=>d=.bl ae,λ_ h=>h,⟨_,_,rfl,⟨a,rfl,Wd o hS⟩,rfl⟩,⟨_,RC ns hl,rfl⟩,λv H' d _ hd e=>by subst e;show hd⟩) λ_ _ _ _ _ z=>z
end K11
open PySem.W PyProof.Rows
namespace PySem.W.Fast
def tw5681594768402469992:=0
def tw17879285654543335163:=0
def tw15057802239109943008:=0
def tw5605081394336889359:=0
def tw1493780849625720885:=0
def tw9391297474688726679:=0
def tw17878194452866714738:=0
def tw6334040812519694465:=0
def tw5346148651779788861:=0
def tw7199888666345010369:=0
def tw11910469265634667593:=0
def tw11234223896669770615:=0
def tw4171882934176966210:=0
def tw11210050229758136728:=0
def tw15345164489681340355:=0
def tw14624250306269538107:=0
def tw14341454176023336666:=0
def tw13589993877023836888:=0
def tw7844288896617324002:=0
def tw10283871056162951200:=0
def tw3467122393570590231:=0
def tw18024358169548061411:=0
def tw2028248916394498998:=0
def tw14315561980748868872:=0
def tw2171189809159035848:=0
def tw13255880194612806191:=0
def tw13937971761556317787:=0
def tw10220419104890543170:=0
def tw10094354436610003381:=0
def tw6913276154400550310:=0
def tw240704559441650293:=0
def tw14082643309124975335:=0
def tw17303577464602337596:=0
def tw1900491931575407554:=0
def tw12711362218932430043:=0
def tw3046455975890695892:=0
def tw14218020156443055030:=0
def tw6462274341669037414:=0
def tw7458416853218573932:=0
def tw16298280845157995946:=0
def tw3983144394164895717:=0
def tw6207898829901107038:=0
def tw5869309869266779095:=0
def tw12614511105259098605:=0
def tw11929236016496626070:=0
def tw11500100355805818805:=0
def tw6592794991167910994:=0
def tw9343176301976434353:=0
def tw12327947160280782330:=0
def tw197125342242588141:=0
def tw4749904833007631734:=0
def tw15698236657600665371:=0
def tw7039449345544660673:=0
def tw11887419042179546729:=0
def tw1190726785769904076:=0
def tw8399389000126505135:=0
def tw6665703633399212976:=0
def tw12100860991155756605:=0
def tw3322579340143939162:=0
def tw1303999940211801405:=0
def tw16075579919425976235:=0
def tw1805847514141309832:=0
def tw9294008664231996472:=0
def tw6114908163309005773:=0
def tw11562412437672565671:=0
def tw7413737656629766451:=0
def tw16215674446615198115:=0
def tw8194056990545194315:=0
def tw12926278776281286268:=0
def tw13901745444177906483:=0
def tw15484399314057674896:=0
def tw4910436083297968325:=0
def tw8967370514909043308:=0
def tw12478820520290430465:=0
def tw8052469189703861792:=0
def tw13720077062003292708:=0
def tw8631195613108226148:=0
def tw11719797169556566855:=0
def tw15571750472760584415:=0
def tw11223802768002792246:=0
def tw3287195855542718370:=0
def tw7272278694629944923:=0
def tw18114377420219076779:=0
def tw16189846292614486797:=0
def tw8305021916311469183:=0
def tw10266356409341364922:=0
def tw7542051979439523420:=0
def tw10294689951115750965:=0
def tw14152556267677925659:=0
def tw4413311344444115295:=0
def tw9676528484649543233:=0
def tw5250322550614637147:=0
def tw11829866372759631877:=0
def tw8553981217606292123:=0
def tw16244868002443904941:=0
def tw13937762837868387348:=0
def tw1306407768791001224:=0
def tw12182914159698873883:=0
def tw6398726727970989033:=0
def tw64568342390349861:=0
def tw17816650384131747868:=0
def tw17358125131509465537:=0
def tw1154778187927779905:=0
def tw18112140779455915573:=0
def tw4162120994498016964:=0
def tw3023681574052402237:=0
def tw16589895213960237752:=0
def tw14152089810290786428:=0
def tw9024653777377011861:=0
def tw9012607931602878924:=0
def tw14550121790954246877:=0
def tw1002031878167140481:=0
def tw9556905932769931917:=0
def tw7762960665740562443:=0
def tw4324875139969967790:=0
def tw11499540049812198672:=0
def tw1176087184026368760:=0
def tw14912497072361461501:=0
def tw12014331961349264171:=0
def tw11497777110200389569:=0
def tw6252011731331832875:=0
def tw2986499175740255172:=0
def tw1017869858857262335:=0
def tw8356897080504097485:=0
def tw4215558363793881544:=0
def tw1820407868015570180:=0
def tw17254078342255695483:=0
def tw13551943349489703217:=0
def tw10420227939107221972:=0
def tw6318536764815069710:=0
def tw14392856894112035166:=0
def tw8341502680812775237:=0
def tw12229023759317264304:=0
def tw17931609086340747990:=0
def tw14290959192112159228:=0
def tw3684750641909723275:=0
def tw3296815381844965522:=0
def tw2432691949081042408:=0
def tw15573130735866755503:=0
def tw15457265294615077205:=0
def tw11106311524284146631:=0
def tw6946177405179945106:=0
def tw16806415650957938904:=0
def tw6935624843626806124:=0
def tw5987681935471253813:=0
def tw2566246941046564359:=0
def tw2331198607963253397:=0
def tw7872378424570381467:=0
def tw1765016336455779574:=0
def tw17174002000213480077:=0
def tw17714251188361117682:=0
def tw828501234475780278:=0
def tw810774007736685401:=0
def tw6426536894979921764:=0
def tw15709535884350820829:=0
def tw9765028069689414605:=0
def tw16751521700120256568:=0
def tw17828703249009515243:=0
def tw14753061795907696073:=0
def tw17872011112564281986:=0
def tw10422678654081245058:=0
def tw15347146861731353893:=0
def tw8159925944334084586:=0
def tw6384570436346803777:=0
def tw3064638835010885607:=0
def tw2052640258796654378:=0
def tw17529914796751021828:=0
def tw16111134547015422114:=0
def tw14790552822422505170:=0
def tw14032708518526845096:=0
def tw11484691135341756123:=0
def tw110722170960283547:=0
def tw3563945092848481804:=0
def tw5415973071385136840:=0
def tw12873780101866588484:=0
def tw10715663764052840220:=0
def tw10526533714430119093:=0
def tw13764088874567741630:=0
def tw16421663207995379101:=0
def tw5539474856805405759:=0
def tw9478268697683247828:=0
def tw6989242894499263092:=0
def tw10163735564653276721:=0
def tw10017435324277526815:=0
def tw18085095226635305304:=0
def tw11722167358104807996:=0
def tw3784139543690607143:=0
def tw17307066456505232139:=0
def tw9736903962719299798:=0
def tw10688797327296219669:=0
def tw16854049075753533503:=0
def tw17169552913420460421:=0
def tw10955854769554093206:=0
def tw5487128758448481522:=0
def tw14087908153648155639:=0
def tw8062527550990010456:=0
def tw3888586362510599496:=0
def tw2079720649335366299:=0
def tw18203063162666362083:=0
def tw17300277459980854479:=0
def tw15199053700167880182:=0
def tw14260783837716094238:=0
def tw10630591395686916303:=0
def tw12471438348531761728:=0
def tw9136413903614301164:=0
def tw8965393812970245076:=0
def tw6110106812819569768:=0
def tw5938299933372120448:=0
def tw5502637274566249971:=0
def tw5270959236883966877:=0
def tw4763918189697625268:=0
def tw3417176204356147647:=0
def tw3141758484626325669:=0
def tw18134533998767817508:=0
def tw17423226233044869790:=0
def tw13712625735436866566:=0
def tw12964158690226786204:=0
def tw11928050616646984232:=0
def tw10229925037286559374:=0
def tw16938570613566433275:=0
def tw4445159392461918000:=0
def tw2617016399042904270:=0
def tw1803080690967097240:=0
def tw4160420921718356530:=0
def tw4639931234800827532:=0
def tw5000324132314625710:=0
def tw7326769022026477658:=0
def tw15978451271317989555:=0
def tw4907704764350457871:=0
def tw388359714675649616:=0
def tw10366303008403243083:=0
def tw9626998892499064623:=0
def tw9024203928175615881:=0
def tw8231946488384888077:=0
def tw7339604308460418207:=0
def tw6298836694193684786:=0
def tw2830169872523310616:=0
def tw16799587233843360657:=0
def tw15464076372332459845:=0
def tw14742857349003063987:=0
def tw13845710205889782698:=0
def tw10258393417881619757:=0
def tw7161339898474312050:=0
def tw5170851175969815075:=0
def tw4583435025434248339:=0
def tw3876093111178467182:=0
def tw1846173778296168070:=0
def tw17116112241380547572:=0
def tw16180568371523185069:=0
def tw15965928957952222573:=0
def tw14703986772196557635:=0
def tw12354571450399563990:=0
def tw10563655337958169845:=0
def tw763582022920128028:=0
def tw8285904707578974113:=0
def tw8892072006583682004:=0
def tw3070473970309649494:=0
def tw1938169116020145462:=0
def tw102925186074086074:=0
def tw2942719970518654048:=0
def tw8057689257778934815:=0
def tw7513044030388460041:=0
def tw4898340712153113155:=0
def tw4044571799473408230:=0
def tw3720197221754679751:=0
def tw15023272982208426272:=0
def tw14035923789328471009:=0
def tw12652104591536912906:=0
def tw12092659631426281813:=0
def tw11387060822375200524:=0
def tw728884629871864909:=0
def tw16252090778673988380:=0
def tw8912146131976551167:=0
def tw8495156736720546027:=0
def tw8440567977771116210:=0
def tw8420350070265767796:=0
def tw834368313224742807:=0
def tw8181948176932208731:=0
def tw8061100301949609063:=0
def tw6863036230598575925:=0
def tw3895054702501453700:=0
def tw3661742935129354067:=0
def tw2932483784432187786:=0
def tw2702599944262017497:=0
def tw223230744593485494:=0
def tw1904511672031639168:=0
def tw17594106672123804730:=0
def tw17208265813014988563:=0
def tw16029293119242624117:=0
def tw15384787109989000999:=0
def tw1450887998042326177:=0
def tw13192485785926764513:=0
def tw12695305844321984849:=0
def tw12179181936318669983:=0
def tw12077690427396752974:=0
def tw10428525880517634901:=0
def tw9884654604948446248:=0
def tw9334030236255114245:=0
def tw9332285497558203437:=0
def tw8908387623431841150:=0
def tw8763316316530569252:=0
def tw8750948795150845527:=0
def tw8744164751213034197:=0
def tw8632060789595861990:=0
def tw8237225548206432947:=0
def tw8181441486297199884:=0
def tw7975786718547137190:=0
def tw7444991567380400643:=0
def tw7431199608634979936:=0
def tw6820877018291959574:=0
def tw6792074927607177284:=0
def tw6511511732537967034:=0
def tw6056657960056074252:=0
def tw6011629481047839722:=0
def tw5246323901810040722:=0
def tw5016147184363976172:=0
def tw4961689535481869691:=0
def tw4628774198947982323:=0
def tw4550852311592634958:=0
def tw4523946279794213339:=0
def tw4364394279295686308:=0
def tw3907612735751245098:=0
def tw3499509515404084161:=0
def tw2646914072904106776:=0
def tw2641930086903765733:=0
def tw1885499643693494648:=0
def tw183981774240020219:=0
def tw18214910541490533493:=0
def tw18197599689308937208:=0
def tw17790559508084920495:=0
def tw1750491776848522749:=0
def tw1703264881252020215:=0
def tw1693343664472741849:=0
def tw16576893041223120067:=0
def tw16545330778277006416:=0
def tw16397867775732927515:=0
def tw16168920591594487757:=0
def tw16081803172642005701:=0
def tw16074980607220440430:=0
def tw15051424755221144272:=0
def tw1501766502169207614:=0
def tw14080814550084442608:=0
def tw14048885524359538125:=0
def tw13523460101604323291:=0
def tw13375494517095467565:=0
def tw13329727638390077377:=0
def tw1270272206903413853:=0
def tw12652009019482127841:=0
def tw12560470399234939788:=0
def tw1234690748380509144:=0
def tw12264667130681037126:=0
def tw12210985869246942804:=0
def tw11832379727925706655:=0
def tw11772194133882538831:=0
def tw11754199588989177611:=0
def tw11609844138249229255:=0
def tw11535860266413657326:=0
def tw11277697966504452180:=0
def tw11103410236096415281:=0
def tw1090795809170345000:=0
def tw10718581735285075434:=0
def tw10189612717812316458:=0
def tw10050132194291720857:=0
end PySem.W.Fast
set_option maxRecDepth 100000 in
set_option maxHeartbeats 0 in
theorem PySem.Challenge.cw_risecount_k11_goings_numbered_holds : PySem.Challenge.rw_risecount_k11_goings_numbered.Holds := by
 w_on; o_law; k_head; (case hw=>w_witness2)
 k_fill
 show K11.walk (l := PySem.Challenge.rw_risecount_k11_goings_numbered) rfl rfl (fun w h Y => PySem.W.kIn_of Y) ?hTbs ?hNtb ?F
 case hTbs =>
  intro w
  refine' L4.tabs_ok (L4.OU ?t1 ?t2 ?t3 ?t4 ?t5) ?nd ?rc
  (case t1=>(refine' L4.nB ?p1; (case p1=>k_is)))
  (case t2=>(refine' L4.nB ?p1; (case p1=>k_is)))
  (case t3=>(refine' L4.nB ?p1; (case p1=>k_is)))
  (case t4=>(refine' L4.nB ?p1; (case p1=>k_is)))
  (case t5=>(refine' L4.nB ?p1; (case p1=>k_is)))
  (case nd=>decide)
  (case rc=>(intro t ht; cases ht))
 case hNtb =>
  intro w
  kernel_rfl
 case F =>
  intro w mg fa h KX G hmg
  refine' K11.all_mk KX G hmg ?xW ?nH ?sG ?xX ?xZ ?pF ?sH ?C4 ?sI ?sJ ?nI ?pG ?nJ ?pH ?sL ?pI ?e1 ?e2 ?e3 ?bI ?iG ?eE ?eF ?dN ?c6 ?dA ?c7 ?eU ?dO ?dB ?dP ?eG ?dQ ?i5 ?bO ?i6 ?eV ?eW ?eI ?dC ?dR ?dD ?fI ?dS ?dU ?eJ ?eX ?eK ?j9 ?_ ?_ ?_ ?_ ?_ ?_ ?_ ?_ ?_ ?_ ?_ ?_ ?_ ?_ ?_ ?_ ?_ ?_ ?_ ?_ ?_ ?_ ?_ ?_ ?_ ?_ ?_ ?_ ?_ ?_ ?_ ?_ ?_ ?_ ?_ ?_ ?_ ?_ ?_ ?_ ?_
  (case xW=>k_is)
  (case nH=>k_is)
  (case sG=>k_is)
  (case xX=>k_is)
  (case xZ=>k_is)
  (case pF=>k_is)
  (case sH=>k_is)
  (case C4=>k_is)
  (case sI=>k_is)
  (case sJ=>k_is)
  (case nI=>k_is)
  (case pG=>k_is)
  (case nJ=>k_is)
  (case pH=>k_is)
  (case sL=>k_exc)
  (case pI=>k_exc)
  (case e1=>k_is)
  (case e2=>k_is)
  (case e3=>k_is)
  (case bI=>show ⟨by k_is,by k_is,by k_is,by k_is,by k_is,by k_is,by k_is,by k_is⟩)
  (case iG=>k_is)
  (case eE=>show ⟨by rfl,by k_is,by k_is,by k_is⟩)
  (case eF=>show ⟨by rfl,by k_is,by k_is,by k_is⟩)
  (case dN=>show ⟨by rfl,by k_is,by k_is,by k_is⟩)
  (case c6=>show ⟨by rfl,by k_is,by k_is,by k_is⟩)
  (case dA=>show ⟨by rfl,by k_is,by k_is,by k_is⟩)
  (case c7=>show ⟨by rfl,by k_is,by k_is,by k_is⟩)
  (case eU=>show ⟨by rfl,by k_is,by k_is,by k_is⟩)
  (case dO=>show ⟨by rfl,by k_is,by k_is,by k_is⟩)
  (case dB=>show ⟨by rfl,by k_is,by k_is,by k_is⟩)
  (case dP=>show ⟨by rfl,by k_is,by k_is,by k_is⟩)
  (case eG=>show ⟨by rfl,by k_is,by k_is,by k_is⟩)
  (case dQ=>show ⟨by rfl,by k_is,by k_is,by k_is⟩)
  (case i5=>k_is)
  (case bO=>show ⟨by k_is,by k_is,by k_is,by k_is,by k_is,by k_is,by k_is,by k_is⟩)
  (case i6=>k_is)
  (case eV=>show ⟨by rfl,by k_is,by k_is,by k_is⟩)
  (case eW=>show ⟨by rfl,by k_is,by k_is,by k_is⟩)
  (case eI=>show ⟨by rfl,by k_is,by k_is,by k_is⟩)
  (case dC=>show ⟨by rfl,by k_is,by k_is,by k_is⟩)
  (case dR=>show ⟨by rfl,by k_is,by k_is,by k_is⟩)
  (case dD=>show ⟨by rfl,by k_is,by k_is,by k_is⟩)
  (case fI=>show ⟨by rfl,by k_is,by k_is,by k_is⟩)
  (case dS=>show ⟨by rfl,by k_is,by k_is,by k_is⟩)
  (case dU=>show ⟨by rfl,by k_is,by k_is,by k_is⟩)
  (case eJ=>show ⟨by rfl,by k_is,by k_is,by k_is⟩)
  (case eX=>show ⟨by rfl,by k_is,by k_is,by k_is⟩)
  (case eK=>show ⟨by rfl,by k_is,by k_is,by k_is⟩)
  (case j9=>k_is)
  all_goals first | show PySem.W.mg_none_of KX G (by k_is) | (refine' L4.aFW KX G ?b ?a ?l ?c ?k; (case a=>k_is); (case l=>k_is); (case c=>k_is); (case k=>k_is); (case b=>(intro us hl; first | (obtain ⟨_,rfl⟩:=L4.ZW us hl; rfl) | (obtain ⟨_,_,rfl⟩:=L4.ZX us hl; rfl) | (obtain ⟨_,_,_,rfl⟩:=L4.ZY us hl; rfl) | (obtain ⟨_,_,_,_,rfl⟩:=L4.ZZ us hl; rfl))))
end
