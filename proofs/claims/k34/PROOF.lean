import PyProof.Rows.All
import PySem.Str
import PySem.Sem
import PyProof.StrBlockL
import PyProof.Rows.Walk
import Wide.All
import OpenK.AllK
import Wide.FinOn
import Lean
import PyProof.EqAt
import PyProof.EqKinds
import PyProof.TupleCall
import PyProof.SeqRoads2
import PyProof.ExcArgs
import KE.KIsAll
import PyProof.DictIter
import PyProof.Rows.CountFlat
import PyProof.NeKinds
import KE.KSortKey
import KE.KMinKey
import PySem.Challenge.RW_risecount_k34_counted_by
set_option Elab.async false
set_option linter.all false
set_option maxRecDepth 100000
set_option maxHeartbeats 3999999
open PySem.W (CodeHd OpenLaw codeIn fnOf instObj keepIn lookIn methodObj noTabs tabObj)
open And renaming intro->zt
open Array renaming forIn_toList->a2U,getElem?_eq_getElem->me,getElem?_eq_none->a2T,getElem?_toList->Hm,length_toList->ve,toList->a2S,toList_append->a2R
open Array.Perm renaming refl->rq
open BEq renaming beq->a2Q
open Bool renaming and_eq_true->gw,eq_iff_iff->rp,false->ag,false_and->zr,false_eq_true->oj,false_ne_true->bt,false_or->vd,not_eq_true->a2P,not_eq_true'->zq,not_false->Hl,not_true->rm,or_eq_true->Hk,or_false->vc,true->ae,true_and->oh
open Classical renaming byContradiction->qd,epsilon->a2O,epsilon_spec->a2N,propDecidable->Hj
open Decidable renaming decide->Zv
open False renaming elim->ju
open ForInStep renaming done->a2M,yield->md
open Function renaming comp->vb
open Int renaming add_mul->u_,add_zero->ma,emod_lt_of_pos->jd,emod_nonneg->ip,eq_of_mul_eq_mul_right->a2L,fdiv_eq_ediv_of_nonneg->a2K,le_of_lt->a2J,le_refl->Hi,le_trans->zp,mul_add->Hh,mul_assoc->zo,mul_comm->rj,mul_one->Hg,mul_zero->zm,natAbs_mul->a2I,ne_of_gt->a2H,one_mul->Hf,pow_pos->a2G,sub_zero->a2F,toNat_natCast->gk,zero_add->il,zero_mul->qc
open List renaming Nodup->zl,all_cons->og,all_eq_true->ke,all_map->uz,any_cons->km,any_eq_false->He,any_eq_true->uy,any_map->a2B,append_assoc->n_,append_inj'->ux,append_nil->kl,append_of_mem->nz,cons_append->kj,contains_eq_mem->Hc,drop_eq_getElem_cons->zi,drop_eq_nil_of_le->a2A,drop_length->a2z,drop_zero->pz,eq_nil_of_length_eq_zero->a2y,eq_nil_or_concat->a2x,eq_of_mem_replicate->a2w,eraseIdxIfInBounds_toArray->a2v,eraseIdx_cons_succ->a2u,ext_getElem?->Hb,filterMap_cons->Ha,filter_cons->ny,filter_cons_of_neg->a2t,filter_cons_of_pos->a2s,filter_eq_nil_iff->G_,filter_map->a2r,find?_cons->ib,find?_eq_none->a2q,flatMap_append->a2p,flatMap_cons->uw,flatten_cons->nu,foldl->Gz,foldl_cons->jk,forIn_cons->nq,forIn_nil->uv,getD_eq_getElem?_getD->l_,getElem?_append_left->ik,getElem?_append_right->ic,getElem?_cons_succ->ll,getElem?_cons_zero->Gy,getElem?_dropLast->a2o,getElem?_eq_none->kc,getElem?_eq_some_iff->cn,getElem?_map->cg,getElem?_nil->Gx,getElem?_range->rh,getElem?_replicate->kb,getElem?_set_ne->jj,getElem?_set_self->lj,getElem?_take_of_lt->nj,getElem?_zipIdx->Gw,getElem?_zip_eq_some->uu,getElem_inj->a2n,getElem_map->Gv,getElem_mem->ni,getElem_of_mem->ur,getLast?_eq_getElem?->a2m,getLast?_eq_some_iff->a2l,length->rf,length_append->bq,length_cons->bx,length_drop->Gu,length_eq_zero_iff->q_,length_filter_le->j_,length_map->az,length_nil->fg,length_pos_iff->Gs,length_pos_of_mem->a2k,length_range->pw,length_replicate->lz,length_set->ia,length_singleton->Gr,length_take->ji,length_zip->a2j,lookup_append->Gq,lookup_cons->pq,map->a2i,map_append->cy,map_congr_left->gd,map_cons->ba,map_id->a2h,map_map->dq,map_nil->lh,map_take->Gp,mem_append->ft,mem_append_left->jh,mem_append_right->gc,mem_cons->bu,mem_cons_of_mem->dg,mem_cons_self->b_,mem_filter->f_,mem_filterMap->zh,mem_flatMap->zg,mem_iff_getElem?->uq,mem_map->gj,mem_map_of_mem->qz,mem_of_getElem?->jt,mem_range->pk,mem_singleton->br,nil_append->k_,nodup_append->iy,nodup_cons->gu,nodup_nil->kh,nodup_range->a2g,not_mem_nil->nh,of_mem_zip->qx,pairwise_cons->gq,pairwise_iff_getElem->a2f,pairwise_map->pj,perm_ext_iff_of_nodup->zf,range->dj,range_succ->a2e,range_succ_eq_map->Gn,replicate->dm,replicate_succ->jg,replicate_zero->Gm,set_cons_succ->Gk,set_cons_zero->Gj,set_nil->Gi,size_toArray->cf,sum_append->ng,sum_cons->dh,sum_nil->a2d,take_add_one->a2c,take_of_length_le->ph,take_sublist->a2b,take_succ->Gh,toArray->ze,zip_append->a2a,zip_cons_cons->uo
open List.Nodup renaming idxOf_getElem->a2E,sublist->a3T
open List.Pairwise renaming and->a3S,filter->qb,imp->a2D,imp_of_mem->a3R,map->zk,nil->zj
open List.Perm renaming refl->a2C,swap->a3Q
open List.cons renaming inj->Hd,injEq->p_
open Nat renaming add_assoc->a19,add_mul->a18,add_zero->zd,and_div_two->a17,and_mod_two_pow->a16,eq_of_testBit_eq->zb,le_add_right->lx,le_of_eq->nc,le_of_lt->ku,le_refl->bc,le_succ->um,le_trans->gn,lt_asymm->a15,lt_irrefl->j7,lt_log2_self->a14,lt_of_le_of_lt->a13,lt_of_lt_of_le->fz,lt_or_ge->uk,lt_succ_of_lt->qw,lt_succ_self->za,lt_trans->a12,min_le_right->a11,mod_two_eq_zero_or_one->y_,mul_le_mul->Gg,mul_le_mul_right->Gf,ne_of_gt->m_,ne_of_lt->h_,or_div_two->a10,or_mod_two_pow->a1Z,pow_add->a1Y,pow_le_pow_right->mz,pow_succ->a1X,shiftLeft_eq->a1W,shiftRight_eq_div_pow->Ge,strongRecOn->uj,sub_self->my,sub_zero->ui,succ_mul->yz,succ_ne_self->a1V,testBit_and->uh,testBit_or->a1U,testBit_shiftLeft->a1T,testBit_shiftRight->a1S,testBit_two_pow->Gd,testBit_two_pow_sub_one->a1R,testBit_xor->yy,two_pow_pos->yx,zero_add->qv,zero_le->kr,zero_testBit->Ga
open Ne renaming symm->e_
open Option renaming bind_none->F_,bind_some->cz,getD_none->a1Q,isSome_iff_exists->yw,isSome_map->ug,join_none->Fz,join_some->Fy,map_eq_some_iff->mx,map_none->yu,map_some->kq,none->af,some->aa
open Option.some renaming inj->df
open Or renaming inl->d_,inr->cc
open Prod renaming ext->Fx
open Prod.mk renaming inj->a1P
open PyProof.Rows renaming AllBare->lr,Call_->uf,IntsAre->lp,IsTup->jz,Subscript_->Fw,args_tuple_getitem->a1O,assignInOrder_cons->Fv,assignInOrder_nil->a1N,boot_all->a3P,boot_bool->Fu,boot_int->a1M,boot_isinstance->a3O,boot_list->a1L,boot_max->a1K,boot_range->Ft,boot_sorted->Fs,boot_str->a3N,boot_sum->a3M,boot_tuple->Fq,bubble_perm->a1J,callWith_builtin1->a3L,callWith_type1->qu,entry_list_sort->a1I,entry_sorted->a1H,entry_tuple_getitem->a1G,get?_update_seq->yr,kind_sorted->a1F,listItems_at->a1E,listUpdate_at->yq,plain_sorted->a1D,seqEpoch_at->a1C,slicePart_none->a1B,slot_list_sort->a1A,slot_tuple_getitem->pf,subscriptTail_builtinR->a1z,truthy_tuple->a1y,tupleItemsOf_->a1x
open PyProof.Rows.IsTup renaming new->yt
open PySem renaming Addr->ah,Around->bp,BindsTo->pd,DictEntry->yl,Env->fm,Expr->ar,Fin->a03,FuncData->gi,Heap->bf,IntMulOk->ub,IsEnum->ua,IsPair->qr,IsPart->ko,IsRangeIter->a00,Keyword->iw,NameKind->jf,Obj->aw,Paired->iu,PassesOwn->qp,Pos->bo,Program->bh,Scope->gf,Shared->ao,Spec->bz,Stmt->de,Str->ak,Value->ai,Within->a0I,World->bb,assignEach->ee,backTo->fq,cLine->cx,call->Ex,call_list_seq->a0H,call_meets->tu,call_meetsIn->a0G,call_range_1->a0F,codeAny->ou,codeAny_builtin->qk,codeAny_mono->Ew,concat_meets->Eu,eqIsQuiet_byValue->a0E,evalPart_none->a0D,find?_eq_fast->xq,fitsIndex_both->a0C,intBits_le_64->a0B,intItems_at->a0A,isSubtype_tuple_tuple->a0z,keywordEach->mn,mainGlobals->ie,mem_of_lookup->jy,model->ay,name_of_addr->a0y,noFill_tuple_add->Et,nums_intItems->a0x,pairTrees_length->Es,plainId_quiet->xp,pushCells_keeps->a0w,rangeSize_one->Er,seqIndex_of->Ep,seq_tuple_add->Eo,sizeLine->bg,sizeLine_eq->gx,slot_list_getitem->a0v,small_one->En,starEach->av,swapsWith->fj,tupleKind_room_in1->a0u,typeIs_int->Em,wpAny->ax,wpAny_Assign_Subscript->a0t,wpAny_Call_Name_kw->xo,wpAny_Dict_empty->a0s,wpAny_Name->El,wpAny_alloc->a0r,wpAny_assign_Name->a0q,wpAny_attempt->Ek,wpAny_bind->au,wpAny_bindName->a0p,wpAny_callSpecial?_slot->qj,wpAny_call_entry->kn,wpAny_execs_cons->a0o,wpAny_execs_nil->xn,wpAny_field->oq,wpAny_getItem_heap->a0n,wpAny_getItem_of->a0m,wpAny_handled->a0l,wpAny_holding->jo,wpAny_isInstance->Ej,wpAny_isTrue_Compare1->a0k,wpAny_letGo->a0j,wpAny_load->Ei,wpAny_mono->jx,wpAny_newList->Eh,wpAny_newObj_type->qi,wpAny_passesOwn->oo,wpAny_pure->a_,wpAny_pyIter_enum->xm,wpAny_pyIter_list->Eg,wpAny_pyIter_tuple->xk,wpAny_pyIter_zip->a0i,wpAny_rule->om,wpAny_runValue->a0h,wpAny_seqItems->Ef,wpAny_sequenceKey->a0g,wpAny_setField->a0f,wpAny_setItem_heap->a0e,wpAny_setItem_pairs->a0d,wpAny_specialOf->Ee,wpAny_standAt->tq,wpAny_throw->a0c,wpAny_truthy_bool->mj,wpAny_truthy_list->a0b,wpAny_tupleItemsOf->a0a,wpAny_typeOf->Ed
open PySem.Around renaming frames_deeper->a1w,under_plainId->qt
open PySem.AutoListH renaming list___mul___list_int_3->a3K
open PySem.Builtin renaming bitNot->Fm,bitOr->a1q,bitXor->a1p
open PySem.Builtin.Dict_items renaming ownsTuple->a1v
open PySem.Builtin.List renaming listTooLong->Fo
open PySem.Builtin.Range renaming rangeSize->yp,small->a3J
open PySem.Builtin.Slice renaming sliceAdjust->Fn,sliceApplied->a1u,sliceFields->a3I,slicePartIndex->a3H,slicePlaces->yo
open PySem.Builtin.SmallTypes renaming nextOf->a1t
open PySem.Builtin.Tuple renaming tupleExact->ym,tupleHashOf->a1s,tupleIsExact->a3G,tupleItemsOf->a1r
open PySem.Calls renaming Name_function_global->a1o,callWith_builtin->Fl,evalArgs_plain->a1n,spliced_cons->Fj,spliced_nil->a1m
open PySem.DictEntry renaming refKey->a3F
open PySem.EqMixed renaming eq_bool_str->a3E,eq_int_str->a3D,eq_str_bool->a3C,eq_str_int->a3B,ne_bool_str->a3A,ne_int_str->a3z,ne_str_bool->a3y,ne_str_int->a3x
open PySem.EqNone renaming eq_bool_none->a3w,eq_int_none->a3v,eq_none_bool->a3u,eq_none_int->a3t,eq_none_none->a3s,eq_none_str->a3r,eq_str_none->a3q,ne_bool_none->a3p,ne_int_none->a3o,ne_none_bool->a3n,ne_none_int->a3m,ne_none_none->a3l,ne_none_str->a3k,ne_str_none->a3j
open PySem.F renaming args_dict_get_3->a1l,args_dict_keyiterator_next_1->a1k,args_tuple_add_2->Fi,args_tuple_iterator_next_1->a1j,entry_all_loop->a1i,entry_dict_get->a1h,entry_dict_keyiterator_next->a1g,entry_list_iadd->a1f,entry_list_pop->a1e,entry_proto_collect->a1d,entry_tuple_add->Fh,entry_tuple_iterator_next->a1c,plainAttrs_list->a1b,plain_all_loop->yj,plain_list_iadd->yi,plain_proto_collect->a1a,slot_dict_get->Fg,slot_dict_getitem->a09,slot_dict_iter->a08,slot_dict_keyiterator_next->ue,slot_int_rmul->a07,slot_list_append->a06,slot_list_pop->yh,slot_tuple_add->Ff,slot_tuple_eq->a05,slot_tuple_iterator_next->yg,type_list_pop->a04
open PySem.Flow renaming next->a02
open PySem.Heap renaming ExtBut->a01,SameBut->pb,get?_push_of_some->di,get?_push_size->gg,get?_update_other->Fe,get?_update_self->ud,lt_size->cb,size_push->uc
open PySem.Heap.DictOf renaming new->a3i
open PySem.Heap.IsSliceOf renaming new->a3h
open PySem.Heap.SameBut renaming update->mw
open PySem.IsL renaming update->a3g
open PySem.Manifest renaming find?->yf
open PySem.MeetsSeq renaming list_pop_at->a3e,list_pop_last->a3d
open PySem.MeetsSeq.EqGives renaming int->a3f
open PySem.NameKind renaming cell->kg,free->jm
open PySem.Obj renaming cls_mapFields->a0Z,data_mapFields->ye,isFreed_of_fields->a0Y,mapFields->Fd,mapSeq->gz,putSet->a0X
open PySem.Paired renaming length->qq,snoc->yd
open PySem.PassesOwn renaming never->g_
open PySem.SeqAt renaming EqAt->qo
open PySem.SeqAt.EqAt renaming bool_bool->a3c,bool_int->a3b,bool_none->a3a,bool_str->a29,int_bool->a28,int_int->a27,int_none->a26,int_str->a0W,int_tuple->a25,none_bool->a24,none_int->a23,none_str->a22,same->yc,str_bool->a21,str_int->a0V,str_none->a20,str_str->a2Z,str_tuple->a2Y,tuple_int->a2X,tuple_str->a2W
open PySem.SeqRoads2.EqGives renaming str->a2V
open PySem.Str renaming ofString->qm
open PySem.Value renaming bool->yb,float->a0U,int->o_,isInt->a0T,isStrOf->a0S,none->js,ref->fu,str->ya,type->x_
open PySem.W renaming Frag->aq,KasT->oz,OpenLaw->ql,WalkO->Fc,cellsFrom_some->a0P,findIn->t_,isFn->a0O,kas_asc->jl,kas_ask->xx,kas_bin->xw,kas_count->xv,kas_desc->oy,kas_descPart->xu,kas_place->jr,kas_rev->je,kas_sort->ox,kas_tail3->Fb,kia_one->jq,kitOne->E_,kitx_dict->a0N,kitx_list->Ez,kitx_tuple->a0M,kla_fn->xt,kla_obj->xr,nsIn->Ey,plainGet->a0L,specialIn->a0K,tabIn->tw
open PySem.W.KasT renaming ret->mq
open PySem.W.WData renaming int->a0R
open PySem.W.WShape renaming has->a0Q
open PySem.Walks renaming list->a0J
open Sum renaming inl->c_,inr->iq
open Sum.inl renaming inj->xj,injEq->Ec
open Sum.inr renaming inj->tm
open True renaming intro->jn
open PySem
set_option genSizeOf false
noncomputable section
abbrev Q0a:=List (List Int)
abbrev Q0b:=List (ah×aw)
abbrev Q0c:=ai->ao->Prop
abbrev Q0d:=ak->Option ai
abbrev Q0e:=List Int
abbrev Q0f:=List ai
abbrev Q0g:=List ak
abbrev Z_.{u}:=@if_pos.{u}
abbrev Zz.{u}:=@if_neg.{u}
abbrev Zy:=@decide_eq_false
abbrev Zx:=@decide_eq_true
abbrev Zw.{u}:=@absurd.{u}
open List (getElem?_eq_getElem)
namespace L3
inductive D where
 |non
 |bl (b:Bool)
 |int (i:Int)
 |str (x:ak)
 |tup (xs:List D)
 |lst (xs:List D)
 |fX (ns:Q0e)
 |jR (ks:List (Sum Int ak)) (xs:List D)
 |cD (q:Nat->aw->Prop) (ks:List (Sum (Sum Int ak) (List (Sum (Sum Int ak) (List (Sum Int ak)))))) (xs:List D)
 |exc (c:ak) (a:Nat)
 |rws (xs:Q0a)
mutual
noncomputable def D.tT:D->Bool
 |.non=>ae
 |.bl _=>ae
 |.int _=>ae
 |.str _=>ae
 |.tup ds=>jS ds
 |.lst _=>ag
 |.fX _=>ae
 |.jR _ _=>ag
 |.cD _ _ _=>ag
 |.exc _ _=>ae
 |.rws _=>ag
noncomputable def jS:List D->Bool
 |[]=>ae
 |d::ds=>d.tT&&jS ds
end
abbrev dJ:=List (Option D)
inductive Sv where
 |no
 |ro (d:D)
 |ow (d:D)
abbrev bV:=List Sv
noncomputable def Sv.all:Sv->Option D
 |.no=>af
 |.ro d=>aa d
 |.ow d=>aa d
noncomputable def Sv.rd:Sv->Option D
 |.ro d=>aa d
 |_=>af
def bW(ρ:bV):dJ:=ρ.map Sv.all
def gJ(ρ:bV):dJ:=ρ.map Sv.rd
end L3
namespace L4
open L3
inductive M (α:Type) where
 |no
 |ex (c:ak)
 |ok (a:α)
inductive Out where
 |no
 |nx (ρ:bV)
 |rt (d:D)
 |ex (c:ak)
abbrev EF:=dJ->Option D
abbrev TF:=dJ->Option Bool
abbrev AF:=dJ->Option (List D)
abbrev XF:=bV->Option (bV×D)
abbrev SF:=bV->Out
abbrev fY:=List D->M D
def oN:Nat:=16777216
def aB(i:Nat):EF:=λρ=>(ρ[i]?).join
def eC(d:D):EF:=λ_=>aa d
def aC(g:D->D->Option D)(a b:EF):EF:=λρ=>(a ρ).bind λx=>(b ρ).bind λy=>g x y
noncomputable def mG:D->Option Bool
 |.bl b=>aa b
 |.lst ds=>aa (!ds.isEmpty)
 |.tup ds=>aa (!ds.isEmpty)
 |_=>af
def tV(f:EF):TF:=λρ=>(f ρ).bind mG
def jC(t:TF):TF:=λρ=>(t ρ).map (!·)
def kD(t u:TF):TF:=λρ=>(t ρ).bind λb=>if b=ae then u ρ else aa ag
def yN(t u:TF):TF:=λρ=>(t ρ).bind λb=>if b=ae then aa ae else u ρ
noncomputable def tU:D->Option Bool
 |.bl b=>aa b
 |_=>af
def jD(a b:EF):EF:=λρ=>(a ρ).bind λx=>(tU x).bind λc=>if c=ae then b ρ else aa (.bl ag)
def vj(a b:EF):EF:=λρ=>(a ρ).bind λx=>(tU x).bind λc=>if c=ae then aa (.bl ae) else b ρ
def yR(a:EF):EF:=λρ=>(a ρ).bind λx=>(tU x).map λc=>.bl (!c)
def M0(t:TF)(a b:EF):EF:=λρ=>(t ρ).bind λc=>if c=ae then a ρ else b ρ
noncomputable def XE:D->Option D
 |.int i=>aa (.int (-i))
 |_=>af
def jE(a:EF):EF:=λρ=>(a ρ).bind XE
def G7(f g:D->D->Option D)(a b c:EF):EF:=λρ=>(a ρ).bind λx=>(b ρ).bind λy=>(f x y).bind λz=>(tU z).bind λk=>if k=ae then(c ρ).bind λw=>g y w else aa (.bl ag)
noncomputable def G8(g:Int->Int->D):D->D->Option D
 |.int i,.int j=>aa (g i j)
 |_,_=>af
noncomputable def iV(c:Int->Int->Bool)(g:Int->Int->D):D->D->Option D
 |.int i,.int j=>if c i j=ae then aa (g i j) else af
 |_,_=>af
noncomputable def bA:D->D->Option D
 |.int i,.int j=>aa (.int (i+j))
 |.lst a,.lst b=>if a.length+b.length<=oN then aa (.lst (a++b)) else af
 |.tup a,.tup b=>if a.length+b.length<=oN then aa (.tup (a++b)) else af
 |.str a,.str b=>if a.length+b.length<=oN then aa (.str (a++b)) else af
 |_,_=>af
def dS:D->D->Option D:=G8 λi j=>.int (i-j)
def vH(i j:Int):Bool:=Zv (i.natAbs<18446744073709551616)||Zv (j.natAbs<18446744073709551616)||Zv (i.natAbs.log2+j.natAbs.log2<=134217700)
def mulM:D->D->Option D:=iV vH λi j=>.int (i*j)
def cZ:D->D->Option D:=iV (λ_ j=>Zv (0<j)) λi j=>.int (i%j)
def kT:D->D->Option D:=iV (λ_ j=>Zv (0<j)&&Zv (j.natAbs<1073741824)) λi j=>.int (i/j)
def uH:D->D->Option D:=iV (λi j=>Zv (0<=j)&&Zv (j.natAbs<=1000000)&&Zv (i.natAbs<18446744073709551616)) λi j=>.int (i^j.toNat)
def ltM:D->D->Option D:=G8 λi j=>.bl (Zv (i<j))
def leM:D->D->Option D:=G8 λi j=>.bl (Zv (i<=j))
def rN:D->D->Option D:=G8 λi j=>.bl (Zv (j<i))
def geM:D->D->Option D:=G8 λi j=>.bl (Zv (j<=i))
noncomputable def Dt:D->D->Option Bool
 |.int i,.int j=>aa (Zv (i=j))
 |.bl i,.bl j=>aa (Zv (i=j))
 |.str i,.str j=>aa (Zv (i=j))
 |.non,.non=>aa ae
 |_,_=>af
def gM:D->D->Option D:=λx y=>(Dt x y).map .bl
def W2:D->D->Option D:=λx y=>(Dt x y).map λb=>.bl (!b)
noncomputable def vI:D->Bool
 |.non=>ae
 |_=>ag
def XG:D->D->Option D:=λx y=>if vI y=ae then aa (.bl (vI x)) else af
noncomputable def intsOf:List D->Option (List Int)
 |[]=>aa []
 |.int i::ds=>(intsOf ds).map (i :: ·)
 |_::_=>af
def oO(neg:Bool):D->D->Option D
 |.int i,.tup ds=>(intsOf ds).map λns=>.bl (if neg then !ns.contains i else ns.contains i)
 |.int i,.lst ds=>(intsOf ds).map λns=>.bl (if neg then !ns.contains i else ns.contains i)
 |_,_=>af
def G5(n:Nat)(i:Int):Option Nat:=if 0<=i then(if i<n then aa i.toNat else af) else if -(n:Int)<=i then aa (i+n).toNat else af
def pW{α:Type}(xs:List α)(i:Int):Option α:=(G5 xs.length i).bind λj=>xs[j]?
noncomputable def a9:D->D->Option D
 |.lst a,.int i=>pW a i
 |.tup a,.int i=>pW a i
 |.fX a,.int i=>(pW a i).map D.int
 |_,_=>af
noncomputable def vJ:D->Option (Sum Int ak)
 |.int i=>aa (.inl i)
 |.str x=>aa (.inr x)
 |_=>af
def jV(ks:List (Sum Int ak))(ds:List D)(k:Sum Int ak):Option D:=((ks.zip ds).find? λkv=>Zv (kv.1=k)).map (·.2)
def vK:D->D->Option D
 |.jR ks ds,d=>(vJ d).bind λk=>jV ks ds k
 |_,_=>af
def aE:AF:=λ_=>aa []
def aA(a:EF)(t:AF):AF:=λρ=>(a ρ).bind λd=>(t ρ).bind λds=>aa (d::ds)
def dG(t:AF):EF:=λρ=>(t ρ).bind λds=>if ds.length<=oN then aa (.tup ds) else af
def dC(t:AF):EF:=λρ=>(t ρ).bind λds=>if ds.length<=oN then aa (.lst ds) else af
def bI(g:List D->Option D)(t:AF):EF:=λρ=>(t ρ).bind g
noncomputable def G9:M D->Option D
 |.ok d=>aa d
 |_=>af
def aH(R:fY)(t:AF):EF:=λρ=>(t ρ).bind λds=>G9 (R ds)
noncomputable def aW:List D->Option D
 |[.lst a]=>aa (.int a.length)
 |[.tup a]=>aa (.int a.length)
 |[.fX a]=>aa (.int a.length)
 |_=>af
noncomputable def cB:List D->Option D
 |[.lst a]=>aa (.tup a)
 |[.tup a]=>aa (.tup a)
 |_=>af
noncomputable def pX:List D->Option D
 |[.lst a]=>aa (.lst a)
 |[.tup a]=>aa (.lst a)
 |_=>af
noncomputable def insI(a:Int):List Int->List Int
 |[]=>[a]
 |b::l=>if a<=b then a::b::l else b::insI a l
def sortI:List Int->List Int
 |[]=>[]
 |a::l=>insI a (sortI l)
def fZ:List D->Option D
 |[.lst a]=>(intsOf a).bind λns=>if ns.length<64 then aa (.lst ((sortI ns).map D.int)) else af
 |_=>af
def uI:List D->Option D
 |[.lst a]=>(intsOf a).map λns=>.int ns.sum
 |_=>af
def oY:List D->Option (List Bool)
 |[]=>aa []
 |d::ds=>(mG d).bind λb=>(oY ds).map (b :: ·)
def allM:List D->Option D
 |[.lst a]=>(oY a).map λbs=>.bl (bs.all id)
 |_=>af
def anyM:List D->Option D
 |[.lst a]=>(oY a).map λbs=>.bl (bs.any id)
 |_=>af
noncomputable def tyM:D->String
 |.non => "NoneType"
 |.bl _ => "bool"
 |.int _ => "int"
 |.str _ => "str"
 |.tup _ => "tuple"
 |.lst _ => "list"
 |.fX _ => "list"
 |.jR _ _ => "dict"
 |.cD _ _ _ => "dict"
 |.exc _ _ => "NoneType"
 |.rws _ => "NoneType"
def HA(T:String)(d:D):Bool:=tyM d == T||(T == "int"&&tyM d == "bool")
noncomputable def HB:D->Bool
 |.exc _ _=>ag
 |.cD _ _ _=>ag
 |.rws _=>ag
 |_=>ae
def jF(T:String)(a:EF):EF:=λρ=>(a ρ).bind λd=>if HB d=ae then aa (.bl (HA T d)) else af
def aY(lo:Int)(n:Nat):List Int:=(dj n).map λk:Nat=>lo+(k:Int)
def Sg(hi:Int)(n:Nat):List Int:=(dj n).map λk:Nat=>hi-(k:Int)
noncomputable def HC(t:AF):EF:=λρ=>(t ρ).bind λds=>match ds with
 |[.int j]=>if j.natAbs<=16777216 then aa (.lst ((aY 0 j.toNat).map D.int)) else af
 |_=>af
noncomputable def vL:List D->Option D
 |[.int i,.int j]=>aa (.int (if j>i then j else i))
 |_=>af
noncomputable def repLM:D->D->Option D
 |.lst a,.int n=>if a.length*n.toNat<=oN/\n.natAbs<9223372036854775808 then aa (.lst (dm n.toNat a).flatten) else af
 |_,_=>af
noncomputable def DZ:D->D->Option D
 |.lst a,.lst b=>if a.length+b.length<=oN then aa (.lst (a++b)) else af
 |_,_=>af
noncomputable def D0:D->Option (List D)
 |.lst ds=>aa ds
 |.tup ds=>aa ds
 |_=>af
def cC(f:EF):AF:=λρ=>(f ρ).bind D0
noncomputable def HD:List D->Option (List D)
 |[.int j]=>if j.natAbs<4611686018427387904 then aa ((aY 0 j.toNat).map D.int) else af
 |[.int i,.int j]=>if i.natAbs<4611686018427387904/\j.natAbs<4611686018427387904 then aa ((aY i (j-i).toNat).map D.int) else af
 |[.int i,.int j,.int k]=>if k=-1/\i.natAbs<1000000/\j.natAbs<1000000 then aa ((Sg i (i-j).toNat).map D.int) else af
 |_=>af
def aR(t:AF):AF:=λρ=>(t ρ).bind HD
noncomputable def KG:List D->Option (List D)
 |[.lst ds]=>aa (ds.zipIdx.map λp=>.tup [.int (p.2:Int),p.1])
 |[.tup ds]=>aa (ds.zipIdx.map λp=>.tup [.int (p.2:Int),p.1])
 |_=>af
def pZ(t:AF):AF:=λρ=>(t ρ).bind KG
def Sf:List D->Option (List D)
 |[a,b]=>(D0 a).bind λxs=>(D0 b).map λys=>(xs.zip ys).map λp=>.tup [p.1,p.2]
 |_=>af
def xh(t:AF):AF:=λρ=>(t ρ).bind Sf
noncomputable def xg:List D->Option (List D)
 |[.lst ds]=>aa ds.reverse
 |[.tup ds]=>aa ds.reverse
 |_=>af
def M4(t:AF):AF:=λρ=>(t ρ).bind xg
abbrev GEF:=D->dJ->Option dJ
def g1(i:Nat):GEF:=λd ρ=>aa (ρ.set i (aa d))
noncomputable def zL:D->Option (D×D)
 |.tup [x,y]=>aa (x,y)
 |_=>af
def g2(i j:Nat):GEF:=λd ρ=>(zL d).map λp=>(ρ.set i (aa p.1)).set j (aa p.2)
def cM:TF:=λ_=>aa ae
def benv(nl:Nat)(fr:List Nat)(ρ:dJ):dJ:=dm nl af++fr.map λj=>(ρ[j]?).join
noncomputable def jG(g:GEF)(t:TF)(e:EF)(ρ:dJ):List D->Option (List D)
 |[]=>aa []
 |d::ds=>(g d ρ).bind λρ1=>(t ρ1).bind λb=>if b=ae then(e ρ1).bind λy=>(jG g t e ρ ds).map (y :: ·) else jG g t e ρ ds
def bJ(nl:Nat)(fr:List Nat)(it:AF)(g:GEF)(t:TF)(e:EF):EF:=λρ=>(it ρ).bind λds=>if ds.length<=oN then(jG g t e (benv nl fr ρ) ds).map D.lst else af
abbrev OF:=dJ->Option (Option Int)
def KH:OF:=λ_=>aa af
noncomputable def asInt:D->Option Int
 |.int i=>aa i
 |_=>af
def oE(f:EF):OF:=λρ=>(f ρ).bind λd=>(asInt d).map aa
noncomputable def yS(n d:Nat):Option Int->Nat
 |none=>d
 |some i=>if i<0 then(i+n).toNat else min i.toNat n
def oF(xs:List D)(lo hi:Option Int):List D:=(xs.drop (yS xs.length 0 lo)).take (yS xs.length xs.length hi-yS xs.length 0 lo)
def slM(d:D)(lo hi:Option Int):Option D:=match d with
 |.lst ds=>aa (.lst (oF ds lo hi))
 |.tup ds=>aa (.tup (oF ds lo hi))
 |_=>af
def DW(f:EF)(lo hi:OF):EF:=λρ=>(f ρ).bind λd=>(lo ρ).bind λl=>(hi ρ).bind λh=>slM d l h
def dZ(f:EF):XF:=λρ=>(f (bW ρ)).bind λd=>if d.tT=ae then aa (ρ,d) else af
def bG(f:EF):XF:=λρ=>(f (gJ ρ)).bind λd=>aa (ρ,d)
noncomputable def mH:Option Sv->Option (List D)
 |some (.ow (.lst ds))=>aa ds
 |_=>af
def kR(i:Nat)(m:List D->D->Option (List D×D))(x:XF):XF:=λρ=>(mH ρ[i]?).bind λ_=>(x ρ).bind λp=>(mH p.1[i]?).bind λds=>(m ds p.2).map λq=>(p.1.set i (.ow (.lst q.1)),q.2)
def eQ:List D->D->Option (List D×D):=λds d=>if ds.length<oN then aa (ds++[d],.non) else af
noncomputable def XH:List D->D->Option (List D×D)
 |ds,.int k=>if k.natAbs<9223372036854775808 then(G5 ds.length k).bind λj=>(ds[j]?).map λd=>(ds.eraseIdx j,d) else af
 |_,_=>af
noncomputable def Se:List D->D->Option (List D×D)
 |ds,.lst es=>if ds.length+es.length<=oN then aa (ds++es,.non) else af
 |_,_=>af
def zM(i:Nat):XF:=λρ=>(mH ρ[i]?).bind λds=>(ds[ds.length-1]?).map λd=>(ρ.set i (.ow (.lst ds.dropLast)),d)
def cJ:SF:=λρ=>.nx ρ
noncomputable def aI(f g:SF):SF:=λρ=>match f ρ with
 |.nx ρ'=>g ρ'
 |o=>o
def bB(f:EF):SF:=λρ=>match f (bW ρ) with
 |some d=>.rt d
 |none=>.no
def eO(t:TF)(a b:SF):SF:=λρ=>match t (bW ρ) with
 |some ae=>a ρ
 |some ag=>b ρ
 |none=>.no
def aN(i:Nat)(f:EF):SF:=λρ=>match f (gJ ρ) with
 |some d=>.nx (ρ.set i (.ro d))
 |none=>.no
noncomputable def oP(i:Nat)(x:XF):SF:=λρ=>match x ρ with
 |some p=>.nx (p.1.set i (.ro p.2))
 |none=>.no
def fG(i:Nat)(f:EF):SF:=λρ=>match f (gJ ρ) with
 |some d=>.nx (ρ.set i (.ow d))
 |none=>.no
def oZ:D->Bool
 |.lst ds=>jS ds
 |_=>ag
def QQ(i:Nat)(f:EF):SF:=λρ=>match f (bW ρ) with
 |some d=>if oZ d=ae then .nx (ρ.set i (.ow d)) else .no
 |none=>.no
def jH(i:Nat)(f:EF):SF:=λρ=>match f (bW ρ) with
 |some d=>if oZ d=ae then .nx (ρ.set i (.ro d)) else .no
 |none=>.no
def EA(i:Nat):SF:=λρ=>.nx (ρ.set i (.ow (.jR [] [])))
noncomputable def sX(x:XF):SF:=λρ=>match x ρ with
 |some p=>.nx p.1
 |none=>.no
def M5(i:Nat)(x:XF)(k:EF):SF:=λρ=>match ((x ρ).bind λp=>(mH p.1[i]?).bind λds=>(k (bW p.1)).bind λkd=>(asInt kd).bind λkk=>(G5 ds.length kk).map λj=>p.1.set i (.ow (.lst (ds.set j p.2)))) with
 |some ρ'=>.nx ρ'
 |none=>.no
noncomputable def vM:Option Sv->Option (List (Sum Int ak)×List D)
 |some (.ow (.jR ks ds))=>aa (ks,ds)
 |_=>af
def KI(i:Nat)(x:XF)(k:EF):SF:=λρ=>match ((x ρ).bind λp=>(vM p.1[i]?).bind λkd=>(k (bW p.1)).bind λkv=>(vJ kv).bind λkk =>
  if(jV kd.1 kd.2 kk).isNone=ae/\kd.2.length<oN then aa (p.1.set i (.ow (.jR (kd.1++[kk]) (kd.2++[p.2])))) else af) with
 |some ρ'=>.nx ρ'
 |none=>.no
abbrev GSF:=D->bV->Option bV
def gK(i:Nat):GSF:=λd ρ=>aa (ρ.set i (.ro d))
def zN(i j:Nat):GSF:=λd ρ=>(zL d).map λp=>(ρ.set i (.ro p.1)).set j (.ro p.2)
noncomputable def eT(g:GSF)(b:SF):List D->bV->Out
 |[],ρ=>.nx ρ
 |d::ds,ρ=>match g d ρ with
  |none=>.no
  |some ρ1=>match b ρ1 with
   |.nx ρ2=>eT g b ds ρ2
   |o=>o
def b9(it:AF)(g:GSF)(b:SF):SF:=λρ=>match it (gJ ρ) with
 |some ds=>eT g b ds ρ
 |none=>.no
def eI(t:TF)(b:SF):Nat->bV->Out
 |0,_=>.no
 |n+1,ρ=>match t (bW ρ) with
  |none=>.no
  |some ag=>.nx ρ
  |some ae=>match b ρ with
   |.nx ρ'=>eI t b n ρ'
   |o=>o
def QR:Nat:=1000000
def BO(n:Nat)(t:TF)(b:SF):SF:=eI t b n
def c6(n:Nat)(ds:List D):bV:=ds.map Sv.ro++dm (n-ds.length) Sv.no
noncomputable def bY(n np:Nat)(b:SF):fY:=λds=>if ds.length=np then(match b (c6 n ds) with
 |.rt d=>.ok d
 |.nx _=>.ok .non
 |.ex c=>.ex c
 |.no=>.no) else .no
noncomputable def hV:List Int->List Int->Bool
 |[],[]=>ag
 |[],_::_=>ae
 |_::_,[]=>ag
 |a::as,b::bs=>if a=b then hV as bs else Zv (a<b)
def M6(t:Q0e):List (List Int)->List (List Int)
 |[]=>[t]
 |u::us=>if hV u t=ae then u::M6 t us else t::u::us
def tW:List (List Int)->List (List Int)
 |[]=>[]
 |t::ts=>M6 t (tW ts)
def Sb(t:Q0e):D:=.tup (t.map D.int)
def X_:D->Option (List Int)
 |.tup ds=>intsOf ds
 |_=>af
def QT:List D->Option (List (List Int))
 |[]=>aa []
 |d::ds=>(X_ d).bind λt=>(QT ds).map (t :: ·)
def BP:List D->Option D
 |[.lst a]=>(QT a).bind λts=>if ts.length<64/\ts.all (λt=>!t.isEmpty)=ae then aa (.lst ((tW ts).map Sb)) else af
 |_=>af
theorem HE:∀a b:Q0e,hV a b=ae->hV b a=ag
 |[],[],h=>by cases h
 |[],_::_,_=>rfl
 |_::_,[],h=>by cases h
 |a::as,b::bs,h=>by
  unfold hV at h ⊢;by_cases e:a=b
  .rw [Z_ e] at h;rw[Z_ e.symm];exact HE as bs h
  .rw [Zz e] at h;rw[Zz (e_ e)];simp at h ⊢;omega
theorem HF:∀a b c:Q0e,hV b a=ag->hV c b=ag->hV c a=ag
 |[],[],c,h1,h2=>h2
 |[],b::bs,[],h1,h2=>rfl
 |[],b::bs,c::cs,h1,h2=>rfl
 |a::as,[],c,h1,h2=>by cases h1
 |a::as,b::bs,[],h1,h2=>by cases h2
 |a::as,b::bs,c::cs,h1,h2=>by
  unfold hV at h1 h2 ⊢;by_cases e1:b=a
  .subst e1;rw[Z_ rfl] at h1;by_cases e2:c=b
   .subst e2;rw[Z_ rfl] at h2 ⊢;exact HF as bs cs h1 h2
   .rw [Zz e2] at h2 ⊢;exact h2
  .rw [Zz e1] at h1;by_cases e2:c=b
   .subst e2;rw[Zz e1];exact h1
   .rw [Zz e2] at h2;simp at h1 h2;rw[Zz (by omega)];simp;omega
theorem QU:∀a b:Q0e,hV a b=ag->hV b a=ag->a=b
 |[],[],_,_=>rfl
 |[],_::_,h1,_=>by cases h1
 |_::_,[],_,h2=>by cases h2
 |a::as,b::bs,h1,h2=>by
  unfold hV at h1 h2;by_cases e:a=b
  .subst e;rw[Z_ rfl] at h1 h2;rw[QU as bs h1 h2]
  .rw [Zz e] at h1;rw[Zz (e_ e)] at h2;simp at h1 h2;omega
theorem rR(t:Q0e):∀l,(M6 t l).Perm (t::l)
 |[]=>.refl _
 |u::us=>by
  unfold M6;by_cases h:hV u t=ae
  .rw [Z_ h];exact((rR t us).cons u).trans (.swap t u us)
  .rw [Zz h]
theorem pA:∀l,(tW l).Perm l
 |[]=>.refl _
 |t::ts=>(rR t _).trans ((pA ts).cons t)
def UpT(l:Q0a):Prop:=l.Pairwise λa b=>hV b a=ag
theorem KJ(t:Q0e):∀l,UpT l->UpT (M6 t l)
 |[],_=>List.pairwise_singleton _ _
 |u::us,h=>by
  have⟨h1,h2⟩:=gq.mp h;unfold M6;by_cases e:hV u t=ae
  .rw [Z_ e];refine gq.mpr ⟨λx hx=>?_,KJ t us h2⟩;rcases bu.mp ((rR t us).mem_iff.mp hx) with rfl|hx
   .exact HE _ _ e
   .exact h1 x hx
  .rw [Zz e];have e:hV u t=ag:=by simpa using e
   refine gq.mpr ⟨λx hx=>?_,h⟩;rcases(bu.mp hx:x=u\/x∈us) with rfl|hx
   .exact e
   .exact HF t u x e (h1 x hx)
theorem vN:∀l,UpT (tW l)
 |[]=>.nil
 |t::ts=>KJ t _ (vN ts)
theorem BQ:∀{l m:Q0a},l.Perm m->UpT l->UpT m->l=m
 |[],m,p,_,_=>by rw[List.nil_perm.mp p]
 |a::l,[],p,_,_=>by have:=p.length_eq;simp at this
 |a::l,b::m,p,h1,h2=>by
  obtain⟨a1,a2⟩:=gq.mp h1;obtain⟨b1,b2⟩:=gq.mp h2;have e:a=b:=by
   have ha:=bu.mp (p.mem_iff.mp b_);have hb:=bu.mp (p.mem_iff.mpr b_);rcases ha with h|h
   .exact h
   .rcases hb with h' | h'
    .exact h'.symm
    .exact QU _ _ (b1 a h) (a1 b h')
  subst e;rw[BQ p.cons_inv a2 b2]
noncomputable def vO(f:D->D->Option Bool):List D->List D->Option Bool
 |d::ds,e::es=>(f d e).bind λx=>(vO f ds es).map (x && ·)
 |_,_=>aa ae
def eqP:Nat->D->D->Option Bool
 |_,.int i,.int j=>aa (Zv (i=j))
 |_,.bl i,.bl j=>if i=j then aa ae else af
 |_,.str i,.str j=>if i=j then aa ae else af
 |n+1,.tup a,.tup b=>(vO (eqP n) a b).map λr=>r&&Zv (a.length=b.length)
 |_,_,_=>af
def yT:D->D->Option D:=λx y=>(eqP 8 x y).map D.bl
theorem nM:∀{a b:List D} {r:Bool},vO f a b=aa r ->∃e:Nat->Bool,(∀(j:Nat) (x y:D),a[j]?=aa x->b[j]?=aa y->f x y=aa (e j))/\r=(dj (min a.length b.length)).all e
 |[],b,r,h=>by cases h;exact⟨λ_=>ae,λj x y h1=>by simp at h1,by simp⟩
 |d::ds,[],r,h=>by cases h;exact⟨λ_=>ae,λj x y _ h2=>by simp at h2,by simp⟩
 |d::ds,c::cs,r,h=>by
  unfold vO at h
  cases q:f d c with
  |none=>rw[q] at h;cases h
  |some x =>
   rw[q] at h
   cases q2:vO f ds cs with
   |none=>simp[q2] at h
   |some y =>
    simp[q2] at h;obtain⟨e,h1,h2⟩:=nM q2;refine⟨λj=>match j with|0=>x|j+1=>e j,λj u v e1 e2=>?_,?_⟩
    .cases j with
     |zero=>cases e1;cases e2;exact q
     |succ j=>exact h1 j u v (by simpa using e1) (by simpa using e2)
    .rw [<- h,h2,bx,bx,show min (ds.length+1) (cs.length+1)=min ds.length cs.length+1 by omega,Gn,og,uz];rfl
noncomputable def Sa(ρ:bV)(i:Nat):bV:=match ρ[i]? with
 |some (.ow d)=>ρ.set i (.ro d)
 |_=>ρ
def HG(i:Nat)(f:SF):SF:=λρ=>f (Sa ρ i)
def aHy:List D->Option D
 |[.lst [d]]=>aa (.lst [d])
 |ds=>BP ds
def Xz:List D->Option D
 |[.tup a]=>(intsOf a).map λns=>.int ns.sum
 |_=>af
noncomputable def aMC:D->Option D
 |.lst ds=>aa (.lst ds.reverse)
 |_=>af
noncomputable def HH(x:XF)(g:GSF):SF:=λρ=>match (x ρ).bind λp=>g p.2 p.1 with
 |some ρ'=>.nx ρ'
 |none=>.no
def R_:D->D->Option Bool
 |.lst a,.lst b=>(intsOf a).bind λx=>(intsOf b).map λy=>Zv (x=y)
 |_,_=>af
noncomputable def BR:List Int->Int
 |[]=>0
 |a::l=>l.foldl (λm b=>if m<b then b else m) a
def putN(ns:Q0e)(k:Int):List Int:=if k∈ns then ns else ns++[k]
def M7(ns:Q0e):List Int:=ns.foldl putN []
def M8(i j:Nat)(t:AF):SF:=λρ=>match t (gJ ρ) with
 |some [x,y]=>.nx ((ρ.set i (.ro x)).set j (.ro y))
 |_=>.no
def mI:List D->Option D
 |[.tup ds]=>(intsOf ds).bind λns=>if ns.length<64 then aa (.lst ((sortI ns).map D.int)) else af
 |_=>af
abbrev iL:Nat->aw->Prop:=λ_ _=>True
def adr(q:Nat->aw->Prop):Nat->aw->Prop:=λa _=>∃o,q a o
abbrev yU:=Sum Int ak
abbrev PN1:=List (Sum yU (List yU))
abbrev vP:=Sum yU PN1
def vQ:List D->Option (List yU)
 |[]=>aa []
 |d::ds=>(vJ d).bind λk=>(vQ ds).map (k :: ·)
def QV:D->Option (Sum yU (List yU))
 |.tup ds=>(vQ ds).map .inr
 |d=>(vJ d).map .inl
def mJ:List D->Option PN1
 |[]=>aa []
 |d::ds=>(QV d).bind λk=>(mJ ds).map (k :: ·)
def jT:D->Option vP
 |.tup ds=>(mJ ds).map .inr
 |d=>(vJ d).map .inl
noncomputable def dK:yU->D
 |.inl i=>.int i
 |.inr x=>.str x
def QW:Sum yU (List yU)->D
 |.inl k=>dK k
 |.inr ks=>.tup (ks.map dK)
def mh:vP->D
 |.inl k=>dK k
 |.inr ks=>.tup (ks.map QW)
def bP(ks:List vP)(ds:List D)(k:vP):Option D:=((ks.zip ds).find? λp=>Zv (p.1=k)).map (·.2)
def kindB(ks:List vP)(k:vP):Bool:=ks.all λq=>q.isLeft == k.isLeft
def kU:D->D->Option D
 |.cD _ ks ds,d=>(jT d).bind λk=>if kindB ks k=ae then bP ks ds k else af
 |_,_=>af
def uJ(neg:Bool):D->D->Option D
 |d,.cD _ ks ds=>(jT d).bind λk=>if kindB ks k=ae then aa (.bl (if neg then !(bP ks ds k).isSome else(bP ks ds k).isSome)) else af
 |_,_=>af
def EB:D->D->D->Option D
 |.cD _ ks ds,d,z=>(jT d).bind λk=>if kindB ks k=ae then aa ((bP ks ds k).getD z) else af
 |_,_,_=>af
def mK(a b c:EF):EF:=λρ=>(a ρ).bind λx=>(b ρ).bind λy=>(c ρ).bind λz=>EB x y z
def d7(ks:List vP)(ds:List D)(k:vP)(v:D):List vP×List D :=
 if ks.any (λq=>Zv (q=k))=ae then(ks,(ks.zip ds).map λp=>if p.1=k then v else p.2) else(ks++[k],ds++[v])
def QX:D->Option (List D)
 |.cD _ ks _=>aa (ks.map mh)
 |_=>af
def vR(f:EF):AF:=λρ=>(f ρ).bind QX
noncomputable def EC:Option Sv->Option ((Nat->aw->Prop)×List vP×List D)
 |some (.ow (.cD q ks ds))=>aa (q,ks,ds)
 |_=>af
def vS(i:Nat):SF:=λρ=>.nx (ρ.set i (.ow (.cD iL [] [])))
def rS(i:Nat)(k v:EF):SF:=λρ=>match (k (gJ ρ)).bind λkd=>(v (gJ ρ)).bind λd=>(jT kd).map λkk=>(kk,d) with
 |some p=>.nx (ρ.set i (.ow (.cD iL [p.1] [p.2])))
 |none=>.no
def gC(i:Nat)(x:XF)(k:EF):SF:=λρ=>match ((x ρ).bind λp=>(EC p.1[i]?).bind λkd=>(k (bW p.1)).bind λkv=>(jT kv).bind λkk =>
  if kindB kd.2.1 kk=ae/\kd.2.2.length<oN then aa (p.1.set i (.ow (.cD (adr kd.1) (d7 kd.2.1 kd.2.2 kk p.2).1 (d7 kd.2.1 kd.2.2 kk p.2).2))) else af) with
 |some ρ'=>.nx ρ'
 |none=>.no
noncomputable def zP(i j:Nat):SF:=λρ=>match ρ[j]? with
 |some (.ow d)=>if i=j then .no else .nx ((ρ.set j .no).set i (.ow d))
 |_=>.no
noncomputable def Eb:List D->Option (List D)
 |[.lst xs,.lst ys]=>aa ((xs.zip ys).map λp=>.tup [p.1,p.2])
 |_=>af
def ED(t:AF):AF:=λρ=>(t ρ).bind Eb
noncomputable def Rp:List Int->Int
 |[]=>0
 |a::l=>l.foldl (λm b=>if b<m then b else m) a
def Ea:List D->Option D
 |[.tup ds]=>(intsOf ds).bind λns=>if ns=[] then af else aa (.int (Rp ns))
 |_=>af
def Ro:D->D->Option D:=λx y=>(R_ x y).map D.bl
abbrev KD:=List vP×List D
abbrev FnM:=List D->KD->M (D×KD)
def startM(n:Nat)(ds:List D)(q:Nat->aw->Prop)(kd:KD):bV:=ds.map Sv.ro++Sv.ow (.cD q kd.1 kd.2)::dm (n-(ds.length+1)) Sv.no
def XI(j:Nat)(k:EF)(q:Nat->aw->Prop):bV->Option (D×KD):=λρ=>(EC ρ[j]?).bind λkd=>(k (gJ ρ)).bind λkv=>(jT kv).bind λkk=>@ite _ (kindB kd.2.1 kk=ae /\∀a o,kd.1 a o ->∃o2,q a o2) (Hj _) ((bP kd.2.1 kd.2.2 kk).map λd=>(d,kd.2)) af
def vT(n np:Nat)(b:SF)(k:EF)(q:Nat->aw->Prop)(ds:List D)(kd:KD):Option (D×KD):=if ds.length+1=np then(match b (startM n ds q kd) with
 |.nx ρ=>XI (np-1) k q ρ
 |_=>af) else af
def runM(n np:Nat)(b:SF)(k:EF):FnM:=λds kd=>@dite _ (∃r,∀q,vT n np b k q ds kd=aa r) (Hj _) (λh=>.ok h.choose) λ_=>.no
def KL(h:runM n np b k ds kd=.ok r)(q:Nat->aw->Prop):vT n np b k q ds kd=aa r:=by
 unfold runM at h;split at h
 .rename_i hx;cases h;exact hx.choose_spec q
 .cases h
theorem XJ(h:∀q,vT n np b k q ds kd=aa r):runM n np b k ds kd=.ok r:=by have hx:∃r,∀q,vT n np b k q ds kd=aa r:=⟨r,h⟩;unfold runM;rw[dif_pos hx];have e:=hx.choose_spec iL;rw[h iL] at e;rw[df e]
def stepM(R:FnM)(t:AF)(j:Nat)(ρ:bV):Option ((Nat->aw->Prop)×D×KD):=(t (gJ ρ)).bind λds=>(EC ρ[j]?).bind λkd=>match R ds kd.2 with
 |.ok r=>aa (kd.1,r)
 |_=>af
def rT(i:Nat)(R:FnM)(t:AF)(j:Nat):SF:=λρ=>match stepM R t j ρ with
 |some r=>.nx ((ρ.set j (.ow (.cD (adr r.1) r.2.2.1 r.2.2.2))).set i (.ro r.2.1))
 |none=>.no
def XM(R:FnM)(t:AF)(j:Nat):SF:=λρ=>match stepM R t j ρ with
 |some r=>.nx (ρ.set j (.ow (.cD (adr r.1) r.2.2.1 r.2.2.2)))
 |none=>.no
def nnC(i j:Int):Bool:=Zv (0<=i)&&Zv (0<=j)
def lL:D->D->Option D:=iV (λi j=>Zv (0<=j)&&Zv (j.natAbs<=1000000)&&Zv (i.natAbs<18446744073709551616)) λi j=>.int (i*2^j.toNat)
def p6:D->D->Option D:=iV (λ_ j=>Zv (0<=j)) λi j=>.int (i/2^j.toNat)
def eZ:D->D->Option D:=iV nnC λi j=>.int ((i.toNat &&& j.toNat:Nat):Int)
def yV:D->D->Option D:=iV nnC λi j=>.int ((i.toNat ||| j.toNat:Nat):Int)
def KN:D->D->Option D:=iV nnC λi j=>.int (((i.toNat ||| j.toNat:Nat):Int)-((i.toNat &&& j.toNat:Nat):Int))
def KO:List D->Option D
 |[.lst ds]=>(intsOf ds).bind λns=>if ns=[] then af else aa (.int (BR ns))
 |_=>af
noncomputable def mL(key:EF)(ρ:dJ):List D->Option (List D)
 |[]=>aa []
 |d::ds=>(key (ρ.set 0 (aa d))).bind λk=>(mL key ρ ds).map (k :: ·)
def nN(ts:Q0a):List Int:=(tW ts).map λt=>((ts.idxOf t:Nat):Int)
theorem zQ:∀{ds ks:List D},mL key ρ ds=aa ks->ks.length=ds.length
 |[],ks,h=>by cases h;rfl
 |d::ds,ks,h=>by
  unfold mL at h
  cases e:key (ρ.set 0 (aa d)) with
  |none=>rw[e] at h;cases h
  |some k =>
   rw[e] at h
   cases e2:mL key ρ ds with
   |none=>rw[e2] at h;cases h
   |some r =>
    rw[e2] at h;cases h;rw[bx,bx,zQ e2]
theorem zR:∀{ds ks:List D} {i:Nat} {d:D},mL key ρ ds=aa ks->ds[i]?=aa d ->∃k,ks[i]?=aa k/\key (ρ.set 0 (aa d))=aa k
 |[],ks,i,d,h,hd=>by cases hd
 |d0::ds,ks,i,d,h,hd=>by
  unfold mL at h
  cases e:key (ρ.set 0 (aa d0)) with
  |none=>rw[e] at h;cases h
  |some k =>
   rw[e] at h
   cases e2:mL key ρ ds with
   |none=>rw[e2] at h;cases h
   |some r =>
    rw[e2] at h;cases h
    cases i with
    |zero=>cases hd;exact⟨k,rfl,e⟩
    |succ i =>
     obtain⟨k',h1,h2⟩:=zR (i:=i) (d:=d) e2 (by rw[ll] at hd;exact hd);exact⟨k',by rw[<- h1];exact ll,h2⟩
def BS(ds:List D):Option D:=(intsOf ds).bind λns=>if ns.length<64/\ns.Nodup then aa (.lst ((nN (ns.map λn=>[n])).map D.int)) else af
def uQ(fr:List Nat)(a fk:EF):EF:=λρ=>(a ρ).bind λd=>(asInt d).bind λj=>if 0<=j/\j<64 then(mL fk (benv 1 fr ρ) ((aY 0 j.toNat).map D.int)).bind BS else af
end L4
namespace Ord
structure Rows (rows:Q0a):Prop where
 up:∀(b:Nat) (r:Q0e),rows[b]?=aa r->r.Pairwise (·<·)
 rng:∀(b:Nat) (r:Q0e),rows[b]?=aa r ->∀a∈r,0<=a/\a<(rows.length:Int)
 tr:∀(b a:Nat) (r v:Q0e),rows[b]?=aa r->(a:Int)∈r->rows[a]?=aa v ->∀c∈v,c∈r
 QY:∀(b:Nat) (r:Q0e),rows[b]?=aa r->(b:Int)∉r
theorem vU{α:Type}:∀(l:List α) (j:Nat) (x:α),l[j]?=aa x->(x::l.eraseIdx j).Perm l
 |[],j,x,h=>by simp at h
 |a::l,0,x,h=>by simp at h;subst h;simp
 |a::l,j+1,x,h=>by have ih:=vU l j x (by simpa using h);rw[a2u];exact(a3Q a x _).trans (ih.cons a)
def BU{l:Q0e}(p:Int->Bool)(h:l.Nodup):(l.filter p).Nodup:=qb p h
def Under(word:Q0e)(us:Q0a)(t:Nat)(u:Q0e):Prop :=
 u.Nodup /\∀a∈u,∃(s:Nat) (v:Q0e),s<t/\word[s]?=aa a/\us[s]?=aa v /\∀c∈v,c∈u
def Good(word:Q0e)(us:Q0a):Prop:=∀(t:Nat) (u:Q0e),us[t]?=aa u->Under word us t u
def Under.mono(h:Under word us t u)(ht:t<=t'):Under word us t' u :=
 ⟨h.1,λa ha=>by obtain⟨s,v,h1,h2,h3,h4⟩:=h.2 a ha;exact⟨s,v,by omega,h2,h3,h4⟩⟩
def vV{word:Q0e}(h:word.Nodup){i j:Nat}{a:Int}(hi:word[i]?=aa a)(hj:word[j]?=aa a):i=j:=by obtain⟨h1,e1⟩:=cn.mp hi;obtain⟨h2,e2⟩:=cn.mp hj;exact(a2n h).mp (e1.trans e2.symm)
theorem Under.step{word:Q0e}{us:Q0a}{i:Nat}{u v:Q0e}{x:Int}(hw:word.Nodup)(g:Good word us)(h:Under word us i u)(hx:word[i]?=aa x)(hv:us[i]?=aa v):
  Under word us (i+1) (u++(v++[x]).filter λa=>!u.contains a):=by
 have gv:=g i v hv;have mem:∀c,c∈v++[x]->c∈u++(v++[x]).filter λa=>!u.contains a:=λc hc=>by
  by_cases hu:c∈u
  .exact jh _ hu
  .exact gc _ (f_.mpr ⟨hc,by simpa using hu⟩)
 have nv:(v++[x]).Nodup:=by refine iy.mpr ⟨gv.1,by simp,λa ha b hb e=>?_⟩;have hb:=br.mp hb;subst hb;subst e;obtain⟨s,_,h1,h2,_⟩:=gv.2 a ha;have:=vV hw h2 hx;omega
 refine⟨iy.mpr ⟨h.1,BU _ nv,λa ha b hb e=>?_⟩,λa ha=>?_⟩
 .subst e;have:=(f_.mp hb).2;simp at this;exact this ha
 .rcases ft.mp ha with h1|h1
  .obtain ⟨s,z,a1,a2,a3,a4⟩:=h.2 a h1;exact⟨s,z,by omega,a2,a3,λc hc=>jh _ (a4 c hc)⟩
  .rcases ft.mp (f_.mp h1).1 with h2|h2
   .obtain ⟨s,z,a1,a2,a3,a4⟩:=gv.2 a h2;exact⟨s,z,by omega,a2,a3,λc hc=>mem c (jh _ (a4 c hc))⟩
   .have e:=br.mp h2;subst e;exact⟨i,v,by omega,hx,hv,λc hc=>mem c (jh _ hc)⟩
def Good.snoc(g:Good word us)(h:Under word us us.length u):Good word (us++[u]):=λt z e=>by
 have old:∀{s:Nat} {v:Q0e},us[s]?=aa v->(us++[u])[s]?=aa v:=λ{s v} e=>by rw[ik (cn.mp e).1];exact e
 have up:∀{t:Nat} {z:Q0e},Under word us t z->Under word (us++[u]) t z:=λ{t z} q=>⟨q.1,λa ha=>by obtain⟨s,v,a1,a2,a3,a4⟩:=q.2 a ha;exact⟨s,v,a1,a2,old a3,a4⟩⟩;by_cases ht:t<us.length
 .rw [ik ht] at e;exact up (g t z e)
 .have et:t=us.length:=by have:=(cn.mp e).1;simp at this;omega
  subst et;rw[ic (bc _),my] at e;have e:u=z:=by simpa using e
  subst e;exact up h
theorem Good.rows{word:Q0e}{us rows:Q0a}{n:Nat}(g:Good word us)(hu:us.length=n)(hw:word.Perm ((dj n).map λk:Nat=>(k:Int)))(hr:rows.length=n)
  (h:∀(b t:Nat) (r u:Q0e),rows[b]?=aa r->word[t]?=aa (b:Int)->us[t]?=aa u->r.Perm u/\r.Pairwise (· <= ·)):Rows rows:=by
 have nd:word.Nodup:=hw.nodup_iff.mpr (by
  refine zk _ (λa b hab=>?_) a2g;intro e;exact hab (by omega))
 have find:∀(b:Nat),b<n ->∃t u,word[t]?=aa (b:Int)/\us[t]?=aa u:=λb hb=>by
  have hm:(b:Int)∈word:=hw.mem_iff.mpr (gj.mpr ⟨b,pk.mpr hb,rfl⟩);obtain⟨t,ht⟩:=uq.mp hm;have hl:word.length=n:=by rw[hw.length_eq,az,pw]
  have:=(cn.mp ht).1;exact⟨t,us[t]'(by omega),ht,getElem?_eq_getElem (by omega)⟩
 have row:∀(b:Nat) (r:Q0e),rows[b]?=aa r ->∃t u,word[t]?=aa (b:Int)/\us[t]?=aa u/\r.Perm u/\r.Pairwise (· <= ·):=λb r e=>by have hb:=(cn.mp e).1;obtain⟨t,u,h1,h2⟩:=find b (by omega);exact⟨t,u,h1,h2,h b t r u e h1 h2⟩
 refine⟨λb r e=>?_,λb r e a ha=>?_,λb a r v e ha ev c hc=>?_,λb r e hb=>?_⟩
 .obtain ⟨t,u,h1,h2,h3,h4⟩:=row b r e;have n1:r.Nodup:=h3.nodup_iff.mpr (g t u h2).1;exact(List.pairwise_and_iff.mpr ⟨h4,n1⟩).imp λq=>by have:=q.1;have:=q.2;omega
 .obtain ⟨t,u,h1,h2,h3,h4⟩:=row b r e;obtain⟨s,z,_,a2,_⟩:=(g t u h2).2 a (h3.mem_iff.mp ha);have hm:=hw.mem_iff.mp (jt a2);obtain⟨k,hk,rfl⟩:=gj.mp hm;have:=pk.mp hk;omega
 .obtain ⟨t,u,h1,h2,h3,h4⟩:=row b r e;obtain⟨t2,u2,k1,k2,k3,k4⟩:=row a v ev;obtain⟨s,z,_,a2,a3,a4⟩:=(g t u h2).2 _ (h3.mem_iff.mp ha);have es:=vV nd a2 k1;subst es;rw[k2] at a3;cases a3;exact h3.mem_iff.mpr (a4 c (k3.mem_iff.mp hc))
 .obtain ⟨t,u,h1,h2,h3,h4⟩:=row b r e;obtain⟨s,z,a1,a2,_⟩:=(g t u h2).2 _ (h3.mem_iff.mp hb);have:=vV nd a2 h1;omega
noncomputable def tri:Nat->Nat
 |0=>0
 |j+1=>tri j+j
theorem aB0(h:i<=j):tri i<=tri j:=by
 induction h with
 |refl=>exact bc _
 |step _ ih=>exact gn ih (lx _ _)
def aB1(hj:j<n)(hi:i<j):tri j+i<tri n:=by have:=aB0 (show j+1<=n by omega);show tri j+i<tri n;have e:tri (j+1)=tri j+j:=rfl;omega
theorem dD:∀(l m:Q0e),l.Nodup->(∀a∈l,a∈m)->l.length<=m.length
 |[],m,_,_=>kr _
 |a::l,m,h,hs=>by
  obtain⟨h1,h2⟩:=gu.mp h;have ha:=hs a b_;have ih:=dD l (m.erase a) h2 λb hb=>by have:b≠a:=λe=>h1 (e▸hb);exact(List.mem_erase_of_ne this).mpr (hs b (dg _ hb))
  rw[List.length_erase_of_mem ha] at ih;have:0<m.length:=a2k ha;rw[bx];omega
end Ord
namespace LL
open L3 L4
def bT:fY:=bY 2 2
  (aI (eO (tV (aC gM (bI aW (aA (aB 0) aE)) (eC (.int 0))))
   (bB (eC (.int 0)))
   cJ)
  (bB (aC a9 (aB 0) (aC cZ (aB 1) (bI aW (aA (aB 0) aE))))))
def eW:fY:=bY 5 3
  (aI (aN 3 (aC cZ (aC mulM (aC bA (aC bA (aC bA (aB 0) (aC mulM (aC mulM (eC (.int 11)) (aB 1)) (aB 1))) (aC mulM (eC (.int 17)) (aB 1))) (aB 2)) (eC (.int 48271))) (eC (.int 2147483647))))
  (aI (aN 4 (aC cZ (aC bA (aC bA (aC mulM (aB 3) (aC bA (aC kT (aB 3) (eC (.int 4096))) (eC (.int 5)))) (aC mulM (eC (.int 29)) (aB 1))) (aB 2)) (eC (.int 2147483629))))
  (bB (aC cZ (aC mulM (aB 4) (eC (.int 39373))) (eC (.int 1000000007))))))
def bR:fY:=bY 6 3
  (aI (fG 3 (dC aE))
  (aI (aN 4 (eC (.int 0)))
  (aI (eO (tV (aC geM (aB 0) (aC uH (eC (.int 10)) (eC (.int 18)))))
   (aN 4 (aB 0))
   cJ)
  (aI (b9 (aR (aA (aB 1) aE)) (gK 5)
   (eO (tV (aC rN (aB 4) (eC (.int 0))))
    (aI (sX (kR 3 eQ (bG (aC cZ (aB 4) (eC (.int 64))))))
    (aN 4 (aC kT (aB 4) (eC (.int 64)))))
    (sX (kR 3 eQ (bG (aH LL.eW (aA (aB 0) (aA (aB 5) (aA (aB 2) aE)))))))))
  (bB (aB 3))))))
def bZ:Nat->fY
 |0=>λ_=>.no
 |n+1=>bY 2 2
  (aI (eO (tV (jF "tuple" (aB 1)))
   (aI (eO (yN (jC (tV (jF "tuple" (aB 0)))) (tV (aC W2 (bI aW (aA (aB 0) aE)) (bI aW (aA (aB 1) aE)))))
    (bB (eC (.bl ag)))
    cJ)
   (bB (bI allM (aA (bJ 1 [0,1] (aR (aA (bI aW (aA (aB 1) aE)) aE)) (g1 0) cM (aH (bZ n) (aA (aC a9 (aB 1) (aB 0)) (aA (aC a9 (aB 2) (aB 0)) aE)))) aE))))
   cJ)
  (aI (eO (tV (aC XG (aB 1) (eC .non)))
   (bB (aC XG (aB 0) (eC .non)))
   cJ)
  (aI (eO (tV (jF "bool" (aB 1)))
   (bB (jD (jF "bool" (aB 0)) (aC gM (aB 0) (aB 1))))
   cJ)
  (aI (eO (tV (jF "int" (aB 1)))
   (bB (jD (jF "int" (aB 0)) (jD (yR (jF "bool" (aB 0))) (aC gM (aB 0) (aB 1)))))
   cJ)
  (bB (jD (jF "str" (aB 0)) (aC gM (aB 0) (aB 1))))))))
def dW:fY:=bY 11 3
  (aI (fG 3 (HC (aA (aB 1) aE)))
  (aI (fG 4 (dC aE))
  (aI (b9 (aR (aA (aB 1) aE)) (gK 5)
   (sX (kR 4 eQ (kR 3 XH (dZ (aC cZ (aC a9 (aB 0) (aB 5)) (bI aW (aA (aB 3) aE))))))))
  (aI (EA 6)
  (aI (aN 7 (aB 1))
  (aI (b9 (aR (aA (aB 1) aE)) (gK 8)
   (aI (aN 9 (dC aE))
   (aI (b9 (aR (aA (aB 8) aE)) (gK 10)
    (aI (eO (tV (aC ltM (aC cZ (aC a9 (aB 0) (aB 7)) (eC (.int 4))) (aB 2)))
     (jH 9 (aC DZ (aB 9) (bJ 1 [9] (cC (aC bA (aC vK (aB 6) (aC a9 (aB 4) (aB 10))) (dC (aA (aC a9 (aB 4) (aB 10)) aE)))) (g1 0) (tV (aC (oO ae) (aB 0) (aB 1))) (aB 0))))
     cJ)
    (aN 7 (aC bA (aB 7) (eC (.int 1))))))
   (KI 6 (bG (aB 9)) (aC a9 (aB 4) (aB 8))))))
  (bB (bI cB (aA (bJ 1 [6] (aR (aA (aB 1) aE)) (g1 0) cM (bI cB (aA (bI fZ (aA (aC vK (aB 1) (aB 0)) aE)) aE))) aE)))))))))
def nO:fY:=bY 7 4
  (aI (aN 4 (aH LL.bR (aA (aH LL.bT (aA (aB 0) (aA (aB 1) aE))) (aA (eC (.int 4)) (aA (aB 3) aE)))))
  (aI (aN 5 (aC cZ (aC a9 (aB 4) (eC (.int 0))) (aC bA (aB 2) (eC (.int 1)))))
  (aI (aN 6 (aH LL.bR (aA (aH LL.bT (aA (aB 0) (aA (aC bA (aB 1) (eC (.int 1))) aE))) (aA (aC bA (aB 5) (aC kT (aC mulM (aB 5) (aC dS (aB 5) (eC (.int 1)))) (eC (.int 2)))) (aA (aC bA (aB 3) (eC (.int 10007))) aE)))))
  (bB (aH LL.dW (aA (aB 6) (aA (aB 5) (aA (aC a9 (dC (aA (eC (.int 1)) (aA (eC (.int 1)) (aA (eC (.int 2)) (aA (eC (.int 2)) (aA (eC (.int 3)) (aA (eC (.int 1)) (aA (eC (.int 0)) (aA (eC (.int 4)) aE))))))))) (aC cZ (aC a9 (aB 4) (eC (.int 1))) (eC (.int 8)))) aE))))))))
def tupI(xs:Q0e):D:=.tup (xs.map D.int)
def aG(xs:Q0e):D:=.lst (xs.map D.int)
def aJ(rows:Q0a):D:=.tup (rows.map tupI)
def fB:bA (.int i) (.int j)=aa (.int (i+j)):=rfl
def kW:dS (.int i) (.int j)=aa (.int (i-j)):=rfl
def bL(h:0<j):cZ (.int i) (.int j)=aa (.int (i%j)):=by simp[cZ,iV,h]
def iM(h:0<j)(h2:j<1073741824):kT (.int i) (.int j)=aa (.int (i/j)):=by simp[kT,iV,h,show j.natAbs<1073741824 by omega]
def BV:ltM (.int i) (.int j)=aa (.bl (Zv (i<j))):=rfl
def uR:leM (.int i) (.int j)=aa (.bl (Zv (i<=j))):=rfl
def iJ:rN (.int i) (.int j)=aa (.bl (Zv (j<i))):=rfl
def p7:geM (.int i) (.int j)=aa (.bl (Zv (j<=i))):=rfl
def cV:gM (.int i) (.int j)=aa (.bl (Zv (i=j))):=rfl
def BW:W2 (.int i) (.int j)=aa (.bl (!Zv (i=j))):=rfl
def rV:gM (.bl i) (.bl j)=aa (.bl (Zv (i=j))):=rfl
def nQ:gM (.str i) (.str j)=aa (.bl (Zv (i=j))):=rfl
def BX:XG d .non=aa (.bl (vI d)):=rfl
def uS:a9 (.lst a) (.int i)=pW a i:=rfl
def uT:a9 (.tup a) (.int i)=pW a i:=rfl
def BY:a9 (.fX a) (.int i)=(pW a i).map D.int:=rfl
def vW:aW [.lst a]=aa (.int a.length):=rfl
def kX:aW [.tup a]=aa (.int a.length):=rfl
def vX:aW [.fX a]=aa (.int a.length):=rfl
def pB:cB [.lst a]=aa (.tup a):=rfl
def pC:cB [.tup a]=aa (.tup a):=rfl
def rW:pX [.lst a]=aa (.lst a):=rfl
def rX:pX [.tup a]=aa (.lst a):=rfl
def rY:D0 (.lst a)=aa a:=rfl
def rZ:D0 (.tup a)=aa a:=rfl
def nR:mG (.bl b)=aa b:=rfl
def pD:mG (.lst b)=aa (!b.isEmpty):=rfl
def pE:mG (.tup b)=aa (!b.isEmpty):=rfl
def mM:tU (.bl b)=aa b:=rfl
def nU(h:ds.length<16777216):eQ ds d=aa (ds++[d],.non):=Z_ h
def sA:KG [.tup ds]=aa (ds.zipIdx.map λp=>.tup [.int (p.2:Int),p.1]):=rfl
def sC:KG [.lst ds]=aa (ds.zipIdx.map λp=>.tup [.int (p.2:Int),p.1]):=rfl
def vY:xg [.tup ds]=aa ds.reverse:=rfl
def vZ:xg [.lst ds]=aa ds.reverse:=rfl
def KP(h:t ρ=aa ds)(hl:ds.length<=16777216):dG t ρ=aa (.tup ds):=by unfold dG;rw[h];exact Z_ hl
def gO(hl:ds.length=np)(h:b (c6 n ds)=.rt d):bY n np b ds=.ok d:=by unfold bY;rw[Z_ hl,h]
def dI(ρ':bV)(h1:f ρ=.nx ρ')(h2:g ρ'=o):aI f g ρ=o:=by unfold aI;rw[h1];exact h2
def yW(h1:f ρ=.rt d):aI f g ρ=.rt d:=by unfold aI;rw[h1]
def iA(h:f (bW ρ)=aa d):bB f ρ=.rt d:=by unfold bB;rw[h]
def eD(d:D)(h:f (gJ ρ)=aa d)(hr:ρ.set i (.ro d)=ρ'):aN i f ρ=.nx ρ':=by unfold aN;rw[h,<- hr]
def M9(h:t (bW ρ)=aa ae)(h2:a ρ=o):eO t a b ρ=o:=by unfold eO;rw[h];exact h2
def yO(h:t (bW ρ)=aa ag)(h2:b ρ=o):eO t a b ρ=o:=by unfold eO;rw[h];exact h2
def HI(ds:List D)(h:it (gJ ρ)=aa ds)(h2:eT g b ds ρ=o):b9 it g b ρ=o:=by unfold b9;rw[h];exact h2
def iN(ds:List D)(h:it ρ=aa ds)(hl:ds.length<=16777216)(h2:jG g t e (benv nl fr ρ) ds=aa ys):bJ nl fr it g t e ρ=aa (.lst ys):=by unfold bJ;rw[h];show(if ds.length<=oN then _ else _)=_;rw[Z_ (show ds.length<=oN from hl),h2];rfl
def iO(h:a.length+b.length<=16777216):bA (.lst a) (.lst b)=aa (.lst (a++b)):=Z_ h
def QZ(h:a.length+b.length<=16777216):bA (.tup a) (.tup b)=aa (.tup (a++b)):=Z_ h
def EE(h:a.length+b.length<=16777216):DZ (.lst a) (.lst b)=aa (.lst (a++b)):=Z_ h
def mN(h:i.natAbs<18446744073709551616):mulM (.int i) (.int j)=aa (.int (i*j)):=by simp[mulM,iV,vH,h]
def BZ(h:j.natAbs<18446744073709551616):mulM (.int i) (.int j)=aa (.int (i*j)):=by simp[mulM,iV,vH,h]
def wB(h:j.natAbs<4611686018427387904):HD [.int j]=aa ((aY 0 j.toNat).map D.int):=Z_ h
def p8{n:Nat}(h:n<4611686018427387904):HD [.int (n:Int)]=aa ((aY 0 n).map D.int):=by rw[wB (by omega)];rfl
theorem dM:∀ns:Q0e,intsOf (ns.map D.int)=aa ns
 |[]=>rfl
 |n::ns=>by simp[intsOf,dM ns]
def jW{neg:Bool}{i:Int}{ns:Q0e}:oO neg (.int i) (.tup (ns.map D.int))=aa (.bl (if neg then !ns.contains i else ns.contains i)):=by simp[oO,dM]
def uU{neg:Bool}{i:Int}{ns:Q0e}:oO neg (.int i) (.lst (ns.map D.int))=aa (.bl (if neg then !ns.contains i else ns.contains i)):=by simp[oO,dM]
def sorted_ints(h:ns.length<64):fZ [.lst (ns.map D.int)]=aa (.lst ((sortI ns).map D.int)):=by simp[fZ,dM,h]
def sum_ints{ns:Q0e}:uI [.lst (ns.map D.int)]=aa (.int ns.sum):=by simp[uI,dM]
theorem zS:∀bs:List Bool,oY (bs.map D.bl)=aa bs
 |[]=>rfl
 |b::bs=>by simp[oY,mG,zS bs]
def KQ{bs:List Bool}:allM [.lst (bs.map D.bl)]=aa (.bl (bs.all id)):=by simp[allM,zS]
def wD{n:Nat}{i:Int}(h0:0<=i)(h1:i<n):G5 n i=aa i.toNat:=by unfold G5;rw[Z_ h0,Z_ h1]
def XN(h:k<n):G5 n (k:Int)=aa k:=by rw[wD (by omega) (by omega)];rfl
def XO{α:Type}{xs:List α}{k:Nat}(h:k<xs.length):pW xs (k:Int)=xs[k]?:=by unfold pW;rw[XN h];rfl
def HJ{α:Type}{xs:List α}{i:Int}(h0:0<=i)(h1:i<xs.length):∃x∈xs,pW xs i=aa x/\xs[i.toNat]?=aa x:=by
 have hl:i.toNat<xs.length:=by omega
 refine⟨xs[i.toNat],ni hl,?_,by simp[hl]⟩;unfold pW;rw[wD h0 h1];simp[hl]
theorem B0{α β:Type}(f:α->β)(xs:List α)(i:Int):pW (xs.map f) i=(pW xs i).map f:=by
 unfold pW;rw[az]
 cases G5 xs.length i with
 |none=>rfl
 |some j=>simp
def uV{α:Type}{xs:List α}{k:Nat}{x:α}(h:xs[k]?=aa x):pW xs (k:Int)=aa x:=by rw[XO (cn.mp h).1,h]
def aO(lo:Int)(n:Nat):(aY lo n).length=n:=by simp[aY]
def jI(h:i<n):(aY lo n)[i]?=aa (lo+(i:Int)):=by simp[aY,h]
def i5(lo:Int)(n:Nat):aY lo (n+1)=aY lo n++[lo+(n:Int)]:=by simp[aY,a2e]
def bD:x∈aY lo n↔lo<=x/\x<lo+n:=by
 unfold aY;rw[gj];simp only[pk]
 constructor
 .rintro ⟨k,hk,rfl⟩;omega
 .rintro ⟨h1,h2⟩;exact⟨(x-lo).toNat,by omega,by omega⟩
theorem EG(P:Nat->bV->Prop)(ds:List D)(h0:P 0 ρ)(step:∀(i:Nat) (d:D) (ρ:bV),ds[i]?=aa d->P i ρ ->∃ρ1 ρ2,g d ρ=aa ρ1/\b ρ1=.nx ρ2/\P (i+1) ρ2):
  ∃ρ',eT g b ds ρ=.nx ρ'/\P ds.length ρ':=by
 suffices H:∀(l:List D) (k:Nat) (ρ:bV),ds.drop k=l->k<=ds.length->P k ρ ->∃ρ',eT g b l ρ=.nx ρ'/\P ds.length ρ' from H ds 0 ρ (by simp) (kr _) h0
 intro l
 induction l with
 |nil =>
  intro k ρ hl hk hp;have:ds.length<=k:=by simpa using hl
  exact⟨ρ,rfl,by rwa [show ds.length=k by omega]⟩
 |cons d l ih =>
  intro k ρ hl hk hp;have hk':k<ds.length:=by apply qd;intro h;rw[a2A (by omega)] at hl;cases hl
  have hd:ds[k]?=aa d:=by have:=congrArg (λx=>x[0]?) hl;simpa using this
  obtain⟨ρ1,ρ2,e1,e2,p2⟩:=step k d ρ hd hp;have hl2:ds.drop (k+1)=l:=by rw[zi hk'] at hl;exact(Hd hl).2
  obtain⟨ρ',e3,p3⟩:=ih (k+1) ρ2 hl2 hk' p2;exact⟨ρ',by simp only[eT,e1,e2,e3],p3⟩
theorem Q0(P:Nat->bV->Prop)(lo:Int)(n:Nat)(h0:P 0 ρ)(step:∀(i:Nat) (ρ:bV),i<n->P i ρ ->∃ρ1 ρ2,g (.int (lo+(i:Int))) ρ=aa ρ1/\b ρ1=.nx ρ2/\P (i+1) ρ2):
  ∃ρ',eT g b ((aY lo n).map D.int) ρ=.nx ρ'/\P n ρ':=by
 have:=EG (g:=g) (b:=b) P ((aY lo n).map D.int) h0 λi d ρ hd hp=>by
  have hi:i<n:=by have:=(cn.mp hd).1;simpa[aO] using this
  rw[cg,jI hi] at hd;cases hd;exact step i ρ hi hp
 simpa[aO] using this
theorem zT{α:Type}(mk:α->D)(f:α->D)(l:List α)(h:∀a∈l,(g (mk a) ρ).bind e=aa (f a)):jG g cM e ρ (l.map mk)=aa (l.map f):=by
 induction l with
 |nil=>rfl
 |cons a l ih =>
  have h1:=h a (by simp);have h2:=ih λx hx=>h x (by simp[hx])
  cases hg:g (mk a) ρ with
  |none=>rw[hg] at h1;cases h1
  |some ρ1 =>
   rw[hg] at h1;have h1':e ρ1=aa (f a):=h1;simp only[ba,jG,hg,cz,cM,if_true,h1',h2,kq]
def iB{α:Type}(mk:α->D)(f:α->D)(l:List α)(h:∀a∈l,∃ρ1,g (mk a) ρ=aa ρ1/\e ρ1=aa (f a)):jG g cM e ρ (l.map mk)=aa (l.map f) :=
 zT mk f l λa ha=>by obtain⟨ρ1,h1,h2⟩:=h a ha;rw[h1];exact h2
theorem eF{α:Type}(mk:α->D)(p:α->Bool)(f:α->D)(l:List α)(h:∀a∈l,∃ρ1,g (mk a) ρ=aa ρ1/\t ρ1=aa (p a)/\(p a=ae->e ρ1=aa (f a))):
  jG g t e ρ (l.map mk)=aa ((l.filter p).map f):=by
 induction l with
 |nil=>rfl
 |cons a l ih =>
  obtain⟨ρ1,h1,h2,h3⟩:=h a (by simp);have ih:=ih λx hx=>h x (by simp[hx])
  cases hp:p a with
  |false=>simp[jG,h1,h2,hp,ih]
  |true=>simp[jG,h1,h2,hp,h3 hp,ih]
theorem Q2{α β:Type}(mk:α->D)(out:β->D)(R:α->β->Prop)(l:List α)(h:∀a∈l,∃ρ1 b,g (mk a) ρ=aa ρ1/\e ρ1=aa (out b)/\R a b):
  ∃bs:List β,bs.length=l.length/\(∀(i:Nat) (a:α) (b:β),l[i]?=aa a->bs[i]?=aa b->R a b)/\jG g cM e ρ (l.map mk)=aa (bs.map out):=by
 induction l with
 |nil=>exact⟨[],rfl,λi a b h=>by simp at h,rfl⟩
 |cons a l ih =>
  obtain⟨ρ1,b,h1,h2,h3⟩:=h a (by simp);obtain⟨bs,hl,hr,hc⟩:=ih λx hx=>h x (by simp[hx]);refine⟨b::bs,by simp[hl],λi x y hx hy=>?_,by simp[jG,h1,h2,hc,cM]⟩
  cases i with
  |zero=>simp at hx hy;subst hx hy;exact h3
  |succ i=>exact hr i x y (by simpa using hx) (by simpa using hy)
def Rt(o:Out)(Q:D->Prop):Prop:=∃d,o=.rt d/\Q d
def Nx(o:Out)(Q:bV->Prop):Prop:=∃ρ,o=.nx ρ/\Q ρ
def f7(M:bV->Prop)(h1:Nx (f ρ) M)(h2:∀ρ',M ρ'->Rt (g ρ') Q):Rt (aI f g ρ) Q:=by obtain⟨ρ',e,m⟩:=h1;unfold aI;rw[e];exact h2 ρ' m
def lM(M:bV->Prop)(h1:Nx (f ρ) M)(h2:∀ρ',M ρ'->Nx (g ρ') Q):Nx (aI f g ρ) Q:=by obtain⟨ρ',e,m⟩:=h1;unfold aI;rw[e];exact h2 ρ' m
def bN(ρ':bV)(h1:f ρ=.nx ρ')(h2:Rt (g ρ') Q):Rt (aI f g ρ) Q:=by unfold aI;rw[h1];exact h2
def dH(ρ':bV)(h1:f ρ=.nx ρ')(h2:Nx (g ρ') Q):Nx (aI f g ρ) Q:=by unfold aI;rw[h1];exact h2
def g7(c:Bool)(h:t (bW ρ)=aa c)(h1:c=ae->Nx (a ρ) Q)(h2:c=ag->Nx (b ρ) Q):Nx (eO t a b ρ) Q:=by unfold eO;rw[h];cases c;exact h2 rfl;exact h1 rfl
def jJ(d:D)(h:f (bW ρ)=aa d)(q:Q d):Rt (bB f ρ) Q:=⟨d,iA h,q⟩
def lN(d:D)(h:f (gJ ρ)=aa d)(q:Q (ρ.set i (.ro d))):Nx (aN i f ρ) Q:=⟨_,eD d h rfl,q⟩
def gR(q:Q ρ):Nx (cJ ρ) Q:=⟨ρ,rfl,q⟩
theorem B1(ds:List D)(P:Nat->bV->Prop)(h:it (gJ ρ)=aa ds)(h0:P 0 ρ)(step:∀(i:Nat) (d:D) (ρ:bV),ds[i]?=aa d->P i ρ ->∃ρ1,g d ρ=aa ρ1/\Nx (b ρ1) (P (i+1)))
  (fin:∀ρ',P ds.length ρ'->Q ρ'):Nx (b9 it g b ρ) Q:=by
 obtain⟨ρ',e,p⟩:=EG (g:=g) (b:=b) P ds h0 λi d ρ hd hp=>by obtain⟨ρ1,e1,ρ2,e2,p2⟩:=step i d ρ hd hp;exact⟨ρ1,ρ2,e1,e2,p2⟩
 exact⟨ρ',HI ds h e,fin ρ' p⟩
theorem iC{t:AF}{g:GSF}{b:SF}{ρ:bV}{Q:bV->Prop}(n:Nat)(P:Nat->bV->Prop)(h:t (gJ ρ)=aa [.int (n:Int)])(hn:n<4611686018427387904)(h0:P 0 ρ)(step:∀(i:Nat) (ρ:bV),i<n->P i ρ ->∃ρ1,g (.int (i:Int)) ρ=aa ρ1/\Nx (b ρ1) (P (i+1)))
  (fin:∀ρ',P n ρ'->Q ρ'):Nx (b9 (aR t) g b ρ) Q:=by
 refine B1 ((aY 0 n).map D.int) P (by unfold aR;rw[h,cz,p8 hn]) h0 (λi d ρ hd hp=>?_) (λρ' p=>fin ρ' (by simpa[aO] using p));have hi:i<n:=by have:=(cn.mp hd).1;simpa[aO] using this
 rw[cg,jI hi] at hd;have hd:D.int (0+(i:Int))=d:=by simpa using hd
 subst hd;obtain⟨ρ1,e,q⟩:=step i ρ hi hp;exact⟨ρ1,by rw[il];exact e,q⟩
def kE(hl:ds.length=np)(h:Rt (b (c6 n ds)) Q):∃d,bY n np b ds=.ok d/\Q d:=by obtain⟨d,e,q⟩:=h;exact⟨d,gO hl e,q⟩
theorem zU:∀(l:Q0e) (j:Nat),(l.map D.int).eraseIdx j=(l.eraseIdx j).map D.int
 |[],j=>by simp
 |a::l,0=>by simp
 |a::l,j+1=>by simp[zU l j]
def aK(ha:a ρ=aa x)(hb:b ρ=aa y)(h:g x y=z):aC g a b ρ=z:=by unfold aC;rw[ha,hb];exact h
def c8(ha:a ρ=aa x)(h:g [x]=z):bI g (aA a aE) ρ=z:=by unfold bI aA aE;rw[ha];exact h
def Rn(ha:a ρ=aa x)(hb:b ρ=aa y)(h:g [x,y]=z):bI g (aA a (aA b aE)) ρ=z:=by unfold bI aA aE;rw[ha,hb];exact h
def kF(ha:a ρ=aa x)(h:f [x]=.ok d):aH f (aA a aE) ρ=aa d:=by unfold aH aA aE;rw[ha];show G9 (f [x])=_;rw[h];rfl
def cN(ha:a ρ=aa x)(hb:b ρ=aa y)(h:f [x,y]=.ok d):aH f (aA a (aA b aE)) ρ=aa d:=by unfold aH aA aE;rw[ha,hb];show G9 (f [x,y])=_;rw[h];rfl
def fL(ha:a ρ=aa x)(hb:b ρ=aa y)(hc:c ρ=aa z)(h:f [x,y,z]=.ok d):aH f (aA a (aA b (aA c aE))) ρ=aa d:=by unfold aH aA aE;rw[ha,hb,hc];show G9 (f [x,y,z])=_;rw[h];rfl
def args1(ha:a ρ=aa x):aA a aE ρ=aa [x]:=by unfold aA aE;rw[ha];rfl
def args2(ha:a ρ=aa x)(hb:b ρ=aa y):aA a (aA b aE) ρ=aa [x,y]:=by unfold aA aE;rw[ha,hb];rfl
def Q4{a:EF}{ρ:dJ}{n:Nat}(ha:a ρ=aa (.int (n:Int)))(hn:n<4611686018427387904):aR (aA a aE) ρ=aa ((aY 0 n).map D.int):=by unfold aR;rw[args1 ha,cz,p8 hn]
def Xy(ha:a ρ=aa (.int i))(hb:b ρ=aa (.int j))(hi:i.natAbs<4611686018427387904)(hj:j.natAbs<4611686018427387904):aR (aA a (aA b aE)) ρ=aa ((aY i (j-i).toNat).map D.int):=by unfold aR;rw[args2 ha hb,cz];exact Z_ ⟨hi,hj⟩
def l8(h:f ρ=aa d)(ht:mG d=aa b):tV f ρ=aa b:=by unfold tV;rw[h];exact ht
def tnE(h:t ρ=aa b)(hc:(!b)=c):jC t ρ=aa c:=by unfold jC;rw[h,<- hc];rfl
def EH(h:t ρ=aa b)(h2:b=ae->u ρ=aa c)(h3:b=ag->c=ag):kD t u ρ=aa c:=by
 unfold kD;rw[h];cases b
 .rw [h3 rfl];rfl
 .exact h2 rfl
def Rm(h:t ρ=aa b)(h2:b=ag->u ρ=aa c)(h3:b=ae->c=ae):yN t u ρ=aa c:=by
 unfold yN;rw[h];cases b
 .exact h2 rfl
 .rw [h3 rfl];rfl
def XQ{l:Q0e}{i:Int}{y:Int}(h0:0<=i)(h1:i<l.length)(h2:l.length<=16777216)(hy:l[i.toNat]?=aa y):XH (l.map D.int) (.int i)=aa ((l.eraseIdx i.toNat).map D.int,.int y):=by show(if i.natAbs<9223372036854775808 then _ else _)=_;rw[Z_ (by omega),az,wD h0 h1,cz,cg,hy,zU];rfl
def iX{ws:Q0e}{j:Nat}{x:Int}(h:ws[j]?=aa x):pW (ws.map D.int) (j:Int)=aa (.int x):=by rw[B0,uV h];rfl
def Q5{α:Type}{l:List α}{i j:Nat}{x:α}(h:l[i]?=aa x)(hij:i<j):(l.take j)[i]?=aa x:=by rw[nj hij];exact h
theorem i6:∀ns:Q0e,jS (ns.map D.int)=ae
 |[]=>rfl
 |n::ns=>by rw[ba,jS,i6 ns];rfl
def pF:jV (q::ks) (d::ds) k=if q=k then aa d else jV ks ds k:=by
 by_cases e:q=k
 .simp [jV,e]
 .simp [jV,e]
theorem sD:∀{word:Q0e} {us:Q0a} {i:Nat} {x:Int} {v:Q0e},word.Nodup->word[i]?=aa x->us[i]?=aa v->jV (word.map c_) (us.map aG) (c_ x)=aa (aG v)
 |[],us,i,x,v,_,h,_=>by simp at h
 |w::ws,[],i,x,v,_,_,h=>by simp at h
 |w::ws,u::us,0,x,v,_,h1,h2=>by simp at h1 h2;subst h1 h2;rw[ba,ba,pF,Z_ rfl]
 |w::ws,u::us,i+1,x,v,hn,h1,h2=>by
  obtain⟨n1,n2⟩:=gu.mp hn;have h1':ws[i]?=aa x:=by simpa using h1
  have ne:(c_ w:Sum Int ak)≠c_ x:=λe=>n1 (by cases e;exact jt h1');rw[ba,ba,pF,Zz ne];exact sD n2 h1' (by simpa using h2)
theorem zV:∀{word:Q0e} {us:Q0a} {x:Int},x∉word->jV (word.map c_) (us.map aG) (c_ x)=af
 |[],us,x,_=>by simp[jV]
 |w::ws,[],x,_=>by simp[jV]
 |w::ws,u::us,x,h=>by have ne:(c_ w:Sum Int ak)≠c_ x:=λe=>h (by cases e;exact b_);rw[ba,ba,pF,Zz ne];exact zV λz=>h (dg _ z)
theorem insI_perm(a:Int):∀l:Q0e,(insI a l).Perm (a::l)
 |[]=>.refl _
 |b::l=>by
  unfold insI;split
  .exact .refl _
  .exact ((insI_perm a l).cons b).trans (.swap a b l)
theorem sortI_perm:∀l:Q0e,(sortI l).Perm l
 |[]=>.refl _
 |a::l=>(insI_perm a (sortI l)).trans ((sortI_perm l).cons a)
theorem tX(a:Int):∀l:Q0e,l.Pairwise (· <= ·)->(insI a l).Pairwise (· <= ·)
 |[],_=>by simp[insI]
 |b::l,h=>by
  unfold insI;split
  .rename_i hab;refine gq.mpr ⟨λc hc=>?_,h⟩;rcases bu.mp hc with e|e
   .subst e;exact hab
   .exact zp hab ((gq.mp h).1 c e)
  .rename_i hab;refine gq.mpr ⟨λc hc=>?_,tX a l (gq.mp h).2⟩;rcases bu.mp ((insI_perm a l).mem_iff.mp hc) with e|e
   .subst e;omega
   .exact (gq.mp h).1 c e
theorem iY:∀l:Q0e,(sortI l).Pairwise (· <= ·)
 |[]=>zj
 |a::l=>tX a _ (iY l)
theorem zW:∀{l m:Q0e},l.Perm m->l.Pairwise (· <= ·)->m.Pairwise (· <= ·)->l=m
 |[],m,p,_,_=>by rw[p.nil_eq]
 |a::l,[],p,_,_=>by have:=p.length_eq;simp at this
 |a::l,b::m,p,h1,h2=>by
  have e:a=b:=by
   have m1:=p.mem_iff.mp (b_ (a:=a) (l:=l));have m2:=p.mem_iff.mpr (b_ (a:=b) (l:=m));rcases bu.mp m1 with e|e
   .exact e
   .rcases bu.mp m2 with e2|e2
    .exact e2.symm
    .have:=(gq.mp h2).1 a e;have:=(gq.mp h1).1 b e2;omega
  subst e;rw[zW p.cons_inv (gq.mp h1).2 (gq.mp h2).2]
def EI(p:m.Perm l)(h:m.Pairwise (· <= ·)):sortI l=m:=zW ((sortI_perm l).trans p.symm) (iY l) h
local macro_rules | `(tactic| walk_at "ev") => `(tactic| simp only[c6,aI,eO,bB,aN,oP,fG,QQ,jH,EA,sX,b9,cJ,aB,eC,aC,tV,jC,kD,yN,jD,vj,yR,M0,jE,G7,aE,aA,bI,aH,G9,jF,cC,aR,pZ,xh,M4,g1,g2,gK,zN,zL,cM,benv,DW,KH,oE,asInt,bG,kR,mH,bW,gJ,Sv.all,Sv.rd,ba,lh,Gy,ll,Gx,Fy,Fz,cz,F_,kq,yu,Gj,Gk,Gi,bx,fg,az,kj,k_,jg,Gm,Nat.reduceSub,Nat.reduceAdd,Nat.reduceEqDiff,nR,pD,pE,mM,XE,fB,kW,BV,uR,iJ,p7,cV,BW,rV,nQ,BX,vI,uS,uT,BY,vW,kX,vX,pB,pC,rW,rX,rY,rZ,sA,sC,vY,vZ,if_true,if_false,ite_true,ite_false,reduceIte,decide_true,decide_false,decide_eq_true_eq,oj,rm,Hl,jW,uU])
def lO(ns:Q0e)(k:Int):∃c,bT [.fX ns,.int k]=.ok (.int c):=by
 unfold bT;by_cases h:(ns.length:Int)=0
 .exact ⟨0,gO rfl (yW (M9 (by walk_at "ev";rw[Zx h]) rfl))⟩
 .obtain ⟨x,_,e,_⟩:=HJ (xs:=ns) (i:=k%(ns.length:Int)) (ip _ (by omega)) (jd _ (by omega));refine⟨x,gO rfl (dI _ (yO (by walk_at "ev";rw[Zy h]) rfl) (iA ?_))⟩
  walk_at "ev"
  rw[bL (by omega)]
  walk_at "ev"
  rw[e];rfl
def Q6(c k s:Int):Int:=(c+11*k*k+17*k+s)*48271%2147483647
def Bw(c k s:Int):Int:=(Q6 c k s*(Q6 c k s/4096+5)+29*k+s)%2147483629
def EJ(c k s:Int)(h0:0<=k)(h1:k<1000000):∃r,0<=r/\eW [.int c,.int k,.int s]=.ok (.int r):=by
 unfold eW;have ha:0<=Q6 c k s:=ip ((c+11*k*k+17*k+s)*48271) (b:=2147483647) (by decide);have hb:Q6 c k s<2147483647:=jd ((c+11*k*k+17*k+s)*48271) (b:=2147483647) (by decide);refine⟨Bw c k s*39373%1000000007,ip _ (b:=1000000007) (by decide),gO rfl (dI _ (eD (.int (Q6 c k s)) ?_ rfl) (dI _ (eD (.int (Bw c k s)) ?_ rfl) (iA ?_)))⟩
 .walk_at "ev"
  rw[mN (by decide)]
  walk_at "ev"
  rw[BZ (by omega),mN (i:=17) (by decide)]
  walk_at "ev"
  rw[BZ (j:=48271) (by decide)]
  walk_at "ev"
  rw[bL (by decide)];rfl
 .walk_at "ev"
  rw[iM (by decide) (by decide)]
  walk_at "ev"
  rw[mN (by omega),mN (i:=29) (by decide)]
  walk_at "ev"
  rw[bL (by decide)];rfl
 .walk_at "ev"
  rw[BZ (j:=39373) (by decide)]
  walk_at "ev"
  rw[bL (by decide)]
def zX(xs:Q0e)(x:Int):D.lst (xs.map D.int++[.int x])=aG (xs++[x]):=by simp[aG]
def kZ(c many s:Int)(h0:0<=many)(h1:many<1000000):∃xs:Q0e,xs.length=many.toNat/\(∀x∈xs,0<=x)/\bR [.int c,.int many,.int s]=.ok (aG xs):=by
 unfold bR;have key:∀left:Int,∃ρ',eT (gK 5) (eO (tV (aC rN (aB 4) (eC (.int 0))))
    (aI (sX (kR 3 eQ (bG (aC cZ (aB 4) (eC (.int 64))))))
    (aN 4 (aC kT (aB 4) (eC (.int 64)))))
    (sX (kR 3 eQ (bG (aH LL.eW (aA (aB 0) (aA (aB 5) (aA (aB 2) aE))))))))
    ((aY 0 many.toNat).map D.int) [Sv.ro (.int c),Sv.ro (.int many),Sv.ro (.int s),Sv.ow (.lst []),Sv.ro (.int left),Sv.no]=.nx ρ' /\
    ∃(xs:Q0e) (l:Int) (v:Sv),xs.length=many.toNat/\(∀x∈xs,0<=x)/\ρ'=[Sv.ro (.int c),Sv.ro (.int many),Sv.ro (.int s),Sv.ow (aG xs),Sv.ro (.int l),v]:=by
  intro left;refine Q0 (λi ρ'=>∃(xs:Q0e) (l:Int) (v:Sv),xs.length=i/\(∀x∈xs,0<=x)/\ρ'=[Sv.ro (.int c),Sv.ro (.int many),Sv.ro (.int s),Sv.ow (aG xs),Sv.ro (.int l),v]) 0 _ ⟨[],left,_,rfl,by simp,rfl⟩ ?_;rintro i _ hi ⟨xs,l,v,hx,hn,rfl⟩;have hlen:(xs.map D.int).length<16777216:=by rw[az];omega
  by_cases hl:0<l
  .refine ⟨_,_,rfl,M9 (by walk_at "ev";rw[Zx hl]) (dI [Sv.ro (.int c),Sv.ro (.int many),Sv.ro (.int s),Sv.ow (aG (xs++[l%64])),Sv.ro (.int l),Sv.ro (.int (0+(i:Int)))] ?_ (eD (.int (l/64)) ?_ rfl)),xs++[l%64],l/64,_,by simp[hx],?_,rfl⟩
   .walk_at "ev"
    rw[bL (by decide)]
    walk_at "ev"
    simp only[aG,mH]
    walk_at "ev"
    rw[nU hlen]
    walk_at "ev"
    rw[zX];rfl
   .walk_at "ev"
    rw[iM (by decide) (by decide)]
   .intro x hx;rcases ft.mp hx with h|h
    .exact hn x h
    .rw [br.mp h];exact ip _ (by decide)
  .obtain ⟨r,hr,e⟩:=EJ c (0+(i:Int)) s (by omega) (by omega);refine⟨_,[Sv.ro (.int c),Sv.ro (.int many),Sv.ro (.int s),Sv.ow (aG (xs++[r])),Sv.ro (.int l),Sv.ro (.int (0+(i:Int)))],rfl,yO (by walk_at "ev";rw[Zy hl]) ?_,xs++[r],l,_,by simp[hx],?_,rfl⟩
   .walk_at "ev"
    rw[e];simp only[aG,mH]
    walk_at "ev"
    rw[nU hlen]
    walk_at "ev"
    rw[zX];rfl
   .intro x hx;rcases ft.mp hx with h|h
    .exact hn x h
    .rw [br.mp h];exact hr
 have hp:uH (.int 10) (.int 18)=aa (.int 1000000000000000000):=rfl;have fin:∀left:Int,(0=0) ->∃xs:Q0e,xs.length=many.toNat/\(∀x∈xs,0<=x)/\aI (b9 (aR (aA (aB 1) aE)) (gK 5) (eO (tV (aC rN (aB 4) (eC (.int 0))))
    (aI (sX (kR 3 eQ (bG (aC cZ (aB 4) (eC (.int 64))))))
    (aN 4 (aC kT (aB 4) (eC (.int 64)))))
    (sX (kR 3 eQ (bG (aH LL.eW (aA (aB 0) (aA (aB 5) (aA (aB 2) aE))))))))) (bB (aB 3)) [Sv.ro (.int c),Sv.ro (.int many),Sv.ro (.int s),Sv.ow (.lst []),Sv.ro (.int left),Sv.no]=.rt (aG xs):=by
  intro left _;obtain⟨ρ',e,xs,l,v,h1',h2',rfl⟩:=key left;refine⟨xs,h1',h2',dI _ (HI _ ?_ e) (iA rfl)⟩
  walk_at "ev"
  exact wB (by omega)
 by_cases hc:1000000000000000000<=c
 .obtain ⟨xs,a,b,e⟩:=fin c rfl;refine⟨xs,a,b,gO rfl (dI _ rfl (dI _ rfl (dI _ (M9 ?_ rfl) e)))⟩
  walk_at "ev"
  rw[hp]
  walk_at "ev"
  rw[Zx hc]
 .obtain ⟨xs,a,b,e⟩:=fin 0 rfl;refine⟨xs,a,b,gO rfl (dI _ rfl (dI _ rfl (dI _ (yO ?_ rfl) e)))⟩
  walk_at "ev"
  rw[hp]
  walk_at "ev"
  rw[Zy hc]
theorem wF(dr:Q0e)(n:Nat)(th:Int)(hn:n<=9)(hl:n+Ord.tri n<=dr.length):
  ∃d,dW [aG dr,.int n,.int th]=.ok d /\∃rows:Q0a,rows.length=n/\Ord.Rows rows/\d=aJ rows:=by
 unfold dW;refine kE rfl ?_;rw[show c6 11 [aG dr,.int n,.int th]=[Sv.ro (aG dr),Sv.ro (.int n),Sv.ro (.int th),Sv.no,Sv.no,Sv.no,Sv.no,Sv.no,Sv.no,Sv.no,Sv.no] from rfl];refine bN [Sv.ro (aG dr),Sv.ro (.int n),Sv.ro (.int th),Sv.ow (.lst ((aY 0 n).map D.int)),Sv.no,Sv.no,Sv.no,Sv.no,Sv.no,Sv.no,Sv.no] ?_ ?_
 .walk_at "ev"
  simp only[HC]
  walk_at "ev"
  rw[Z_ (by omega)];rfl
 refine bN [Sv.ro (aG dr),Sv.ro (.int n),Sv.ro (.int th),Sv.ow (.lst ((aY 0 n).map D.int)),Sv.ow (.lst []),Sv.no,Sv.no,Sv.no,Sv.no,Sv.no,Sv.no] rfl ?_;refine f7 (λρ=>∃(word:Q0e) (kv v3:Sv),word.Perm (aY 0 n)/\ρ=[Sv.ro (aG dr),Sv.ro (.int n),Sv.ro (.int th),v3,Sv.ow (aG word),kv,Sv.no,Sv.no,Sv.no,Sv.no,Sv.no]) ?_ ?_
 .refine iC n (λi ρ=>∃(rest word:Q0e) (kv:Sv),word.length=i/\(word++rest).Perm (aY 0 n)/\ρ=[Sv.ro (aG dr),Sv.ro (.int n),Sv.ro (.int th),Sv.ow (aG rest),Sv.ow (aG word),kv,Sv.no,Sv.no,Sv.no,Sv.no,Sv.no])
   rfl (by omega) ⟨aY 0 n,[],Sv.no,rfl,.refl _,rfl⟩ ?_ ?_
  .rintro i _ hi ⟨rest,word,kv,hw,hp,rfl⟩;have hlr:word.length+rest.length=n:=by have:=hp.length_eq;rw[bq,aO] at this;exact this
   obtain⟨x,hx⟩:∃x,dr[i]?=aa x:=⟨_,getElem?_eq_getElem (by omega)⟩;have hr0:(0:Int)<rest.length:=by omega
   have h0:=ip x (show(rest.length:Int)≠0 by omega);have h1:=jd x hr0;obtain⟨y,hy⟩:∃y,rest[(x%(rest.length:Int)).toNat]?=aa y:=⟨_,getElem?_eq_getElem (by omega)⟩;refine⟨_,rfl,[Sv.ro (aG dr),Sv.ro (.int n),Sv.ro (.int th),Sv.ow (aG (rest.eraseIdx (x%(rest.length:Int)).toNat)),Sv.ow (aG (word++[y])),Sv.ro (.int i),Sv.no,Sv.no,Sv.no,Sv.no,Sv.no],?_,rest.eraseIdx (x%(rest.length:Int)).toNat,word++[y],Sv.ro (.int i),by simp[hw],?_,rfl⟩
   .have e1:=XQ h0 h1 (by omega) hy;simp only[aG]
    walk_at "ev"
    simp only[dZ]
    walk_at "ev"
    rw[iX hx]
    walk_at "ev"
    rw[bL hr0]
    walk_at "ev"
    simp only[D.tT,ite_true,cz]
    walk_at "ev"
    rw[e1]
    walk_at "ev"
    rw[nU (by rw[az];omega)]
    walk_at "ev"
    rw[cy];rfl
   .rw [n_];exact((Ord.vU rest _ y hy).append_left word).trans hp
  .rintro _ ⟨rest,word,kv,hw,hp,rfl⟩;have hlr:word.length+rest.length=n:=by have:=hp.length_eq;rw[bq,aO] at this;exact this
   have e:rest=[]:=q_.mp (by omega);subst e;rw[kl] at hp;exact⟨word,kv,_,hp,rfl⟩
 rintro _ ⟨word,kv,v3,hp,rfl⟩;have hpw:word.Perm ((dj n).map λk:Nat=>(k:Int)):=by
  have e:aY 0 n=(dj n).map λk:Nat=>(k:Int):=gd λk _=>by show 0+(k:Int)=k;omega
  rw[<- e];exact hp
 have hlw:word.length=n:=by rw[hpw.length_eq,az,pw]
 have ndw:word.Nodup:=hpw.nodup_iff.mpr (zk _ (λa b hab e=>hab (by omega)) a2g);have xi:∀{us:Q0a} (t:Nat) (u:Q0e),Ord.Under word us t u->u.length<=n:=λ{us} t u h=>by rw[<- hlw];exact Ord.dD u word h.1 λa ha=>by obtain⟨s,_,_,h2,_⟩:=h.2 a ha;exact jt h2
 refine bN [Sv.ro (aG dr),Sv.ro (.int n),Sv.ro (.int th),v3,Sv.ow (aG word),kv,Sv.ow (.jR [] []),Sv.no,Sv.no,Sv.no,Sv.no] rfl ?_;refine bN [Sv.ro (aG dr),Sv.ro (.int n),Sv.ro (.int th),v3,Sv.ow (aG word),kv,Sv.ow (.jR [] []),Sv.ro (.int n),Sv.no,Sv.no,Sv.no] rfl ?_;refine f7 (λρ=>∃(us:Q0a) (v7 v8 v9 v10:Sv),us.length=n/\Ord.Good word us/\ρ=[Sv.ro (aG dr),Sv.ro (.int n),Sv.ro (.int th),v3,Sv.ow (aG word),kv,Sv.ow (.jR (word.map c_) (us.map aG)),v7,v8,v9,v10]) ?_ ?_
 .refine iC n (λj ρ=>∃(us:Q0a) (v8 v9 v10:Sv),us.length=j/\Ord.Good word us/\ρ=[Sv.ro (aG dr),Sv.ro (.int n),Sv.ro (.int th),v3,Sv.ow (aG word),kv,Sv.ow (.jR ((word.take j).map c_) (us.map aG)),Sv.ro (.int ((n+Ord.tri j:Nat):Int)),v8,v9,v10])
   rfl (by omega) ⟨[],Sv.no,Sv.no,Sv.no,rfl,(λt u e=>by simp at e),rfl⟩ ?_ ?_
  .rintro j _ hj ⟨us,v8,v9,v10,hul,hg,rfl⟩;refine⟨_,rfl,?_⟩;refine dH [Sv.ro (aG dr),Sv.ro (.int n),Sv.ro (.int th),v3,Sv.ow (aG word),kv,Sv.ow (.jR ((word.take j).map c_) (us.map aG)),Sv.ro (.int ((n+Ord.tri j:Nat):Int)),Sv.ro (.int j),Sv.ro (.lst []),v10] rfl ?_;refine lM (λρ=>∃(u:Q0e) (v10:Sv),Ord.Under word us j u/\ρ=[Sv.ro (aG dr),Sv.ro (.int n),Sv.ro (.int th),v3,Sv.ow (aG word),kv,Sv.ow (.jR ((word.take j).map c_) (us.map aG)),Sv.ro (.int ((n+Ord.tri (j+1):Nat):Int)),Sv.ro (.int j),Sv.ro (aG u),v10]) ?_ ?_
   .refine iC j (λi ρ=>∃(u:Q0e) (v10:Sv),Ord.Under word us i u/\ρ=[Sv.ro (aG dr),Sv.ro (.int n),Sv.ro (.int th),v3,Sv.ow (aG word),kv,Sv.ow (.jR ((word.take j).map c_) (us.map aG)),Sv.ro (.int ((n+Ord.tri j+i:Nat):Int)),Sv.ro (.int j),Sv.ro (aG u),v10])
     rfl (by omega) ⟨[],_,⟨kh,λa ha=>(nomatch ha)⟩,rfl⟩ ?_ ?_
    .rintro i _ hi ⟨u,v10,hU,rfl⟩;have tl:=Ord.aB1 hj hi;obtain⟨y,hy⟩:∃y,dr[n+Ord.tri j+i]?=aa y:=⟨_,getElem?_eq_getElem (by omega)⟩;obtain⟨x,hx⟩:∃x,word[i]?=aa x:=⟨_,getElem?_eq_getElem (by omega)⟩;obtain⟨v,hv⟩:∃v,us[i]?=aa v:=⟨_,getElem?_eq_getElem (by omega)⟩;have lv:=xi _ _ (hg i v hv);have lu:=xi _ _ hU;refine⟨_,rfl,?_⟩;refine lM (λρ=>∃u':Q0e,Ord.Under word us (i+1) u'/\ρ=[Sv.ro (aG dr),Sv.ro (.int n),Sv.ro (.int th),v3,Sv.ow (aG word),kv,Sv.ow (.jR ((word.take j).map c_) (us.map aG)),Sv.ro (.int ((n+Ord.tri j+i:Nat):Int)),Sv.ro (.int j),Sv.ro (aG u'),Sv.ro (.int i)]) ?_ ?_
     .refine g7 (Zv (y%4<th)) ?_ (λ_=>?_) (λ_=>gR ⟨u,hU.mono (by omega),rfl⟩)
      .simp only[aG]
       walk_at "ev"
       rw[iX hy]
       walk_at "ev"
       rw[bL (by decide)]
       walk_at "ev"
      .refine ⟨_,?_,_,hU.step ndw hg hx hv,rfl⟩;have hf:=j_ (λa=>!u.contains a) (v++[x]);have e1:jG (g1 0) (tV (aC (oO ae) (aB 0) (aB 1))) (aB 0) [af,aa (.lst (u.map D.int))] ((v++[x]).map D.int)=aa (((v++[x]).filter λa=>!u.contains a).map D.int) :=
        eF D.int _ D.int (v++[x]) λa _=>⟨_,rfl,by walk_at "ev",λ_=>rfl⟩
       have e2:aC bA (aC vK (aB 6) (aC a9 (aB 4) (aB 10))) (dC (aA (aC a9 (aB 4) (aB 10)) aE)) [aa (aG dr),aa (.int n),aa (.int th),v3.all,aa (aG word),kv.all,aa (.jR ((word.take j).map c_) (us.map aG)),aa (.int ((n+Ord.tri j+i:Nat):Int)),aa (.int j),aa (aG u),aa (.int i)]=aa (.lst ((v++[x]).map D.int)):=by
        simp only[aG]
        walk_at "ev"
        rw[iX hx]
        walk_at "ev"
        simp only[vK,vJ,cz];have:=sD (a3T (a2b j word) ndw) (Q5 hx hi) hv;simp only[aG] at this;rw[this];simp only[dC]
        walk_at "ev"
        rw[iX hx]
        walk_at "ev"
        rw[Z_ (by decide),cz,iO (by simp;omega)];simp
       have e3:bJ 1 [9] (cC (aC bA (aC vK (aB 6) (aC a9 (aB 4) (aB 10))) (dC (aA (aC a9 (aB 4) (aB 10)) aE)))) (g1 0) (tV (aC (oO ae) (aB 0) (aB 1))) (aB 0) [aa (aG dr),aa (.int n),aa (.int th),v3.all,aa (aG word),kv.all,aa (.jR ((word.take j).map c_) (us.map aG)),aa (.int ((n+Ord.tri j+i:Nat):Int)),aa (.int j),aa (aG u),aa (.int i)]=aa (.lst (((v++[x]).filter λa=>!u.contains a).map D.int)) :=
        iN ((v++[x]).map D.int) (by unfold cC;rw[e2];rfl) (by simp;omega) e1
       unfold jH;have e4:aC DZ (aB 9) (bJ 1 [9] (cC (aC bA (aC vK (aB 6) (aC a9 (aB 4) (aB 10))) (dC (aA (aC a9 (aB 4) (aB 10)) aE)))) (g1 0) (tV (aC (oO ae) (aB 0) (aB 1))) (aB 0)) [aa (aG dr),aa (.int n),aa (.int th),v3.all,aa (aG word),kv.all,aa (.jR ((word.take j).map c_) (us.map aG)),aa (.int ((n+Ord.tri j+i:Nat):Int)),aa (.int j),aa (aG u),aa (.int i)]=aa (aG (u++(v++[x]).filter λa=>!u.contains a)):=by refine aK (x:=aG u) rfl e3 ?_;show DZ (.lst (u.map D.int)) _=_;rw[EE (by simp only[az,bq,bx,fg] at hf ⊢;omega),<- cy];rfl
       rw[show bW _=[aa (aG dr),aa (.int n),aa (.int th),v3.all,aa (aG word),kv.all,aa (.jR ((word.take j).map c_) (us.map aG)),aa (.int ((n+Ord.tri j+i:Nat):Int)),aa (.int j),aa (aG u),aa (.int i)] from rfl,e4];show(if oZ (aG _)=ae then _ else _)=_;rw[Z_ (show oZ (aG _)=ae from i6 _)];rfl
     rintro _ ⟨u',hU',rfl⟩;exact⟨_,rfl,u',_,hU',rfl⟩
    .rintro _ ⟨u,v10,hU,rfl⟩;exact⟨u,v10,hU,by rw[a19];rfl⟩
   rintro _ ⟨u,v10,hU,rfl⟩;obtain⟨x,hx⟩:∃x,word[j]?=aa x:=⟨_,getElem?_eq_getElem (by omega)⟩;refine⟨[Sv.ro (aG dr),Sv.ro (.int n),Sv.ro (.int th),v3,Sv.ow (aG word),kv,Sv.ow (.jR ((word.take (j+1)).map c_) ((us++[u]).map aG)),Sv.ro (.int ((n+Ord.tri (j+1):Nat):Int)),Sv.ro (.int j),Sv.ro (aG u),v10],?_,us++[u],Sv.ro (.int j),Sv.ro (aG u),v10,by simp[hul],hg.snoc (by rw[hul];exact hU),rfl⟩;have hno:jV ((word.take j).map c_) (us.map aG) (c_ x)=af:=zV λhm=>by
    obtain⟨t,ht⟩:=uq.mp hm;have htl:t<j:=by have:=(cn.mp ht).1;rw[ji] at this;omega
    rw[nj htl] at ht;have:=Ord.vV ndw ht hx;omega
   unfold KI
   walk_at "ev"
   simp only[vM,cz];have e5:a9 (aG word) (.int (j:Int))=aa (.int x):=iX hx;rw[e5];simp only[cz,vJ,hno,Option.isNone_none,true_and];rw[Z_ (by rw[az];show us.length<16777216;omega),Gh,hx,cy,cy];rfl
  .rintro _ ⟨us,v8,v9,v10,hul,hg,rfl⟩;refine⟨us,Sv.ro (.int ((n+Ord.tri n:Nat):Int)),v8,v9,v10,hul,hg,?_⟩;rw[ph (by omega)]
 rintro _ ⟨us,v7,v8,v9,v10,hul,hg,rfl⟩;have ec:∃rows:Q0a,rows.length=(dj n).length/\(∀(i:Nat) (b:Nat) (r:Q0e),(dj n)[i]?=aa b->rows[i]?=aa r ->∀(t:Nat) (u:Q0e),word[t]?=aa (b:Int)->us[t]?=aa u->r.Perm u/\r.Pairwise (· <= ·)) /\
   jG (g1 0) cM (bI cB (aA (bI fZ (aA (aC vK (aB 1) (aB 0)) aE)) aE)) [af,aa (.jR (word.map c_) (us.map aG))] ((dj n).map λb:Nat=>D.int (b:Int))=aa (rows.map tupI):=by
  refine Q2 (λb:Nat=>D.int (b:Int)) tupI _ (dj n) λb hb=>?_;have hb2:=pk.mp hb;have hm:(b:Int)∈word:=hpw.mem_iff.mpr (gj.mpr ⟨b,hb,rfl⟩);obtain⟨t,ht⟩:=uq.mp hm;obtain⟨u,hu2⟩:∃u,us[t]?=aa u:=⟨_,getElem?_eq_getElem (by have:=(cn.mp ht).1;omega)⟩;have lu:=xi _ _ (hg t u hu2);refine⟨_,sortI u,rfl,?_,λt' u' e1 e2=>?_⟩
  .walk_at "ev"
   simp only[vK,vJ,cz];rw[sD ndw ht hu2];simp only[aG]
   walk_at "ev"
   rw[sorted_ints (by omega)];rfl
  .have e:=Ord.vV ndw e1 ht;subst e;rw[hu2] at e2;cases e2;exact⟨sortI_perm u,iY u⟩
 obtain⟨rows,hr1,hr2,ec⟩:=ec;rw[pw] at hr1;refine jJ (aJ rows) ?_ ⟨rows,hr1,hg.rows hul hpw hr1 λb t r u e1 e2 e3=>hr2 b b r (by rw[rh (by have:=(cn.mp e1).1;omega)]) e1 t u e2 e3,rfl⟩;have e6:(aY 0 n).map D.int=(dj n).map λb:Nat=>D.int (b:Int):=by unfold aY;rw[dq];exact gd λb _=>by show D.int (0+(b:Int))=_;rw[il]
 have e7:=iN (nl:=1) (fr:=[6]) (it:=aR (aA (aB 1) aE)) (g:=g1 0) (t:=cM) (e:=bI cB (aA (bI fZ (aA (aC vK (aB 1) (aB 0)) aE)) aE)) (ρ:=bW [Sv.ro (aG dr),Sv.ro (.int n),Sv.ro (.int th),v3,Sv.ow (aG word),kv,Sv.ow (.jR (word.map c_) (us.map aG)),v7,v8,v9,v10]) ((aY 0 n).map D.int)
  (by walk_at "ev";exact p8 (by omega)) (by rw[az,aO];omega) (by rw[e6];exact ec)
 exact c8 e7 rfl
theorem KR(n:Nat):2*Ord.tri n+n=n*n:=by
 induction n with
 |zero=>rfl
 |succ n ih =>
  show 2*(Ord.tri n+n)+(n+1)=(n+1)*(n+1);have:(n+1)*(n+1)=n*n+2*n+1:=by rw[a18,Nat.mul_add];omega
  omega
def wH:fY:=bY 2 2
  (bB (bI cB (aA (bJ 2 [1] (pZ (aA (aB 0) aE)) (g2 0 1) (tV (aC (oO ag) (aB 2) (aB 1))) (aB 0)) aE)))
def kG:fY:=bY 1 1
  (bB (bI cB (aA (bJ 1 [0] (aR (aA (bI aW (aA (aB 0) aE)) aE)) (g1 0) cM (aH LL.wH (aA (aB 1) (aA (aB 0) aE)))) aE)))
def jX:fY:=bY 7 3
  (aI (aN 3 (aC bA (bI pX (aA (aC a9 (aB 0) (aB 1)) aE)) (dC (aA (aB 1) aE))))
  (aI (fG 4 (dC aE))
  (aI (b9 (aR (aA (bI aW (aA (aB 0) aE)) aE)) (gK 5)
   (aI (aN 6 (bI pX (aA (aC a9 (aB 0) (aB 5)) aE)))
   (aI (eO (yN (tV (aC gM (aB 5) (aB 2))) (tV (aC (oO ag) (aB 2) (aC a9 (aB 0) (aB 5)))))
    (aN 6 (aC bA (aB 6) (bJ 1 [6] (cC (aB 3)) (g1 0) (tV (aC (oO ae) (aB 0) (aB 1))) (aB 0))))
    cJ)
   (sX (kR 4 eQ (bG (bI cB (aA (bI fZ (aA (aB 6) aE)) aE))))))))
  (bB (bI cB (aA (aB 4) aE))))))
noncomputable def Q7:Nat->D->Prop
 |0,_=>False
 |n+1,.tup ds=>ds.length<=1000000 /\∀d∈ds,Q7 n d
 |_+1,.int _=>True
 |_+1,.bl _=>True
 |_+1,.non=>True
 |_+1,.str _=>True
 |_+1,_=>False
def isi(h:f ρ=aa d)(hn:HB d=ae:=by rfl):jF T f ρ=aa (.bl (HA T d)):=by unfold jF;rw[h];exact Z_ hn
theorem same_refl:∀(n:Nat) (d:D),Q7 n d->bZ n [d,d]=.ok (.bl ae)
 |0,_,h=>h.elim
 |n+1,.tup ds,h=>by
  have hl:=h.1;unfold bZ;refine gO rfl (yW (M9 (by unfold tV;rw[isi rfl];rfl) (dI _ (yO ?_ rfl) (iA ?_))))
  .simp only[c6,aI,eO,bB,aN,oP,fG,QQ,jH,EA,sX,b9,cJ,aB,eC,aC,tV,jC,kD,yN,jD,vj,yR,M0,jE,G7,aE,aA,bI,aH,G9,jF,cC,aR,pZ,xh,M4,g1,g2,gK,zN,zL,cM,benv,DW,KH,oE,asInt,bG,kR,mH,bW,gJ,Sv.all,Sv.rd,ba,lh,Gy,ll,Gx,Fy,Fz,cz,F_,kq,yu,Gj,Gk,Gi,bx,fg,az,kj,k_,jg,Gm,Nat.reduceSub,Nat.reduceAdd,Nat.reduceEqDiff,nR,pD,pE,mM,XE,fB,kW,BV,uR,iJ,p7,cV,BW,rV,nQ,BX,vI,uS,uT,BY,vW,kX,vX,pB,pC,rW,rX,rY,rZ,sA,sC,vY,vZ,if_true,if_false,ite_true,ite_false,reduceIte,decide_true,decide_false,decide_eq_true_eq,oj,rm,Hl,jW,uU];simp[HA,tyM,c6,bW,jF,HB,aB,Sv.all,mG]
  .have e1:=iN (nl:=1) (fr:=[0,1]) (it:=aR (aA (bI aW (aA (aB 1) aE)) aE)) (g:=g1 0) (t:=cM) (e:=aH (bZ n) (aA (aC a9 (aB 1) (aB 0)) (aA (aC a9 (aB 2) (aB 0)) aE))) (ρ:=[aa (.tup ds),aa (.tup ds)]) ((aY 0 ds.length).map D.int) (ys:=(aY 0 ds.length).map λ_=>D.bl ae)
    (by simp only[c6,aI,eO,bB,aN,oP,fG,QQ,jH,EA,sX,b9,cJ,aB,eC,aC,tV,jC,kD,yN,jD,vj,yR,M0,jE,G7,aE,aA,bI,aH,G9,jF,cC,aR,pZ,xh,M4,g1,g2,gK,zN,zL,cM,benv,DW,KH,oE,asInt,bG,kR,mH,bW,gJ,Sv.all,Sv.rd,ba,lh,Gy,ll,Gx,Fy,Fz,cz,F_,kq,yu,Gj,Gk,Gi,bx,fg,az,kj,k_,jg,Gm,Nat.reduceSub,Nat.reduceAdd,Nat.reduceEqDiff,nR,pD,pE,mM,XE,fB,kW,BV,uR,iJ,p7,cV,BW,rV,nQ,BX,vI,uS,uT,BY,vW,kX,vX,pB,pC,rW,rX,rY,rZ,sA,sC,vY,vZ,if_true,if_false,ite_true,ite_false,reduceIte,decide_true,decide_false,decide_eq_true_eq,oj,rm,Hl,jW,uU];exact p8 (by omega)) (by rw[az,aO];omega) (zT D.int (λ_=>D.bl ae) (aY 0 ds.length) λk hk=>by have hk:=bD.mp hk;obtain⟨x,hx,e,_⟩:=HJ (xs:=ds) (i:=k) (by omega) (by omega);show aH (bZ n) _ _=_;exact cN (aK rfl rfl e) (aK rfl rfl e) (same_refl n x (h.2 x hx)))
   refine c8 e1 ?_;have:(aY 0 ds.length).map (λ_=>D.bl ae)=((aY 0 ds.length).map λ_=>ae).map D.bl:=by rw[dq];rfl
   rw[this,KQ];congr 2;simp
 |n+1,.int i,_=>by unfold bZ;refine gO rfl (dI _ (yO rfl rfl) (dI _ (yO rfl rfl) (dI _ (yO rfl rfl) (yW (M9 rfl (iA ?_))))));show jD _ _ _=_;simp[jD,yR,jF,HB,aB,HA,tyM,tU,aC,cV,rV,nQ,c6,bW,Sv.all]
 |n+1,.bl b,_=>by unfold bZ;refine gO rfl (dI _ (yO rfl rfl) (dI _ (yO rfl rfl) (yW (M9 rfl (iA ?_)))));simp[jD,yR,jF,HB,aB,HA,tyM,tU,aC,cV,rV,nQ,c6,bW,Sv.all]
 |n+1,.non,_=>by unfold bZ;exact gO rfl (dI _ (yO rfl rfl) (yW (M9 rfl (iA rfl))))
 |n+1,.str x,_=>by unfold bZ;refine gO rfl (dI _ (yO rfl rfl) (dI _ (yO rfl rfl) (dI _ (yO rfl rfl) (dI _ (yO rfl rfl) (iA ?_)))));simp[jD,yR,jF,HB,aB,HA,tyM,tU,aC,cV,rV,nQ,c6,bW,Sv.all]
 |n+1,.lst _,h=>h.elim
 |n+1,.fX _,h=>h.elim
 |n+1,.jR _ _,h=>h.elim
 |n+1,.cD _ _ _,h=>h.elim
 |n+1,.exc _ _,h=>h.elim
 |n+1,.rws _,h=>h.elim
def row(rows:Q0a)(b:Int):List Int:=(rows[b.toNat]?).getD []
def pG(h0:0<=i)(h1:i<rows.length):a9 (aJ rows) (.int i)=aa (tupI (row rows i)):=by
 have hl:i.toNat<rows.length:=by omega
 rw[show aJ rows=.tup (rows.map tupI) from rfl,uT,B0];unfold pW row;rw[wD h0 h1];simp[hl]
def aB3:oO ag (.int i) (tupI xs)=aa (.bl (xs.contains i)):=by unfold tupI;rw[jW];rfl
def XR:oO ae (.int i) (tupI xs)=aa (.bl (!xs.contains i)):=by unfold tupI;rw[jW];rfl
def eJ:aW [aJ rows]=aa (.int rows.length):=by unfold aJ;rw[kX,az]
def p9:aW [tupI xs]=aa (.int xs.length):=by unfold tupI;rw[kX,az]
theorem zipIdx_map{α β:Type}(f:α->β)(l:List α)(m:Nat):(l.map f).zipIdx m=(l.zipIdx m).map λp=>(f p.1,p.2):=by
 induction l generalizing m with
 |nil=>rfl
 |cons a l ih=>simp[List.zipIdx_cons,ih]
def fM(rows:Q0a)(a b:Int):Bool:=!Zv (a=b)&&(!(row rows b).contains a && !(row rows a).contains b)
def pairD(p:Int×Int):D:=.tup [.int p.1,.int p.2]
def fH(rows:Q0a)(a:Int):List (Int×Int):=((aY (a+1) (rows.length-(a+1)).toNat).filter λb=>fM rows a b).map λb=>(a,b)
def loose(rows:Q0a):List (Int×Int):=(aY 0 rows.length).flatMap (fH rows)
def EK(rows:Q0a)(ha:0<=a):(fH rows a).length<=rows.length:=by unfold fH;rw[az];refine gn (j_ _ _) ?_;rw[aO];omega
end LL
namespace Ord
def rel(rows:Q0a)(a b:Nat):Bool:=(rows.getD b []).contains (a:Int)
def KS(h:x[b]?=aa r):rel x a b=ae↔(a:Int)∈r:=by unfold rel;rw[l_,h];simp
def Q8(h:Rows y)(hv:y[b]?=aa v):z∈v ↔ ∃a:Nat,z=(a:Int)/\a<y.length/\rel y a b=ae:=by
 constructor
 .intro hz;obtain⟨q1,q2⟩:=h.rng _ _ hv _ hz;refine⟨z.toNat,by omega,by omega,?_⟩;rw[KS hv,show((z.toNat:Nat):Int)=z by omega];exact hz
 .rintro ⟨a,rfl,h1,h2⟩
  rwa [KS hv] at h2
def Rows.short(h:Rows x)(hr:r∈x):r.length<=x.length:=by
 obtain⟨b,hb⟩:=uq.mp hr;have nd:r.Nodup:=(h.up b r hb).imp λq=>by omega
 have:=dD r (L4.aY 0 x.length) nd λa ha=>LL.bD.mpr (by have:=h.rng b r hb a ha;omega)
 rwa [LL.aO] at this
end Ord
namespace Q9
open L3 L4
def mD:fY:=bY 2 2
  (bB (bI cB (aA (bJ 1 [1] (M4 (aA (aB 0) aE)) (g1 0) cM (aC dS (aC dS (aB 1) (eC (.int 1))) (aB 0))) aE)))
def jK:fY:=bY 1 1
  (bB (bI cB (aA (bJ 1 [0] (M4 (aA (aB 0) aE)) (g1 0) cM (aH mD (aA (aB 0) (aA (bI aW (aA (aB 1) aE)) aE)))) aE)))
def qA:fY:=bY 3 1
  (aI (aN 1 (dC aE))
  (aI (b9 (aR (aA (bI aW (aA (aB 0) aE)) aE)) (gK 2)
   (aN 1 (aC bA (aB 1) (bJ 1 [2] (cC (aC a9 (aB 0) (aB 2))) (g1 0) cM (dG (aA (aB 0) (aA (aB 1) aE)))))))
  (bB (bI BP (aA (aB 1) aE)))))
def wJ:fY:=bY 2 2
  (bB (bI cB (aA (bJ 1 [1] (aR (aA (aB 0) aE)) (g1 0) cM (bI cB (aA (bI fZ (aA (bJ 2 [0] (cC (aB 1)) (g2 0 1) (tV (aC gM (aB 1) (aB 2))) (aB 0)) aE)) aE))) aE)))
def qB:fY:=bY 7 1
  (aI (aN 1 (aH LL.nO (aA (aB 0) (aA (eC (.int 0)) (aA (eC (.int 9)) (aA (eC (.int 100003)) aE))))))
  (aI (aN 2 (bI aW (aA (aB 1) aE)))
  (aI (aN 3 (aH qA (aA (aB 1) aE)))
  (aI (aN 4 (aH wJ (aA (aB 2) (aA (bJ 2 [2] (cC (aB 3)) (g2 0 1) cM (dG (aA (aC dS (aC dS (aB 2) (eC (.int 1))) (aB 0)) (aA (aC dS (aC dS (aB 2) (eC (.int 1))) (aB 1)) aE)))) aE))))
  (aI (aN 5 (aH wJ (aA (aB 2) (aA (bJ 2 [] (cC (aB 3)) (g2 0 1) cM (dG (aA (aB 1) (aA (aB 0) aE)))) aE))))
  (aI (aN 6 (aH wJ (aA (aB 2) (aA (bJ 2 [2] (cC (aB 3)) (g2 0 1) cM (dG (aA (aC dS (aC dS (aB 2) (eC (.int 1))) (aB 1)) (aA (aC dS (aC dS (aB 2) (eC (.int 1))) (aB 0)) aE)))) aE))))
  (aI (eO (yN (jC (tV (aH (LL.bZ 6) (aA (aH jK (aA (aB 1) aE)) (aA (aB 4) aE))))) (jC (tV (aH (LL.bZ 6) (aA (aH LL.kG (aA (aB 1) aE)) (aA (aB 5) aE))))))
   (bB (eC (.bl ag)))
   cJ)
  (aI (eO (yN (jC (tV (aH (LL.bZ 6) (aA (aH jK (aA (aB 4) aE)) (aA (aB 1) aE))))) (jC (tV (aH (LL.bZ 6) (aA (aH LL.kG (aA (aB 5) aE)) (aA (aB 1) aE))))))
   (bB (eC (.bl ag)))
   cJ)
  (bB (jD (aH (LL.bZ 6) (aA (aH jK (aA (aB 5) aE)) (aA (aB 6) aE))) (aH (LL.bZ 6) (aA (aH LL.kG (aA (aB 4) aE)) (aA (aB 6) aE)))))))))))))
open LL
def pr(p:Int×Int):List Int:=[p.1,p.2]
def Xx(x:Q0a)(k:Nat):List (Int×Int):=(aY 0 k).flatMap λb=>(row x b).map λa=>(a,b)
def f6{x:Q0a}{b:Int}(h0:0<=b)(h1:b<(x.length:Int)):x[b.toNat]?=aa (row x b):=by
 have:b.toNat<x.length:=by omega
 unfold row;rw[getElem?_eq_getElem this];rfl
def un(t:Q0e):Int×Int:=(t.getD 0 0,t.getD 1 0)
def srt(l:List (Int×Int)):List (Int×Int):=(tW (l.map pr)).map un
end Q9
namespace K03
open L3 L4
def zY:fY:=bY 4 1
  (aI (fG 1 (dC aE))
  (aI (b9 (pZ (aA (aB 0) aE)) (zN 2 3)
   (sX (kR 1 Se (bG (bJ 1 [2] (cC (aB 3)) (g1 0) cM (dG (aA (aB 0) (aA (aB 1) aE))))))))
  (bB (bI cB (aA (bI BP (aA (aB 1) aE)) aE)))))
def NA:fY:=bY 4 2
  (aI (aN 2 (aC a9 (aB 1) (eC (.int 0))))
  (aI (aN 3 (aC a9 (aB 1) (eC (.int 1))))
  (bB (yR (bI anyM (aA (bJ 1 [2,0] (cC (aC a9 (aB 0) (aB 3))) (g1 0) cM (aC (oO ag) (aB 1) (aC a9 (aB 2) (aB 0)))) aE))))))
def EL:fY:=bY 1 1
  (bB (bI cB (aA (bJ 1 [0] (cC (aH zY (aA (aB 0) aE))) (g1 0) (tV (aH NA (aA (aB 1) (aA (aB 0) aE)))) (aB 0)) aE)))
def qA:fY:=bY 3 1
  (aI (aN 1 (dC aE))
  (aI (b9 (aR (aA (bI aW (aA (aB 0) aE)) aE)) (gK 2)
   (aN 1 (aC bA (aB 1) (bJ 1 [2] (cC (aC a9 (aB 0) (aB 2))) (g1 0) cM (dG (aA (aB 0) (aA (aB 1) aE)))))))
  (bB (bI BP (aA (aB 1) aE)))))
def HK:fY:=bY 9 2
  (aI (fG 2 (dC aE))
  (aI (b9 (aR (aA (aB 0) aE)) (gK 3)
   (aI (fG 4 (dC aE))
   (aI (fG 5 (dC (aA (aB 3) aE)))
   (aI (BO QR (tV (aC rN (bI aW (aA (aB 5) aE)) (eC (.int 0))))
    (aI (oP 6 (zM 5))
    (b9 (cC (aB 1)) (zN 7 8)
     (eO (kD (tV (aC gM (aB 8) (aB 6))) (tV (aC (oO ae) (aB 7) (aB 4))))
      (aI (sX (kR 4 eQ (bG (aB 7))))
      (sX (kR 5 eQ (bG (aB 7)))))
      cJ))))
   (aI (eO (tV (aC (oO ag) (aB 3) (aB 4)))
    (bB (eC .non))
    cJ)
   (sX (kR 2 eQ (dZ (bI cB (aA (bI fZ (aA (aB 4) aE)) aE))))))))))
  (bB (bI cB (aA (aB 2) aE)))))
def RA:fY:=bY 5 1
  (aI (fG 1 (dC aE))
  (aI (b9 (cC (aH qA (aA (aB 0) aE))) (zN 2 3)
   (aI (aN 4 (bJ 1 [2,0,3] (aR (aA (bI aW (aA (aB 0) aE)) aE)) (g1 0) (kD (tV (aC (oO ag) (aB 1) (aC a9 (aB 2) (aB 0)))) (tV (aC (oO ag) (aB 0) (aC a9 (aB 2) (aB 3))))) (aB 0)))
   (eO (tV (aC gM (bI aW (aA (aB 4) aE)) (eC (.int 0))))
    (sX (kR 1 eQ (bG (dG (aA (aB 2) (aA (aB 3) aE))))))
    cJ)))
  (bB (aB 1))))
def sE:fY:=bY 2 1
  (aI (aN 1 (aH EL (aA (aB 0) aE)))
  (aI (eO (yN (jC (tV (aH (LL.bZ 6) (aA (aH zY (aA (aB 0) aE)) (aA (bI cB (aA (aH qA (aA (aB 0) aE)) aE)) aE))))) (jC (tV (aH (LL.bZ 6) (aA (aB 1) (aA (bI cB (aA (aH RA (aA (aB 0) aE)) aE)) aE))))))
   (bB (eC (.bl ag)))
   cJ)
  (bB (aC yT (aH HK (aA (bI aW (aA (aB 0) aE)) (aA (aB 1) aE))) (aB 0)))))
def qB:fY:=bY 3 1
  (aI (aN 1 (aH LL.nO (aA (aB 0) (aA (eC (.int 0)) (aA (eC (.int 9)) (aA (eC (.int 100003)) aE))))))
  (aI (aN 2 (aH LL.nO (aA (aB 0) (aA (eC (.int 2)) (aA (eC (.int 9)) (aA (eC (.int 300007)) aE))))))
  (bB (jD (aH sE (aA (aB 1) aE)) (jD (aH sE (aA (aB 2) aE)) (aH sE (aA (aB 1) aE)))))))
open LL Q9
section
variable{x:Q0a}(hx:Ord.Rows x)
include hx
def wK(h0:0<=c)(h1:c<(x.length:Int))(h:a∈row x c):0<=a/\a<(x.length:Int):=hx.rng _ _ (f6 h0 h1) a h
def RB(h0:0<=c)(h1:c<(x.length:Int))(hb:b∈row x c)(ha:a∈row x b):a∈row x c:=by obtain⟨b0,b1⟩:=wK hx h0 h1 hb;exact hx.tr c.toNat b.toNat _ _ (f6 h0 h1) (by rw[show((b.toNat:Nat):Int)=b by omega];exact hb) (f6 b0 b1) a ha
def Xw(h0:0<=c)(h1:c<(x.length:Int)):c∉row x c:=λh=>hx.QY c.toNat _ (f6 h0 h1) (by rw[show((c.toNat:Nat):Int)=c by omega];exact h)
def Rl(h0:0<=c)(h1:c<(x.length:Int)):(row x c).Nodup:=(hx.up _ _ (f6 h0 h1)).imp λq=>by omega
def Xv(h0:0<=c)(h1:c<(x.length:Int)):(row x c).length<=x.length:=by
 have:=Ord.dD (row x c) (aY 0 x.length) (Rl hx h0 h1) λa ha=>bD.mpr (by have:=wK hx h0 h1 ha;omega)
 rwa [aO] at this
end
def aB5(x:Q0a)(p:Int×Int):Bool:=!(row x p.2).any λc=>(row x c).contains p.1
structure Cl (x:Q0a) (P:List (Int×Int)) (b:Int) (u f:Q0e):Prop where
 nd:u.Nodup
 sub:∀a∈u,a∈row x b
 fr:∀a∈f,a=b\/a∈u
 cl:∀c,(c=b\/c∈u)->c∉f ->∀a,(a,c)∈P->a∈u
abbrev T(x:Q0a):List (Int×Int):=srt (Xx x x.length)
abbrev B(x:Q0a):List (Int×Int):=(T x).filter (aB5 x)
end K03
namespace LL
open L3 L4
def iD:fY:=bY 5 3
  (aI (eO (tV (aC geM (aB 0) (aC uH (eC (.int 10)) (eC (.int 18)))))
   (bB (aC cZ (aC kT (aB 0) (eC (.int 64))) (aB 1)))
   cJ)
  (aI (aN 3 (eC (.int 0)))
  (aI (b9 (aR (aA (eC (.int 20)) aE)) (gK 4)
   (aN 3 (aC bA (aC mulM (aB 3) (eC (.int 1000000007))) (aH LL.eW (aA (aB 0) (aA (aB 4) (aA (aB 2) aE)))))))
  (bB (aC cZ (aB 3) (aB 1))))))
def RC(ha:a ρ=aa x)(hb:b ρ=aa y):dG (aA a (aA b aE)) ρ=aa (.tup [x,y]):=KP (args2 ha hb) (by simp)
def XS(hp:p<=4000)(hq:q<=4000)(hi:i.natAbs<2^p)(hj:j.natAbs<2^q):mulM (.int i) (.int j)=aa (.int (i*j)):=by
 have lg:∀m r:Nat,m<2^r->m.log2<r+1:=by
  intro m r hm;by_cases z:m=0
  .rw [z];exact Nat.succ_pos r
  .exact qw ((Nat.log2_lt z).mpr hm)
 have a:=lg _ _ hi;have b:=lg _ _ hj;have e:vH i j=ae:=by unfold vH;rw[Zx (show i.natAbs.log2+j.natAbs.log2<=134217700 by omega),Bool.or_true]
 unfold mulM iV;exact Z_ e
def RD(ρ:dJ)(h:(Zv ((0:Int)<=j)&&Zv (j.natAbs<=1000000)&&Zv (i.natAbs<18446744073709551616))=ae):aC uH (eC (.int i)) (eC (.int j)) ρ=aa (.int (i^j.toNat)) :=
 aK rfl rfl (Z_ h)
def RE(c s:Int)(hm:0<most):∃r,0<=r/\r<most/\iD [.int c,.int most,.int s]=.ok (.int r):=by
 have Ai:∀ρ,aC uH (eC (.int 10)) (eC (.int 18)) ρ=aa (.int 1000000000000000000):=λρ=>by rw[RD ρ (by decide+kernel)];rfl
 unfold iD;by_cases h:(1000000000000000000:Int)<=c
 .refine ⟨c/64%most,ip _ (by omega),jd _ hm,gO rfl (yW (M9 (l8 (aK (x:=.int c) (y:=.int 1000000000000000000) rfl (Ai _) p7) (by rw[Zx h];rfl)) (iA (aK (x:=.int (c/64)) (y:=.int most) (aK (x:=.int c) (y:=.int 64) rfl rfl (iM (by decide) (by decide))) rfl (bL hm)))))⟩
 .obtain ⟨_,e,x,v4,rfl⟩:Nx (b9 (aR (aA (eC (.int 20)) aE)) (gK 4)
   (aN 3 (aC bA (aC mulM (aB 3) (eC (.int 1000000007))) (aH LL.eW (aA (aB 0) (aA (aB 4) (aA (aB 2) aE)))))) [.ro (.int c),.ro (.int most),.ro (.int s),.ro (.int 0),.no])
   (λρ=>∃x v4,ρ=[.ro (.int c),.ro (.int most),.ro (.int s),.ro (.int x),v4]):=by
   refine iC 20 (λi ρ=>∃x v4,ρ=[.ro (.int c),.ro (.int most),.ro (.int s),.ro (.int x),v4]) rfl (by decide) ⟨0,.no,rfl⟩ ?_ λρ h=>h;rintro i _ hi ⟨x,v4,rfl⟩;obtain⟨r,_,er⟩:=EJ c (i:Int) s (by omega) (by omega);exact⟨_,rfl,_,eD (.int (x*1000000007+r)) (aK (x:=.int (x*1000000007)) (y:=.int r) (aK (x:=.int x) (y:=.int 1000000007) rfl rfl (BZ (by decide))) (fL rfl rfl rfl er) fB) rfl,_,_,rfl⟩
  exact⟨x%most,ip _ (by omega),jd _ hm,gO rfl (dI _ (yO (l8 (aK (x:=.int c) (y:=.int 1000000000000000000) rfl (Ai _) p7) (by rw[Zy h];rfl)) rfl) (dI _ (eD (.int 0) rfl rfl) (dI _ e (iA (aK (x:=.int x) (y:=.int most) rfl rfl (bL hm))))))⟩
def at0(fl:Q0e)(a:Int):Int:=(fl[a.toNat]?).getD 0
def RF(h0:0<=a)(h1:a<(fl.length:Int)):a9 (tupI fl) (.int a)=aa (.int (at0 fl a)):=by obtain⟨x,_,e,e2⟩:=HJ h0 h1;show pW (fl.map D.int) a=_;rw[B0,e];unfold at0;rw[e2];rfl
def sF(h0:0<=a)(h1:a<(fl.length:Int)):a9 (aG fl) (.int a)=aa (.int (at0 fl a)):=RF h0 h1
def RG:a∈putN ns k↔a∈ns\/a=k:=by
 unfold putN;split
 .rename_i h;exact⟨.inl,λq=>q.elim id λz=>z▸h⟩
 .rw [ft,br]
def HL(h:ns.Nodup):(putN ns k).Nodup:=by
 unfold putN;split
 .exact h
 .rename_i z;exact iy.mpr ⟨h,by simp,λa ha b hb=>by rw[br] at hb;intro e;subst e;subst hb;exact z ha⟩
theorem zZ:∀(ks ns:Q0e),ns.Nodup->(ks.foldl putN ns).Nodup /\∀a,a∈ks.foldl putN ns↔a∈ns\/a∈ks
 |[],ns,h=>⟨h,λa=>by simp⟩
 |k::ks,ns,h=>by obtain⟨h1,h2⟩:=zZ ks (putN ns k) (HL h);refine⟨h1,λa=>?_⟩;rw[jk,h2,RG,bu,or_assoc]
def RH(ns:Q0e):(M7 ns).Nodup /\∀a,a∈M7 ns↔a∈ns:=by obtain⟨h1,h2⟩:=zZ ns [] (by simp);exact⟨h1,λa=>by unfold M7;rw[h2];simp⟩
def both(r l:Q0e):List Int:=sortI (M7 (r++l))
def B2(r l:Q0e):(both r l).Pairwise (·<·):=by have h1:=iY (M7 (r++l));have h2:(both r l).Nodup:=(sortI_perm (M7 (r++l))).nodup_iff.mpr (RH _).1;exact(a3S h1 h2).imp λq=>by omega
def EM:a∈both r l↔a∈r\/a∈l:=by unfold both;rw[(sortI_perm _).mem_iff,(RH _).2,ft]
def thing(n a:Int):Bool:=Zv (0<=a)&&Zv (a<n)
def nV:thing n a=ae↔0<=a/\a<n:=by simp[thing]
def HM(b:Int)(lower:Q0e)(p:List Int×Nat):List Int:=if Zv ((p.2:Int)=b)||p.1.contains b then both p.1 lower else p.1
def put(x:Q0a)(a b:Int):List (List Int):=x.zipIdx.map (HM b (row x a++[a]))
def z4(x:Q0a)(a b:Int):Bool:=Zv (a=b)||(row x a).contains b
open K03 Q9
theorem XT(up:∀d:Int,0<=d->d<(y.length:Int)->(row y d).Pairwise (·<·))(rng:∀c d:Int,0<=d->d<(y.length:Int)->c∈row y d->0<=c/\c<(y.length:Int))
  (tr:∀c v d:Int,0<=d->d<(y.length:Int)->v∈row y d->c∈row y v->c∈row y d) (QY:∀d:Int,0<=d->d<(y.length:Int)->d∉row y d):Ord.Rows y:=by
 have wL:∀(b:Nat) (r:Q0e),y[b]?=aa r->row y (b:Int)=r/\(b:Int)<(y.length:Int):=λb r h=>by unfold row;rw[gk,h];have:=(cn.1 h).1;exact⟨rfl,by omega⟩
 refine⟨λb r h=>?_,λb r h a ha=>?_,λb a r v h ha hv c hc=>?_,λb r h=>?_⟩
 .obtain ⟨e,l⟩:=wL b r h;rw[<- e];exact up b (by omega) l
 .obtain ⟨e,l⟩:=wL b r h;rw[<- e] at ha;exact rng a b (by omega) l ha
 .obtain ⟨e,l⟩:=wL b r h;obtain⟨e2,l2⟩:=wL a v hv;rw[<- e] at ha ⊢;rw[<- e2] at hc;exact tr c a b (by omega) l ha hc
 .obtain ⟨e,l⟩:=wL b r h;rw[<- e];exact QY b (by omega) l
def cK(x:Q0a)(a b:Int):(put x a b).length=x.length:=by simp[put]
def B3(h0:0<=d)(h1:d<(x.length:Int)):row (put x a b) d=HM b (row x a++[a]) (row x d,d.toNat):=by
 have hk:d.toNat<x.length:=by omega
 unfold row put;rw[cg,Gw,getElem?_eq_getElem hk];simp[row]
def jY(h0:0<=d)(h1:d<(x.length:Int)):c∈row (put x a b) d↔c∈row x d\/((d=b\/b∈row x d)/\(c=a\/c∈row x a)):=by
 rw[B3 h0 h1];unfold HM;have e:((d.toNat:Nat):Int)=d:=by omega
 rw[e];by_cases h:(Zv (d=b)||(row x d).contains b)=ae
 .rw [Z_ h,EM,ft,br];have h':d=b\/b∈row x d:=by simpa using h
  constructor
  .rintro (z|z|z)
   .exact .inl z
   .exact .inr ⟨h',.inr z⟩
   .exact .inr ⟨h',.inl z⟩
  .rintro (z|⟨_,z|z⟩)
   .exact .inl z
   .exact .inr (.inr z)
   .exact .inr (.inl z)
 .rw [Zz h];have h':¬ (d=b\/b∈row x d):=by simpa using h
  exact⟨.inl,λz=>z.elim id λq=>Zw q.1 h'⟩
def RI(h:z4 x a b=ag):a≠b/\b∉row x a:=by unfold z4 at h;simpa using h
def EN(hx:Ord.Rows x)(ha:thing x.length a=ae)(hb:thing x.length b=ae)(h:z4 x a b=ag):Ord.Rows (put x a b):=by
 obtain⟨a0,a1⟩:=nV.mp ha;obtain⟨b0,b1⟩:=nV.mp hb;obtain⟨nab,nba⟩:=RI h;refine XT (λd d0 d1=>?_) (λc d d0 d1 hc=>?_) (λc v d d0 d1 hv hc=>?_) λd d0 d1 hd=>?_
 .rw [cK] at d1;rw[B3 d0 d1];unfold HM;split
  .exact B2 _ _
  .exact hx.up _ _ (f6 d0 d1)
 .rw [cK] at d1 ⊢;rcases(jY d0 d1).1 hc with z|⟨_,z|z⟩
  .exact wK hx d0 d1 z
  .omega
  .exact wK hx a0 a1 z
 .rw [cK] at d1;have hv':=(jY d0 d1).1 hv;have vr:0<=v/\v<(x.length:Int):=by
   rcases hv' with z|⟨_,z|z⟩
   .exact wK hx d0 d1 z
   .omega
   .exact wK hx a0 a1 z
  refine(jY d0 d1).2 ?_;rcases(jY vr.1 vr.2).1 hc with z|⟨u,l⟩
  .rcases hv' with y|⟨u,l⟩
   .exact .inl (RB hx d0 d1 y z)
   .refine .inr ⟨u,.inr ?_⟩;rcases l with e|l
    .rw [e] at z;exact z
    .exact RB hx a0 a1 l z
  .refine .inr ⟨?_,l⟩;rcases hv' with y|⟨u2,_⟩
   .rcases u with e|u
    .rw [e] at y;exact .inr y
    .exact .inr (RB hx d0 d1 y u)
   .exact u2
 .rw [cK] at d1;rcases(jY d0 d1).1 hd with z|⟨u,l⟩
  .exact Xw hx d0 d1 z
  .rcases u with e|u
   .rcases l with e2|l
    .exact nab (e2.symm.trans e)
    .rw [e] at l;exact nba l
   .rcases l with e2|l
    .rw [e2] at u;exact nba u
    .exact nba (RB hx a0 a1 l u)
def fO:fY:=bY 2 2
  (bB (bI cB (aA (bI mI (aA (aC bA (aB 0) (dG (aA (aB 1) aE))) aE)) aE)))
def d8:fY:=bY 3 2
  (aI (aN 2 (bJ 1 [1] (aR (aA (bI aW (aA (aB 0) aE)) aE)) (g1 0) (tV (aC (oO ae) (aB 0) (aB 1))) (aB 0)))
  (bB (bJ 1 [1,0] (cC (aB 2)) (g1 0) (tV (bI allM (aA (bJ 1 [1] (cC (aC a9 (aB 2) (aB 0))) (g1 0) cM (aC (oO ag) (aB 0) (aB 1))) aE))) (aB 0))))
def aP(x:Q0a)(a:Q0e):List Int:=((aY 0 x.length).filter λt=>!a.contains t).filter λt=>(row x t).all λl=>a.contains l
def aL(a:Q0e)(t:Int):List Int:=sortI (a++[t])
def rdI(x:Q0a)(a:Q0e):List (List Int):=(aP x a).map (aL a)
def RJ(x:Q0a)(a:Q0e):Prop:=a.Nodup /\∀t∈a,0<=t/\t<(x.length:Int)
def B4(h:ns.length<64):mI [.tup (ns.map D.int)]=aa (.lst ((sortI ns).map D.int)):=by simp[mI,dM,h]
def NB(h:a.length<=9):fO [tupI a,.int t]=.ok (tupI (aL a t)):=by
 unfold fO;refine gO rfl (iA (c8 (x:=aG (aL a t)) (c8 (x:=tupI (a++[t])) (aK (x:=tupI a) (y:=tupI [t]) rfl rfl ?_) ?_) rfl))
 .unfold tupI;rw[QZ (by simp;omega),cy]
 .have:=B4 (ns:=a++[t]) (by simp;omega);exact this
def EO(hx:x.length<=9)(hr:∀r∈x,r.length<=9):d8 [aJ x,tupI a]=.ok (aG (aP x a)):=by
 unfold d8 aP;have e1:bJ 1 [1] (aR (aA (bI aW (aA (aB 0) aE)) aE)) (g1 0) (tV (aC (oO ae) (aB 0) (aB 1))) (aB 0) (gJ (c6 3 [aJ x,tupI a]))=aa (aG ((aY 0 x.length).filter λt=>!a.contains t)):=by refine iN ((aY 0 x.length).map D.int) (Q4 (c8 rfl eJ) (by omega)) (by rw[az,aO];omega) ?_;exact eF D.int _ D.int (aY 0 x.length) λt _=>⟨[aa (.int t),aa (tupI a)],rfl,l8 (aK (x:=.int t) (y:=tupI a) rfl rfl XR) rfl,λ_=>rfl⟩
 generalize hL:((aY 0 x.length).filter λt=>!a.contains t)=L at e1;have Lr:∀t∈L,0<=t/\t<(x.length:Int):=λt ht=>by rw[<- hL] at ht;have:=bD.mp (f_.mp ht).1;omega
 have Ll:L.length<=9:=by rw[<- hL];have:=j_ (λt=>!a.contains t) (aY 0 x.length);rw[aO] at this;omega
 refine gO rfl (dI _ (eD (aG L) e1 rfl) (iA ?_));refine iN (L.map D.int) rfl (by rw[az];omega) ?_;refine eF D.int _ D.int L λt ht=>⟨[aa (.int t),aa (tupI a),aa (aJ x)],rfl,?_,λ_=>rfl⟩;obtain⟨t0,t1⟩:=Lr t ht;have rl:(row x t).length<=9:=by unfold row;rw[getElem?_eq_getElem (by omega)];exact hr _ (ni _)
 refine l8 (d:=.bl ((row x t).all λl=>a.contains l)) (c8 (x:=.lst (((row x t).map λl=>a.contains l).map D.bl)) ?_ ?_) rfl
 .refine Eq.trans (iN ((row x t).map D.int) ?_ (by rw[az];omega) (iB D.int (λl=>.bl (a.contains l)) (row x t) λl _=>⟨[aa (.int l),aa (tupI a)],rfl,aK (x:=.int l) (y:=tupI a) rfl rfl aB3⟩)) (by rw[dq];rfl);unfold cC;rw[aK (x:=aJ x) (y:=.int t) (z:=aa (tupI (row x t))) rfl rfl (pG t0 t1)];rfl
 .rw [KQ,uz];rfl
def eX(h:t∈aP x a):(0<=t/\t<(x.length:Int))/\t∉a:=by unfold aP at h;have h1:=(f_.mp h).1;have h2:=f_.mp h1;have:=bD.mp h2.1;exact⟨by omega,by simpa using h2.2⟩
def wM(n:Nat):(aY 0 n).Nodup:=by refine a2f.mpr λi j hi hj hij=>?_;have e1:=jI (lo:=0) (n:=n) (i:=i) (by simpa[aO] using hi);have e2:=jI (lo:=0) (n:=n) (i:=j) (by simpa[aO] using hj);rw[getElem?_eq_getElem hi] at e1;rw[getElem?_eq_getElem hj] at e2;have e1:=df e1;have e2:=df e2;omega
def i7(h:RJ x a):(aP x a).length+a.length<=x.length:=by
 have nd:(aP x a++a).Nodup:=by refine iy.mpr ⟨?_,h.1,λu hu v hv e=>(eX hu).2 (e▸hv)⟩;unfold aP;exact qb _ (qb _ (wM x.length))
 have:=Ord.dD _ (aY 0 x.length) nd λt ht=>bD.mpr (by
  rcases ft.1 ht with z|z
  .have:=(eX z).1;omega
  .have:=h.2 t z;omega)
 rwa [bq,aO] at this
def D_(h:RJ x a):(∀b∈rdI x a,RJ x b/\b.length=a.length+1)/\(rdI x a).length+a.length<=x.length:=by
 refine⟨λb hb=>?_,by unfold rdI;rw[az];exact i7 h⟩;unfold rdI at hb;obtain⟨t,ht,rfl⟩:=gj.mp hb;obtain⟨hr,hn⟩:=eX ht;have p:=sortI_perm (a++[t]);refine⟨⟨?_,λu hu=>?_⟩,?_⟩
 .unfold aL;refine p.nodup_iff.mpr (iy.mpr ⟨h.1,by simp,λu hu v hv e=>?_⟩);rw[br] at hv;subst hv;subst e;exact hn hu
 .unfold aL at hu;rcases ft.1 (p.mem_iff.mp hu) with z|z
  .exact h.2 u z
  .rw [br] at z;subst z;exact hr
 .unfold aL;rw[p.length_eq];simp
def XU(h:RJ x a):a.length<=x.length:=by have:=i7 h;omega
def KU:RJ x []:=⟨kh,λt ht=>by cases ht⟩
end LL
namespace L7
open L3 L4 LL
section
variable(rd:List Int->List (List Int))
def Wf:Nat->List Int->Int
 |0,_=>1
 |m+1,a=>((rd a).map (Wf m)).sum
end
end L7
namespace K24
noncomputable def fact:Nat->Int
 |0=>1
 |k+1=>fact k*(k+1)
noncomputable def ff(x:Int):Nat->Int
 |0=>1
 |k+1=>ff x k*(x-k)
theorem qC:∀k,0<fact k
 |0=>by decide
 |k+1=>Int.mul_pos (qC k) (by omega)
theorem KW(x:Int):∀k,ff (x+1) (k+1)=(x+1)*ff x k
 |0=>by simp[ff]
 |k+1=>by rw[show ff (x+1) (k+1+1)=ff (x+1) (k+1)*(x+1-((k+1:Nat):Int)) from rfl,KW x k,show ff x (k+1)=ff x k*(x-k) from rfl,zo];congr 2;omega
def B5(x:Int)(k:Nat):ff (x+1) (k+1)=ff x (k+1)+(k+1)*ff x k:=by rw[KW,show ff x (k+1)=ff x k*(x-k) from rfl,rj (ff x k),<- u_];congr 1;omega
theorem KY:∀k,ff 0 (k+1)=0
 |0=>by simp[ff]
 |k+1=>by rw[show ff 0 (k+1+1)=ff 0 (k+1)*_ from rfl,KY k,qc]
theorem RK:∀(k:Nat) (x:Int),fact k ∣ ff x k
 |0,x=>by simp[fact,ff]
 |k+1,x=>by
  have st:∀y:Int,fact (k+1) ∣ (k+1)*ff y k:=λy=>by obtain⟨c,e⟩:=RK k y;exact⟨c,by rw[e,show fact (k+1)=fact k*(k+1) from rfl,<- zo,rj (k+1:Int)]⟩
  have up:∀y:Int,fact (k+1) ∣ ff y (k+1)->fact (k+1) ∣ ff (y+1) (k+1):=λy h=>by rw[B5];exact Int.dvd_add h (st y)
  have dn:∀y:Int,fact (k+1) ∣ ff (y+1) (k+1)->fact (k+1) ∣ ff y (k+1):=λy h=>by rw[B5] at h;exact(Int.dvd_add_left (st y)).mp h
  have h0:fact (k+1) ∣ ff 0 (k+1):=by rw[KY];exact Int.dvd_zero _
  have pos:∀n:Nat,fact (k+1) ∣ ff (n:Int) (k+1):=λn=>by
   induction n with
   |zero=>exact h0
   |succ n ih=>exact up _ ih
  have neg:∀n:Nat,fact (k+1) ∣ ff (-(n:Int)) (k+1):=λn=>by
   induction n with
   |zero=>exact h0
   |succ n ih=>exact dn _ (by rw[show -((n+1:Nat):Int)+1=-(n:Int) by omega];exact ih)
  rcases Int.le_total 0 x with hx|hx
  .have:=pos x.toNat;rwa [show((x.toNat:Nat):Int)=x by omega] at this
  .have:=neg (-x).toNat;rwa [show -(((-x).toNat:Nat):Int)=x by omega] at this
--CUT
def C(x:Int)(m:Nat):Int:=ff x m/fact m
def z5(x:Int)(m:Nat):C x m*fact m=ff x m:=Int.ediv_mul_cancel (RK m x)
def Bv(h:c*fact m=ff x m):c=C x m:=a2L (a2H (qC m)) (h.trans (z5 x m).symm)
def aB7(x:Int):C x 0=1:=rfl
def aB8(x:Int)(m:Nat):C (x+1) (m+1)=C x (m+1)+C x m:=by refine(Bv ?_).symm;rw[u_,z5,show fact (m+1)=fact m*(m+1) from rfl,<- zo,z5,B5,rj (ff x m)]
theorem KZ:∀{m:Nat},x<m->ff (x:Int) m=0
 |m+1,h=>by
  show ff (x:Int) m*((x:Int)-(m:Int))=0;by_cases e:x=m
  .subst e;rw[Int.sub_self,zm]
  .rw [KZ (by omega),qc]
theorem aB9{x:Int}{m:Nat}(h0:0<=x)(h:x<m):C x m=0:=by refine(Bv ?_).symm;obtain⟨n,rfl⟩:∃n:Nat,x=(n:Int):=⟨x.toNat,by omega⟩;rw[KZ (by omega),qc]
noncomputable def diffs:List Int->List Int
 |a::b::l=>(b-a)::diffs (b::l)
 |_=>[]
theorem qD:∀l:Q0e,(diffs l).length=l.length-1
 |[]=>rfl
 |[_]=>rfl
 |a::b::l=>by rw[diffs,bx,qD (b::l)];simp
def fd(l:Q0e):List Int:=match l with
 |[]=>[]
 |a::r=>a::fd (diffs (a::r))
termination_by l.length
decreasing_by rw[qD];simp
noncomputable def vals(f:Int->Int):Nat->Int->List Int
 |0,_=>[]
 |n+1,x=>f x::vals f n (x+1)
def DV(n:Nat)(d:Int):List Int->Int->Int
 |[],_=>0
 |w::l,k=>w*C (k+n-1-d) n+DV n (d+1) l k
theorem z6:∀(a b:Q0e) (d:Int),DV n d (a++b) k=DV n d a k+DV n (d+a.length) b k
 |[],b,d=>by simp[DV]
 |w::a,b,d=>by show w*C (k+n-1-d) n+DV n (d+1) (a++b) k=w*C (k+n-1-d) n+DV n (d+1) a k+DV n (d+(a.length+1:Nat)) b k;rw[z6 a b (d+1),show d+1+(a.length:Int)=d+(a.length+1:Nat) by omega];omega
def Bg(b:Nat)(x:Int):Prop:=x.natAbs<2^b
def Bg.mono(h:Bg a x)(hab:a<=b):Bg b x:=fz h (mz (by omega) hab)
def Bg.mul(h:Bg a x)(g:Bg b y):Bg (a+b) (x*y):=by unfold Bg at *;rw[a1Y,a2I];exact Nat.mul_lt_mul_of_lt_of_lt h g
def Bg.sub(h:Bg a x)(g:Bg a y):Bg (a+1) (x-y):=by unfold Bg at *;rw[a1X];generalize 2^a=z at *;omega
end K24
namespace LL
open L3 L4
def jZ:fY:=bY 2 2
  (bB (bJ 2 [] (ED (aA (aB 0) (aA (aB 1) aE))) (g2 0 1) cM (aC bA (aB 0) (aB 1))))
def b7:fY:=bY 1 1
  (bB (aC bA (dC (aA (eC (.int 0)) aE)) (DW (aB 0) KH (oE (jE (eC (.int 1)))))))
def bK:Nat->FnM
 |0=>λ_ _=>.no
 |n+1=>runM 8 4
  ((aI (aN 4 (dG (aA (aB 1) (aA (aB 2) aE))))
  (eO (tV (aC (uJ ae) (aB 4) (aB 3)))
   (aI (fG 5 (aC repLM (dC (aA (eC (.int 0)) aE)) (bI vL (aA (bI aW (aA (aB 0) aE)) (aA (eC (.int 1)) aE)))))
   (aI (eO (tV (aC gM (bI aW (aA (aB 1) aE)) (bI aW (aA (aB 0) aE))))
    (M5 5 (bG (eC (.int 1))) (eC (.int 0)))
    cJ)
   (aI (HG 5 (b9 (cC (aH LL.d8 (aA (aB 0) (aA (aB 1) aE)))) (gK 6)
    (aI (rT 7 (bK n) (aA (aB 0) (aA (aH LL.fO (aA (aB 1) (aA (aB 6) aE))) (aA (aB 6) aE))) 3)
    (aN 5 (aH LL.jZ (aA (aB 5) (aA (M0 (tV (aC rN (aB 2) (aB 6))) (aH LL.b7 (aA (aB 7) aE)) (aB 7)) aE)))))))
   (gC 3 (bG (aB 5)) (aB 4)))))
   cJ)))
  (aB 4)
def iP:fY:=bY 2 1
  (aI (vS 1)
  (aI (XM (LL.bK 11) (aA (aB 0) (aA (dG aE) (aA (eC (.int 0)) aE))) 1)
  (bB (aB 1))))
def bQ:fY:=bY 1 1
  (bB (bI cB (aA (aC kU (aH LL.iP (aA (aB 0) aE)) (dG (aA (dG aE) (aA (eC (.int 0)) aE)))) aE)))
def jL:fY:=bY 4 2
  (aI (aN 2 (eC (.int 1)))
  (aI (b9 (aR (aA (aB 1) aE)) (gK 3)
   (aN 2 (aC kT (aC mulM (aB 2) (aC dS (aB 0) (aB 3))) (aC bA (aB 3) (eC (.int 1))))))
  (bB (aB 2))))
def cR:fY:=bY 3 3
  (bB (bI uI (aA (bJ 2 [1,2] (pZ (aA (aB 0) aE)) (g2 0 1) cM (aC mulM (aB 1) (aH LL.jL (aA (aC dS (aC dS (aC bA (aB 3) (aB 2)) (eC (.int 1))) (aB 0)) (aA (aB 2) aE))))) aE)))
def f9:fY:=bY 2 2
  (bB (aH LL.cR (aA (aH LL.bQ (aA (aB 0) aE)) (aA (bI aW (aA (aB 0) aE)) (aA (aB 1) aE)))))
def yX:fY:=bY 2 2
  (bB (bJ 2 [1] (ED (aA (aC bA (aB 0) (dC (aA (eC (.int 0)) aE))) (aA (aC bA (dC (aA (eC (.int 0)) aE)) (aB 0)) aE))) (g2 0 1) cM (aC bA (aC mulM (aB 2) (aB 0)) (aB 1))))
def pH:fY:=bY 5 3
  (aI (aN 3 (dC (aA (aB 0) aE)))
  (aI (b9 (aR (aA (aB 2) aE)) (gK 4)
   (aN 3 (aH LL.yX (aA (aB 3) (aA (aC dS (aB 1) (aB 4)) aE)))))
  (bB (aB 3))))
def B6:fY:=bY 5 1
  (aI (aN 1 (bI aW (aA (aB 0) aE)))
  (aI (aN 2 (aC repLM (dC (aA (eC (.int 0)) aE)) (aC bA (aB 1) (eC (.int 1)))))
  (aI (b9 (pZ (aA (aH LL.bQ (aA (aB 0) aE)) aE)) (zN 3 4)
   (aN 2 (aH LL.jZ (aA (aB 2) (aA (aH LL.pH (aA (aB 4) (aA (aC dS (aC dS (aB 1) (eC (.int 1))) (aB 3)) (aA (aB 1) aE)))) aE)))))
  (bB (bI cB (aA (aB 2) aE))))))
def oG:fY:=bY 3 1
  (aI (fG 1 (dC aE))
  (aI (aN 2 (aB 0))
  (aI (BO QR (tV (aB 2))
   (aI (sX (kR 1 eQ (bG (aC a9 (aB 2) (eC (.int 0))))))
   (aN 2 (bJ 2 [] (ED (aA (aB 2) (aA (DW (aB 2) (oE (eC (.int 1))) KH) aE))) (g2 0 1) cM (aC dS (aB 1) (aB 0))))))
  (bB (bI cB (aA (aB 1) aE))))))
def qE:fY:=bY 3 1
  (aI (aN 1 (bI aW (aA (aB 0) aE)))
  (aI (aN 2 (aH LL.bQ (aA (aB 0) aE)))
  (bB (aH LL.oG (aA (bJ 1 [2,1] (aR (aA (aC bA (aB 1) (eC (.int 1))) aE)) (g1 0) cM (aH LL.cR (aA (aB 1) (aA (aB 2) (aA (aB 0) aE))))) aE)))))
def pI:fY:=bY 5 2
  (aI (aN 2 (eC (.int 1)))
  (aI (aN 3 (eC (.int 1)))
  (aI (b9 (aR (aA (aB 1) aE)) (gK 4)
   (aI (aN 2 (aC mulM (aB 2) (aC dS (aB 0) (aB 4))))
   (aN 3 (aC mulM (aB 3) (aC bA (aB 4) (eC (.int 1)))))))
  (bB (aC kT (aB 2) (aB 3))))))
def sG:fY:=bY 2 2
  (aI (eO (yN (jC (tV (jF "tuple" (aB 0)))) (tV (aC W2 (bI aW (aA (aB 0) aE)) (aB 1))))
   (bB (eC (.bl ag)))
   cJ)
  (bB (bI allM (aA (bJ 1 [] (cC (aB 0)) (g1 0) cM (jD (jF "int" (aB 0)) (yR (jF "bool" (aB 0))))) aE))))
def NC:fY:=bY 5 3
  (aI (aN 3 (aH LL.bR (aA (aH LL.bT (aA (aB 0) (aA (aB 1) aE))) (aA (eC (.int 3)) (aA (aB 2) aE)))))
  (aI (eO (tV (aC gM (aC cZ (aC a9 (aB 3) (eC (.int 0))) (eC (.int 3))) (eC (.int 0))))
   (bB (aC dS (aC cZ (aC a9 (aB 3) (eC (.int 1))) (eC (.int 25))) (eC (.int 12))))
   cJ)
  (aI (aN 4 (aH LL.iD (aA (aH LL.bT (aA (aB 0) (aA (aC bA (aB 1) (eC (.int 1))) aE))) (aA (aC a9 (dC (aA (aC uH (eC (.int 10)) (eC (.int 4))) (aA (aC uH (eC (.int 10)) (eC (.int 20))) (aA (aC uH (eC (.int 10)) (eC (.int 59))) aE)))) (aC cZ (aC a9 (aB 3) (eC (.int 1))) (eC (.int 3)))) (aA (aC bA (aB 2) (eC (.int 70001))) aE)))))
  (bB (aC mulM (aB 4) (aC dS (eC (.int 1)) (aC mulM (eC (.int 2)) (aC cZ (aC a9 (aB 3) (eC (.int 2))) (eC (.int 2))))))))))
def fI:fY:=bY 1 1
  (bB (bJ 1 [] (cC (aB 0)) (g1 0) cM (bI uI (aA (bJ 1 [] (cC (aB 0)) (g1 0) cM (aC lL (eC (.int 1)) (aB 0))) aE))))
def k6:fY:=bY 15 2
  (aI (aN 2 (aH LL.fI (aA (aB 0) aE)))
  (aI (aN 3 (bI aW (aA (aB 0) aE)))
  (aI (rS 4 (eC (.int 0)) (eC (.int 1)))
  (aI (b9 (aR (aA (aB 1) aE)) (gK 5)
   (aI (vS 6)
   (aI (HG 4 (b9 (vR (aB 4)) (gK 7)
    (aI (aN 8 (dC (aA (dG (aA (aB 7) (aA (eC (.int 0)) aE))) aE)))
    (aI (b9 (aR (aA (aB 3) aE)) (gK 9)
     (aN 8 (aC bA (aB 8) (bJ 2 [9] (cC (aB 8)) (g2 0 1) (tV (aC gM (aC eZ (aC p6 (aB 0) (aB 2)) (eC (.int 1))) (eC (.int 0)))) (dG (aA (aC yV (aB 0) (aC lL (eC (.int 1)) (aB 2))) (aA (aC bA (aB 2) (eC (.int 1))) aE)))))))
    (b9 (cC (aB 8)) (zN 10 11)
     (aI (aN 12 (aC KN (aB 10) (aB 7)))
     (aI (aN 13 (eC (.bl ae)))
     (aI (b9 (aR (aA (aB 3) aE)) (gK 9)
      (eO (tV (aC gM (aC eZ (aC p6 (aB 12) (aB 9)) (eC (.int 1))) (eC (.int 1))))
       (aI (aN 14 (aC lL (aC p6 (aC a9 (aB 2) (aB 9)) (aB 9)) (aB 9)))
       (aN 13 (jD (aB 13) (jD (aC gM (aC eZ (aC a9 (aB 2) (aB 9)) (aB 10)) (aC a9 (aB 2) (aB 9))) (aC gM (aC eZ (aB 14) (aB 12)) (eC (.int 0)))))))
       cJ))
     (eO (tV (aB 13))
      (gC 6 (dZ (aC bA (mK (aB 6) (aB 10) (eC (.int 0))) (aC kU (aB 4) (aB 7)))) (aB 10))
      cJ)))))))))
   (zP 4 6))))
  (bB (mK (aB 4) (aC dS (aC lL (eC (.int 1)) (aB 3)) (eC (.int 1))) (eC (.int 0))))))))
def ER{ks:List vP}{k k':vP}{v:D}:∀{ks:List vP} {ds:List D},ks.length=ds.length->bP (d7 ks ds k v).1 (d7 ks ds k v).2 k'=if k'=k then aa v else bP ks ds k':=by
 intro ks ds hl;unfold d7;split
 .rename_i hc;have go:∀(ks:List vP) (ds:List D),ks.length=ds.length->bP ks ((ks.zip ds).map λp=>if p.1=k then v else p.2) k'=if k'=k then(bP ks ds k').map (λ_=>v) else bP ks ds k':=by
   intro ks
   induction ks with
   |nil=>intro ds _;simp[bP]
   |cons q ks ih =>
    intro ds hl
    cases ds with
    |nil=>simp at hl
    |cons d ds =>
     have:=ih ds (by simpa using hl);unfold bP at this ⊢;by_cases h1:q=k'
     .subst h1;by_cases h2:q=k
      .simp [h2]
      .simp [h2]
     .simpa [h1] using this
  have hin:k∈ks:=by rw[uy] at hc;obtain⟨q,hq,e⟩:=hc;rw[<- of_decide_eq_true e];exact hq
  have some_of:∀(ks:List vP) (ds:List D),ks.length=ds.length->k∈ks ->∃d,bP ks ds k=aa d:=by
   intro ks
   induction ks with
   |nil=>intro ds _ h;cases h
   |cons q ks ih =>
    intro ds hl h
    cases ds with
    |nil=>simp at hl
    |cons d ds =>
     by_cases h1:q=k
     .exact ⟨d,by simp[bP,h1]⟩
     .obtain ⟨d',e⟩:=ih ds (by simpa using hl) ((bu.1 h).resolve_left (e_ h1));exact⟨d',by unfold bP at e ⊢;simpa[h1] using e⟩
  rw[go ks ds hl];by_cases h:k'=k
  .subst h;obtain⟨d,e⟩:=some_of ks ds hl hin;rw[e];simp
  .rw [Zz h,Zz h]
 .rename_i hc;have hn:k∉ks:=λh=>hc (uy.2 ⟨k,h,by simp⟩);unfold bP;dsimp only;rw[a2a hl,List.find?_append];by_cases h:k'=k
  .subst h;have:((ks.zip ds).find? λp=>Zv (p.1=k'))=af:=by rw[a2q];intro p hp;have:=qx hp;simp only[decide_eq_true_eq];exact λe=>hn (e▸this.1)
   rw[this];simp
  .rw [Zz h];have:([k].zip [v]).find? (λp=>Zv (p.1=k'))=af:=by simp[e_ h]
   rw[this,Option.or_none]
def K0{ks:List vP}{ds:List D}{k:vP}{v:D}(h:ks.length=ds.length):(d7 ks ds k v).1.length=(d7 ks ds k v).2.length/\(d7 ks ds k v).1.length<=ks.length+1:=by
 unfold d7;split
 .simp [h]
 .simp [h]
def ND{ks:List vP}{ds:List D}{k:vP}{v:D}(h:∀q∈ks,q.isLeft=ag)(hk:k.isLeft=ag):∀q∈(d7 ks ds k v).1,q.isLeft=ag:=by
 unfold d7;split
 .exact h
 .intro q hq;rcases ft.1 hq with z|z
  .exact h q z
  .rw [br.1 z];exact hk
def lR(h:∀q∈ks,q.isLeft=ag)(hk:k.isLeft=ag):kindB ks k=ae:=by unfold kindB;rw[ke];intro q hq;rw[h q hq,hk];rfl
theorem sH:∀a:Q0e,vQ (a.map D.int)=aa (a.map c_)
 |[]=>rfl
 |x::a=>by rw[ba,vQ,sH a];rfl
def kS(a:Q0e)(l:Int):vP:=.inr [.inr (a.map c_),.inl (.inl l)]
def K1(a:Q0e)(l:Int):jT (.tup [tupI a,.int l])=aa (kS a l):=by
 have e:QV (tupI a)=aa (.inr (a.map c_)):=by show(vQ (a.map D.int)).map iq=_;rw[sH];rfl
 show(mJ [tupI a,.int l]).map iq=_;unfold mJ;rw[e];rfl
theorem B7:∀{a b:Q0e},a.map (c_:Int->yU)=b.map c_->a=b
 |[],[],_=>rfl
 |[],_::_,h=>by simp at h
 |_::_,[],h=>by simp at h
 |x::a,y::b,h=>by simp only[ba,p_,Ec] at h;rw[h.1,B7 h.2]
theorem aBa{a b:Q0e}{l m:Int}(h:kS a l=kS b m):a=b/\l=m:=by unfold kS at h;simp only[Sum.inr.injEq,p_,Ec,and_true] at h;exact⟨B7 h.1,h.2⟩
def jU(a b:Q0e):List Int:=(a.zip b).map λp=>p.1+p.2
def iE(l:Q0e):List Int:=0::l.dropLast
def sI(n:Nat):List Int:=1::dm (max n 1-1) 0
def tY(n:Nat):List Int:=dm (max n 1) 0
section
variable(x:Q0a)
def Sh:Nat->List Int->Int->List Int
 |0,_,_=>sI x.length
 |m+1,a,l=>(aP x a).foldl (λacc t=>jU acc (if t<l then iE (Sh m (aL a t) t) else Sh m (aL a t) t)) (tY x.length)
end
def RL(h:a.length<=1000):jZ [aG a,aG b]=.ok (aG (jU a b)):=by
 unfold jZ jU;refine gO rfl (iA (iN ((a.zip b).map λp=>D.tup [.int p.1,.int p.2]) ?_ ?_ ?_))
 .unfold ED;rw[args2 (x:=aG a) (y:=aG b) rfl rfl];show aa (((a.map D.int).zip (b.map D.int)).map _)=_;rw[List.zip_map,dq];rfl
 .rw [az,a2j];omega
 .rw [iB (λp:Int×Int=>D.tup [.int p.1,.int p.2]) (λp=>.int (p.1+p.2)) (a.zip b) λp _=>⟨[aa (.int p.1),aa (.int p.2)],rfl,rfl⟩,dq];rfl
def XW(h0:1<=a.length)(h:a.length<=1000):b7 [aG a]=.ok (aG (iE a)):=by
 unfold b7;refine gO rfl (iA (aK (x:=aG [0]) (y:=aG a.dropLast) rfl ?_ ?_))
 .show aa (D.lst (oF (a.map D.int) af (aa (-1))))=_;unfold aG oF yS;rw[az];simp only[ui,pz];rw[Z_ (by decide),show((-1:Int)+(a.length:Int)).toNat=a.length-1 by omega,<- Gp,List.dropLast_eq_take]
 .show (if _ then _ else _)=_;rw[Z_ (by simp[oN];omega)];rfl
def gD(h:a.length=b.length):(jU a b).length=a.length:=by unfold jU;simp[h]
def iQ(h:1<=a.length):(iE a).length=a.length:=by unfold iE;simp;omega
def iF(n:Nat):(tY n).length=max n 1:=by simp[tY]
def ES(n:Nat):(sI n).length=max n 1:=by simp[sI];omega
theorem gE(x:Q0a):∀(m:Nat) (a:Q0e) (l:Int),(Sh x m a l).length=max x.length 1
 |0,a,l=>ES _
 |m+1,a,l=>by
  unfold Sh;have go:∀(ts:Q0e) (acc:Q0e),acc.length=max x.length 1->(ts.foldl (λacc t=>jU acc (if t<l then iE (Sh x m (aL a t) t) else Sh x m (aL a t) t)) acc).length=max x.length 1:=by
   intro ts
   induction ts with
   |nil=>intro acc h;exact h
   |cons t ts ih =>
    intro acc h;rw[jk];refine ih _ ?_;rw[gD]
    .exact h
    .rw [h];have:=gE x m (aL a t) t;split
     .rw [iQ (by omega)];exact this.symm
     .exact this.symm
  exact go _ _ (iF _)
noncomputable def most:Nat->Nat
 |0=>1
 |m+1=>1+(m+1)*most m
def iW(x:Q0a)(kd:KD):Prop:=kd.1.length=kd.2.length/\(∀q∈kd.1,q.isLeft=ag) /\∀a l d,bP kd.1 kd.2 (kS a l)=aa d->d=aG (Sh x (x.length-a.length) a l)
def iW.put{x:Q0a}{kd:KD}(h:iW x kd)(a:Q0e)(l:Int):iW x (d7 kd.1 kd.2 (kS a l) (aG (Sh x (x.length-a.length) a l))):=by
 refine⟨(K0 h.1).1,ND h.2.1 rfl,λb m d e=>?_⟩;rw[ER (ks:=[]) h.1] at e;split at e
 .rename_i hk;obtain⟨rfl,rfl⟩:=aBa hk;exact(df e).symm
 .exact h.2.2 b m d e
def oQ(x:Q0a)(a:Q0e)(l:Int)(q:Nat->aw->Prop)(kd:KD)(s v6 v7:Sv):bV:=[.ro (aJ x),.ro (tupI a),.ro (.int l),.ow (.cD q kd.1 kd.2),.ro (.tup [tupI a,.int l]),s,v6,v7]
def xf(h:iW x kd):tV (aC (uJ ae) (aB 4) (aB 3)) (bW (oQ x a l q kd s v6 v7))=aa (!(bP kd.1 kd.2 (kS a l)).isSome):=by refine l8 (d:=.bl (!(bP kd.1 kd.2 (kS a l)).isSome)) (aK (x:=.tup [tupI a,.int l]) (y:=.cD q kd.1 kd.2) rfl rfl ?_) rfl;show((jT (.tup [tupI a,.int l])).bind _)=_;rw[K1];show(if _ then _ else _)=_;rw[Z_ (lR h.2.1 rfl)];rfl
def Dz(h:iW x kd)(hq:∀b o,q b o ->∃o2,q0 b o2)(hl:bP kd.1 kd.2 (kS a l)=aa d):XI 3 (aB 4) q0 (oQ x a l q kd s v6 v7)=aa (d,kd):=by have e:XI 3 (aB 4) q0 (oQ x a l q kd s v6 v7)=(jT (.tup [tupI a,.int l])).bind λkk=>@ite _ (kindB kd.1 kk=ae /\∀b o,q b o ->∃o2,q0 b o2) (Hj _) ((bP kd.1 kd.2 kk).map λd=>(d,kd)) af:=rfl;rw[e,K1];exact(Z_ ⟨lR h.2.1 rfl,hq⟩).trans (by rw[hl];rfl)
theorem rep0(n:Nat)(h:n<=1000):repLM (.lst [.int 0]) (.int (n:Int))=aa (aG (dm n 0)):=by
 show(if _ then _ else _)=_;rw[Z_ ⟨by simp[oN];omega,by omega⟩];unfold aG;congr 2;simp only[gk]
 induction n with
 |zero=>rfl
 |succ n ih=>rw[jg,nu,ih (by omega),jg];rfl
def HN(h:RJ x a)(hl:a.length=x.length):aP x a=[]:=by have:=i7 h;exact a2y (by omega)
def K2(hx:x.length<=9)(h:ρ[0]?=aa (aa (aJ x))):aC repLM (dC (aA (eC (.int 0)) aE)) (bI vL (aA (bI aW (aA (aB 0) aE)) (aA (eC (.int 1)) aE))) ρ=aa (aG (tY x.length)):=by
 have e0:aB 0 ρ=aa (aJ x):=by unfold aB;rw[h];rfl
 refine aK (x:=.lst [.int 0]) (y:=.int ((max x.length 1:Nat):Int)) rfl (Rn (x:=.int x.length) (y:=.int 1) (c8 e0 eJ) rfl ?_) (rep0 _ (by omega));show aa (D.int (if _ then _ else _))=_;split<;>congr 2<;>omega
def ET(h0:ρ[0]?=aa (aa (aJ x)))(h1:ρ[1]?=aa (aa (tupI a))):tV (aC gM (bI aW (aA (aB 1) aE)) (bI aW (aA (aB 0) aE))) ρ=aa (Zv (a.length=x.length)):=by
 have e0:aB 0 ρ=aa (aJ x):=by unfold aB;rw[h0];rfl
 have e1:aB 1 ρ=aa (tupI a):=by unfold aB;rw[h1];rfl
 refine l8 (d:=.bl (Zv ((a.length:Int)=x.length))) (aK (c8 e1 p9) (c8 e0 eJ) cV) ?_;rw[nR];congr 1;exact decide_eq_decide.2 (by omega)
def yY(x:Q0a)(kd:KD)(a:Q0e)(l:Int):KD:=d7 kd.1 kd.2 (kS a l) (aG (Sh x (x.length-a.length) a l))
def K3{x:Q0a}{kd:KD}{a:Q0e}{l:Int}(h:iW x kd):iW x (yY x kd a l)/\(yY x kd a l).1.length<=kd.1.length+1/\bP (yY x kd a l).1 (yY x kd a l).2 (kS a l)=aa (aG (Sh x (x.length-a.length) a l)) :=
 ⟨h.put a l,(K0 h.1).2,by unfold yY;rw[ER (ks:=[]) h.1,Z_ rfl]⟩
theorem Dy(h:iW x kd)(hc:kd.1.length<16000000):
  gC 3 (bG (aB 5)) (aB 4) (oQ x a l q kd (.ro (aG (Sh x (x.length-a.length) a l))) v6 v7)=.nx (oQ x a l (adr q) (yY x kd a l) (.ro (aG (Sh x (x.length-a.length) a l))) v6 v7):=by
 have e0:gC 3 (bG (aB 5)) (aB 4) (oQ x a l q kd (.ro (aG (Sh x (x.length-a.length) a l))) v6 v7)=(match ((jT (.tup [tupI a,.int l])).bind λkk=>if kindB kd.1 kk=ae/\kd.2.length<oN then aa ((oQ x a l q kd (.ro (aG (Sh x (x.length-a.length) a l))) v6 v7).set 3 (.ow (.cD (adr q) (d7 kd.1 kd.2 kk (aG (Sh x (x.length-a.length) a l))).1 (d7 kd.1 kd.2 kk (aG (Sh x (x.length-a.length) a l))).2))) else af) with
  |some ρ'=>.nx ρ'
  |none=>.no):=rfl
 rw[e0,K1,cz,Z_ ⟨lR h.2.1 rfl,by rw[<- h.1];unfold oN;omega⟩];rfl
def Rk(h:ρ[5]?=aa (.ow (aG (0::r)))):M5 5 (bG (eC (.int 1))) (eC (.int 0)) ρ=.nx (ρ.set 5 (.ow (aG (1::r)))):=by
 have e:M5 5 (bG (eC (.int 1))) (eC (.int 0)) ρ=(match ((mH ρ[5]?).bind λds=>(G5 ds.length 0).map λj=>ρ.set 5 (.ow (.lst (ds.set j (.int 1))))) with
  |some ρ'=>.nx ρ'
  |none=>.no):=rfl
 rw[e,h]
 show(match ((G5 ((0::r).map D.int).length 0).map λj=>ρ.set 5 (.ow (.lst (((0::r).map D.int).set j (.int 1))))) with
  |some ρ'=>Out.nx ρ'
  |none=>.no)=_
 rw[wD (by decide) (by simp)];rfl
abbrev bS(n:Nat):SF:=(aI (aN 4 (dG (aA (aB 1) (aA (aB 2) aE))))
  (eO (tV (aC (uJ ae) (aB 4) (aB 3)))
   (aI (fG 5 (aC repLM (dC (aA (eC (.int 0)) aE)) (bI vL (aA (bI aW (aA (aB 0) aE)) (aA (eC (.int 1)) aE)))))
   (aI (eO (tV (aC gM (bI aW (aA (aB 1) aE)) (bI aW (aA (aB 0) aE))))
    (M5 5 (bG (eC (.int 1))) (eC (.int 0)))
    cJ)
   (aI (HG 5 (b9 (cC (aH LL.d8 (aA (aB 0) (aA (aB 1) aE)))) (gK 6)
    (aI (rT 7 (bK n) (aA (aB 0) (aA (aH LL.fO (aA (aB 1) (aA (aB 6) aE))) (aA (aB 6) aE))) 3)
    (aN 5 (aH jZ (aA (aB 5) (aA (M0 (tV (aC rN (aB 2) (aB 6))) (aH b7 (aA (aB 7) aE)) (aB 7)) aE)))))))
   (gC 3 (bG (aB 5)) (aB 4)))))
   cJ))
theorem uW(h:iW x kd)
  (there:∀d',bP kd.1 kd.2 (kS a l)=aa d'->d'=d/\yZ=kd)
  (new:bP kd.1 kd.2 (kS a l)=af ->∀q,∃q2 kd2 v5 v6 v7,(∀b o,q2 b o ->∃o2,q b o2)/\bS n (startM 8 [aJ x,tupI a,.int l] q kd)=.nx (oQ x a l q2 kd2 v5 v6 v7)/\iW x kd2/\bP kd2.1 kd2.2 (kS a l)=aa d/\kd2=yZ):
  bK (n+1) [aJ x,tupI a,.int l] kd=.ok (d,yZ):=by
 unfold bK;refine XJ λq=>?_
 have e1:vT 8 4 (bS n) (aB 4) q [aJ x,tupI a,.int l] kd=(match bS n (startM 8 [aJ x,tupI a,.int l] q kd) with
  |.nx ρ=>XI 3 (aB 4) q ρ
  |_=>af):=rfl
 refine e1.trans ?_
 cases hl:bP kd.1 kd.2 (kS a l) with
 |some d' =>
  obtain⟨rfl,rfl⟩:=there d' hl;have e2:bS n (startM 8 [aJ x,tupI a,.int l] q yZ)=.nx (oQ x a l q yZ .no .no .no):=by refine dI (oQ x a l q yZ .no .no .no) (eD (.tup [tupI a,.int l]) rfl rfl) ?_;refine yO ?_ rfl;rw[xf h,hl];rfl
  rw[e2];exact Dz h (λb o ho=>⟨o,ho⟩) hl
 |none =>
  obtain⟨q2,kd2,v5,v6,v7,hq,eb,hM,hl2,rfl⟩:=new hl q;rw[eb];exact Dz hM hq hl2
def Dx(ha:a ρ=aa x)(hb:b ρ=aa y)(hc:c ρ=aa z):aA a (aA b (aA c aE)) ρ=aa [x,y,z]:=by have:=args2 hb hc;unfold aA at this ⊢;rw[ha,this];rfl
abbrev lS(n:Nat):SF:=aI (rT 7 (bK n) (aA (aB 0) (aA (aH LL.fO (aA (aB 1) (aA (aB 6) aE))) (aA (aB 6) aE))) 3)
    (aN 5 (aH jZ (aA (aB 5) (aA (M0 (tV (aC rN (aB 2) (aB 6))) (aH b7 (aA (aB 7) aE)) (aB 7)) aE))))
def fP(x:Q0a)(m:Nat)(a:Q0e)(l:Int)(acc:Q0e)(t:Int):List Int:=jU acc (if t<l then iE (Sh x m (aL a t) t) else Sh x m (aL a t) t)
theorem aBd(ha:a.length<=9)(hx:x.length<=9)(hacc:acc.length=max x.length 1)
  (hR:bK n [aJ x,tupI (aL a t),.int t] kd=.ok (aG (Sh x m (aL a t) t),yZ)):
  lS n (oQ x a l q kd (.ro (aG acc)) (.ro (.int t)) v7)=.nx (oQ x a l (adr q) yZ (.ro (aG (fP x m a l acc t))) (.ro (.int t)) (.ro (aG (Sh x m (aL a t) t)))):=by
 have hS:=gE x m (aL a t) t;refine dI (oQ x a l (adr q) yZ (.ro (aG acc)) (.ro (.int t)) (.ro (aG (Sh x m (aL a t) t)))) ?_ ?_
 .have e:stepM (bK n) (aA (aB 0) (aA (aH LL.fO (aA (aB 1) (aA (aB 6) aE))) (aA (aB 6) aE))) 3 (oQ x a l q kd (.ro (aG acc)) (.ro (.int t)) v7)=aa (q,aG (Sh x m (aL a t) t),yZ):=by
   unfold stepM;have e1:aA (aB 0) (aA (aH LL.fO (aA (aB 1) (aA (aB 6) aE))) (aA (aB 6) aE)) (gJ (oQ x a l q kd (.ro (aG acc)) (.ro (.int t)) v7))=aa [aJ x,tupI (aL a t),.int t]:=by have e2:aH LL.fO (aA (aB 1) (aA (aB 6) aE)) (gJ (oQ x a l q kd (.ro (aG acc)) (.ro (.int t)) v7))=aa (tupI (aL a t)):=cN rfl rfl (NB ha);exact Dx rfl e2 rfl
   rw[e1,cz]
   show(match bK n [aJ x,tupI (aL a t),.int t] kd with
    |.ok r=>aa (q,r)
    |_=>af)=_
   rw[hR]
  unfold rT;rw[e];rfl
 .refine eD (aG (fP x m a l acc t)) ?_ rfl;have e3:M0 (tV (aC rN (aB 2) (aB 6))) (aH b7 (aA (aB 7) aE)) (aB 7) (gJ (oQ x a l (adr q) yZ (.ro (aG acc)) (.ro (.int t)) (.ro (aG (Sh x m (aL a t) t)))))=aa (aG (if t<l then iE (Sh x m (aL a t) t) else Sh x m (aL a t) t)):=by
   have et:tV (aC rN (aB 2) (aB 6)) (gJ (oQ x a l (adr q) yZ (.ro (aG acc)) (.ro (.int t)) (.ro (aG (Sh x m (aL a t) t)))))=aa (Zv (t<l)):=rfl;unfold M0;rw[et,cz];by_cases h:t<l
   .rw [Zx h,Z_ rfl,Z_ h];exact kF rfl (XW (by omega) (by omega))
   .rw [Zy h,Zz (by decide),Zz h];rfl
  exact cN rfl e3 (RL (by omega))
theorem RM(ha:a.length<=9)(hx:x.length<=9):∀(ts:Q0e) (acc:Q0e) (kd:KD),acc.length=max x.length 1->iW x kd ->
  (∀t∈ts,∀kd,iW x kd->kd.1.length+most m<=10000000 ->∃yZ,bK n [aJ x,tupI (aL a t),.int t] kd=.ok (aG (Sh x m (aL a t) t),yZ)/\iW x yZ/\yZ.1.length<=kd.1.length+most m) ->
  kd.1.length+ts.length*most m<=10000000 ->
  ∃kd2,iW x kd2/\kd2.1.length<=kd.1.length+ts.length*most m /\∀(q0 q:Nat->aw->Prop) (v6 v7:Sv),(∀b o,q b o ->∃o2,q0 b o2) ->∃(q2:Nat->aw->Prop) (w6 w7:Sv),(∀b o,q2 b o ->∃o2,q0 b o2) /\
   eT (gK 6) (lS n) (ts.map D.int) (oQ x a l q kd (.ro (aG acc)) v6 v7)=.nx (oQ x a l q2 kd2 (.ro (aG (ts.foldl (fP x m a l) acc))) w6 w7)
 |[],acc,kd,hacc,hM,_,_=>⟨kd,hM,by simp,λq0 q v6 v7 hq=>⟨q,v6,v7,hq,rfl⟩⟩
 |t::ts,acc,kd,hacc,hM,hR,hc=>by
  rw[bx,yz] at hc;obtain⟨kd1,e1,sh,hc1⟩:=hR t b_ kd hM (by omega);have hS:=gE x m (aL a t) t;have Xu:(fP x m a l acc t).length=max x.length 1:=by
   unfold fP;rw[gD]
   .exact hacc
   .rw [hacc];split
    .rw [iQ (by omega)];exact hS.symm
    .exact hS.symm
  obtain⟨kd2,Ae,hc2,go⟩:=RM ha hx ts (fP x m a l acc t) kd1 Xu sh (λu hu=>hR u (dg _ hu)) (by omega);refine⟨kd2,Ae,by rw[bx,yz];omega,λq0 q v6 v7 hq=>?_⟩;obtain⟨q2,w6,w7,hq2,e2⟩:=go q0 (adr q) (.ro (.int t)) (.ro (aG (Sh x m (aL a t) t))) λb o ⟨o1,h1⟩=>hq b o1 h1;refine⟨q2,w6,w7,hq2,?_⟩;rw[ba,jk]
  have e3:eT (gK 6) (lS n) (D.int t::ts.map D.int) (oQ x a l q kd (.ro (aG acc)) v6 v7)=(match lS n (oQ x a l q kd (.ro (aG acc)) (.ro (.int t)) v7) with
   |.nx ρ2=>eT (gK 6) (lS n) (ts.map D.int) ρ2
   |o=>o):=rfl
  rw[e3,aBd ha hx hacc e1];exact e2
theorem XX(hx:x.length<=9)(hr:∀r∈x,r.length<=9):∀(m e:Nat) (a:Q0e) (l:Int) (kd:KD),RJ x a->a.length+m=x.length->iW x kd->kd.1.length+most m<=10000000 ->
  ∃yZ,bK (m+1+e) [aJ x,tupI a,.int l] kd=.ok (aG (Sh x m a l),yZ)/\iW x yZ/\yZ.1.length<=kd.1.length+most m/\bP yZ.1 yZ.2 (kS a l)=aa (aG (Sh x m a l)):=by
 intro m
 induction m with
 |zero =>
  intro e a l kd ok hl hM hc;have hl:a.length=x.length:=hl;have m0:most 0=1:=rfl;have e0:x.length-a.length=0:=by omega
  rw[show 0+1+e=e+1 by omega]
  cases hk:bP kd.1 kd.2 (kS a l) with
  |some d =>
   have ed:=hM.2.2 a l d hk;rw[e0] at ed;subst ed;exact⟨kd,uW hM (λd' h'=>by rw[hk] at h';exact⟨(df h').symm,rfl⟩) (λh'=>by rw[hk] at h';cases h'),hM,by omega,hk⟩
  |none =>
   obtain⟨p1,p2,p3⟩:=K3 (a:=a) (l:=l) hM;rw[e0] at p3;refine⟨yY x kd a l,uW hM (λd' h'=>by rw[hk] at h';cases h') λ_ q=>⟨adr q,yY x kd a l,.ro (aG (Sh x 0 a l)),.no,.no,λb o h=>h,?_,p1,p3,rfl⟩,p1,by omega,p3⟩
   .refine dI (oQ x a l q kd .no .no .no) (eD (.tup [tupI a,.int l]) rfl rfl) (M9 ?_ ?_)
    .rw [xf hM,hk];rfl
    .have ez:tY x.length=0::dm (max x.length 1-1) 0:=by unfold tY;rw[<- jg];congr 1;omega
     refine dI (oQ x a l q kd (.ow (aG (tY x.length))) .no .no) (by unfold fG;rw[K2 hx rfl];rfl) ?_;refine dI (oQ x a l q kd (.ow (aG (sI x.length))) .no .no) (M9 ((ET rfl rfl).trans (by rw[Zx hl])) ?_) ?_
     .rw [ez];exact Rk rfl
     refine dI (oQ x a l q kd (.ro (aG (sI x.length))) .no .no) ?_ ?_
     .show b9 _ _ _ (oQ x a l q kd (.ro (aG (sI x.length))) .no .no)=_;refine HI [] ?_ rfl;unfold cC;rw[cN (x:=aJ x) (y:=tupI a) rfl rfl (EO hx hr),HN ok hl];rfl
     .have:=Dy (x:=x) (a:=a) (l:=l) (q:=q) (kd:=kd) (v6:=.no) (v7:=.no) hM (by omega);rw[e0] at this;exact this
 |succ m ih =>
  intro e a l kd ok hl hM hc;have mm:most (m+1)=1+(m+1)*most m:=rfl;have e0:x.length-a.length=m+1:=by omega
  have hfew:=i7 ok;have ha:=XU ok;rw[show m+1+1+e=(m+1+e)+1 by omega]
  cases hk:bP kd.1 kd.2 (kS a l) with
  |some d =>
   have ed:=hM.2.2 a l d hk;rw[e0] at ed;subst ed;exact⟨kd,uW hM (λd' h'=>by rw[hk] at h';exact⟨(df h').symm,rfl⟩) (λh'=>by rw[hk] at h';cases h'),hM,by omega,hk⟩
  |none =>
   have hlen:(aP x a).length*most m<=(m+1)*most m:=Gf _ (by omega);obtain⟨kd1,sh,hc1,go⟩:=RM (n:=m+1+e) (m:=m) (l:=l) (by omega:a.length<=9) hx (aP x a) (tY x.length) kd (iF _) hM (λt ht kd hM' hc'=>(ih e (aL a t) t kd ((D_ ok).1 _ (qz ht)).1 (by have:=((D_ ok).1 _ (qz ht)).2;omega) hM' hc').imp λ_ h=>⟨h.1,h.2.1,h.2.2.1⟩) (by omega);obtain⟨p1,p2,p3⟩:=K3 (a:=a) (l:=l) sh;rw[e0] at p3;refine⟨yY x kd1 a l,uW hM (λd' h'=>by rw[hk] at h';cases h') λ_ q=>?_,p1,by omega,p3⟩;obtain⟨q2,w6,w7,hq2,el⟩:=go q q .no .no λb o h=>⟨o,h⟩;refine⟨adr q2,yY x kd1 a l,.ro (aG (Sh x (m+1) a l)),w6,w7,λb o ⟨o1,h1⟩=>hq2 b o1 h1,?_,p1,p3,rfl⟩;refine dI (oQ x a l q kd .no .no .no) (eD (.tup [tupI a,.int l]) rfl rfl) (M9 ?_ ?_)
   .rw [xf hM,hk];rfl
   .refine dI (oQ x a l q kd (.ow (aG (tY x.length))) .no .no) (by unfold fG;rw[K2 hx rfl];rfl) ?_;refine dI (oQ x a l q kd (.ow (aG (tY x.length))) .no .no) (yO ((ET rfl rfl).trans (by rw[Zy (by omega)])) rfl) ?_;refine dI (oQ x a l q2 kd1 (.ro (aG (Sh x (m+1) a l))) w6 w7) ?_ ?_
    .show b9 _ _ _ (oQ x a l q kd (.ro (aG (tY x.length))) .no .no)=_;refine HI ((aP x a).map D.int) ?_ el;unfold cC;rw[cN (x:=aJ x) (y:=tupI a) rfl rfl (EO hx hr)];rfl
    .have:=Dy (x:=x) (a:=a) (l:=l) (q:=q2) (kd:=kd1) (v6:=w6) (v7:=w7) sh (by omega);rw[e0] at this;exact this
def aBe:∀{n:Nat},n<=9->most n<=1000000:=by
 intro n h;have:∀n,n<=9->most n<=1000000:=by decide
 exact this n h
def shares(x:Q0a):List Int:=Sh x x.length [] 0
def NF(hx:x.length<=9)(hr:∀r∈x,r.length<=9):bQ [aJ x]=.ok (tupI (shares x)):=by
 obtain⟨kd,e,hM,hc,hl⟩:=XX hx hr x.length (10-x.length) [] 0 ([],[]) KU (by simp) ⟨rfl,λq hq=>(by cases hq),λa l d h=>(by simp[bP] at h)⟩ (by have:=aBe hx;simp;omega);rw[show x.length+1+(10-x.length)=11 by omega] at e;have e1:iP [aJ x]=.ok (.cD (adr iL) kd.1 kd.2):=by
  unfold iP;refine gO rfl (dI [.ro (aJ x),.ow (.cD iL [] [])] rfl (dI [.ro (aJ x),.ow (.cD (adr iL) kd.1 kd.2)] ?_ (iA rfl)));have e2:stepM (bK 11) (aA (aB 0) (aA (dG aE) (aA (eC (.int 0)) aE))) 1 [.ro (aJ x),.ow (.cD iL [] [])]=aa (iL,aG (Sh x x.length [] 0),kd):=by
   unfold stepM;rw[Dx (x:=aJ x) (y:=tupI []) (z:=.int 0) rfl rfl rfl,cz]
   show(match bK 11 [aJ x,tupI [],.int 0] ([],[]) with
    |.ok r=>aa (iL,r)
    |_=>af)=_
   rw[e]
  unfold XM;rw[e2];rfl
 unfold bQ;refine gO rfl (iA (c8 (x:=aG (shares x)) (aK (x:=.cD (adr iL) kd.1 kd.2) (y:=.tup [tupI [],.int 0]) (kF rfl e1) rfl ?_) rfl));show((jT (.tup [tupI [],.int 0])).bind λk=>if kindB kd.1 k=ae then bP kd.1 kd.2 k else af)=_;rw[K1,cz,Z_ (lR hM.2.1 rfl)];exact hl
open K24
theorem RN(hx:Bg 210 x):∀m:Nat,m<=1000->Bg (211*m+1) (ff x m)
 |0,_=>by unfold Bg ff;decide
 |m+1,h=>by
  have h1:=RN hx m (by omega);have h2:Bg 211 (x-m):=by
   have:Bg 210 (m:Int):=by
    unfold Bg;have:(m:Int).natAbs<2^10:=by omega
    exact fz this (mz (by decide) (by decide))
   exact hx.sub this
  exact(h1.mul h2).mono (by omega)
def Xt(hx:Bg 210 x)(hm:m<=1000):Bg (211*m+1) (C x m):=by
 have h:=RN hx m hm;have e:=z5 x m;unfold Bg at h ⊢;rw[<- e,a2I] at h;have:1<=(fact m).natAbs:=by have:=qC m;omega
 exact a13 (Nat.le_mul_of_pos_right _ this) h
def aBf(x:Int)(i:Nat):C x i*(x-i)/((i:Int)+1)=C x (i+1):=by
 have h1:=z5 x i;have h2:=z5 x (i+1);have e:C x i*(x-i)=C x (i+1)*((i:Int)+1):=by
  refine a2L (a2H (qC i)) ?_;rw[show fact (i+1)=fact i*(i+1) from rfl,show ff x (i+1)=ff x i*(x-i) from rfl,<- h1] at h2
  calc C x i*(x - ↑i)*fact i=C x i*fact i*(x - ↑i):=by rw[Int.mul_right_comm]
   _=C x (i+1)*(fact i*(↑i+1)):=h2.symm
   _=C x (i+1)*(↑i+1)*fact i:=by rw[rj (fact i),zo]
 rw[e,Int.mul_ediv_cancel _ (by omega)]
def z7{x:Int}{m:Nat}(hx:Bg 210 x)(hm:m<=12):jL [.int x,.int m]=.ok (.int (C x m)):=by
 unfold jL;have h:Rt (aI (aN 2 (eC (.int 1))) (aI (b9 (aR (aA (aB 1) aE)) (gK 3) (aN 2 (aC kT (aC mulM (aB 2) (aC dS (aB 0) (aB 3))) (aC bA (aB 3) (eC (.int 1)))))) (bB (aB 2))) (c6 4 [.int x,.int m])) λd=>d=.int (C x m):=by
  refine bN [.ro (.int x),.ro (.int m),.ro (.int 1),.no] rfl ?_;refine f7 (λρ=>∃v,ρ=[.ro (.int x),.ro (.int m),.ro (.int (C x m)),v]) ?_ λρ ⟨v,e⟩=>by subst e;exact jJ _ rfl rfl
  refine iC m (λi ρ=>∃v,ρ=[.ro (.int x),.ro (.int m),.ro (.int (C x i)),v]) rfl (by omega) ⟨_,rfl⟩ (λi ρ hi ⟨v,e⟩=>?_) λρ h=>h;subst e;refine⟨_,rfl,lN (.int (C x (i+1))) (aK (x:=.int (C x i*(x-i))) (y:=.int ((i:Int)+1)) (aK (x:=.int (C x i)) (y:=.int (x-i)) rfl rfl (XS (p:=211*i+1) (q:=211) (by omega) (by omega) (Xt hx (by omega)) ?_)) rfl ?_) ⟨_,rfl⟩⟩
  .have:Bg 210 (i:Int):=by
    unfold Bg;have:(i:Int).natAbs<2^10:=by omega
    exact fz this (mz (by decide) (by decide))
   exact hx.sub this
  .rw [iM (by omega) (by omega),aBf]
 obtain⟨d,e,rfl⟩:=kE rfl h;exact e
def dvL(n:Nat)(k:Int)(w:Q0e)(d:Nat):List Int:=(w.zipIdx d).map λp=>p.1*C (k+n-1-p.2) n
theorem B8(n:Nat)(k:Int):∀(w:Q0e) (d:Nat),(dvL n k w d).sum=DV n d w k
 |[],d=>rfl
 |a::w,d=>by have ih:=B8 n k w (d+1);show a*C (k+n-1-d) n+(dvL n k w (d+1)).sum=a*C (k+n-1-d) n+DV n ((d:Int)+1) w k;rw[ih];rfl
def RO{k:Int}(hk:Bg 208 k){a b:Nat}(ha:a<=1000)(hb:b<=1000):Bg 210 (k+a-1-b):=by
 unfold Bg at hk ⊢;have:(2:Nat)^210=4*2^208:=by rw[show 210=2+208 from rfl,a1Y]
 have h2:2000<2^208:=fz (by decide:2000<2^11) (mz (by decide) (by decide));rw[this];generalize 2^208=z at *;omega
def EU{w:Q0e}{n:Nat}{k:Int}(hw:w.length<=20)(hs:∀y∈w,y.natAbs<18446744073709551616)(hn:n<=12)(hk:Bg 208 k):cR [tupI w,.int n,.int k]=.ok (.int (DV n 0 w k)):=by
 unfold cR;have e:=B8 n k w 0;rw[show((0:Nat):Int)=0 from rfl] at e;rw[<- e];refine gO rfl (iA (c8 (x:=aG (dvL n k w 0)) ?_ sum_ints));refine iN ((w.zipIdx).map λp=>D.tup [.int (p.2:Int),.int p.1]) ?_ (by simp;omega) ?_
 .unfold pZ;rw[args1 (x:=tupI w) rfl];show aa (((w.map D.int).zipIdx).map _)=_;rw[zipIdx_map,dq];rfl
 .unfold dvL;rw[dq];refine iB (λp:Int×Nat=>D.tup [.int (p.2:Int),.int p.1]) (λp=>.int (p.1*C (k+n-1-p.2) n)) w.zipIdx λp hp=>⟨[aa (.int p.2),aa (.int p.1),aa (.int n),aa (.int k)],rfl,?_⟩;have hm:=List.mem_zipIdx hp;have h1:p.1∈w:=by have:=hm.2.2;rw[this];exact ni _
  exact aK (x:=.int p.1) (y:=.int (C (k+n-1-p.2) n)) rfl (cN (x:=.int (k+n-1-p.2)) (y:=.int n) rfl rfl (z7 (RO hk (by omega) (by omega)) hn)) (mN (hs _ h1))
theorem NG(h1:f (gJ ρ)=aa d)(h2:ρ[i]?=aa (.ow (.lst ds)))(hl:ds.length<16777216):sX (kR i eQ (bG f)) ρ=.nx (ρ.set i (.ow (.lst (ds++[d])))):=by
 have e:kR i eQ (bG f) ρ=aa (ρ.set i (.ow (.lst (ds++[d]))),.non):=by unfold kR bG;rw[h2,h1];show((mH ρ[i]?).bind λds=>(eQ ds d).map _)=_;rw[h2];show((eQ ds d).map _)=_;rw[nU hl];rfl
 unfold sX;rw[e]
noncomputable def ev(k:Int):List Int->Int
 |[]=>0
 |a::l=>a+k*ev k l
def aBg(s:Int)(l:Q0e):List Int:=((l++[0]).zip (0::l)).map λp:Int×Int=>s*p.1+p.2
noncomputable def Dw(s t:Int):Nat->List Int
 |0=>[s]
 |n+1=>aBg (t-n) (Dw s t n)
def Dv(n:Nat):List Int->Nat->List Int->List Int
 |[],_,acc=>acc
 |s::w,d,acc=>Dv n w (d+1) (jU acc (Dw s ((n:Int)-1-d) n))
def RP(x:Q0a)(a:Q0e):(aP x a).length<=x.length:=by unfold aP;have h1:=j_ (λt=>(row x t).all λl=>a.contains l) ((aY 0 x.length).filter λt=>!a.contains t);have h2:=j_ (λt=>!a.contains t) (aY 0 x.length);rw[aO] at h2;omega
theorem RQ(hx:x.length<=9):∀(m:Nat) (a:Q0e) (l:Int),∀y∈Sh x m a l,0<=y/\y<=9^m
 |0,a,l,y,hy=>by
  unfold Sh sI at hy;rcases bu.1 hy with e|e
  .subst e;decide
  .rw [a2w e];decide
 |m+1,a,l,y,hy=>by
  have ih:=RQ hx m;have go:∀(ts:Q0e) (acc:Q0e) (c:Int),0<=c->(∀y∈acc,0<=y/\y<=c*9^m) ->∀y∈ts.foldl (λacc t=>jU acc (if t<l then iE (Sh x m (aL a t) t) else Sh x m (aL a t) t)) acc,0<=y/\y<=(c+ts.length)*9^m:=by
   intro ts
   induction ts with
   |nil=>intro acc c hc h;simpa using h
   |cons t ts iht =>
    intro acc c hc h;rw[jk];have:=iht (jU acc (if t<l then iE (Sh x m (aL a t) t) else Sh x m (aL a t) t)) (c+1) (by omega) ?_
    .rw [bx];rw[show c+((ts.length+1:Nat):Int)=c+1+ts.length by omega];exact this
    .intro y hy;unfold jU at hy;obtain⟨p,hp,rfl⟩:=gj.1 hy;obtain⟨m1,m2⟩:=qx hp;have g1:=h _ m1;have g2:0<=p.2/\p.2<=9^m:=by
      split at m2
      .unfold iE at m2;rcases bu.1 m2 with e|e
       .rw [e];exact⟨by decide,a2J (a2G (by decide))⟩
       .exact ih _ _ _ (List.dropLast_subset _ e)
      .exact ih _ _ _ m2
     rw[u_,Hf];omega
  unfold Sh at hy;have:=go (aP x a) (tY x.length) 0 (by decide) (λy hy=>by rw[a2w hy];simp) y hy
  refine⟨this.1,zp this.2 ?_⟩;rw[il,Int.pow_succ,rj];have h1:=RP x a;exact Int.mul_le_mul_of_nonneg_left (by omega) (a2J (a2G (by decide)))
def HP(hx:x.length<=9):∀y∈shares x,0<=y/\y<=387420489:=λy hy=>by
 have h:=RQ hx x.length [] 0 y hy;refine⟨h.1,zp h.2 ?_⟩;have:∀n,n<=9->(9:Int)^n<=387420489:=by decide
 exact this _ hx
def oR(x:Q0a):(shares x).length=max x.length 1:=gE x _ _ _
def qF(hx:x.length<=9)(hr:∀r∈x,r.length<=9)(hk:Bg 208 k):f9 [aJ x,.int k]=.ok (.int (DV x.length 0 (shares x) k)):=by unfold f9;refine gO rfl (iA (fL (kF rfl (NF hx hr)) (c8 rfl eJ) rfl (EU (by rw[oR];omega) (λy hy=>?_) (by omega) hk)));have:=HP hx y hy;omega
def aBh(x:Q0a):List Int:=fd (vals (DV x.length 0 (shares x)) (x.length+1) 0)
theorem RR{a b:Q0e}{j:Nat}{y z:Int}(h1:a[j]?=aa y)(h2:b[j]?=aa z):(jU a b)[j]?=aa (y+z):=by unfold jU;rw[cg,uu (z:=(y,z)) |>.2 ⟨h1,h2⟩];rfl
section
variable(x:Q0a)
def Nj(f:List Int->Int->Nat->Int):Nat->List Int->Int->Int
 |0,_,_=>0
 |j+1,a,l=>Nj f j a (-1)+(((aP x a).filter λt=>Zv (l<t)).map λt=>f (aL a t) t (j+1)).sum
def Nn:Nat->List Int->Int->Nat->Int
 |0,_,_,_=>1
 |m+1,a,l,j=>Nj x (Nn m) j a l
end
def Zr(w:Q0e)(m:Nat):Prop:=∀(d:Nat) (y:Int),w[d]?=aa y->m<d->y=0
def Zr.mono(h:Zr w m)(hk:m<=k):Zr w k:=λd y e hd=>h d y e (by omega)
def Zr.add{a b:Q0e}{m:Nat}(ha:Zr a m)(hb:Zr b m):Zr (jU a b) m:=λd y e hd=>by unfold jU at e;rw[cg] at e;obtain⟨p,ep,rfl⟩:=mx.1 e;obtain⟨e1,e2⟩:=uu.1 ep;rw[ha d _ e1 hd,hb d _ e2 hd];rfl
theorem Zr.shl(h:Zr w m):Zr (iE w) (m+1):=λd y e hd=>by
 cases d with
 |zero=>omega
 |succ d =>
  have e:w.dropLast[d]?=aa y:=e;rw[a2o] at e;split at e
  .exact h d y e (by omega)
  .cases e
def Zr.tY(n m:Nat):Zr (tY n) m:=λd y e _=>by
 unfold LL.tY at e;rw[kb] at e;split at e
 .cases e;rfl
 .cases e
theorem Zr.fold(h:∀t,Zr (if t<l then iE (Sh x m (aL a t) t) else Sh x m (aL a t) t) k):∀(ts acc:Q0e),Zr acc k->Zr (ts.foldl (fP x m a l) acc) k
 |[],acc,hz=>hz
 |t::ts,acc,hz=>Zr.fold h ts _ (hz.add (h t))
def j3(x:Q0a)(m:Nat)(a:Q0e)(l:Int):Sh x (m+1) a l=(aP x a).foldl (fP x m a l) (tY x.length):=rfl
theorem EV(x:Q0a):∀(m:Nat) (a:Q0e) (l:Int),Zr (Sh x m a l) m
 |0,a,l=>λd y e hd=>by
  cases d with
  |zero=>omega
  |succ d =>
   have e:(dm (max x.length 1-1) (0:Int))[d]?=aa y:=e;rw[kb] at e;split at e
   .cases e;rfl
   .cases e
 |m+1,a,l=>by
  rw[j3];refine Zr.fold (λt=>?_) _ _ (Zr.tY _ _);split
  .exact (EV x m _ _).shl
  .exact (EV x m _ _).mono (by omega)
def k7{x:Q0a}{a:Q0e}{t:Int}(h:t∈aP x a):0<=t:=(eX h).1.1
theorem fold_congr{α β:Type}{f g:β->α->β}:∀(l:List α) (b:β),(∀b,∀t∈l,f b t=g b t)->l.foldl f b=l.foldl g b
 |[],b,_=>rfl
 |t::l,b,h=>by rw[jk,jk,h b t b_];exact fold_congr l _ λb u hu=>h b u (dg _ hu)
theorem B9(x:Q0a)(m:Nat)(a:Q0e){l l':Int}(h:l<=0)(h':l'<=0):Sh x m a l=Sh x m a l':=by
 cases m with
 |zero=>rfl
 |succ m =>
  rw[j3,j3];refine fold_congr _ _ λacc t ht=>?_;have:=k7 ht;unfold fP;rw[Zz (by omega),Zz (by omega)]
def aBi(x:Q0a)(m:Nat)(a:Q0e):Zr (Sh x (m+1) a (-1)) m:=by
 rw[j3];have e:(aP x a).foldl (fP x m a (-1)) (tY x.length)=(aP x a).foldl (λacc t=>jU acc (Sh x m (aL a t) t)) (tY x.length):=fold_congr _ _ λacc t ht=>by have:=k7 ht;unfold fP;rw[Zz (by omega)]
 rw[e];have go:∀(ts acc:Q0e),Zr acc m->Zr (ts.foldl (λacc t=>jU acc (Sh x m (aL a t) t)) acc) m:=by
  intro ts
  induction ts with
  |nil=>intro acc h;exact h
  |cons t ts ih=>intro acc h;exact ih _ (h.add (EV x m _ _))
 exact go _ _ (Zr.tY _ _)
theorem RS:∀{a b:Q0e} {d:Int},a.length=b.length->DV n d (jU a b) k=DV n d a k+DV n d b k
 |[],[],d,_=>rfl
 |[],_::_,d,h=>by simp at h
 |_::_,[],d,h=>by simp at h
 |y::a,z::b,d,h=>by have ih:=RS (n:=n) (k:=k) (a:=a) (b:=b) (d:=d+1) (by simpa using h);show(y+z)*C (k+n-1-d) n+DV n (d+1) (jU a b) k=y*C (k+n-1-d) n+DV n (d+1) a k+(z*C (k+n-1-d) n+DV n (d+1) b k);rw[ih,u_];omega
theorem CA:∀(m:Nat) (d:Int),DV n d (dm m 0) k=0
 |0,d=>rfl
 |m+1,d=>by rw[jg];show 0*_+DV n (d+1) (dm m 0) k=0;rw[CA m (d+1),qc];rfl
theorem Du:∀(w:Q0e) (d:Int),DV (m+1) d w (j+1)=DV (m+1) d w j+DV m d w (j+1)
 |[],d=>rfl
 |y::w,d=>by have ih:=Du (m:=m) (j:=j) w (d+1);show y*C (j+1+((m+1:Nat):Int)-1-d) (m+1)+DV (m+1) (d+1) w (j+1)=y*C (j+((m+1:Nat):Int)-1-d) (m+1)+DV (m+1) (d+1) w j+(y*C (j+1+(m:Int)-1-d) m+DV m (d+1) w (j+1));rw[ih,show j+1+((m+1:Nat):Int)-1-d=(j+m-d)+1 by omega,aB8,show j+((m+1:Nat):Int)-1-d=j+m-d by omega,show j+1+(m:Int)-1-d=j+m-d by omega,Hh];omega
theorem K4:∀(w:Q0e) (d:Int),DV n (d+1) w (k+1)=DV n d w k
 |[],d=>rfl
 |y::w,d=>by have ih:=K4 (n:=n) (k:=k) w (d+1);show y*C (k+1+n-1-(d+1)) n+DV n (d+1+1) w (k+1)=y*C (k+n-1-d) n+DV n (d+1) w k;rw[ih,show k+1+n-1-(d+1)=k+n-1-d by omega]
def aBj(h:w.getLast?=aa 0):DV n 0 (iE w) (k+1)=DV n 0 w k:=by
 show 0*_+DV n (0+1) w.dropLast (k+1)=_;rw[K4,qc,il];have e:w=w.dropLast++[0]:=by obtain⟨l,hl⟩:=a2l.1 h;rw[hl];simp
 conv=>rhs;rw[e]
 rw[z6];show _=_+(0*_+0);rw[qc];omega
theorem Bu:∀(w:Q0e) (d:Nat),(∀(i:Nat) (y:Int),w[i]?=aa y->m<d+i->y=0)->DV (m+1) d w 0=0
 |[],d,_=>rfl
 |y::w,d,h=>by
  have ih:=Bu (m:=m) w (d+1) λi z e hi=>h (i+1) z (by simpa using e) (by omega);show y*C (0+((m+1:Nat):Int)-1-d) (m+1)+DV (m+1) ((d:Int)+1) w 0=0;rw[show((d:Int)+1)=((d+1:Nat):Int) from rfl,ih,ma];by_cases hd:m<d
  .rw [h 0 y rfl (by omega),qc]
  .rw [aB9 (by omega) (by omega),zm]
theorem CB:∀(ts acc:Q0e),acc.length=max x.length 1->DV n 0 (ts.foldl (fP x m a l) acc) k=DV n 0 acc k+(ts.map λt=>DV n 0 (if t<l then iE (Sh x m (aL a t) t) else Sh x m (aL a t) t) k).sum
 |[],acc,_=>by simp
 |t::ts,acc,h=>by
  have hS:=gE x m (aL a t) t;have hl:acc.length=(if t<l then iE (Sh x m (aL a t) t) else Sh x m (aL a t) t).length:=by
   rw[h];split
   .rw [iQ (by omega)];exact hS.symm
   .exact hS.symm
  have ih:=CB (x:=x) (n:=n) (m:=m) (a:=a) (l:=l) (k:=k) ts (fP x m a l acc t) (by unfold fP;rw[gD hl,h]);rw[jk,ih,ba,dh];unfold fP;rw[RS hl];omega
theorem K5{α:Type}{f g h:α->Int}{p:α->Bool}:∀l:List α,(∀t∈l,f t=g t+if p t=ae then h t else 0)->(l.map f).sum=(l.map g).sum+((l.filter p).map h).sum
 |[],_=>rfl
 |t::l,e=>by
  have ih:=K5 l λu hu=>e u (dg _ hu);have e0:=e t b_;rw[ba,dh,ba,dh,ih,e0,ny]
  cases p t with
  |true=>simp;omega
  |false=>simp;omega
def eU:u∈aL a t↔u∈a\/u=t:=by unfold aL;rw[(sortI_perm (a++[t])).mem_iff];simp
def qG(a:Q0e)(t:Int):(aL a t).length=a.length+1:=by unfold aL;rw[(sortI_perm (a++[t])).length_eq];simp
def aBk{x:Q0a}{j:Int}:DV 0 0 (sI x.length) j=1:=by unfold sI;show 1*C _ 0+DV 0 (0+1) (dm _ 0) j=1;rw[CA,aB7];rfl
theorem CC{x:Q0a}:∀(m j:Nat) (a:Q0e) (l:Int),a.length+m=x.length->(l=-1\/l∈a)->(1<=j\/l=-1)->Nn x m a l j=DV m 0 (Sh x m a l) j
 |0,j,a,l,_,_,_=>aBk.symm
 |m+1,0,a,l,hl,hm,hj=>by
  have:l=-1:=by omega
  subst this;show 0=_;exact(Bu (m:=m) (Sh x (m+1) a (-1)) 0 λi y e hi=>aBi x m a i y e (by omega)).symm
 |m+1,j+1,a,l,hl,hm,hj=>by
  have ihj:=CC (x:=x) (m+1) j a (-1) hl (.inl rfl) (.inr rfl);have ihm:∀t,Nn x m (aL a t) t (j+1)=DV m 0 (Sh x m (aL a t) t) ((j:Int)+1):=λt=>CC (x:=x) m (j+1) (aL a t) t (by rw[qG];omega) (.inr (eU.2 (.inr rfl))) (.inl (by omega));show Nj x (Nn x m) j a (-1)+(((aP x a).filter λt=>Zv (l<t)).map λt=>Nn x m (aL a t) t (j+1)).sum=_;have e1:Nj x (Nn x m) j a (-1)=Nn x (m+1) a (-1) j:=rfl;rw[e1,ihj,j3,j3,CB _ _ (iF _),CB _ _ (iF _)];unfold tY;rw[CA,CA,il,il];have key:∀t∈aP x a,DV (m+1) 0 (if t<l then iE (Sh x m (aL a t) t) else Sh x m (aL a t) t) (((j+1:Nat):Int))=DV (m+1) 0 (if t < -1 then iE (Sh x m (aL a t) t) else Sh x m (aL a t) t) j+if Zv (l<t)=ae then Nn x m (aL a t) t (j+1) else 0:=λt ht=>by
   have t0:=k7 ht;have tn:=(eX ht).2;rw[Zz (show ¬ t < -1 by omega),ihm,show(((j+1:Nat):Int))=(j:Int)+1 from rfl];by_cases h:t<l
   .rw [Z_ h,Zz (by simp;omega),ma];refine aBj ?_;have la:l∈a:=hm.resolve_left (by omega)
    have a1:1<=a.length:=by cases a with
     |nil=>cases la
     |cons _ _=>simp
    have hS:=gE x m (aL a t) t;have hz:=EV x m (aL a t) t;rw[a2m,hS];have hlt:max x.length 1-1<(Sh x m (aL a t) t).length:=by omega
    rw[getElem?_eq_getElem hlt];congr 1;exact hz _ _ (getElem?_eq_getElem hlt) (by omega)
   .have ne:t≠l:=λz=>by
     rcases hm with q|q
     .omega
     .exact tn (z▸q)
    rw[Zz h,Z_ (by simp;omega)];exact Du _ _
  rw[K5 (f:=λt=>DV (m+1) 0 (if t<l then iE (Sh x m (aL a t) t) else Sh x m (aL a t) t) (((j+1:Nat):Int))) (g:=λt=>DV (m+1) 0 (if t < -1 then iE (Sh x m (aL a t) t) else Sh x m (aL a t) t) j) (h:=λt=>Nn x m (aL a t) t (j+1)) (p:=λt=>Zv (l<t)) _ key]
def NH(x:Q0a)(k:Nat):Nn x x.length [] (-1) k=DV x.length 0 (shares x) k:=by rw[CC x.length k [] (-1) (by simp) (.inl rfl) (.inr rfl)];unfold shares;rw[B9 x x.length [] (l:=-1) (l':=0) (by decide) (by decide)]
theorem HQ:∀a b:Nat,a+b=(a ||| b)+(a &&& b):=by
 intro a
 induction a using uj with
 |ind a ih =>
  intro b;by_cases h:a=0
  .subst h;simp
  .have e:=ih (a/2) (by omega) (b/2);have d1:(a ||| b)/2=(a/2 ||| b/2):=a10 ..;have d3:(a &&& b)/2=(a/2 &&& b/2):=a17 ..;have m1:(a ||| b)%2=(a%2 ||| b%2):=a1Z (n:=1);have m3:(a &&& b)%2=(a%2 &&& b%2):=a16 (n:=1);have c:a%2+b%2=(a%2 ||| b%2)+(a%2 &&& b%2):=by rcases y_ a with p|p<;>rcases y_ b with q|q<;>rw[p,q]<;>decide
   omega
def XY(h:S.testBit b=ag):2^b+S=(2^b ||| S):=by
 have e:(2^b &&& S)=0:=by
  apply zb;intro i;rw[uh,Gd,Ga];by_cases hi:b=i
  .subst hi;simp[h]
  .simp [hi]
 rw[HQ,e,zd]
def kH(S b i:Nat):(S ||| 2^b).testBit i=(S.testBit i||Zv (b=i)):=by rw[a1U,Gd]
def uX{M S:Nat}:(M &&& S=M) ↔ ∀i,M.testBit i=ae->S.testBit i=ae:=by
 constructor
 .intro h i hi;have:=congrArg (λz=>z.testBit i) h;simp only[uh,hi,oh] at this;exact this
 .intro h;apply zb;intro i;rw[uh]
  cases e:M.testBit i with
  |false=>rfl
  |true=>rw[h i e];rfl
theorem Ds(h:S<2^n)(hb:b<n):(S ||| 2^b)<2^n:=Nat.or_lt_two_pow h (Nat.pow_lt_pow_right (by decide) hb)
noncomputable def NI:List Int->Nat
 |[]=>0
 |a::r=>2^a.toNat ||| NI r
theorem CD:∀{r:Q0e},(∀a∈r,0<=a)->((NI r).testBit i=ae↔(i:Int)∈r)
 |[],_=>by simp[NI]
 |a::r,h=>by
  have ih:=CD (i:=i) (r:=r) λb hb=>h b (dg _ hb);have h0:=h a b_;rw[NI,a1U,Gd,Hk,ih,bu,decide_eq_true_eq]
  constructor
  .rintro (e|e)
   .exact .inl (by omega)
   .exact .inr e
  .rintro (e|e)
   .exact .inl (by omega)
   .exact .inr e
theorem K6:∀{r:Q0e},(∀a∈r,0<=a)->r.Nodup->(r.map λa=>(2:Int)^a.toNat).sum=(NI r:Int)
 |[],_,_=>rfl
 |a::r,h,nd=>by
  have h':∀b∈r,0<=b:=λb hb=>h b (dg _ hb);have ih:=K6 h' (gu.1 nd).2;have h0:=h a b_;have hb:(NI r).testBit a.toNat=ag:=by
   cases e:(NI r).testBit a.toNat with
   |false=>rfl
   |true =>
    have:=(CD h').1 e;rw[show((a.toNat:Nat):Int)=a by omega] at this;exact Zw this (gu.1 nd).1
  rw[ba,dh,ih,NI,<- XY hb]
  push_cast
  rfl
section
variable(x:Q0a)
def things(S:Nat):List Int:=(aY 0 x.length).filter λt=>S.testBit t.toNat
def Mk(b:Nat):Nat:=NI (row x b)
def uK(b S:Nat):Bool:=!S.testBit b&&Zv (Mk x b &&& S=Mk x b)
end
section
variable{x:Q0a}
def fC{S:Nat}{t:Int}:t∈things x S↔(0<=t/\t<(x.length:Int))/\S.testBit t.toNat=ae:=by
 unfold things;rw[f_,bD]
 constructor
 .rintro ⟨h1,h2⟩;exact⟨by omega,h2⟩
 .rintro ⟨h1,h2⟩;exact⟨by omega,h2⟩
def mO(h:∀t,t∈a↔t∈b):aP x a=aP x b:=by
 have hc:∀t,a.contains t=b.contains t:=λt=>by rw[rp];simp[h t]
 unfold aP;simp only[hc]
theorem wN:∀(m j:Nat) {a b:Q0e} (l:Int),(∀t,t∈a↔t∈b)->Nn x m a l j=Nn x m b l j
 |0,j,a,b,l,h=>rfl
 |m+1,0,a,b,l,h=>rfl
 |m+1,j+1,a,b,l,h=>by show Nn x (m+1) a (-1) j+(((aP x a).filter λt=>Zv (l<t)).map λt=>Nn x m (aL a t) t (j+1)).sum=Nn x (m+1) b (-1) j+(((aP x b).filter λt=>Zv (l<t)).map λt=>Nn x m (aL b t) t (j+1)).sum;rw[wN (m+1) j (-1) h,mO h];congr 2;refine gd λt _=>wN m (j+1) t λu=>?_;rw[eU,eU,h u]
def HR(hx:Ord.Rows x)(hb:b<x.length):(Mk x b).testBit i=ae↔(i:Int)∈row x b:=by
 refine CD λa ha=>?_;have e:row x b=x[b]:=by unfold row;simp[hb]
 rw[e] at ha;obtain⟨c,rfl,_⟩:=(Ord.Q8 hx (getElem?_eq_getElem hb)).1 ha;omega
def RT(hx:Ord.Rows x)(hb:b<x.length)(h:a∈row x b):0<=a/\a<(x.length:Int):=by
 have e:row x b=x[b]:=by unfold row;simp[hb]
 rw[e] at h;exact hx.rng b _ (getElem?_eq_getElem hb) a h
def Xs(hx:Ord.Rows x)(hb:b<x.length)(h:(Mk x b).testBit i=ae):i<x.length:=by have:=RT hx hb ((HR hx hb).1 h);omega
def gF:t∈aP x a↔(0<=t/\t<(x.length:Int))/\t∉a /\∀l∈row x t,l∈a:=by
 unfold aP;rw[f_,f_,bD,ke];simp only[zq,Hc,decide_eq_false_iff_not,decide_eq_true_eq]
 constructor
 .rintro ⟨⟨h1,h2⟩,h3⟩;exact⟨by omega,h2,h3⟩
 .rintro ⟨h1,h2,h3⟩;exact⟨⟨by omega,h2⟩,h3⟩
def uY(hx:Ord.Rows x){b S:Nat}(hb:b<x.length):uK x b S=ae↔(b:Int)∈aP x (things x S):=by
 unfold uK;rw[gw,decide_eq_true_eq,uX,gF]
 constructor
 .rintro ⟨h1,h2⟩;refine⟨by omega,λh=>?_,λl hl=>?_⟩
  .have:=(fC.1 h).2;rw[gk] at this;rw[this] at h1;cases h1
  .have r:=RT hx hb hl;refine fC.2 ⟨r,h2 _ ((HR hx hb).2 ?_)⟩;rw[show((l.toNat:Nat):Int)=l by omega];exact hl
 .rintro ⟨_,h1,h2⟩;refine⟨?_,λi hi=>?_⟩
  .cases e:S.testBit b with
   |false=>rfl
   |true=>exact Zw (fC.2 ⟨by omega,by rw[gk];exact e⟩) h1
  .have:=(fC.1 (h2 i ((HR hx hb).1 hi))).2
   rwa [gk] at this
def sJ(S:Nat):(things x S).Nodup:=qb _ (wM x.length)
def len_eq{a b:Q0e}(ha:a.Nodup)(hb:b.Nodup)(h:∀t,t∈a↔t∈b):a.length=b.length :=
 Nat.le_antisymm (Ord.dD a b ha λt ht=>(h t).1 ht) (Ord.dD b a hb λt ht=>(h t).2 ht)
def sL{S b:Nat}(hb:b<x.length)(t:Int):t∈things x (S ||| 2^b)↔t∈aL (things x S) b:=by
 rw[eU,fC,fC,kH,Hk,decide_eq_true_eq]
 constructor
 .rintro ⟨h1,h2|h2⟩
  .exact .inl ⟨h1,h2⟩
  .exact .inr (by omega)
 .rintro (⟨h1,h2⟩|h)
  .exact ⟨h1,.inl h2⟩
  .subst h;exact⟨by omega,.inr (by omega)⟩
def wQ(S:Nat):(things x S).length<=x.length:=by
 have:=j_ (λt:Int=>S.testBit t.toNat) (aY 0 x.length)
 rwa [aO] at this
theorem j4{S b:Nat}(hb:b<x.length)(h:S.testBit b=ag):(things x (S ||| 2^b)).length=(things x S).length+1:=by rw[<- qG (things x S) b];refine len_eq (sJ _) ?_ (sL hb);unfold aL;refine(sortI_perm _).nodup_iff.2 (iy.2 ⟨sJ S,by simp,λu hu v hv e=>?_⟩);rw[br] at hv;subst hv;subst e;have:=(fC.1 hu).2;rw[gk,h] at this;cases this
def Vj(x:Q0a)(j S:Nat):Int:=Nn x (x.length-(things x S).length) (things x S) (-1) j
def Pb(x:Q0a)(V:Nat->Int):Nat->Nat->Nat->Int
 |0,_,S=>V S
 |r+1,b,S=>Pb x V r (b+1) S+if uK x b S=ae then Pb x V r (b+1) (S ||| 2^b) else 0
theorem z8{f:Int->Int}{b:Int}:∀{l:Q0e},l.Nodup->((l.filter λt=>Zv (b-1<t)).map f).sum=((l.filter λt=>Zv (b<t)).map f).sum+if b∈l then f b else 0
 |[],_=>rfl
 |t::l,nd=>by
  have ih:=z8 (f:=f) (b:=b) (gu.1 nd).2;have nt:=(gu.1 nd).1;rw[ny,ny];by_cases e:t=b
  .subst e;rw[Z_ (by simp;omega),Zz (by simp),ba,dh,ih,Zz nt,Z_ b_];omega
  .by_cases h:b<t
   .rw [Z_ (by simp;omega),Z_ (by simpa using h),ba,dh,ba,dh,ih];have:(b∈t::l)↔b∈l:=by simp[e_ e]
    simp only[this];omega
   .rw [Zz (by simp;omega),Zz (by simpa using h),ih];have:(b∈t::l)↔b∈l:=by simp[e_ e]
    simp only[this]
def EW(a:Q0e):(aP x a).Nodup:=qb _ (qb _ (wM x.length))
theorem xb(hx:Ord.Rows x)(j:Nat):∀(r b S:Nat),b+r=x.length->Pb x (Vj x j) r b S=Nn x (x.length-(things x S).length) (things x S) ((b:Int)-1) (j+1)
 |0,b,S,h=>by
  show Vj x j S=_;unfold Vj
  cases hm:x.length-(things x S).length with
  |zero=>rfl
  |succ m =>
   show Nn x (m+1) (things x S) (-1) j=Nn x (m+1) (things x S) (-1) j+(((aP x (things x S)).filter λt=>Zv ((b:Int)-1<t)).map λt=>Nn x m (aL (things x S) t) t (j+1)).sum;have e:(aP x (things x S)).filter (λt=>Zv ((b:Int)-1<t))=[]:=by rw[G_];intro t ht;have:=(eX ht).1;simp;omega
   rw[e];simp
 |r+1,b,S,h=>by
  have hb:b<x.length:=by omega
  have ih1:=xb hx j r (b+1) S (by omega);have ih2:=xb hx j r (b+1) (S ||| 2^b) (by omega);rw[show(((b+1:Nat):Int)-1)=(b:Int) by omega] at ih1 ih2;show Pb x (Vj x j) r (b+1) S+(if uK x b S=ae then Pb x (Vj x j) r (b+1) (S ||| 2^b) else 0)=_;rw[ih1,ih2]
  cases hm:x.length-(things x S).length with
  |zero =>
   have hn:¬ uK x b S=ae:=λz=>by have h1:=(uY hx hb).1 z;have h2:=i7 (x:=x) (a:=things x S) ⟨sJ S,λt ht=>(fC.1 ht).1⟩;have h3:0<(aP x (things x S)).length:=a2k h1;omega
   rw[Zz hn];rfl
  |succ m =>
   show Nn x (m+1) (things x S) (-1) j+(((aP x (things x S)).filter λt=>Zv ((b:Int)<t)).map λt=>Nn x m (aL (things x S) t) t (j+1)).sum+_=Nn x (m+1) (things x S) (-1) j+(((aP x (things x S)).filter λt=>Zv ((b:Int)-1<t)).map λt=>Nn x m (aL (things x S) t) t (j+1)).sum;rw[z8 (EW _)];by_cases hr:uK x b S=ae
   .have hb0:S.testBit b=ag:=by
     unfold uK at hr
     cases e:S.testBit b with
     |false=>rfl
     |true=>rw[e] at hr;cases hr
    have e2:x.length-(things x (S ||| 2^b)).length=m:=by rw[j4 hb hb0];omega
    rw[Z_ hr,Z_ ((uY hx hb).1 hr),e2,wN m (j+1) (b:Int) (sL hb)];omega
   .rw [Zz hr,Zz λz=>hr ((uY hx hb).2 z)];omega
noncomputable def Gb(g:Nat->Int):Nat->Nat->Nat->Int
 |0,_,S=>g S
 |r+1,b,S=>Gb g r (b+1) S+if S.testBit b=ae then 0 else Gb g r (b+1) (S ||| 2^b)
def RU(x:Q0a)(h s:Nat):Prop:=∀b,b<x.length->(h ^^^ s).testBit b=ae->(Mk x b &&& h=Mk x b) /\∀i,b<=i->(Mk x b).testBit i=ae->(h ^^^ s).testBit i=ag
def gB(x:Q0a)(b S s:Nat):Prop:=∀c,c<b->S.testBit c=ae->s.testBit c=ag ->∀i,(Mk x c).testBit i=ae->s.testBit i=ae\/(S.testBit i=ae/\i<c)
def K7(hx:Ord.Rows x){S s:Nat}(hs:∀i,s.testBit i=ae->S.testBit i=ae):RU x S s↔gB x x.length S s:=by
 constructor
 .intro h c hc h1 h2 i hi;obtain⟨g1,g2⟩:=h c hc (by rw[yy,h1,h2];rfl);have g1:=uX.1 g1 i hi;by_cases hic:i<c
  .exact .inr ⟨g1,hic⟩
  .have:=g2 i (by omega) hi;rw[yy,g1] at this
   left
   cases e:s.testBit i with
   |true=>rfl
   |false=>rw[e] at this;cases this
 .intro h b hb hm;rw[yy] at hm;have h1:S.testBit b=ae:=by
   cases e:S.testBit b with
   |true=>rfl
   |false =>
    cases e2:s.testBit b with
    |true=>rw[hs b e2] at e;cases e
    |false=>rw[e,e2] at hm;cases hm
  have h2:s.testBit b=ag:=by
   cases e2:s.testBit b with
   |false=>rfl
   |true=>rw[h1,e2] at hm;cases hm
  have k:=h b hb h1 h2;refine⟨uX.2 λi hi=>?_,λi hbi hi=>?_⟩
  .rcases k i hi with z|z
   .exact hs i z
   .exact z.1
  .rcases k i hi with z|z
   .rw [yy,z,hs i z];rfl
   .omega
def fQ(x:Q0a)(h s:Nat):Bool:=(dj x.length).all λb=>!(h ^^^ s).testBit b||(Zv (Mk x b &&& h=Mk x b)&&Zv (((Mk x b >>> b) <<< b) &&& (h ^^^ s)=0))
def EX{M m b:Nat}:(((M >>> b) <<< b) &&& m=0) ↔ ∀i,b<=i->M.testBit i=ae->m.testBit i=ag:=by
 constructor
 .intro h i hi hM;have:=congrArg (λz=>z.testBit i) h;simp only[uh,a1T,a1S,Ga] at this;rw[show b+(i-b)=i by omega,hM,Zx (by omega)] at this;simpa using this
 .intro h;apply zb;intro i;simp only[uh,a1T,a1S,Ga];by_cases hi:b<=i
  .rw [show b+(i-b)=i by omega,Zx (by omega)]
   cases e:M.testBit i with
   |false=>rfl
   |true=>rw[h i hi e];rfl
  .rw [Zy (by omega)];rfl
def z9{h s:Nat}:fQ x h s=ae↔RU x h s:=by
 unfold fQ RU;rw[ke]
 constructor
 .intro g b hb hm;have:=g b (pk.2 hb);rw[hm] at this;simp only[rm,vd,gw,decide_eq_true_eq] at this;exact⟨this.1,EX.1 this.2⟩
 .intro g b hb;have hb:=pk.1 hb
  cases e:(h ^^^ s).testBit b with
  |false=>rfl
  |true =>
   obtain⟨g1,g2⟩:=g b hb e;simp only[rm,vd,gw,decide_eq_true_eq];exact⟨g1,EX.2 g2⟩
theorem xa(hx:Ord.Rows x){V:Nat->Int}{s:Nat}:∀(r b S:Nat),b+r=x.length->(∀i,s.testBit i=ae->S.testBit i=ae)->(∀i,b<=i->S.testBit i=ae->s.testBit i=ae) ->
  (gB x b S s->Gb (λh=>if fQ x h s=ae then V h else 0) r b S=Pb x V r b S)/\(¬ gB x b S s->Gb (λh=>if fQ x h s=ae then V h else 0) r b S=0)
 |0,b,S,h,hs,hf=>by
  have hb:b=x.length:=by omega
  subst hb;refine⟨λg=>?_,λg=>?_⟩
  .show (if fQ x S s=ae then V S else 0)=V S;exact Z_ (z9.2 ((K7 hx hs).2 g))
  .show (if fQ x S s=ae then V S else 0)=0;exact Zz λz=>g ((K7 hx hs).1 (z9.1 z))
 |r+1,b,S,h,hs,hf=>by
  have hb:b<x.length:=by omega
  have ih1:=xa hx (V:=V) (s:=s) r (b+1) S (by omega) hs λi hi=>hf i (by omega);show(gB x b S s->Gb _ r (b+1) S+(if S.testBit b=ae then 0 else Gb _ r (b+1) (S ||| 2^b))=Pb x V r (b+1) S+(if uK x b S=ae then Pb x V r (b+1) (S ||| 2^b) else 0))/\(¬ gB x b S s->Gb _ r (b+1) S+(if S.testBit b=ae then 0 else Gb _ r (b+1) (S ||| 2^b))=0);by_cases hS:S.testBit b=ae
  .have e1:gB x (b+1) S s↔gB x b S s:=by
    constructor
    .exact λg c hc=>g c (by omega)
    .intro g c hc h1 h2;rcases uk c b with z|z
     .exact g c z h1 h2
     .have:c=b:=by omega
      subst this;rw[hf c (bc _) hS] at h2;cases h2
   have e2:uK x b S=ag:=by unfold uK;rw[hS];rfl
   rw[Z_ hS,e2];rw[e1] at ih1;refine⟨λg=>?_,λg=>?_⟩
   .rw [ih1.1 g];simp
   .rw [ih1.2 g];rfl
  .have sg:S.testBit b=ag:=by simpa using hS
   have ih2:=xa hx (V:=V) (s:=s) r (b+1) (S ||| 2^b) (by omega) (λi hi=>by rw[kH,hs i hi];rfl) λi hi h2=>by rw[kH] at h2;have:Zv (b=i)=ag:=Zy (by omega);rw[this,vc] at h2;exact hf i (by omega) h2
   rw[Zz hS];have e1:gB x (b+1) S s↔gB x b S s:=by
    constructor
    .exact λg c hc=>g c (by omega)
    .intro g c hc h1 h2;rcases uk c b with z|z
     .exact g c z h1 h2
     .have:c=b:=by omega
      subst this;rw[sg] at h1;cases h1
   have sb0:s.testBit b=ag:=by
    cases e:s.testBit b with
    |false=>rfl
    |true=>rw[hs b e] at sg;cases sg
   have e2:gB x (b+1) (S ||| 2^b) s↔gB x b S s/\uK x b S=ae:=by
    unfold uK;rw[gw,decide_eq_true_eq,uX,sg]
    constructor
    .intro g;refine⟨λc hc h1 h2 i hi=>?_,rfl,λi hi=>?_⟩
     .rcases g c (by omega) (by rw[kH,h1];rfl) h2 i hi with z|⟨z,z2⟩
      .exact .inl z
      .rw [kH] at z;have:Zv (b=i)=ag:=Zy (by omega);rw[this,vc] at z;exact .inr ⟨z,z2⟩
     .rcases g b (by omega) (by rw[kH];simp) sb0 i hi with z|⟨z,z2⟩
      .exact hs i z
      .rw [kH] at z;have:Zv (b=i)=ag:=Zy (by omega);rw[this,vc] at z;exact z
    .rintro ⟨g,_,k⟩ c hc h1 h2 i hi;rcases uk c b with z|z
     .rw [kH] at h1;have:Zv (b=c)=ag:=Zy (by omega);rw[this,vc] at h1;rcases g c z h1 h2 i hi with q|⟨q,q2⟩
      .exact .inl q
      .exact .inr ⟨by rw[kH,q];rfl,q2⟩
     .have:c=b:=by omega
      subst this;have ki:=k i hi;rcases uk i c with q|q
      .exact .inr ⟨by rw[kH,ki];rfl,q⟩
      .exact .inl (hf i q ki)
   rw[e1] at ih1;rw[e2] at ih2;refine⟨λg=>?_,λg=>?_⟩
   .rw [ih1.1 g];by_cases k:uK x b S=ae
    .rw [ih2.1 ⟨g,k⟩,Z_ k]
    .rw [ih2.2 λz=>k z.2,Zz k]
   .rw [ih1.2 g,ih2.2 λz=>g z.1];rfl
theorem Rj(hx:Ord.Rows x)(j s:Nat):Gb (λh=>if fQ x h s=ae then Vj x j h else 0) x.length 0 s=Vj x (j+1) s:=by
 have h:=(xa hx (V:=Vj x j) (s:=s) x.length 0 s (by omega) (λ_ h=>h) (λ_ _ h=>h)).1 λc hc=>by omega
 rw[h,xb hx j x.length 0 s (by omega)];rfl
noncomputable def states:Nat->Nat->List Nat
 |0,s=>[s]
 |b+1,s=>states b s++((states b s).filter λh:Nat=>!h.testBit b).map λh:Nat=>h ||| 2^b
theorem EY(g:Nat->Int)(s:Nat):∀(b r:Nat),((states b s).map (Gb g r b)).sum=Gb g (b+r) 0 s
 |0,r=>by simp[states]
 |b+1,r=>by
  have ih:=EY g s b (r+1);rw[show b+1+r=b+(r+1) by omega,<- ih];have go:∀L:List Nat,((L++(L.filter λh:Nat=>!h.testBit b).map λh:Nat=>h ||| 2^b).map (Gb g r (b+1))).sum=(L.map (Gb g (r+1) b)).sum:=by
   intro L;rw[cy,ng,dq]
   induction L with
   |nil=>rfl
   |cons h L ih =>
    rw[ba,dh,ba,dh,ny,<- ih];show _=Gb g r (b+1) h+(if h.testBit b=ae then 0 else Gb g r (b+1) (h ||| 2^b))+_
    cases e:h.testBit b with
    |true=>simp;omega
    |false=>simp;omega
  exact go _
def HS(hx:Ord.Rows x)(j s:Nat):(((states x.length s).filter λh=>fQ x h s).map (Vj x j)).sum=Vj x (j+1) s:=by
 have h:=EY (λh=>if fQ x h s=ae then Vj x j h else 0) s x.length 0;rw[zd,Rj hx] at h;rw[<- h];have go:∀L:List Nat,((L.filter λh=>fQ x h s).map (Vj x j)).sum=(L.map (Gb (λh=>if fQ x h s=ae then Vj x j h else 0) 0 x.length)).sum:=by
  intro L
  induction L with
  |nil=>rfl
  |cons h L ih =>
   rw[ny,ba,dh,<- ih];show _=(if fQ x h s=ae then Vj x j h else 0)+_
   cases e:fQ x h s with
   |true=>simp
   |false=>simp
 exact go _
theorem k8(hs:s<2^n):∀(b:Nat),b<=n ->∀h∈states b s,h<2^n
 |0,_,h,hh=>by rw[br.1 hh];exact hs
 |b+1,hb,h,hh=>by
  rcases ft.1 hh with z|z
  .exact k8 hs b (by omega) h z
  .obtain ⟨q,hq,rfl⟩:=gj.1 z;exact Ds (k8 hs b (by omega) q (f_.1 hq).1) (by omega)
theorem wR(s:Nat):∀b:Nat,(states b s).length<=2^b
 |0=>by simp[states]
 |b+1=>by have ih:=wR s b;have h2:=j_ (λh:Nat=>!h.testBit b) (states b s);rw[states,bq,az,a1X];omega
end
abbrev Tab:=List (Nat×Int)
def dU(A:Tab)(h:Nat):Option Int:=(A.find? λq=>Zv (q.1=h)).map (·.2)
def oH(A:Tab)(h:Nat)(v:Int):Tab:=if A.any (λq=>Zv (q.1=h))=ae then A.map λq=>if q.1=h then(q.1,v) else q else A++[(h,v)]
def kN(h:Nat):vP:=.inl (.inl (h:Int))
def kdT(A:Tab):KD:=(A.map λq=>kN q.1,A.map λq=>D.int q.2)
def CF:kN a=kN b↔a=b:=by
 unfold kN
 constructor
 .intro h;simp only[Ec] at h;omega
 .intro h;rw[h]
theorem RV(A:Tab)(h:Nat):bP (kdT A).1 (kdT A).2 (kN h)=(dU A h).map D.int:=by
 unfold kdT bP dU
 induction A with
 |nil=>rfl
 |cons q A ih =>
  simp only[ba,uo,ib];by_cases e:q.1=h
  .simp [e]
  .have e':¬ kN q.1=kN h:=λz=>e (CF.1 z);simp only[Zy e,Zy e'];exact ih
def Dr(A:Tab)(h:Nat)(v:Int):d7 (kdT A).1 (kdT A).2 (kN h) (.int v)=kdT (oH A h v):=by
 have e:(kdT A).1.any (λq=>Zv (q=kN h))=A.any λq=>Zv (q.1=h):=by
  unfold kdT;rw[a2B];congr 1
  funext q
  exact decide_eq_decide.2 CF
 unfold d7 oH;rw[e];split
 .unfold kdT;refine Fx ?_ ?_
  .simp only[dq];refine gd λq _=>?_;simp only[vb];split<;>rfl
  .simp only[dq];have:((A.map λq=>kN q.1).zip (A.map λq=>D.int q.2))=A.map λq=>(kN q.1,D.int q.2):=by rw[List.zip_map']
   rw[this,dq];refine gd λq _=>?_;simp only[vb];by_cases z:q.1=h
   .rw [Z_ (CF.2 z),Z_ z]
   .rw [Zz (λy=>z (CF.1 y)),Zz z]
 .unfold kdT;simp
def CG(A:Tab)(h:Nat):kindB (kdT A).1 (kN h)=ae:=by unfold kindB kdT;rw[uz,ke];intro q _;rfl
def tot(A:Tab)(V:Nat->Int):Int:=(A.map λq=>q.2*V q.1).sum
structure sM (n:Nat) (A:Tab):Prop where
 nd:(A.map (·.1)).Nodup
 lt:∀q∈A,q.1<2^n
def get_none(e:A.any (λq=>Zv (q.1=h))=ag):dU A h=af:=by unfold dU;rw[a2q.2,yu];intro q hq;have:=He.1 e q hq;simpa using this
def sM.put(o:sM n A)(hh:h<2^n)(v:Int):sM n (oH A h v):=by
 unfold oH;split
 .refine ⟨?_,λq hq=>?_⟩
  .rw [dq];have:(A.map ((λq:Nat×Int=>q.1)∘λq=>if q.1=h then(q.1,v) else q))=A.map (·.1):=gd λq _=>by simp only[vb];split<;>rfl
   rw[this];exact o.nd
  .obtain ⟨p,hp,rfl⟩:=gj.1 hq;split
   .exact o.lt p hp
   .exact o.lt p hp
 .rename_i hc;refine⟨?_,λq hq=>?_⟩
  .rw [cy,iy];refine⟨o.nd,by simp,λa ha b hb e=>?_⟩;obtain⟨q,hq,rfl⟩:=gj.1 ha;simp only[lh,ba,br] at hb;exact hc (uy.2 ⟨q,hq,by simp[e,hb]⟩)
  .rcases ft.1 hq with z|z
   .exact o.lt q z
   .rw [br.1 z];exact hh
def K8(V:Nat->Int)(h:Nat)(w:Int)(nd:(A.map (·.1)).Nodup):tot (oH A h ((dU A h).getD 0+w)) V=tot A V+w*V h:=by
 unfold oH;split
 .rename_i hc;have go:∀(A:Tab),(A.map (·.1)).Nodup->A.any (λq=>Zv (q.1=h))=ae ->∀u,u=(dU A h).getD 0+w->tot (A.map λq=>if q.1=h then(q.1,u) else q) V=tot A V+w*V h:=by
   intro A
   induction A with
   |nil=>intro _ hc;cases hc
   |cons q A ih =>
    intro nd hc u hu;rw[ba,gu] at nd;unfold tot;rw[ba,ba,dh,ba,dh];by_cases e:q.1=h
    .have e2:A.map (λq=>if q.1=h then(q.1,u) else q)=A:=by
      conv=>rhs;rw[<- a2h A]
      refine gd λp hp=>?_;rw[Zz]
      .rfl
      .intro z;exact nd.1 (gj.2 ⟨p,hp,by rw[z,e]⟩)
     have e3:dU (q::A) h=aa q.2:=by unfold dU;simp[e]
     rw[e3] at hu;rw[e2,Z_ e,hu,e];simp only[Option.getD_some];rw[u_];omega
    .have e3:dU (q::A) h=dU A h:=by unfold dU;simp[e]
     rw[e3] at hu;have hc':A.any (λq=>Zv (q.1=h))=ae:=by simpa[km,e] using hc
     have:=ih nd.2 hc' u hu;unfold tot at this;rw[Zz e,this];omega
  exact go A nd hc _ rfl
 .rename_i hc;have hc:A.any (λq=>Zv (q.1=h))=ag:=Bool.eq_false_iff.2 hc;rw[get_none hc];unfold tot;rw[cy,ng];simp
theorem K9(o:sM n A):A.length<=2^n:=by
 have h:=Ord.dD (A.map λq=>(q.1:Int)) (aY 0 (2^n)) ?_ ?_
 .rwa [az,aO] at h
 .have e:A.map (λq=>(q.1:Int))=(A.map (·.1)).map λa:Nat=>(a:Int):=by rw[dq];rfl
  rw[e];exact zk _ (λa b hab z=>hab (by omega)) o.nd
 .intro t ht;obtain⟨q,hq,rfl⟩:=gj.1 ht;have:=o.lt q hq;refine bD.2 ⟨by omega,?_⟩;rw[il];exact Int.ofNat_lt.2 this
section
variable(x:Q0a)
def wU(v:Int)(F:Tab)(hs:List Nat):Tab:=hs.foldl (λF h=>oH F h ((dU F h).getD 0+v)) F
def EZ(F:Tab)(q:Nat×Int):Tab:=wU q.2 F ((states x.length q.1).filter λh=>fQ x h q.1)
def stepT(A:Tab):Tab:=A.foldl (EZ x) []
def dN:Nat->Tab
 |0=>[(0,1)]
 |k+1=>stepT x (dN k)
end
section
variable{x:Q0a}
theorem CH(V:Nat->Int)(v:Int):∀(hs:List Nat) (F:Tab),sM n F->(∀h∈hs,h<2^n)->sM n (wU v F hs)/\tot (wU v F hs) V=tot F V+v*(hs.map V).sum
 |[],F,o,_=>⟨o,by simp[wU]⟩
 |h::hs,F,o,hb=>by have o1:=o.put (hb h b_) ((dU F h).getD 0+v);have ih:=CH V v hs (oH F h ((dU F h).getD 0+v)) o1 λu hu=>hb u (dg _ hu);refine⟨ih.1,?_⟩;show tot (wU v (oH F h ((dU F h).getD 0+v)) hs) V=_;rw[ih.2,K8 V h v o.nd,ba,dh,Hh];omega
def XZ(hx:Ord.Rows x)(o:sM x.length A)(j:Nat):sM x.length (stepT x A)/\tot (stepT x A) (Vj x j)=tot A (Vj x (j+1)):=by
 have go:∀(L F:Tab),sM x.length F->(∀q∈L,q.1<2^x.length)->sM x.length (L.foldl (EZ x) F)/\tot (L.foldl (EZ x) F) (Vj x j)=tot F (Vj x j)+tot L (Vj x (j+1)):=by
  intro L
  induction L with
  |nil=>intro F o _;exact⟨o,by simp[tot]⟩
  |cons q L ih =>
   intro F o hb;have p:=CH (Vj x j) q.2 ((states x.length q.1).filter λh=>fQ x h q.1) F o λh hh=>k8 (hb q b_) x.length (bc _) h (f_.1 hh).1;rw[HS hx] at p;have r:=ih (EZ x F q) p.1 λu hu=>hb u (dg _ hu);refine⟨r.1,?_⟩;rw[jk,r.2];show tot (wU q.2 F _) _+_=_;rw[p.2];unfold tot;rw[ba,dh (α:=Int)];omega
 have h:=go A [] ⟨kh,λq hq=>by cases hq⟩ o.lt;refine⟨h.1,?_⟩;unfold stepT;rw[h.2];simp[tot]
theorem sN(hx:Ord.Rows x):∀(k j:Nat),sM x.length (dN x k)/\tot (dN x k) (Vj x j)=Vj x (j+k) 0
 |0,j=>by
  refine⟨⟨by simp[dN],λq hq=>?_⟩,?_⟩
  .rw [br.1 hq];exact yx _
  .show 1*Vj x j 0+0=_;rw[Hf,ma];rfl
 |k+1,j=>by have ih:=sN hx k (j+1);have s:=XZ hx ih.1 j;refine⟨s.1,?_⟩;show tot (stepT x (dN x k)) (Vj x j)=_;rw[s.2,ih.2,show j+1+k=j+(k+1) by omega]
def tZ(hS:S<2^x.length):(things x S).length=x.length↔S=2^x.length-1:=by
 constructor
 .intro h;apply zb;intro i;rw[a1R];by_cases hi:i<x.length
  .rw [Zx hi]
   cases e:S.testBit i with
   |true=>rfl
   |false =>
    have:=j4 hi e;have:=wQ (x:=x) (S ||| 2^i);omega
  .rw [Zy hi];exact Nat.testBit_lt_two_pow (fz hS (mz (by decide) (by omega)))
 .intro h;subst h;have e:things x (2^x.length-1)=aY 0 x.length:=by unfold things;rw[List.filter_eq_self];intro t ht;have:=bD.1 ht;rw[a1R,Zx (by omega)]
  rw[e,aO]
def mP:things x 0=[]:=by unfold things;rw[G_];intro t _;simp
def RW(o:sM x.length A):tot A (Vj x 0)=(dU A (2^x.length-1)).getD 0:=by
 have hv:∀q∈A,Vj x 0 q.1=if q.1=2^x.length-1 then 1 else 0:=λq hq=>by
  unfold Vj;have hl:=wQ (x:=x) q.1;have hf:=tZ (x:=x) (o.lt q hq);by_cases e:q.1=2^x.length-1
  .rw [Z_ e,show x.length-(things x q.1).length=0 by rw[hf.2 e];omega];rfl
  .rw [Zz e]
   cases hm:x.length-(things x q.1).length with
   |zero=>exact Zw (hf.1 (by omega)) e
   |succ m=>rfl
 have go:∀A:Tab,(A.map (·.1)).Nodup->(∀q∈A,Vj x 0 q.1=if q.1=2^x.length-1 then 1 else 0)->tot A (Vj x 0)=(dU A (2^x.length-1)).getD 0:=by
  intro A
  induction A with
  |nil=>intro _ _;rfl
  |cons q A ih =>
   intro nd hv;rw[ba,gu] at nd;have ih:=ih nd.2 λp hp=>hv p (dg _ hp);unfold tot at ih ⊢;rw[ba,dh,hv q b_,ih];by_cases e:q.1=2^x.length-1
   .have e1:dU (q::A) (2^x.length-1)=aa q.2:=by unfold dU;simp[e]
    have e2:dU A (2^x.length-1)=af:=by refine get_none ?_;rw[He];intro p hp;simp only[decide_eq_true_eq];exact λz=>nd.1 (gj.2 ⟨p,hp,by rw[z,e]⟩)
    rw[e1,e2,Z_ e];simp
   .have e1:dU (q::A) (2^x.length-1)=dU A (2^x.length-1):=by unfold dU;simp[e]
    rw[e1,Zz e];simp
 exact go A o.nd hv
def NJ(hx:Ord.Rows x)(k:Nat):(dU (dN x k) (2^x.length-1)).getD 0=DV x.length 0 (shares x) k:=by have h:=sN hx k 0;rw[<- RW h.1,h.2,qv];unfold Vj;rw[mP];exact NH x k
end
theorem HU:∀a b:Nat,(a ||| b)=(a ^^^ b)+(a &&& b):=by
 intro a
 induction a using uj with
 |ind a ih =>
  intro b;by_cases h:a=0
  .subst h;simp
  .have e:=ih (a/2) (by omega) (b/2);have d1:(a ||| b)/2=(a/2 ||| b/2):=a10 ..;have d2:(a ^^^ b)/2=(a/2 ^^^ b/2):=Nat.xor_div_two ..;have d3:(a &&& b)/2=(a/2 &&& b/2):=a17 ..;have m1:(a ||| b)%2=(a%2 ||| b%2):=a1Z (n:=1);have m2:(a ^^^ b)%2=(a%2 ^^^ b%2):=Nat.xor_mod_two_pow (n:=1);have m3:(a &&& b)%2=(a%2 &&& b%2):=a16 (n:=1);have c:(a%2 ||| b%2)=(a%2 ^^^ b%2)+(a%2 &&& b%2):=by rcases y_ a with p|p<;>rcases y_ b with q|q<;>rw[p,q]<;>decide
   omega
def k9(h:c i j=ae):iV c g (.int i) (.int j)=aa (g i j):=Z_ h
def CI(a b:Nat):nnC (a:Int) (b:Int)=ae:=by unfold nnC;rw[Zx (by omega),Zx (by omega)];rfl
def qH(a b:Nat):eZ (.int a) (.int b)=aa (.int ((a &&& b:Nat):Int)):=by refine(k9 (CI a b)).trans ?_;rw[gk,gk]
def LA(a b:Nat):yV (.int a) (.int b)=aa (.int ((a ||| b:Nat):Int)):=by refine(k9 (CI a b)).trans ?_;rw[gk,gk]
def RX(a b:Nat):KN (.int a) (.int b)=aa (.int ((a ^^^ b:Nat):Int)):=by refine(k9 (CI a b)).trans ?_;rw[gk,gk];have:=HU a b;congr 2;omega
def LB(a b:Nat):p6 (.int a) (.int b)=aa (.int ((a >>> b:Nat):Int)):=by refine(k9 (Zx (show(0:Int)<=(b:Int) by omega))).trans ?_;rw[gk,Ge];congr 2
def qI{a b:Nat}(ha:a<18446744073709551616)(hb:b<=1000000):lL (.int a) (.int b)=aa (.int ((a <<< b:Nat):Int)):=by
 refine(k9 (by
  show(Zv (0<=(b:Int))&&Zv ((b:Int).natAbs<=1000000)&&Zv ((a:Int).natAbs<18446744073709551616))=ae;rw[Zx (by omega),Zx (by omega),Zx (by omega)];rfl)).trans ?_
 rw[gk,a1W];congr 2
def uZ(b:Nat):(1 <<< b:Nat)=2^b:=by rw[a1W,Nat.one_mul]
def X0(a b:Nat):(a >>> b &&& 1)=if a.testBit b=ae then 1 else 0:=by
 rw[Nat.and_one_is_mod,Ge,Nat.testBit_eq_decide_div_mod_eq];by_cases h:a/2^b%2=1
 .rw [Zx h,Z_ rfl];exact h
 .rw [Zy h,Zz (by decide)];omega
def w_{f g:EF}{ρ:dJ}{h b:Nat}(hf:f ρ=aa (.int h))(hg:g ρ=aa (.int b)):aC eZ (aC p6 f g) (eC (.int 1)) ρ=aa (.int (if h.testBit b=ae then 1 else 0)):=by refine aK (x:=.int ((h >>> b:Nat):Int)) (y:=.int ((1:Nat):Int)) (aK hf hg (LB h b)) rfl ?_;rw[qH,X0];split<;>rfl
section
variable{x:Q0a}
def wV(x:Q0a):List Int:=x.map λr=>(NI r:Int)
def E1(hx:Ord.Rows x)(hn:x.length<=9):fI [aJ x]=.ok (aG (wV x)):=by
 unfold fI wV;have e5:aG (x.map λr=>(NI r:Int))=.lst (x.map λr=>D.int (NI r:Int)):=by unfold aG;rw[dq];rfl
 rw[e5];refine gO rfl (iA (iN (x.map tupI) rfl (by rw[az];omega) (iB tupI (λr=>.int (NI r:Int)) x λr hr=>⟨[aa (tupI r)],rfl,?_⟩)));obtain⟨b,hb,rfl⟩:=ur hr;have hnn:∀a∈x[b],0<=a/\a<(x.length:Int):=hx.rng b _ (getElem?_eq_getElem hb);have hup:=hx.up b _ (getElem?_eq_getElem hb);have hnd:(x[b]).Nodup:=hup.imp λh=>by omega
 have hsh:=Ord.Rows.short hx hr;rw[<- K6 (λa ha=>(hnn a ha).1) hnd];refine c8 (x:=aG ((x[b]).map λa:Int=>(2:Int)^a.toNat)) ?_ sum_ints;have e6:aG ((x[b]).map λa=>(2:Int)^a.toNat)=.lst ((x[b]).map λa=>D.int ((2:Int)^a.toNat)):=by unfold aG;rw[dq];rfl
 rw[e6];refine iN ((x[b]).map D.int) rfl (by rw[az];omega) (iB D.int (λa=>.int ((2:Int)^a.toNat)) _ λa ha=>⟨[aa (.int a)],rfl,?_⟩);have r:=hnn a ha;refine aK (x:=.int 1) (y:=.int a) rfl rfl ?_;refine(k9 (by
  show(Zv (0<=a)&&Zv (a.natAbs<=1000000)&&Zv ((1:Int).natAbs<18446744073709551616))=ae;rw[Zx r.1,Zx (by omega)];rfl)).trans ?_
 rw[Hf]
def CJ(hb:b<x.length):a9 (aG (wV x)) (.int b)=aa (.int (Mk x b:Int)):=by
 unfold aG;rw[uS];refine iX ?_;unfold wV;rw[cg,getElem?_eq_getElem hb];have e:row x b=x[b]:=by unfold row;simp[hb]
 unfold Mk;rw[e];rfl
def RY(hx:Ord.Rows x)(hn:x.length<=9)(hb:b<x.length):Mk x b<512:=by
 have:Mk x b<2^9:=Nat.lt_pow_two_of_testBit _ λi hi=>by
  cases e:(Mk x b).testBit i with
  |false=>rfl
  |true=>have:=Xs hx hb e;omega
 exact this
def pr(p:Nat×Nat):D:=.tup [.int (p.1:Int),.int (p.2:Int)]
abbrev SC(x:Q0a)(k:Int)(s4 s5 s6 s7 s8 s9 QK sO ij W3 CK:Sv):bV:=[.ro (aJ x),.ro (.int k),.ro (aG (wV x)),.ro (.int x.length),s4,s5,s6,s7,s8,s9,QK,sO,ij,W3,CK]
abbrev LC:SF:=b9 (aR (aA (aB 3) aE)) (gK 9)
     (aN 8 (aC bA (aB 8) (bJ 2 [9] (cC (aB 8)) (g2 0 1) (tV (aC gM (aC eZ (aC p6 (aB 0) (aB 2)) (eC (.int 1))) (eC (.int 0)))) (dG (aA (aC yV (aB 0) (aC lL (eC (.int 1)) (aB 2))) (aA (aC bA (aB 2) (eC (.int 1))) aE))))))
def HV(hn:x.length<=9):Nx (LC (SC x k s4 s5 s6 s7 (.ro (.lst [pr (s,0)])) s9 QK sO ij W3 CK)) λρ=>∃(L:List (Nat×Nat)) (v9:Sv),L.map (·.1)=states x.length s/\ρ=SC x k s4 s5 s6 s7 (.ro (.lst (L.map pr))) v9 QK sO ij W3 CK:=by
 refine iC x.length (λb ρ=>∃(L:List (Nat×Nat)) (v9:Sv),L.map (·.1)=states b s/\ρ=SC x k s4 s5 s6 s7 (.ro (.lst (L.map pr))) v9 QK sO ij W3 CK) rfl (by omega) ⟨[(s,0)],s9,rfl,rfl⟩ (λb ρ hb ⟨L,v9,hL,e⟩=>?_) λρ h=>h;subst e;have hlen:L.length<=512:=by
  have h1:=wR s b;have h2:(2:Nat)^b<=2^9:=mz (by decide) (by omega);have h3:=congrArg rf hL;rw[az] at h3;have:(2:Nat)^9=512:=by decide
  omega
 have hf:=j_ (λp:Nat×Nat=>!p.1.testBit b) L;refine⟨_,rfl,lN (.lst ((L++(L.filter λp:Nat×Nat=>!p.1.testBit b).map λp:Nat×Nat=>(p.1 ||| 2^b,b+1)).map pr)) ?_ ⟨L++(L.filter λp:Nat×Nat=>!p.1.testBit b).map λp:Nat×Nat=>(p.1 ||| 2^b,b+1),.ro (.int b),?_,rfl⟩⟩
 .have ec:bJ 2 [9] (cC (aB 8)) (g2 0 1) (tV (aC gM (aC eZ (aC p6 (aB 0) (aB 2)) (eC (.int 1))) (eC (.int 0)))) (dG (aA (aC yV (aB 0) (aC lL (eC (.int 1)) (aB 2))) (aA (aC bA (aB 2) (eC (.int 1))) aE))) (gJ (SC x k s4 s5 s6 s7 (.ro (.lst (L.map pr))) (.ro (.int b)) QK sO ij W3 CK))=aa (.lst ((L.filter λp:Nat×Nat=>!p.1.testBit b).map λp:Nat×Nat=>pr (p.1 ||| 2^b,b+1))):=by
   refine iN (L.map pr) rfl (by rw[az];omega) ?_;refine eF pr (λp:Nat×Nat=>!p.1.testBit b) (λp:Nat×Nat=>pr (p.1 ||| 2^b,b+1)) L λp _=>⟨[aa (.int (p.1:Int)),aa (.int (p.2:Int)),aa (.int (b:Int))],rfl,?_,λ_=>?_⟩
   .refine l8 (d:=.bl (!p.1.testBit b)) (aK (w_ (h:=p.1) (b:=b) rfl rfl) rfl ?_) rfl;rw[cV];cases p.1.testBit b<;>rfl
   .refine KP (ds:=[.int ((p.1 ||| 2^b:Nat):Int),.int ((b+1:Nat):Int)]) (args2 (aK (x:=.int (p.1:Int)) (y:=.int ((2^b:Nat):Int)) rfl (aK (x:=.int ((1:Nat):Int)) (y:=.int (b:Int)) rfl rfl ?_) (LA _ _)) rfl) (by simp);rw[qI (by decide) (by omega),uZ]
  refine aK rfl ec ?_;rw[iO (by simp;omega),cy,dq];rfl
 .rw [cy,dq,hL];show states b s++_=states b s++_;congr 1;rw[<- hL,a2r,dq];rfl
abbrev Dq:SF:=b9 (aR (aA (aB 3) aE)) (gK 9)
      (eO (tV (aC gM (aC eZ (aC p6 (aB 12) (aB 9)) (eC (.int 1))) (eC (.int 1))))
       (aI (aN 14 (aC lL (aC p6 (aC a9 (aB 2) (aB 9)) (aB 9)) (aB 9)))
       (aN 13 (jD (aB 13) (jD (aC gM (aC eZ (aC a9 (aB 2) (aB 9)) (aB 10)) (aC a9 (aB 2) (aB 9))) (aC gM (aC eZ (aB 14) (aB 12)) (eC (.int 0)))))))
       cJ)
def mQ(x:Q0a)(h s n:Nat):Bool:=(dj n).all λb=>!(h ^^^ s).testBit b||(Zv (Mk x b &&& h=Mk x b)&&Zv (((Mk x b >>> b) <<< b) &&& (h ^^^ s)=0))
def RZ(hx:Ord.Rows x)(hn:x.length<=9){k:Int}{h s:Nat}{s4 s5 s6 s7 s8 s9 sO CK:Sv}:Nx (Dq (SC x k s4 s5 s6 s7 s8 s9 (.ro (.int (h:Int))) sO (.ro (.int ((h ^^^ s:Nat):Int))) (.ro (.bl ae)) CK)) λρ=>∃v9 sP:Sv,ρ=SC x k s4 s5 s6 s7 s8 v9 (.ro (.int (h:Int))) sO (.ro (.int ((h ^^^ s:Nat):Int))) (.ro (.bl (fQ x h s))) sP:=by
 refine iC x.length (λb ρ=>∃v9 sP:Sv,ρ=SC x k s4 s5 s6 s7 s8 v9 (.ro (.int (h:Int))) sO (.ro (.int ((h ^^^ s:Nat):Int))) (.ro (.bl (mQ x h s b))) sP) rfl (by omega) ⟨_,_,rfl⟩ (λb ρ hb ⟨v9,sP,e⟩=>?_) λρ h=>h;subst e;have hsucc:mQ x h s (b+1)=(mQ x h s b&&(!(h ^^^ s).testBit b||(Zv (Mk x b &&& h=Mk x b)&&Zv (((Mk x b >>> b) <<< b) &&& (h ^^^ s)=0)))):=by unfold mQ;rw[a2e,List.all_append];simp
 refine⟨_,rfl,?_⟩;refine g7 ((h ^^^ s).testBit b) ?_ (λht=>?_) λht=>?_
 .refine l8 (d:=.bl ((h ^^^ s).testBit b)) (aK (w_ (h:=h ^^^ s) (b:=b) rfl rfl) rfl ?_) rfl;rw[cV];cases (h ^^^ s).testBit b<;>rfl
 .have hM:=RY hx hn hb;have Ae:Mk x b >>> b<512:=a13 (by rw[Ge];exact Nat.div_le_self _ _) hM;refine dH (SC x k s4 s5 s6 s7 s8 (.ro (.int (b:Int))) (.ro (.int (h:Int))) sO (.ro (.int ((h ^^^ s:Nat):Int))) (.ro (.bl (mQ x h s b))) (.ro (.int (((Mk x b >>> b) <<< b:Nat):Int)))) (eD _ (aK (x:=.int ((Mk x b >>> b:Nat):Int)) (y:=.int (b:Int)) (aK (x:=.int (Mk x b:Int)) (y:=.int (b:Int)) (aK (x:=aG (wV x)) (y:=.int (b:Int)) rfl rfl (CJ hb)) rfl (LB _ _)) rfl (qI (by omega) (by omega))) rfl) ?_;refine lN (.bl (mQ x h s (b+1))) ?_ ⟨_,_,rfl⟩;rw[hsucc,ht];have e1:aC gM (aC eZ (aC a9 (aB 2) (aB 9)) (aB 10)) (aC a9 (aB 2) (aB 9)) (gJ (SC x k s4 s5 s6 s7 s8 (.ro (.int (b:Int))) (.ro (.int (h:Int))) sO (.ro (.int ((h ^^^ s:Nat):Int))) (.ro (.bl (mQ x h s b))) (.ro (.int (((Mk x b >>> b) <<< b:Nat):Int)))))=aa (.bl (Zv (Mk x b &&& h=Mk x b))):=by refine aK (x:=.int ((Mk x b &&& h:Nat):Int)) (y:=.int (Mk x b:Int)) (aK (x:=.int (Mk x b:Int)) (y:=.int (h:Int)) (aK (x:=aG (wV x)) (y:=.int (b:Int)) rfl rfl (CJ hb)) rfl (qH _ _)) (aK (x:=aG (wV x)) (y:=.int (b:Int)) rfl rfl (CJ hb)) ?_;rw[cV];congr 2;exact decide_eq_decide.2 (by omega)
  have e2:aC gM (aC eZ (aB 14) (aB 12)) (eC (.int 0)) (gJ (SC x k s4 s5 s6 s7 s8 (.ro (.int (b:Int))) (.ro (.int (h:Int))) sO (.ro (.int ((h ^^^ s:Nat):Int))) (.ro (.bl (mQ x h s b))) (.ro (.int (((Mk x b >>> b) <<< b:Nat):Int)))))=aa (.bl (Zv (((Mk x b >>> b) <<< b) &&& (h ^^^ s)=0))):=by refine aK (x:=.int ((((Mk x b >>> b) <<< b) &&& (h ^^^ s):Nat):Int)) (y:=.int 0) (aK (x:=.int (((Mk x b >>> b) <<< b:Nat):Int)) (y:=.int ((h ^^^ s:Nat):Int)) rfl rfl (qH _ _)) rfl ?_;rw[cV];congr 2;exact decide_eq_decide.2 (by omega)
  have e3:jD (aC gM (aC eZ (aC a9 (aB 2) (aB 9)) (aB 10)) (aC a9 (aB 2) (aB 9))) (aC gM (aC eZ (aB 14) (aB 12)) (eC (.int 0))) (gJ (SC x k s4 s5 s6 s7 s8 (.ro (.int (b:Int))) (.ro (.int (h:Int))) sO (.ro (.int ((h ^^^ s:Nat):Int))) (.ro (.bl (mQ x h s b))) (.ro (.int (((Mk x b >>> b) <<< b:Nat):Int)))))=aa (.bl (Zv (Mk x b &&& h=Mk x b)&&Zv (((Mk x b >>> b) <<< b) &&& (h ^^^ s)=0))):=by
   unfold jD;rw[e1,cz,mM,cz]
   cases Zv (Mk x b &&& h=Mk x b) with
   |false=>rfl
   |true=>rw[Z_ rfl,e2];rfl
  unfold jD;show((aa (D.bl (mQ x h s b))).bind _)=_;rw[cz,mM,cz]
  cases mQ x h s b with
  |false=>rfl
  |true =>
   rw[Z_ rfl];simp only[rm,vd,oh];exact e3
 .refine gR ⟨.ro (.int (b:Int)),sP,?_⟩;rw[hsucc,ht];simp
abbrev Bt:SF:=eO (tV (aB 13))
      (gC 6 (dZ (aC bA (mK (aB 6) (aB 10) (eC (.int 0))) (aC kU (aB 4) (aB 7)))) (aB 10))
      cJ
abbrev NK:SF:=aI (aN 12 (aC KN (aB 10) (aB 7)))
     (aI (aN 13 (eC (.bl ae)))
     (aI Dq Bt))
abbrev AA:SF:=aI (aN 8 (dC (aA (dG (aA (aB 7) (aA (eC (.int 0)) aE))) aE)))
    (aI LC
    (b9 (cC (aB 8)) (zN 10 11) NK))
def wz(h:Nat):jT (.int (h:Int))=aa (kN h):=rfl
def R3(A:Tab)(q:Nat->aw->Prop)(h:Nat):EB (.cD q (kdT A).1 (kdT A).2) (.int (h:Int)) (.int 0)=aa (.int ((dU A h).getD 0)):=by show((jT (.int (h:Int))).bind λk=>if kindB (kdT A).1 k=ae then aa ((bP (kdT A).1 (kdT A).2 k).getD (.int 0)) else af)=_;rw[wz,cz,Z_ (CG A h),RV];cases dU A h<;>rfl
def wy(e:dU A h=aa v):kU (.cD q (kdT A).1 (kdT A).2) (.int (h:Int))=aa (.int v):=by show((jT (.int (h:Int))).bind λk=>if kindB (kdT A).1 k=ae then bP (kdT A).1 (kdT A).2 k else af)=_;rw[wz,cz,Z_ (CG A h),RV,e];rfl
def dT(q:Nat->aw->Prop)(A:Tab):D:=.cD q (kdT A).1 (kdT A).2
theorem X1{x:Q0a}{k:Int}{A F:Tab}{qa qf:Nat->aw->Prop}{s h:Nat}{v:Int}{s5 s8 s9 sO ij CK:Sv}(hv:dU A s=aa v)(hF:F.length<16000000)(g:Bool):
  Nx (Bt (SC x k (.ro (dT qa A)) s5 (.ow (dT qf F)) (.ro (.int (s:Int))) s8 s9 (.ro (.int (h:Int))) sO ij (.ro (.bl g)) CK)) λρ=>∃q',ρ=SC x k (.ro (dT qa A)) s5 (.ow (dT q' (if g=ae then oH F h ((dU F h).getD 0+v) else F))) (.ro (.int (s:Int))) s8 s9 (.ro (.int (h:Int))) sO ij (.ro (.bl g)) CK:=by
 refine g7 g rfl (λhg=>?_) λhg=>?_
 .subst hg;refine⟨_,?_,adr qf,rfl⟩;have ex:aC bA (mK (aB 6) (aB 10) (eC (.int 0))) (aC kU (aB 4) (aB 7)) (bW (SC x k (.ro (dT qa A)) s5 (.ow (dT qf F)) (.ro (.int (s:Int))) s8 s9 (.ro (.int (h:Int))) sO ij (.ro (.bl ae)) CK))=aa (.int ((dU F h).getD 0+v)):=by refine aK (x:=.int ((dU F h).getD 0)) (y:=.int v) ?_ (aK (x:=dT qa A) (y:=.int (s:Int)) rfl rfl (wy hv)) fB;show EB (dT qf F) (.int (h:Int)) (.int 0)=_;exact R3 F qf h
  have e0:gC 6 (dZ (aC bA (mK (aB 6) (aB 10) (eC (.int 0))) (aC kU (aB 4) (aB 7)))) (aB 10) (SC x k (.ro (dT qa A)) s5 (.ow (dT qf F)) (.ro (.int (s:Int))) s8 s9 (.ro (.int (h:Int))) sO ij (.ro (.bl ae)) CK)=(match (if kindB (kdT F).1 (kN h)=ae/\(kdT F).2.length<oN then aa ((SC x k (.ro (dT qa A)) s5 (.ow (dT qf F)) (.ro (.int (s:Int))) s8 s9 (.ro (.int (h:Int))) sO ij (.ro (.bl ae)) CK).set 6 (.ow (.cD (adr qf) (d7 (kdT F).1 (kdT F).2 (kN h) (.int ((dU F h).getD 0+v))).1 (d7 (kdT F).1 (kdT F).2 (kN h) (.int ((dU F h).getD 0+v))).2))) else af) with
   |some ρ'=>.nx ρ'
   |none=>.no):=by
   unfold gC dZ;rw[ex];rfl
  rw[e0,Z_ ⟨CG F h,by unfold kdT oN;rw[az];omega⟩,Dr];rfl
 .subst hg;exact gR ⟨qf,rfl⟩
theorem R4(hx:Ord.Rows x)(hn:x.length<=9){k:Int}{A F:Tab}{qa qf:Nat->aw->Prop}{s:Nat}{v:Int}{s5 s8 s9 QK sO ij W3 CK:Sv}(hv:dU A s=aa v)(hs:s<2^x.length)(o:sM x.length F):
  Nx (AA (SC x k (.ro (dT qa A)) s5 (.ow (dT qf F)) (.ro (.int (s:Int))) s8 s9 QK sO ij W3 CK)) λρ=>∃q' v8 v9 v10 v11 CL AB sP,ρ=SC x k (.ro (dT qa A)) s5 (.ow (dT q' (EZ x F (s,v)))) (.ro (.int (s:Int))) v8 v9 v10 v11 CL AB sP:=by
 refine dH (SC x k (.ro (dT qa A)) s5 (.ow (dT qf F)) (.ro (.int (s:Int))) (.ro (.lst [pr (s,0)])) s9 QK sO ij W3 CK) rfl ?_;refine lM _ (HV hn) λρ hq0=>?_;obtain⟨L,v9,hL,e⟩:=hq0;subst e;have hgo:∀(L:List (Nat×Nat)) (F:Tab) (qf:Nat->aw->Prop) (v9 v10 v11 CL AB sP:Sv) (s8:Sv),sM x.length F->(∀p∈L,p.1<2^x.length) ->∃q' w9 jw jv i_ iz ig,eT (zN 10 11) NK (L.map pr) (SC x k (.ro (dT qa A)) s5 (.ow (dT qf F)) (.ro (.int (s:Int))) s8 v9 v10 v11 CL AB sP)=.nx (SC x k (.ro (dT qa A)) s5 (.ow (dT q' (wU v F ((L.map (·.1)).filter λh=>fQ x h s)))) (.ro (.int (s:Int))) s8 w9 jw jv i_ iz ig):=by
  intro L
  induction L with
  |nil=>intro F qf v9 v10 v11 CL AB sP s8 o _;exact⟨qf,v9,v10,v11,CL,AB,sP,rfl⟩
  |cons p L ih =>
   intro F qf v9 v10 v11 CL AB sP s8 o hb;have hone:Nx (NK (SC x k (.ro (dT qa A)) s5 (.ow (dT qf F)) (.ro (.int (s:Int))) s8 v9 (.ro (.int (p.1:Int))) (.ro (.int (p.2:Int))) CL AB sP)) λρ=>∃q' w9 i_ iz ig,ρ=SC x k (.ro (dT qa A)) s5 (.ow (dT q' (if fQ x p.1 s=ae then oH F p.1 ((dU F p.1).getD 0+v) else F))) (.ro (.int (s:Int))) s8 w9 (.ro (.int (p.1:Int))) (.ro (.int (p.2:Int))) i_ iz ig:=by refine dH (SC x k (.ro (dT qa A)) s5 (.ow (dT qf F)) (.ro (.int (s:Int))) s8 v9 (.ro (.int (p.1:Int))) (.ro (.int (p.2:Int))) (.ro (.int ((p.1 ^^^ s:Nat):Int))) AB sP) (eD _ (aK rfl rfl (RX p.1 s)) rfl) ?_;refine dH (SC x k (.ro (dT qa A)) s5 (.ow (dT qf F)) (.ro (.int (s:Int))) s8 v9 (.ro (.int (p.1:Int))) (.ro (.int (p.2:Int))) (.ro (.int ((p.1 ^^^ s:Nat):Int))) (.ro (.bl ae)) sP) rfl ?_;refine lM _ (RZ hx hn) λρ hq1=>?_;obtain⟨w9,ig,e⟩:=hq1;subst e;have hl:=K9 o;have h2:(2:Nat)^x.length<=2^9:=mz (by decide) hn;obtain⟨ρ',e,q',e'⟩:=X1 (x:=x) (k:=k) (A:=A) (F:=F) (qa:=qa) (qf:=qf) (s:=s) (h:=p.1) (v:=v) (s5:=s5) (s8:=s8) (s9:=w9) (sO:=.ro (.int (p.2:Int))) (ij:=.ro (.int ((p.1 ^^^ s:Nat):Int))) (CK:=ig) hv (by omega) (fQ x p.1 s);exact⟨ρ',e,q',w9,_,_,ig,e'⟩
   obtain⟨ρ1,e1,q1,w9,i_,iz,ig,e2⟩:=hone;subst e2;have o1:sM x.length (if fQ x p.1 s=ae then oH F p.1 ((dU F p.1).getD 0+v) else F):=by
    split
    .exact o.put (hb p b_) _
    .exact o
   obtain⟨q',u9,W4,W5,W6,W7,W8,e3⟩:=ih _ q1 w9 (.ro (.int (p.1:Int))) (.ro (.int (p.2:Int))) i_ iz ig s8 o1 λr hr=>hb r (dg _ hr);refine⟨q',u9,W4,W5,W6,W7,W8,?_⟩
   have e4:eT (zN 10 11) NK ((p::L).map pr) (SC x k (.ro (dT qa A)) s5 (.ow (dT qf F)) (.ro (.int (s:Int))) s8 v9 v10 v11 CL AB sP)=(match NK (SC x k (.ro (dT qa A)) s5 (.ow (dT qf F)) (.ro (.int (s:Int))) s8 v9 (.ro (.int (p.1:Int))) (.ro (.int (p.2:Int))) CL AB sP) with
    |.nx ρ2=>eT (zN 10 11) NK (L.map pr) ρ2
    |o=>o):=rfl
   rw[e4,e1];dsimp only;rw[e3,ba,ny];cases fQ x p.1 s<;>rfl
 obtain⟨q',w9,jw,jv,i_,iz,ig,e⟩:=hgo L F qf v9 QK sO ij W3 CK (.ro (.lst (L.map pr))) o λp hp=>by
  have:p.1∈states x.length s:=by rw[<- hL];exact qz hp
  exact k8 hs x.length (bc _) p.1 this
 rw[hL] at e;exact⟨_,HI (L.map pr) rfl e,q',_,w9,jw,jv,i_,iz,ig,rfl⟩
def R5(A:Tab)(q:Nat->aw->Prop):QX (dT q A)=aa (A.map λp=>D.int (p.1:Int)):=by show aa (((A.map λq=>kN q.1)).map mh)=_;rw[dq];rfl
theorem get_mem(nd:(A.map (·.1)).Nodup)(hp:p∈A):dU A p.1=aa p.2:=by
 induction A with
 |nil=>cases hp
 |cons q A ih =>
  rw[ba,gu] at nd;unfold dU;rw[ib];by_cases e:q.1=p.1
  .rcases bu.1 hp with z|z
   .subst z;simp
   .exact Zw (gj.2 ⟨p,z,e.symm⟩) nd.1
  .rcases bu.1 hp with z|z
   .exact Zw (by rw[z]) e
   .rw [Zy e];exact ih nd.2 z
def NL(hx:Ord.Rows x)(hn:x.length<=9){k:Nat}(hk:k<1000000):k6 [aJ x,.int k]=.ok (.int (DV x.length 0 (shares x) k)):=by
 rw[<- NJ hx k];unfold k6;have main:Rt ((aI (aN 2 (aH LL.fI (aA (aB 0) aE)))
  (aI (aN 3 (bI aW (aA (aB 0) aE)))
  (aI (rS 4 (eC (.int 0)) (eC (.int 1)))
  (aI (b9 (aR (aA (aB 1) aE)) (gK 5)
   (aI (vS 6)
   (aI (HG 4 (b9 (vR (aB 4)) (gK 7) AA))
   (zP 4 6))))
  (bB (mK (aB 4) (aC dS (aC lL (eC (.int 1)) (aB 3)) (eC (.int 1))) (eC (.int 0)))))))) (c6 15 [aJ x,.int k])) λd=>d=.int ((dU (dN x k) (2^x.length-1)).getD 0):=by
  refine bN [.ro (aJ x),.ro (.int k),.ro (aG (wV x)),.no,.no,.no,.no,.no,.no,.no,.no,.no,.no,.no,.no] (eD _ (kF rfl (E1 hx hn)) rfl) ?_;refine bN (SC x k .no .no .no .no .no .no .no .no .no .no .no) (eD (.int x.length) (c8 rfl eJ) rfl) ?_;refine bN (SC x k (.ow (dT iL [(0,1)])) .no .no .no .no .no .no .no .no .no .no) rfl ?_;refine f7 (λρ=>∃q v5 v6 v7 v8 v9 v10 v11 CL AB sP,ρ=SC x k (.ow (dT q (dN x k))) v5 v6 v7 v8 v9 v10 v11 CL AB sP) ?_ λρ ⟨q,v5,v6,v7,v8,v9,v10,v11,CL,AB,sP,e⟩=>?_
  .refine iC k (λi ρ=>∃q v5 v6 v7 v8 v9 v10 v11 CL AB sP,ρ=SC x k (.ow (dT q (dN x i))) v5 v6 v7 v8 v9 v10 v11 CL AB sP) rfl (by omega) ⟨_,_,_,_,_,_,_,_,_,_,_,rfl⟩ (λi ρ hi ⟨q,v5,v6,v7,v8,v9,v10,v11,CL,AB,sP,e⟩=>?_) λρ h=>h;subst e;have oA:=(sN hx i 0).1;refine⟨_,rfl,dH (SC x k (.ow (dT q (dN x i))) (.ro (.int i)) (.ow (dT iL [])) v7 v8 v9 v10 v11 CL AB sP) rfl ?_⟩;refine lM (λρ=>∃q' u7 u8 u9 W4 W5 W6 W7 W8,ρ=SC x k (.ro (dT q (dN x i))) (.ro (.int i)) (.ow (dT q' (stepT x (dN x i)))) u7 u8 u9 W4 W5 W6 W7 W8) ?_ λρ ⟨q',u7,u8,u9,W4,W5,W6,W7,W8,e⟩=>?_
   .have hgo:∀(B F:Tab) (qf:Nat->aw->Prop) (w7 w8 w9 jw jv i_ iz ig:Sv),sM x.length F->(∀p∈B,p∈dN x i) ->∃q' u7 u8 u9 W4 W5 W6 W7 W8,eT (gK 7) AA (B.map λp=>D.int (p.1:Int)) (SC x k (.ro (dT q (dN x i))) (.ro (.int i)) (.ow (dT qf F)) w7 w8 w9 jw jv i_ iz ig)=.nx (SC x k (.ro (dT q (dN x i))) (.ro (.int i)) (.ow (dT q' (B.foldl (EZ x) F))) u7 u8 u9 W4 W5 W6 W7 W8):=by
     intro B
     induction B with
     |nil=>intro F qf w7 w8 w9 jw jv i_ iz ig _ _;exact⟨qf,w7,w8,w9,jw,jv,i_,iz,ig,rfl⟩
     |cons p B ih =>
      intro F qf w7 w8 w9 jw jv i_ iz ig o hB;have hp:=hB p b_;obtain⟨ρ1,e1,q1,t8,t9,Hx,Hw,Hv,Hu,Ht,e2⟩:=R4 hx hn (k:=k) (A:=dN x i) (F:=F) (qa:=q) (qf:=qf) (s:=p.1) (v:=p.2) (s5:=.ro (.int i)) (s8:=w8) (s9:=w9) (QK:=jw) (sO:=jv) (ij:=i_) (W3:=iz) (CK:=ig) (get_mem oA.nd hp) (oA.lt p hp) o;subst e2;have o1:sM x.length (EZ x F (p.1,p.2)):=(CH (λ_=>0) p.2 _ F o λh hh=>k8 (oA.lt p hp) x.length (bc _) h (f_.1 hh).1).1;obtain⟨q',u7,u8,u9,W4,W5,W6,W7,W8,e3⟩:=ih (EZ x F (p.1,p.2)) q1 (.ro (.int (p.1:Int))) t8 t9 Hx Hw Hv Hu Ht o1 λr hr=>hB r (dg _ hr);refine⟨q',u7,u8,u9,W4,W5,W6,W7,W8,?_⟩
      have e4:eT (gK 7) AA ((p::B).map λp=>D.int (p.1:Int)) (SC x k (.ro (dT q (dN x i))) (.ro (.int i)) (.ow (dT qf F)) w7 w8 w9 jw jv i_ iz ig)=(match AA (SC x k (.ro (dT q (dN x i))) (.ro (.int i)) (.ow (dT qf F)) (.ro (.int (p.1:Int))) w8 w9 jw jv i_ iz ig) with
       |.nx ρ2=>eT (gK 7) AA (B.map λp=>D.int (p.1:Int)) ρ2
       |o=>o):=rfl
      rw[e4,e1];exact e3
    obtain⟨q',u7,u8,u9,W4,W5,W6,W7,W8,e⟩:=hgo (dN x i) [] iL v7 v8 v9 v10 v11 CL AB sP ⟨kh,λ_ h=>by cases h⟩ λ_ h=>h;refine⟨_,?_,q',u7,u8,u9,W4,W5,W6,W7,W8,rfl⟩;show b9 _ _ _ (SC x k (.ro (dT q (dN x i))) (.ro (.int i)) (.ow (dT iL [])) v7 v8 v9 v10 v11 CL AB sP)=_;exact HI _ (R5 (dN x i) q) e
   .subst e;exact⟨_,rfl,q',_,_,_,_,_,_,_,_,_,_,rfl⟩
  .subst e;refine jJ _ ?_ rfl;have e1:aC dS (aC lL (eC (.int 1)) (aB 3)) (eC (.int 1)) (bW (SC x k (.ow (dT q (dN x k))) v5 v6 v7 v8 v9 v10 v11 CL AB sP))=aa (.int ((2^x.length-1:Nat):Int)):=by refine aK (x:=.int ((2^x.length:Nat):Int)) (y:=.int 1) (aK (x:=.int ((1:Nat):Int)) (y:=.int (x.length:Int)) rfl rfl (by rw[qI (by decide) (by omega),uZ])) rfl ?_;rw[kW];have:=yx x.length;congr 2;omega
   unfold mK;rw[e1];show EB (dT q (dN x k)) (.int ((2^x.length-1:Nat):Int)) (.int 0)=_;exact R3 _ _ _
 obtain⟨d,e,rfl⟩:=kE rfl main;exact e
end
end LL
namespace K25
open L3 L4
def uL:fY:=bY 3 2
  (aI (aN 2 (bI aW (aA (aB 0) aE)))
  (bB (bI uI (aA (bJ 1 [0,2,1] (aR (aA (aB 2) aE)) (g1 0) cM (aC mulM (aC a9 (aB 1) (aB 0)) (aH LL.pI (aA (aC dS (aC dS (aC bA (aB 3) (aB 2)) (eC (.int 1))) (aB 0)) (aA (aB 2) aE))))) aE))))
def CM:fY:=bY 2 2
  (bB (bI uI (aA (bJ 1 [0,1] (aR (aA (bI aW (aA (aB 0) aE)) aE)) (g1 0) cM (aC mulM (aC a9 (aB 1) (aB 0)) (aH LL.pI (aA (aB 2) (aA (aB 0) aE))))) aE)))
def NM:fY:=bY 4 2
  (aI (aN 2 (eC (.int 0)))
  (aI (b9 (M4 (aA (aB 0) aE)) (gK 3)
   (aN 2 (aC bA (aC mulM (aB 2) (aB 1)) (aB 3))))
  (bB (aB 2))))
def y4:fY:=bY 3 1
  (aI (aN 1 (eC (.int 1)))
  (aI (b9 (aR (aA (aB 0) aE)) (gK 2)
   (aN 1 (aC mulM (aB 1) (aC bA (aB 2) (eC (.int 1))))))
  (bB (aB 1))))
def y6:fY:=bY 7 5
  (aI (aN 5 (aH LL.f9 (aA (aB 0) (aA (aB 4) aE))))
  (aI (eO (yN (jC (tV (jF "int" (aB 5)))) (tV (jF "bool" (aB 5))))
   (bB (eC (.bl ag)))
   cJ)
  (aI (aN 6 (eC (.int 1)))
  (aI (eO (tV (aC rN (bI aW (aA (aB 0) aE)) (eC (.int 0))))
   (aN 6 (aH uL (aA (aB 1) (aA (aB 4) aE))))
   cJ)
  (aI (eO (yN (tV (aC W2 (aB 5) (aB 6))) (tV (aC W2 (aH CM (aA (aB 2) (aA (aB 4) aE))) (aB 5))))
   (bB (eC (.bl ag)))
   cJ)
  (bB (aC gM (aH NM (aA (aB 3) (aA (aB 4) aE))) (aC mulM (aB 5) (aH y4 (aA (bI aW (aA (aB 0) aE)) aE))))))))))
def qB:fY:=bY 10 1
  (aI (aN 1 (aH LL.nO (aA (aB 0) (aA (eC (.int 0)) (aA (eC (.int 9)) (aA (eC (.int 100003)) aE))))))
  (aI (aN 2 (bI aW (aA (aB 1) aE)))
  (aI (aN 3 (aH LL.bQ (aA (aB 1) aE)))
  (aI (aN 4 (aH LL.qE (aA (aB 1) aE)))
  (aI (aN 5 (aH LL.B6 (aA (aB 1) aE)))
  (aI (eO (yN (jC (tV (aH LL.sG (aA (aB 3) (aA (bI vL (aA (eC (.int 1)) (aA (aB 2) aE))) aE))))) (yN (jC (tV (aH LL.sG (aA (aB 4) (aA (aC bA (aB 2) (eC (.int 1))) aE))))) (jC (tV (aH LL.sG (aA (aB 5) (aA (aC bA (aB 2) (eC (.int 1))) aE)))))))
   (bB (eC (.bl ag)))
   cJ)
  (aI (eO (yN (tV (aC ltM (bI Ea (aA (aB 3) aE)) (eC (.int 0)))) (yN (tV (aC ltM (bI Ea (aA (aB 4) aE)) (eC (.int 0)))) (yN (tV (aC W2 (bI Xz (aA (aB 3) aE)) (aC a9 (aB 4) (jE (eC (.int 1)))))) (tV (aC W2 (aC a9 (aB 5) (jE (eC (.int 1)))) (aC a9 (aB 4) (jE (eC (.int 1)))))))))
   (bB (eC (.bl ag)))
   cJ)
  (aI (aN 6 (aC cZ (aC a9 (aH LL.bR (aA (aH LL.bT (aA (aB 0) (aA (eC (.int 2)) aE))) (aA (eC (.int 1)) (aA (eC (.int 200017)) aE)))) (eC (.int 0))) (eC (.int 5))))
  (aI (b9 (cC (dG (aA (aB 6) (aA (aH LL.NC (aA (aB 0) (aA (eC (.int 3)) (aA (eC (.int 300007)) aE)))) aE)))) (gK 7)
   (eO (jC (tV (aH y6 (aA (aB 1) (aA (aB 3) (aA (aB 4) (aA (aB 5) (aA (aB 7) aE))))))))
    (bB (eC (.bl ag)))
    cJ))
  (aI (eO (tV (aC gM (aB 2) (eC (.int 0))))
   (bB (aC yT (aB 4) (dG (aA (eC (.int 1)) aE))))
   cJ)
  (aI (fG 8 (dC (aA (eC (.int 0)) aE)))
  (aI (b9 (aR (aA (eC (.int 1)) (aA (aC bA (aB 2) (eC (.int 1))) aE))) (gK 9)
   (sX (kR 8 eQ (bG (bI uI (aA (bJ 1 [3,2,9] (aR (aA (aB 9) aE)) (g1 0) cM (aC mulM (aC a9 (aB 1) (aB 0)) (aH LL.pI (aA (aC dS (aC dS (aB 2) (eC (.int 1))) (aB 0)) (aA (aC dS (aC dS (aB 3) (eC (.int 1))) (aB 0)) aE))))) aE))))))
  (bB (aC Ro (bI pX (aA (aB 4) aE)) (aB 8)))))))))))))))
open K24 LL
def X2{α:Type}(g:Int->Int->α)(w:Q0e):w.zipIdx.map (λp=>g p.1 p.2)=(aY 0 w.length).map λd=>g (at0 w d) d:=by
 apply Hb;intro j;rw[cg,cg,Gw];by_cases h:j<w.length
 .rw [jI h,getElem?_eq_getElem h];simp[at0,h]
 .rw [kc (by omega),kc (by rw[aO];omega)];rfl
section
variable{x:Q0a}
def Xr(x:Q0a):List Int:=Dv x.length (shares x) 0 (dm (x.length+1) 0)
end
abbrev st(ns:Q0e)(x:Q0a)(nr:Int)(v7 v8 v9:Sv):bV:=[.ro (.fX ns),.ro (aJ x),.ro (.int x.length),.ro (tupI (shares x)),.ro (tupI (aBh x)),.ro (tupI (Xr x)),.ro (.int nr),v7,v8,v9]
end K25
namespace LL
open L3 L4 K24
section
variable(x:Q0a)
def cnt:Nat->List Int->Int
 |0,_=>1
 |m+1,a=>((aP x a).map λt=>cnt m (aL a t)).sum
def gls:Nat->List (List Int)
 |0=>[[]]
 |i+1=>(gls i).flatMap λw=>(aP x w).map λt=>w++[t]
end
section
variable{x:Q0a}
theorem E2:∀{a b:Q0e},a.length=b.length->(jU a b).sum=a.sum+b.sum
 |[],[],_=>rfl
 |[],_::_,h=>by simp at h
 |_::_,[],h=>by simp at h
 |y::a,z::b,h=>by have ih:=E2 (a:=a) (b:=b) (by simpa using h);show y+z+(jU a b).sum=_;rw[ih,dh,dh];omega
def X3(h:w.getLast?=aa 0):(iE w).sum=w.sum:=by obtain⟨l,hl⟩:=a2l.1 h;subst hl;unfold iE;simp
theorem HW:∀(m:Nat) (a:Q0e) (l:Int),a.length+m=x.length->(l=-1\/l∈a)->(Sh x m a l).sum=cnt x m a
 |0,a,l,_,_=>by
  show(sI x.length).sum=1;unfold sI;rw[dh];have:(dm (max x.length 1-1) (0:Int)).sum=0:=by simp
  rw[this];rfl
 |m+1,a,l,hl,hm=>by
  rw[j3];have go:∀(ts acc:Q0e),(∀t∈ts,t∈aP x a)->acc.length=max x.length 1->(ts.foldl (fP x m a l) acc).sum=acc.sum+(ts.map λt=>cnt x m (aL a t)).sum:=by
   intro ts
   induction ts with
   |nil=>intro acc _ _;simp
   |cons t ts ih =>
    intro acc ht h;have hS:=gE x m (aL a t) t;have tr:=ht t b_;have t0:=k7 tr;have tn:=(eX tr).2;have hlen:acc.length=(if t<l then iE (Sh x m (aL a t) t) else Sh x m (aL a t) t).length:=by
     rw[h];split
     .rw [iQ (by omega)];exact hS.symm
     .exact hS.symm
    have es:(if t<l then iE (Sh x m (aL a t) t) else Sh x m (aL a t) t).sum=cnt x m (aL a t):=by
     rw[<- HW m (aL a t) t (by rw[qG];omega) (.inr (eU.2 (.inr rfl)))];split
     .rename_i h1;refine X3 ?_;have la:l∈a:=hm.resolve_left (by omega)
      have a1:1<=a.length:=by cases a with
       |nil=>cases la
       |cons _ _=>simp
      have hz:=EV x m (aL a t) t;rw[a2m,hS];have hlt:max x.length 1-1<(Sh x m (aL a t) t).length:=by omega
      rw[getElem?_eq_getElem hlt];congr 1;exact hz _ _ (getElem?_eq_getElem hlt) (by omega)
     .rfl
    rw[jk,ih _ (λu hu=>ht u (dg _ hu)) (by unfold fP;rw[gD hlen,h]),ba,dh];unfold fP;rw[E2 hlen,es];omega
  have:=go (aP x a) (tY x.length) (λt h=>h) (iF _);rw[this];have e0:(tY x.length).sum=0:=by unfold tY;simp
  rw[e0,il];rfl
theorem sQ:∀(m:Nat) {a b:Q0e},(∀t,t∈a↔t∈b)->cnt x m a=cnt x m b
 |0,a,b,_=>rfl
 |m+1,a,b,h=>by show((aP x a).map λt=>cnt x m (aL a t)).sum=((aP x b).map λt=>cnt x m (aL b t)).sum;rw[mO h];congr 1;refine gd λt _=>sQ m λu=>?_;rw[eU,eU,h u]
theorem LD:∀(i r:Nat),((gls x i).map (cnt x r)).sum=cnt x (i+r) []
 |0,r=>by simp[gls]
 |i+1,r=>by
  have ih:=LD i (r+1);rw[show i+1+r=i+(r+1) by omega,<- ih];have go:∀L:Q0a,((L.flatMap λw=>(aP x w).map λt=>w++[t]).map (cnt x r)).sum=(L.map (cnt x (r+1))).sum:=by
   intro L
   induction L with
   |nil=>rfl
   |cons w L ihL =>
    rw[uw,cy,ng,ihL,ba,dh,dq];congr 1;show _=((aP x w).map λt=>cnt x r (aL w t)).sum;congr 1;refine gd λt _=>sQ r λu=>?_;rw[eU];simp
  exact go _
def LF:((gls x x.length).length:Int)=(shares x).sum:=by
 have h:=LD (x:=x) x.length 0;have e:((gls x x.length).map (cnt x 0)).sum=((gls x x.length).length:Int):=by
  have:∀L:Q0a,(L.map (cnt x 0)).sum=(L.length:Int):=by
   intro L
   induction L with
   |nil=>rfl
   |cons w L ih =>
    rw[ba,dh,ih,bx];show(1:Int)+_=_;omega
  exact this _
 rw[<- e,h,zd,<- HW x.length [] (-1) (by simp) (.inl rfl)];unfold shares;rw[B9 x x.length [] (l:=-1) (l':=0) (by decide) (by decide)]
end
theorem sum_map_add{α:Type}(f g:α->Int):∀L:List α,(L.map λa=>f a+g a).sum=(L.map f).sum+(L.map g).sum
 |[]=>rfl
 |a::L=>by have ih:=sum_map_add f g L;simp only[ba,dh,ih];omega
theorem lT{α:Type}:∀L:List α,(L.map λ_=>(0:Int)).sum=0
 |[]=>rfl
 |a::L=>by rw[ba,dh,lT L];rfl
theorem AD{α β:Type}(f:α->β->Int)(M:List β):∀L:List α,(L.map λa=>(M.map λb=>f a b).sum).sum=(M.map λb=>(L.map λa=>f a b).sum).sum
 |[]=>by simp only[lh,a2d];rw[lT]
 |a::L=>by have ih:=AD f M L;simp only[ba,dh,ih];rw[<- sum_map_add]
theorem sR{α:Type}(c:Int)(f:α->Int):∀L:List α,(L.map λa=>c*f a).sum=c*(L.map f).sum
 |[]=>by simp
 |a::L=>by have ih:=sR c f L;simp only[ba,dh,ih,Hh]
theorem E3{α:Type}(p:α->Bool)(f:α->Int):∀L:List α,((L.filter p).map f).sum=(L.map λa=>if p a=ae then f a else 0).sum
 |[]=>rfl
 |a::L=>by
  have ih:=E3 p f L;by_cases h:p a=ae
  .rw [a2s h,ba,dh,ba,dh,ih,Z_ h]
  .rw [a2t h,ba,dh,ih,Zz h,il]
section
variable(x:Q0a)
def SF:Nat->List Int->Int->Int->Int
 |0,_,_,j=>if j=0 then 1 else 0
 |m+1,a,l,j=>((aP x a).map λt=>SF m (aL a t) t (j-if t<l then 1 else 0)).sum
end
section
variable{x:Q0a}
theorem R6:∀(m:Nat) (a:Q0e) (l j:Int),j<0->SF x m a l j=0
 |0,a,l,j,h=>Zz (by omega)
 |m+1,a,l,j,h=>by have e:(λt=>SF x m (aL a t) t (j-if t<l then 1 else 0))=λ_=>0:=funext λt=>R6 m _ _ _ (by split<;>omega);show((aP x a).map _).sum=0;rw[e,lT]
theorem E4:∀(m:Nat) {a b:Q0e} (l j:Int),(∀t,t∈a↔t∈b)->SF x m a l j=SF x m b l j
 |0,a,b,l,j,_=>rfl
 |m+1,a,b,l,j,h=>by show((aP x a).map λt=>SF x m (aL a t) t (j-if t<l then 1 else 0)).sum=((aP x b).map λt=>SF x m (aL b t) t (j-if t<l then 1 else 0)).sum;rw[mO h];congr 1;refine gd λt _=>E4 m _ _ λu=>?_;rw[eU,eU,h u]
def R7(h:a.length=b.length):at0 (jU a b) j=at0 a j+at0 b j:=by
 unfold at0;by_cases hj:j.toNat<a.length
 .rw [RR (getElem?_eq_getElem hj) (getElem?_eq_getElem (by omega)),getElem?_eq_getElem hj,getElem?_eq_getElem (by omega)];rfl
 .rw [kc (by rw[gD h];omega),kc (by omega),kc (by omega)];rfl
def X4(h0:0<=j)(hj:j<w.length):at0 (iE w) j=if j=0 then 0 else at0 w (j-1):=by
 unfold at0 iE;split
 .rename_i z;subst z;rfl
 .obtain ⟨k,hk⟩:∃k:Nat,j.toNat=k+1:=⟨j.toNat-1,by omega⟩;rw[hk,ll,a2o,Z_ (by omega),show(j-1).toNat=k by omega]
def X5(n:Nat)(j:Int):at0 (tY n) j=0:=by unfold at0 tY;rw[kb];split<;>rfl
theorem R8:∀(m:Nat) (a:Q0e) (l j:Int),0<=j->j<(max x.length 1:Nat)->at0 (Sh x m a l) j=SF x m a l j
 |0,a,l,j,h0,h1=>by
  show at0 (sI x.length) j=if j=0 then 1 else 0
  unfold at0 sI;split
  .rename_i z;subst z;rfl
  .obtain ⟨k,hk⟩:∃k:Nat,j.toNat=k+1:=⟨j.toNat-1,by omega⟩;rw[hk,ll,kb];split<;>rfl
 |m+1,a,l,j,h0,h1=>by
  rw[j3];have go:∀(ts acc:Q0e),acc.length=max x.length 1->at0 (ts.foldl (fP x m a l) acc) j=at0 acc j+(ts.map λt=>SF x m (aL a t) t (j-if t<l then 1 else 0)).sum:=by
   intro ts
   induction ts with
   |nil=>intro acc _;simp
   |cons t ts ih =>
    intro acc h;have hS:=gE x m (aL a t) t;have hlen:acc.length=(if t<l then iE (Sh x m (aL a t) t) else Sh x m (aL a t) t).length:=by
     rw[h];split
     .rw [iQ (by omega)];exact hS.symm
     .exact hS.symm
    have ev:at0 (if t<l then iE (Sh x m (aL a t) t) else Sh x m (aL a t) t) j=SF x m (aL a t) t (j-if t<l then 1 else 0):=by
     split
     .rw [X4 h0 (by rw[hS];exact h1)];split
      .rename_i z;subst z;rw[R6 _ _ _ _ (by omega)]
      .exact R8 m _ _ _ (by omega) (by omega)
     .rw [a2F];exact R8 m _ _ _ h0 h1
    rw[jk,ih _ (by unfold fP;rw[gD hlen,h]),ba,dh];unfold fP;rw[R7 hlen,ev];omega
  rw[go _ _ (iF _),X5,il];rfl
def cv(f g:Int->Int)(k:Nat):Int:=((aY 0 (k+1)).map λd=>f d*g (k-d)).sum
def aBq(k:Nat):aY 0 (k+1)=0::(aY 0 k).map λd=>d+1:=by unfold aY;rw[show k+1=1+k by omega,List.range_add,cy,dq,dq];have e:a2i (λk:Nat=>(0:Int)+(k:Int)) (dj 1)=[0]:=rfl;rw[e,List.singleton_append];congr 1;refine gd λj7 _=>?_;simp only[vb];omega
end
noncomputable def dl:Int->List Int->Int
 |_,[]=>0
 |l,t::w=>(if t<l then 1 else 0)+dl t w
def t6(w:Q0e):Int:=w.getLast?.getD (-1)
theorem LG:∀(l:Int) (w:Q0e) (t:Int),dl l (w++[t])=dl l w+if t<(w.getLast?.getD l) then 1 else 0
 |l,[],t=>by
  show(if t<l then 1 else 0)+0=0+if t<l then 1 else 0
  rw[ma,il]
 |l,a::w,t=>by
  show(if a<l then 1 else 0)+dl a (w++[t])=(if a<l then 1 else 0)+dl a w+_;rw[LG a w t];have e:(a::w).getLast?.getD l=w.getLast?.getD a:=by
   cases w with
   |nil=>rfl
   |cons b w=>rw[List.getLast?_cons_cons];rw[List.getLast?_eq_getLast (List.cons_ne_nil b w)];rfl
  rw[e];omega
section
variable{x:Q0a}
theorem R9(d:Int):∀i r:Nat,((gls x i).map λw=>SF x r w (t6 w) (d-dl (-1) w)).sum=SF x (i+r) [] (-1) d
 |0,r=>by show SF x r [] (-1) (d-0)+0=_;rw[ma,a2F,qv]
 |i+1,r=>by
  have ih:=R9 d i (r+1);rw[show i+1+r=i+(r+1) by omega,<- ih];have go:∀L:Q0a,((L.flatMap λw=>(aP x w).map λt=>w++[t]).map λw=>SF x r w (t6 w) (d-dl (-1) w)).sum=(L.map λw=>SF x (r+1) w (t6 w) (d-dl (-1) w)).sum:=by
   intro L
   induction L with
   |nil=>rfl
   |cons w L ihL =>
    rw[uw,cy,ng,ihL,ba,dh,dq];congr 1;show _=((aP x w).map λt=>SF x r (aL w t) t (d-dl (-1) w-if t<t6 w then 1 else 0)).sum;congr 1;refine gd λt _=>?_;simp only[vb];have e1:t6 (w++[t])=t:=by unfold t6;simp
    rw[e1,LG,Int.sub_sub];exact E4 r _ _ λu=>by rw[eU];simp
  exact go _
def CN(hd:d<max x.length 1):at0 (shares x) d=((gls x x.length).map λw=>if dl (-1) w=(d:Int) then 1 else 0).sum:=by
 have h:=R9 (x:=x) d x.length 0;rw[zd,<- R8 x.length [] (-1) d (by omega) (by omega),B9 x x.length [] (l:=-1) (l':=0) (by decide) (by decide)] at h;show at0 (Sh x x.length [] 0) d=_;rw[<- h];congr 1;refine gd λw _=>?_;show(if(d:Int)-dl (-1) w=0 then(1:Int) else 0)=_;by_cases e:dl (-1) w=(d:Int)
 .rw [Z_ e,Z_ (by omega)]
 .rw [Zz e,Zz (by omega)]
theorem wW:∀(l:Int) (w:Q0e),0<=dl l w/\dl l w<=w.length
 |_,[]=>⟨Hi 0,by simp[dl]⟩
 |l,t::w=>by have ih:=wW t w;show 0<=(if t<l then 1 else 0)+dl t w/\(if t<l then 1 else 0)+dl t w<=((t::w).length:Int);rw[bx];split<;>omega
theorem d9:∀{i:Nat} {w:Q0e},w∈gls x i->w.length=i /\∀u t v,w=u++t::v->t∈aP x u
 |0,w,h=>by
  have:w=[]:=by simpa[gls] using h
  subst this;exact⟨rfl,λu t v e=>by simp at e⟩
 |i+1,w,h=>by
  obtain⟨w',hw',hm⟩:=zg.1 (show w∈(gls x i).flatMap λw=>(aP x w).map λt=>w++[t] from h);obtain⟨t,ht,rfl⟩:=gj.1 hm;have ih:=d9 hw';refine⟨by rw[bq,ih.1];rfl,λu s v e=>?_⟩;rcases a2x v with rfl|⟨v',b,rfl⟩
  .have h1:=ux e rfl;have:t=s:=by simpa using h1.2
   rw[<- this,<- h1.1];exact ht
  .have e2:w'++[t]=(u++s::v')++[b]:=by rw[e];simp
   have h1:=ux e2 rfl;exact ih.2 u s v' h1.1
theorem sS:∀{i:Nat} {w:Q0e},w.length=i->(∀u t v,w=u++t::v->t∈aP x u)->w∈gls x i
 |0,w,h,_=>by have:w=[]:=q_.1 h;subst this;exact br.2 rfl
 |i+1,w,h,hp=>by
  rcases a2x w with rfl|⟨w',b,rfl⟩
  .cases h
  .refine zg.2 ⟨w',sS (by simpa using h) λu t v e=>hp u t (v++[b]) (by rw[e];simp),gj.2 ⟨b,hp w' b [] (by simp),by simp⟩⟩
def qJ(k:Int):DV x.length 0 (shares x) k=((gls x x.length).map λw=>C (k+x.length-1-dl (-1) w) x.length).sum:=by
 have hl:=oR x;have e:DV x.length 0 (shares x) k=((aY 0 (shares x).length).map λd=>at0 (shares x) d*C (k+x.length-1-d) x.length).sum:=by rw[<- K25.X2 (λa d=>a*C (k+x.length-1-d) x.length),show(0:Int)=((0:Nat):Int) from rfl,<- B8];rfl
 rw[e,hl];have e2:((aY 0 (max x.length 1)).map λd=>at0 (shares x) d*C (k+x.length-1-d) x.length)=(aY 0 (max x.length 1)).map λd=>((gls x x.length).map λw=>(if dl (-1) w=d then C (k+x.length-1-d) x.length else 0)).sum:=by
  refine gd λd hd=>?_;have hr:=bD.1 hd;obtain⟨m,rfl⟩:∃m:Nat,d=(m:Int):=⟨d.toNat,by omega⟩;rw[CN (by omega),rj,<- sR];congr 1;refine gd λw _=>?_;split
  .rw [Hg]
  .rw [zm]
 rw[e2,AD];congr 1;refine gd λw hw=>?_;have hg:=d9 hw;have Ri:0<=dl (-1) w/\dl (-1) w<(max x.length 1:Nat):=by
  have h0:=wW (-1) w;refine⟨h0.1,?_⟩
  cases w with
  |nil=>show(0:Int)<_;omega
  |cons t w =>
   have ht:=k7 (hg.2 [] t w rfl);have h1:=wW t w;have e:dl (-1) (t::w)=dl t w:=by show(if t < -1 then 1 else 0)+dl t w=_;rw[Zz (by omega),il]
   have h2:=hg.1;rw[bx] at h2;rw[e];omega
 have pick:∀m:Nat,((aY 0 m).map λd=>if dl (-1) w=d then C (k+x.length-1-d) x.length else 0).sum=if dl (-1) w<m then C (k+x.length-1-dl (-1) w) x.length else 0:=by
  intro m
  induction m with
  |zero=>show(0:Int)=_;rw[Zz (by omega)]
  |succ m ih =>
   rw[i5,cy,ng,ih,il,ba,lh,dh,a2d,ma];by_cases h1:dl (-1) w=(m:Int)
   .rw [Z_ h1,Zz (by omega),Z_ (by omega),il,h1]
   .rw [Zz h1,ma];by_cases h2:dl (-1) w<(m:Int)
    .rw [Z_ h2,Z_ (by omega)]
    .rw [Zz h2,Zz (by omega)]
 rw[pick,Z_ Ri.2]
end
theorem SA{a b:Q0e}(h:a.Perm b):a.sum=b.sum:=by
 induction h with
 |nil=>rfl
 |cons x _ ih=>rw[dh,dh,ih]
 |swap x y l=>simp only[dh];omega
 |trans _ _ h1 h2=>rw[h1,h2]
section
variable{x y:Q0a}
theorem mR:∀i:Nat,(gls x i).Nodup
 |0=>by simp[gls]
 |i+1=>by
  show((gls x i).flatMap λw=>(aP x w).map λt=>w++[t]).Nodup;unfold zl;rw[List.pairwise_flatMap];refine⟨λw _=>?_,(mR i).imp λ{a b} hab u hu v hv e=>?_⟩
  .exact pj.2 ((EW w).imp λ{a b} hab e=>hab (by have:=(ux e rfl).2;simpa using this))
  .obtain ⟨t,_,rfl⟩:=gj.1 hu;obtain⟨s,_,rfl⟩:=gj.1 hv;exact hab (ux e rfl).1
def jM{w:Q0e}(h:∀u t v,w=u++t::v->t∈aP x u):w.Nodup /\∀t∈w,0<=t/\t<(x.length:Int):=by
 have key:∀(r u:Q0e),(∀p t v,u++r=p++t::v->t∈aP x p)->u.Nodup->(u++r).Nodup:=by
  intro r
  induction r with
  |nil=>intro u _ hu;rw[kl];exact hu
  |cons t r ih =>
   intro u hp hu;have ht:=(eX (hp u t r rfl)).2;have e:u++t::r=(u++[t])++r:=by simp
   rw[e];refine ih (u++[t]) (λp s v e2=>hp p s v (by rw[e,e2])) ?_;rw[iy];exact⟨hu,by simp,λa ha b hb e=>ht (by rw[br] at hb;rw[<- hb,<- e];exact ha)⟩
 refine⟨key w [] h kh,λt ht=>?_⟩;obtain⟨u,v,rfl⟩:=nz ht;exact(eX (h u t v rfl)).1
def nW(hl:w.length=x.length)(h:∀u t v,w=u++t::v->t∈aP x u)(h0:0<=b)(h1:b<(x.length:Int)):b∈w:=by
 obtain⟨nd,hr⟩:=jM h;refine qd λhb=>?_;have:=Ord.dD (b::w) (aY 0 x.length) (gu.2 ⟨hb,nd⟩) λt ht=>by
  rcases bu.1 ht with z|z
  .rw [z];exact bD.2 ⟨h0,by omega⟩
  .have:=hr t z;exact bD.2 ⟨this.1,by omega⟩
 rw[bx,aO] at this;omega
def SD(ht:0<=t):dl (-1) (t::w)=dl t w:=by show(if t < -1 then 1 else 0)+dl t w=_;rw[Zz (by omega),il]
def Turned(x y:Q0a):Prop:=y.length=x.length /\∀a b:Int,0<=b->b<(x.length:Int)->(a∈row y ((x.length:Int)-1-b)↔(x.length:Int)-1-a∈row x b)
def Turned.symm(h:Turned x y):Turned y x:=by refine⟨h.1.symm,λa b h0 h1=>?_⟩;rw[h.1] at h1 ⊢;have e:=h.2 ((x.length:Int)-1-a) ((x.length:Int)-1-b) (by omega) (by omega);rw[show(x.length:Int)-1-((x.length:Int)-1-b)=b by omega,show(x.length:Int)-1-((x.length:Int)-1-a)=a by omega] at e;exact e.symm
def HX(x z:Q0a):Prop:=z.length=x.length /\∀a b:Int,0<=a->a<(x.length:Int)->0<=b->b<(x.length:Int)->(a∈row x b↔b∈row z a)
def HX.symm(h:HX x y):HX y x:=⟨h.1.symm,λa b h0 h1 h2 h3=>by rw[h.1] at h1 h3;exact(h.2 b a h2 h3 h0 h1).symm⟩
end
section
variable{x:Q0a}
theorem nX:∀{u u' v v':Q0e},(u++b::v).Nodup->u++b::v=u'++b::v'->u=u'
 |[],[],_,_,_,_=>rfl
 |[],c::u',v,v',nd,e=>by simp only[k_,kj,p_] at e;rw[k_,gu] at nd;exact Zw (by rw[e.2];exact gc _ b_) nd.1
 |c::u,[],v,v',nd,e=>by simp only[k_,kj,p_] at e;rw[kj,gu] at nd;exact Zw (by rw[e.1];exact gc _ b_) nd.1
 |c::u,d::u',v,v',nd,e=>by simp only[kj,p_] at e;rw[kj,gu] at nd;rw[e.1,nX nd.2 e.2]
def Bef(a b:Int)(w:Q0e):Prop:=∃u v,w=u++b::v/\a∈u
def CO(ha:0<=a/\a<(x.length:Int))(hb:0<=b/\b<(x.length:Int))(hw:w∈gls x x.length)(h:Bef a b w):w∈gls (put x a b) x.length:=by
 have hg:=d9 hw;have nd:=(jM hg.2).1;obtain⟨u,v,e,hu⟩:=h;refine sS hg.1 λp t q et=>?_;have hr:=gF.1 (hg.2 p t q et);have tail:∀l,(l=a\/l∈row x a)->a∈p->l∈p:=λl hl hap=>by
  rcases hl with z|z
  .rw [z];exact hap
  .obtain ⟨r1,r2,er⟩:=nz hap;have:=(gF.1 (hg.2 r1 a (r2++t::q) (by rw[et,er];simp))).2.2 l z;rw[er];exact jh _ this
 refine gF.2 ⟨by rw[cK];exact hr.1,hr.2.1,λl hl=>?_⟩;rcases(jY hr.1.1 hr.1.2).1 hl with z|⟨z|z,hz⟩
 .exact hr.2.2 l z
 .subst z;refine tail l hz ?_;have:u=p:=nX (by rw[<- e];exact nd) (by rw[<- e,et]);rw[<- this];exact hu
 .refine tail l hz ?_;have hbp:=hr.2.2 b z;obtain⟨r1,r2,er⟩:=nz hbp;have:u=r1:=nX (b:=b) (v':=r2++t::q) (by rw[<- e];exact nd) (by rw[<- e,et,er];simp);rw[er,<- this];exact jh _ hu
def j5(hb:0<=b/\b<(x.length:Int))(hw:w∈gls (put x a b) x.length):w∈gls x x.length/\Bef a b w:=by
 have hg:=d9 hw;have hpl:=cK x a b;refine⟨sS hg.1 λp t q et=>?_,?_⟩
 .have hr:=gF.1 (hg.2 p t q et);rw[hpl] at hr;exact gF.2 ⟨hr.1,hr.2.1,λl hl=>hr.2.2 l ((jY hr.1.1 hr.1.2).2 (.inl hl))⟩
 .have hbw:b∈w:=nW (x:=put x a b) (by rw[hg.1,hpl]) hg.2 hb.1 (by rw[hpl];exact hb.2);obtain⟨u,v,e⟩:=nz hbw;exact⟨u,v,e,(gF.1 (hg.2 u b v e)).2.2 a ((jY hb.1 hb.2).2 (.inr ⟨.inl rfl,.inl rfl⟩))⟩
def LH(nd:w.Nodup)(h1:Bef a b w)(h2:Bef b a w):False:=by
 obtain⟨u,v,e,hu⟩:=h1;obtain⟨u',v',e',hu'⟩:=h2;obtain⟨r1,r2,er⟩:=nz hu;have h3:u'=r1:=nX (b:=a) (v':=r2++b::v) (by rw[<- e'];exact nd) (by rw[<- e',e,er];simp);have h4:b∈u:=by rw[er,<- h3];exact jh _ hu'
 rw[e] at nd;exact(iy.1 nd).2.2 b h4 b b_ rfl
def SE(hab:a≠b)(ha:0<=a/\a<(x.length:Int))(hb:0<=b/\b<(x.length:Int))(hw:w∈gls x x.length):Bef a b w\/Bef b a w:=by
 have hg:=d9 hw;have h1:=nW hg.1 hg.2 ha.1 ha.2;obtain⟨u,v,e⟩:=nz (nW hg.1 hg.2 hb.1 hb.2);rw[e] at h1;rcases ft.1 h1 with z|z
 .exact .inl ⟨u,v,e,z⟩
 .rcases bu.1 z with z|z
  .exact Zw z hab
  .obtain ⟨v1,v2,ev⟩:=nz z;exact .inr ⟨u++b::v1,v2,by rw[e,ev];simp,gc _ b_⟩
def NN(hab:a≠b)(ha:0<=a/\a<(x.length:Int))(hb:0<=b/\b<(x.length:Int))(k:Int):DV x.length 0 (shares x) k=DV (put x a b).length 0 (shares (put x a b)) k+DV (put x b a).length 0 (shares (put x b a)) k:=by
 have hp:(gls x x.length).Perm (gls (put x a b) x.length++gls (put x b a) x.length):=by
  refine(zf (mR _) ?_).2 λw=>?_
  .rw [iy];refine⟨mR _,mR _,λw h1 w' h2 e=>?_⟩;subst e;have o1:=j5 hb h1;have o2:=j5 ha h2;exact LH (jM (d9 o1.1).2).1 o1.2 o2.2
  .rw [ft];refine⟨λh=>?_,λh=>?_⟩
   .rcases SE hab ha hb h with z|z
    .exact .inl (CO ha hb h z)
    .exact .inr (CO hb ha h z)
   .rcases h with z|z
    .exact (j5 hb z).1
    .exact (j5 ha z).1
 rw[qJ,qJ,qJ,cK,cK,SA (hp.map _),cy,ng]
end
section
variable{x y z:Q0a}
structure Sd (x y z:Q0a):Prop where
 len:z.length=x.length+y.length
 lo:∀t:Int,0<=t->t<(x.length:Int) ->∀a,a∈row z t↔a∈row x t
 hi:∀t:Int,0<=t->t<(y.length:Int) ->∀a,a∈row z (t+x.length)↔a-x.length∈row y t
 rx:∀t:Int,0<=t->t<(x.length:Int) ->∀a∈row x t,0<=a/\a<(x.length:Int)
 ry:∀t:Int,0<=t->t<(y.length:Int) ->∀a∈row y t,0<=a/\a<(y.length:Int)
structure Cb (x y:Q0a) (a b c:Q0e):Prop where
 lo:∀t:Int,0<=t->t<(x.length:Int)->(t∈c↔t∈a)
 hi:∀t:Int,0<=t->t<(y.length:Int)->(t+x.length∈c↔t∈b)
def X6{a:Q0e}{t:Int}(h:RJ x a)(ht:t∈aP x a):RJ x (aL a t):=by
 obtain⟨r,n⟩:=eX ht;refine⟨?_,λs hs=>?_⟩
 .unfold aL;refine((sortI_perm (a++[t])).nodup_iff).2 ?_;rw[iy];exact⟨h.1,by simp,λp hp q hq e=>n (by rw[br] at hq;rw[<- hq,<- e];exact hp)⟩
 .rcases eU.1 hs with q|q
  .exact h.2 s q
  .rw [q];exact r
end
section
variable{x y z:Q0a}
theorem Xq(hw:w∈gls x x.length):0<=dl (-1) w/\dl (-1) w<(max x.length 1:Nat):=by
 have hg:=d9 hw;have h0:=wW (-1) w;refine⟨h0.1,?_⟩
 cases w with
 |nil=>show(0:Int)<_;omega
 |cons t w =>
  have ht:=k7 (hg.2 [] t w rfl);have h1:=wW t w;rw[SD ht];have h2:=hg.1;rw[bx] at h2;omega
structure Av (x y z:Q0a) (s t:Int):Prop where
 len:z.length=x.length+y.length
 lo:∀a:Int,0<=a->a<(x.length:Int) ->∀b,b∈row z (a+s)↔b-s∈row x a
 hi:∀a:Int,0<=a->a<(y.length:Int) ->∀b,b∈row z (a+t)↔(s<=b/\b<s+x.length)\/b-t∈row y a
 rx:∀a:Int,0<=a->a<(x.length:Int) ->∀b∈row x a,0<=b/\b<(x.length:Int)
 ry:∀a:Int,0<=a->a<(y.length:Int) ->∀b∈row y a,0<=b/\b<(y.length:Int)
 st:(s=0/\t=x.length)\/(s=y.length/\t=0)
def AE:t∈aP x a↔0<=t/\t<(x.length:Int)/\t∉a /\∀l∈row x t,l∈a:=by
 unfold aP;rw[f_,f_,bD,ke]
 constructor
 .intro ⟨⟨⟨h0,h1⟩,h2⟩,h3⟩;exact⟨h0,by omega,by simpa using h2,λl hl=>by simpa using h3 l hl⟩
 .intro ⟨h0,h1,h2,h3⟩;exact⟨⟨⟨h0,by omega⟩,by simpa using h2⟩,λl hl=>by simpa using h3 l hl⟩
end
def Rh(h:f (gJ ρ)=aa d):fG i f ρ=.nx (ρ.set i (.ow d)):=by unfold fG;rw[h]
def NO(w:Q0e):List Int:=(aY 0 ((w.length:Int)-1).toNat).filter λk=>Zv (at0 w k>at0 w (k+1))
def Rf(hd:d=tupI w\/d=aG w)(hw:w.length<=1000)(h:aB i ρ=aa d)(hb:benv 1 [i] ρ=[af,aa d]):bJ 1 [i] (aR (aA (aC dS (bI aW (aA (aB i) aE)) (eC (.int 1))) aE)) (g1 0) (tV (aC rN (aC a9 (aB 1) (aB 0)) (aC a9 (aB 1) (aC bA (aB 0) (eC (.int 1)))))) (aB 0) ρ=aa (aG (NO w)):=by
 have hat:∀{a:Int},0<=a->a<(w.length:Int)->a9 d (.int a)=aa (.int (at0 w a)):=λ{a} h0 h1=>by
  rcases hd with z|z
  .rw [z];exact RF h0 h1
  .rw [z];exact sF h0 h1
 have hlen:aW [d]=aa (.int (w.length:Int)):=by
  rcases hd with z|z
  .rw [z];exact p9
  .rw [z];show aa (D.int ((w.map D.int).length:Nat))=_;rw[az]
 refine iN ((aY 0 ((w.length:Int)-1).toNat).map D.int) ?_ (by rw[az,aO];omega) ?_
 .unfold aR;rw[args1 (aK (g:=dS) (a:=bI aW (aA (aB i) aE)) (b:=eC (.int 1)) (x:=.int (w.length:Int)) (y:=.int 1) (c8 h hlen) rfl rfl),cz,wB (by omega)]
 .rw [hb];refine eF D.int (λk=>Zv (at0 w k>at0 w (k+1))) D.int _ λk hk=>?_;have hr:=bD.1 hk;exact⟨[aa (.int k),aa d],rfl,l8 (aK (x:=.int (at0 w k)) (y:=.int (at0 w (k+1))) (aK (x:=d) (y:=.int k) rfl rfl (hat (by omega) (by omega))) (aK (x:=d) (y:=.int (k+1)) rfl rfl (hat (by omega) (by omega))) iJ) rfl,λ_=>rfl⟩
def E5(a:Int)(w:Q0e)(h:0<=k):at0 (a::w) (k+1)=at0 w k:=by unfold at0;rw[show(k+1).toNat=k.toNat+1 by omega,ll]
theorem SG:∀(a:Int) (w:Q0e),((NO (a::w)).length:Int)=dl a w
 |a,[]=>rfl
 |a,b::w=>by
  have ih:=SG b w;have e:(NO (a::b::w)).length=(if b<a then 1 else 0)+(NO (b::w)).length:=by
   unfold NO;rw[show(((a::b::w).length:Int)-1).toNat=((((b::w).length:Int)-1).toNat)+1 by simp only[bx];omega,aBq,ny,a2r];have ef:(aY 0 ((((b::w).length:Int)-1).toNat)).filter ((λk=>Zv (at0 (a::b::w) k>at0 (a::b::w) (k+1)))∘λd=>d+1)=(aY 0 ((((b::w).length:Int)-1).toNat)).filter λk=>Zv (at0 (b::w) k>at0 (b::w) (k+1)):=List.filter_congr λk hk=>by have hr:=bD.1 hk;show Zv (at0 (a::b::w) (k+1)>at0 (a::b::w) (k+1+1))=_;rw[E5 _ _ (by omega),E5 _ _ (by omega)]
   rw[ef];have h0:at0 (a::b::w) 0=a:=rfl;have h1:at0 (a::b::w) (0+1)=b:=rfl;rw[h0,h1];by_cases h:b<a
   .rw [Z_ (by simpa using h),Z_ h,bx,az];omega
   .rw [Zz (by simpa using h),Zz h,az];omega
  show _=(if b<a then 1 else 0)+dl b w;rw[e,<- ih];split<;>simp
theorem X7(h:∀a∈w,0<=a):((NO w).length:Int)=dl (-1) w:=by
 cases w with
 |nil=>rfl
 |cons a w=>rw[SD (h a b_),SG]
def CP(f:Int->Int)(n:Nat):((aY 0 (n+1)).map f).sum=((aY 0 n).map f).sum+f n:=by rw[i5,cy,ng];show _+(f (0+(n:Int))+0)=_;rw[il];omega
def X8(h0:0<=i)(h1:i<(l.length:Int)):at0 l i∈l:=by unfold at0;rw[getElem?_eq_getElem (by omega)];exact ni _
def gS:fY:=bY 7 1
  (aI (aN 1 (aH LL.fI (aA (aB 0) aE)))
  (aI (rS 2 (eC (.int 0)) (eC (.int 1)))
  (aI (b9 (aR (aA (bI aW (aA (aB 0) aE)) aE)) (gK 3)
   (aI (vS 4)
   (aI (HG 2 (b9 (vR (aB 2)) (gK 5)
    (b9 (aR (aA (bI aW (aA (aB 0) aE)) aE)) (gK 6)
     (eO (kD (tV (aC gM (aC eZ (aC p6 (aB 5) (aB 6)) (eC (.int 1))) (eC (.int 0)))) (tV (aC gM (aC eZ (aC a9 (aB 1) (aB 6)) (aB 5)) (aC a9 (aB 1) (aB 6)))))
      (gC 4 (dZ (aC bA (mK (aB 4) (aC yV (aB 5) (aC lL (eC (.int 1)) (aB 6))) (eC (.int 0))) (aC kU (aB 2) (aB 5)))) (aC yV (aB 5) (aC lL (eC (.int 1)) (aB 6))))
      cJ))))
   (zP 2 4))))
  (bB (aC kU (aB 2) (aC dS (aC lL (eC (.int 1)) (bI aW (aA (aB 0) aE))) (eC (.int 1))))))))
section
variable{x:Q0a}
def mS(h0:0<=t)(h1:t<(x.length:Int)):x[t.toNat]?=aa (row x t):=by unfold row;rw[getElem?_eq_getElem (by omega)];rfl
def E6(hx:Ord.Rows x)(h0:0<=t)(h1:t<(x.length:Int))(hl:l∈row x t):(0<=l/\l<(x.length:Int))/\(row x l).length<(row x t).length:=by
 have hr:=hx.rng _ _ (mS h0 h1) l hl;refine⟨hr,?_⟩;have e:((l.toNat:Nat):Int)=l:=by omega
 have sub:∀c∈l::row x l,c∈row x t:=λc hc=>by
  rcases bu.1 hc with q|q
  .rw [q];exact hl
  .exact hx.tr t.toNat l.toNat _ _ (mS h0 h1) (by rw[e];exact hl) (mS hr.1 hr.2) c q
 have nd:(l::row x l).Nodup:=gu.2 ⟨by have:=hx.QY l.toNat _ (mS hr.1 hr.2);rwa [e] at this,(hx.up _ _ (mS hr.1 hr.2)).imp λ{a b} (q:a<b)=>by omega⟩;have:=Ord.dD _ _ nd sub;rw[bx] at this;omega
def SH(hx:Ord.Rows x){a:Q0e}(ha:RJ x a)(hl:a.length<x.length):∃t,t∈aP x a:=by
 have go:∀(n:Nat) (t:Int),(row x t).length<=n->0<=t->t<(x.length:Int)->t∉a ->∃t,t∈aP x a:=by
  intro n
  induction n with
  |zero =>
   intro t hn h0 h1 ht;refine⟨t,AE.2 ⟨h0,h1,ht,λl hm=>?_⟩⟩;have:=(E6 hx h0 h1 hm).2;omega
  |succ n ih =>
   intro t hn h0 h1 ht;by_cases c:∃l∈row x t,l∉a
   .obtain ⟨l,hm,hla⟩:=c;have:=E6 hx h0 h1 hm;exact ih l (by omega) this.1.1 this.1.2 hla
   .exact ⟨t,AE.2 ⟨h0,h1,ht,λl hm=>qd λq=>c ⟨l,hm,q⟩⟩⟩
 have:∃t∈aY 0 x.length,t∉a:=by refine qd λq=>?_;have:=Ord.dD (aY 0 x.length) a (wM _) λt ht=>qd λc=>q ⟨t,ht,c⟩;rw[aO] at this;omega
 obtain⟨t,ht,hta⟩:=this;have hr:=bD.1 ht;exact go _ t (bc _) hr.1 (by omega) hta
theorem SI{α:Type}{f:α->Int}:∀{l:List α} {a:α},(∀b∈l,0<=f b)->a∈l->f a<=(l.map f).sum
 |b::l,a,h,ha=>by
  have nn:∀{l:List α},(∀b∈l,0<=f b)->0<=(l.map f).sum:=λ{l} h=>by
   induction l with
   |nil=>exact Hi 0
   |cons c l ih =>
    rw[ba,dh];have:=h c b_;have:=ih λb hb=>h b (dg _ hb);omega
  rw[ba,dh];rcases bu.1 ha with q|q
  .rw [q];have:=nn λc hc=>h c (dg _ hc);omega
  .have:=h b b_;have:=SI (λc hc=>h c (dg _ hc)) q;omega
theorem SJ:∀(m:Nat) (a:Q0e),0<=cnt x m a
 |0,a=>by show(0:Int)<=1;decide
 |m+1,a=>by
  show 0<=((aP x a).map λt=>cnt x m (aL a t)).sum;have nn:∀{l:Q0e},0<=(l.map λt=>cnt x m (aL a t)).sum:=λ{l}=>by
   induction l with
   |nil=>exact Hi 0
   |cons c l ih =>
    rw[ba,dh];have:=SJ m (aL a c);omega
  exact nn
theorem LI(hx:Ord.Rows x):∀(m:Nat) (a:Q0e),RJ x a->a.length+m=x.length->1<=cnt x m a
 |0,a,_,_=>by show(1:Int)<=1;decide
 |m+1,a,ha,hl=>by obtain⟨t,ht⟩:=SH hx ha (by omega);have h1:=LI hx m (aL a t) (X6 ha ht) (by rw[qG];omega);have h2:=SI (f:=λt=>cnt x m (aL a t)) (λb _=>SJ m _) ht;show 1<=((aP x a).map λt=>cnt x m (aL a t)).sum;omega
def LJ:cnt x x.length []=(shares x).sum:=by rw[<- HW x.length [] (-1) (by simp) (.inl rfl),B9 x x.length [] (l:=-1) (l':=0) (by decide) (by decide)];rfl
def pJ(hx:Ord.Rows x):1<=(shares x).sum:=by rw[<- LJ];exact LI hx _ [] KU (by simp)
def NP(hx:Ord.Rows x)(S:Nat)(f:Int->Int):((aP x (things x S)).map f).sum=((aY 0 x.length).map λt=>if uK x t.toNat S=ae then f t else 0).sum:=by
 unfold aP;rw[List.filter_filter,E3];congr 1;refine gd λt ht=>?_;have hr:=bD.1 ht;have hi:=uY hx (b:=t.toNat) (S:=S) (by omega);rw[show((t.toNat:Nat):Int)=t by omega] at hi;have hm:t∈aP x (things x S)↔((LL.row x t).all λl=>(things x S).contains l)=ae/\(!(things x S).contains t)=ae:=by unfold aP;rw[f_,f_];exact⟨λh=>⟨h.2,h.1.2⟩,λh=>⟨⟨ht,h.2⟩,h.1⟩⟩
 by_cases hc:uK x t.toNat S=ae
 .rw [Z_ hc,Z_ (by have:=hm.1 (hi.1 hc);rw[gw];exact this)]
 .rw [Zz hc,Zz];intro h;rw[gw] at h;exact hc (hi.2 (hm.2 h))
def Cm(x:Q0a)(S:Nat):Int:=cnt x (x.length-(things x S).length) (things x S)
theorem X9(hx:Ord.Rows x)(hl:(things x S).length<x.length):Cm x S=((aY 0 x.length).map λt=>if uK x t.toNat S=ae then Cm x (S ||| 2^t.toNat) else 0).sum:=by
 obtain⟨m,hm⟩:∃m,x.length-(things x S).length=m+1:=⟨x.length-(things x S).length-1,by omega⟩;unfold Cm;rw[hm];show((aP x (things x S)).map λt=>cnt x m (aL (things x S) t)).sum=_;rw[NP hx];congr 1;refine gd λt ht=>?_;have hr:=bD.1 ht;by_cases c:uK x t.toNat S=ae
 .rw [Z_ c,Z_ c];have tb:S.testBit t.toNat=ag:=by unfold uK at c;rw[gw] at c;simpa using c.1
  rw[j4 (by omega) tb,show x.length-((things x S).length+1)=m by omega];refine sQ m λu=>?_;have h:=sL (x:=x) (S:=S) (b:=t.toNat) (by omega) u;rw[show((t.toNat:Nat):Int)=t by omega] at h;exact h.symm
 .rw [Zz c,Zz c]
def stM(x:Q0a)(F:Tab)(S:Nat)(v:Int)(b:Nat):Tab:=if uK x b S=ae then oH F (S ||| 2^b) ((dU F (S ||| 2^b)).getD 0+v) else F
def stN(x:Q0a)(F:Tab)(S:Nat)(v:Int):Nat->Tab
 |0=>F
 |b+1=>stM x (stN x F S v b) S v b
def Kl(x:Q0a)(i:Nat)(F:Tab):Prop:=∀q∈F,(things x q.1).length=i
def SK(hq:q∈oH A h v):q∈A\/q.1=h:=by
 unfold oH at hq;split at hq
 .obtain ⟨p,hp,e⟩:=gj.1 hq;by_cases c:p.1=h
  .rw [Z_ c] at e;exact .inr (by rw[<- e];exact c)
  .rw [Zz c] at e;exact .inl (by rw[<- e];exact hp)
 .rcases ft.1 hq with z|z
  .exact .inl z
  .rw [br] at z;exact .inr (by rw[z])
theorem HY(o:sM x.length F)(k:Kl x (i+1) F)(hS:S<2^x.length)(hi:(things x S).length=i):∀b,b<=x.length->sM x.length (stN x F S v b)/\Kl x (i+1) (stN x F S v b)/\tot (stN x F S v b) (Cm x)=tot F (Cm x)+((aY 0 b).map λt=>if uK x t.toNat S=ae then v*Cm x (S ||| 2^t.toNat) else 0).sum
 |0,_=>⟨o,k,(ma _).symm⟩
 |b+1,hb=>by
  obtain⟨o1,k1,t1⟩:=HY (v:=v) o k hS hi b (by omega);rw[CP];show sM x.length (stM x (stN x F S v b) S v b)/\Kl x (i+1) (stM x (stN x F S v b) S v b)/\tot (stM x (stN x F S v b) S v b) (Cm x)=_;unfold stM;rw[gk];by_cases c:uK x b S=ae
  .rw [Z_ c,Z_ c,K8 _ _ _ o1.nd,t1];have tb:S.testBit b=ag:=by unfold uK at c;rw[gw] at c;simpa using c.1
   refine⟨o1.put (Ds hS (by omega)) _,λq hq=>?_,by omega⟩;rcases SK hq with z|z
   .exact k1 q z
   .rw [z,j4 (by omega) tb,hi]
  .rw [Zz c,Zz c,t1];exact⟨o1,k1,by omega⟩
def NQ(x:Q0a)(F:Tab)(q:Nat×Int):Tab:=stN x F q.1 q.2 x.length
def Bs(x:Q0a)(A:Tab):Tab:=A.foldl (NQ x) []
def dO(x:Q0a):Nat->Tab
 |0=>[(0,1)]
 |i+1=>Bs x (dO x i)
def Dp(hx:Ord.Rows x)(o:sM x.length F)(k:Kl x (i+1) F)(hS:q.1<2^x.length)(hi:(things x q.1).length=i)(hlt:i<x.length):sM x.length (NQ x F q)/\Kl x (i+1) (NQ x F q)/\tot (NQ x F q) (Cm x)=tot F (Cm x)+q.2*Cm x q.1:=by
 obtain⟨o1,k1,t1⟩:=HY (v:=q.2) o k hS hi x.length (bc _);refine⟨o1,k1,?_⟩;unfold NQ;rw[t1,X9 hx (by omega),<- sR];congr 2;refine gd λt _=>?_;split
 .rfl
 .rw [zm]
theorem SN(hx:Ord.Rows x)(hlt:i<x.length):∀(A F:Tab),(∀q∈A,q.1<2^x.length)->Kl x i A->sM x.length F->Kl x (i+1) F->sM x.length (A.foldl (NQ x) F)/\Kl x (i+1) (A.foldl (NQ x) F)/\tot (A.foldl (NQ x) F) (Cm x)=tot F (Cm x)+tot A (Cm x)
 |[],F,_,_,o,k=>⟨o,k,(ma _).symm⟩
 |q::A,F,hA,kA,o,k=>by obtain⟨o1,k1,t1⟩:=Dp hx o k (hA q b_) (kA q b_) hlt;obtain⟨o2,k2,t2⟩:=SN hx hlt A (NQ x F q) (λr hr=>hA r (dg _ hr)) (λr hr=>kA r (dg _ hr)) o1 k1;rw[jk];refine⟨o2,k2,?_⟩;rw[t2,t1];show _=_+(q.2*Cm x q.1+tot A (Cm x));omega
theorem CQ(hx:Ord.Rows x):∀i:Nat,i<=x.length->sM x.length (dO x i)/\Kl x i (dO x i)/\tot (dO x i) (Cm x)=(shares x).sum
 |0,_=>by
  refine⟨⟨by simp[dO],λq hq=>?_⟩,λq hq=>?_,?_⟩
  .rw [show dO x 0=[(0,1)] from rfl,br] at hq;rw[hq];exact yx _
  .rw [show dO x 0=[(0,1)] from rfl,br] at hq;rw[hq,mP];rfl
  .show 1*Cm x 0+0=_;unfold Cm;rw[mP,<- LJ];show 1*cnt x (x.length-0) []+0=_;rw[ui];omega
 |i+1,h=>by
  obtain⟨o,k,t⟩:=CQ hx i (by omega);obtain⟨o1,k1,t1⟩:=SN hx (i:=i) (by omega) (dO x i) [] o.lt k ⟨kh,λ_ h=>by cases h⟩ λ_ h=>by cases h
  refine⟨o1,k1,?_⟩;show tot ((dO x i).foldl (NQ x) []) (Cm x)=_;rw[t1,t];show 0+_=_;omega
theorem aBr(hx:Ord.Rows x):dU (dO x x.length) (2^x.length-1)=aa (shares x).sum:=by
 obtain⟨o,k,t⟩:=CQ hx x.length (bc _);have full:∀q∈dO x x.length,q.1=2^x.length-1:=λq hq=>(tZ (o.lt q hq)).1 (k q hq);have one:∀{S:Nat},(things x S).length=x.length->Cm x S=1:=λ{S} h=>by unfold Cm;rw[h,my];rfl
 have hp:=pJ hx;generalize dO x x.length=A at o k t full
 match A,o,k,t,full with
 |[],_,_,t,_ =>
  have:(0:Int)=(shares x).sum:=t;omega
 |[q],o,k,t,full =>
  have e1:=full q b_;have t2:q.2*Cm x q.1+0=(shares x).sum:=t;rw[one (k q b_)] at t2;unfold dU;rw[ib,Zx e1];show aa q.2=_;congr 1;omega
 |q::r::A,o,_,_,full =>
  have nd:=o.nd;rw[ba,ba,gu] at nd;exact Zw (by rw[full q b_,full r (dg _ b_)];exact b_) nd.1
abbrev SM(x:Q0a)(s2 s3 s4 s5 s6:Sv):bV:=[.ro (aJ x),.ro (aG (wV x)),s2,s3,s4,s5,s6]
abbrev mi:L4.SF:=eO (kD (tV (aC gM (aC eZ (aC p6 (aB 5) (aB 6)) (eC (.int 1))) (eC (.int 0)))) (tV (aC gM (aC eZ (aC a9 (aB 1) (aB 6)) (aB 5)) (aC a9 (aB 1) (aB 6)))))
      (gC 4 (dZ (aC bA (mK (aB 4) (aC yV (aB 5) (aC lL (eC (.int 1)) (aB 6))) (eC (.int 0))) (aC kU (aB 2) (aB 5)))) (aC yV (aB 5) (aC lL (eC (.int 1)) (aB 6))))
      cJ
def Xp(h1:f (bW ρ)=aa (.int v))(h2:ρ[i]?=aa (.ow (dT q F)))(h3:k (bW ρ)=aa (.int (h:Int)))(h6:F.length<16000000):gC i (dZ f) k ρ=.nx (ρ.set i (.ow (dT (adr q) (oH F h v)))):=by unfold gC dZ;rw[h1];simp only[cz,D.tT,if_true];rw[h2];simp only[EC,dT,cz];rw[h3];simp only[cz];rw[wz];simp only[cz];rw[Z_ ⟨CG F h,by unfold kdT oN;rw[az];omega⟩,Dr]
theorem aBt(hx:Ord.Rows x)(hn:x.length<=9)(hv:dU A S=aa v)(o:sM x.length F)(hb:b<x.length):
  Nx (mi (SM x (.ro (dT qa A)) s3 (.ow (dT qf F)) (.ro (.int (S:Int))) (.ro (.int (b:Int))))) λρ=>∃q',ρ=SM x (.ro (dT qa A)) s3 (.ow (dT q' (stM x F S v b))) (.ro (.int (S:Int))) (.ro (.int (b:Int))):=by
 have tst:(kD (tV (aC gM (aC eZ (aC p6 (aB 5) (aB 6)) (eC (.int 1))) (eC (.int 0)))) (tV (aC gM (aC eZ (aC a9 (aB 1) (aB 6)) (aB 5)) (aC a9 (aB 1) (aB 6))))) (bW (SM x (.ro (dT qa A)) s3 (.ow (dT qf F)) (.ro (.int (S:Int))) (.ro (.int (b:Int)))))=aa (uK x b S):=by
  have e1:tV (aC gM (aC eZ (aC p6 (aB 5) (aB 6)) (eC (.int 1))) (eC (.int 0))) (bW (SM x (.ro (dT qa A)) s3 (.ow (dT qf F)) (.ro (.int (S:Int))) (.ro (.int (b:Int)))))=aa (!S.testBit b):=by refine l8 (aK (x:=.int (if S.testBit b=ae then 1 else 0)) (y:=.int 0) (w_ rfl rfl) rfl cV) ?_;show aa (Zv ((if S.testBit b=ae then(1:Int) else 0)=0))=_;cases S.testBit b<;>rfl
  have e2:tV (aC gM (aC eZ (aC a9 (aB 1) (aB 6)) (aB 5)) (aC a9 (aB 1) (aB 6))) (bW (SM x (.ro (dT qa A)) s3 (.ow (dT qf F)) (.ro (.int (S:Int))) (.ro (.int (b:Int)))))=aa (Zv (Mk x b &&& S=Mk x b)):=by have em:aC a9 (aB 1) (aB 6) (bW (SM x (.ro (dT qa A)) s3 (.ow (dT qf F)) (.ro (.int (S:Int))) (.ro (.int (b:Int)))))=aa (.int (Mk x b:Int)):=aK (x:=aG (wV x)) (y:=.int (b:Int)) rfl rfl (CJ hb);refine l8 (aK (x:=.int ((Mk x b &&& S:Nat):Int)) (y:=.int (Mk x b:Int)) (aK em rfl (qH _ _)) em cV) ?_;show aa (Zv (((Mk x b &&& S:Nat):Int)=(Mk x b:Int)))=_;congr 1;rw[decide_eq_decide];omega
  refine EH e1 (λ_=>?_) λh=>?_
  .rw [e2];unfold uK;rw[‹(!S.testBit b)=ae›,oh]
  .unfold uK;rw[h,zr]
 refine g7 _ tst (λhc=>?_) λhc=>?_
 .have hk:aC yV (aB 5) (aC lL (eC (.int 1)) (aB 6)) (bW (SM x (.ro (dT qa A)) s3 (.ow (dT qf F)) (.ro (.int (S:Int))) (.ro (.int (b:Int)))))=aa (.int ((S ||| 2^b:Nat):Int)):=by refine aK (x:=.int (S:Int)) (y:=.int ((2^b:Nat):Int)) rfl (aK (x:=.int ((1:Nat):Int)) (y:=.int (b:Int)) rfl rfl (by rw[qI (by decide) (by omega),uZ])) (LA _ _)
  have hl:=K9 o;have h2:(2:Nat)^x.length<=2^9:=mz (by decide) hn;refine⟨_,Xp (q:=qf) (F:=F) (h:=S ||| 2^b) (v:=(dU F (S ||| 2^b)).getD 0+v) ?_ rfl hk (by omega),adr qf,?_⟩
  .refine aK (x:=.int ((dU F (S ||| 2^b)).getD 0)) (y:=.int v) ?_ (aK (x:=dT qa A) (y:=.int (S:Int)) rfl rfl (wy hv)) fB;unfold mK;rw[hk];show EB (dT qf F) (.int ((S ||| 2^b:Nat):Int)) (.int 0)=_;exact R3 F qf _
  .unfold stM;rw[Z_ hc];rfl
 .refine gR ⟨qf,?_⟩;unfold stM;rw[Zz (by rw[hc];decide)]
def E7(hx:Ord.Rows x)(hn:x.length<=9):gS [aJ x]=.ok (.int (shares x).sum):=by
 unfold gS;have main:Rt ((aI (aN 1 (aH LL.fI (aA (aB 0) aE)))
  (aI (rS 2 (eC (.int 0)) (eC (.int 1)))
  (aI (b9 (aR (aA (bI aW (aA (aB 0) aE)) aE)) (gK 3)
   (aI (vS 4)
   (aI (HG 2 (b9 (vR (aB 2)) (gK 5)
    (b9 (aR (aA (bI aW (aA (aB 0) aE)) aE)) (gK 6) mi)))
   (zP 2 4))))
  (bB (aC kU (aB 2) (aC dS (aC lL (eC (.int 1)) (bI aW (aA (aB 0) aE))) (eC (.int 1)))))))) (c6 7 [aJ x])) λd=>d=.int (shares x).sum:=by
  refine bN (SM x .no .no .no .no .no) (eD _ (kF rfl (E1 hx hn)) rfl) ?_;refine bN (SM x (.ow (dT iL [(0,1)])) .no .no .no .no) rfl ?_;refine f7 (λρ=>∃q v3 v4 v5 v6,ρ=SM x (.ow (dT q (dO x x.length))) v3 v4 v5 v6) ?_ λρ ⟨q,v3,v4,v5,v6,e⟩=>?_
  .refine iC x.length (λi ρ=>∃q v3 v4 v5 v6,ρ=SM x (.ow (dT q (dO x i))) v3 v4 v5 v6) (args1 (c8 rfl eJ)) (by omega) ⟨_,_,_,_,_,rfl⟩ (λi ρ hi ⟨q,v3,v4,v5,v6,e⟩=>?_) λρ h=>h;subst e;obtain⟨oA,kA,tA⟩:=CQ hx i (by omega);refine⟨_,rfl,dH (SM x (.ow (dT q (dO x i))) (.ro (.int i)) (.ow (dT iL [])) v5 v6) rfl ?_⟩;refine lM (λρ=>∃q' u5 u6,ρ=SM x (.ro (dT q (dO x i))) (.ro (.int i)) (.ow (dT q' (Bs x (dO x i)))) u5 u6) ?_ λρ ⟨q',u5,u6,e⟩=>?_
   .have hgo:∀(B F:Tab) (qf:Nat->aw->Prop) (w5 w6:Sv),sM x.length F->Kl x (i+1) F->(∀p∈B,p∈dO x i) ->∃q' u5 u6,eT (gK 5) (b9 (aR (aA (bI aW (aA (aB 0) aE)) aE)) (gK 6) mi) (B.map λp=>D.int (p.1:Int)) (SM x (.ro (dT q (dO x i))) (.ro (.int i)) (.ow (dT qf F)) w5 w6)=.nx (SM x (.ro (dT q (dO x i))) (.ro (.int i)) (.ow (dT q' (B.foldl (NQ x) F))) u5 u6):=by
     intro B
     induction B with
     |nil=>intro F qf w5 w6 _ _ _;exact⟨qf,w5,w6,rfl⟩
     |cons p B ih =>
      intro F qf w5 w6 o k hB;have hp:=hB p b_;have hv:=get_mem oA.nd hp;have inner:Nx (b9 (aR (aA (bI aW (aA (aB 0) aE)) aE)) (gK 6) mi (SM x (.ro (dT q (dO x i))) (.ro (.int i)) (.ow (dT qf F)) (.ro (.int (p.1:Int))) w6)) λρ=>∃q' u6,ρ=SM x (.ro (dT q (dO x i))) (.ro (.int i)) (.ow (dT q' (NQ x F p))) (.ro (.int (p.1:Int))) u6:=by refine iC x.length (λb ρ=>∃q' u6,ρ=SM x (.ro (dT q (dO x i))) (.ro (.int i)) (.ow (dT q' (stN x F p.1 p.2 b))) (.ro (.int (p.1:Int))) u6) (args1 (c8 rfl eJ)) (by omega) ⟨_,_,rfl⟩ (λb ρ hb ⟨q',u6,e⟩=>?_) λρ h=>h;subst e;obtain⟨o1,k1,t1⟩:=HY (v:=p.2) o k (oA.lt p hp) (kA p hp) b (by omega);obtain⟨ρ1,e1,q1,e2⟩:=aBt hx hn (A:=dO x i) (F:=stN x F p.1 p.2 b) (qa:=q) (qf:=q') (S:=p.1) (b:=b) (v:=p.2) (s3:=.ro (.int i)) hv o1 hb;exact⟨_,rfl,ρ1,e1,q1,.ro (.int b),e2⟩
      obtain⟨ρ1,e1,q1,u6,e2⟩:=inner;subst e2;obtain⟨o1,k1,t1⟩:=Dp hx o k (oA.lt p hp) (kA p hp) hi;obtain⟨q',u5,u6',e3⟩:=ih (NQ x F p) q1 (.ro (.int (p.1:Int))) u6 o1 k1 λr hr=>hB r (dg _ hr);refine⟨q',u5,u6',?_⟩
      have e4:eT (gK 5) (b9 (aR (aA (bI aW (aA (aB 0) aE)) aE)) (gK 6) mi) ((p::B).map λp=>D.int (p.1:Int)) (SM x (.ro (dT q (dO x i))) (.ro (.int i)) (.ow (dT qf F)) w5 w6)=(match b9 (aR (aA (bI aW (aA (aB 0) aE)) aE)) (gK 6) mi (SM x (.ro (dT q (dO x i))) (.ro (.int i)) (.ow (dT qf F)) (.ro (.int (p.1:Int))) w6) with
       |.nx ρ2=>eT (gK 5) (b9 (aR (aA (bI aW (aA (aB 0) aE)) aE)) (gK 6) mi) (B.map λp=>D.int (p.1:Int)) ρ2
       |o=>o):=rfl
      rw[e4,e1];exact e3
    obtain⟨q',u5,u6,e⟩:=hgo (dO x i) [] iL v5 v6 ⟨kh,λ_ h=>by cases h⟩ (λ_ h=>by cases h) λ_ h=>h;refine⟨_,?_,q',u5,u6,rfl⟩;show b9 _ _ _ (SM x (.ro (dT q (dO x i))) (.ro (.int i)) (.ow (dT iL [])) v5 v6)=_;exact HI _ (R5 (dO x i) q) e
   .subst e;exact⟨_,rfl,q',_,_,_,_,rfl⟩
  .subst e;refine jJ _ ?_ rfl;have e1:aC dS (aC lL (eC (.int 1)) (bI aW (aA (aB 0) aE))) (eC (.int 1)) (bW (SM x (.ow (dT q (dO x x.length))) v3 v4 v5 v6))=aa (.int ((2^x.length-1:Nat):Int)):=by refine aK (x:=.int ((2^x.length:Nat):Int)) (y:=.int 1) (aK (x:=.int ((1:Nat):Int)) (y:=.int (x.length:Int)) rfl (c8 rfl eJ) (by rw[qI (by decide) (by omega),uZ])) rfl ?_;rw[kW];have:=yx x.length;congr 2;omega
   exact aK (x:=dT q (dO x x.length)) rfl e1 (wy (aBr hx))
 obtain⟨d,e,rfl⟩:=kE rfl main;exact e
end
def aBu(hx:Ord.Rows x)(hn:x.length<=9):∀r∈x,r.length<=9:=λr hr=>gn (Ord.Rows.short hx hr) hn
def B_(h:f (gJ ρ)=aa (.tup [p,q])):HH (bG f) (zN i j) ρ=.nx ((ρ.set i (.ro p)).set j (.ro q)):=by unfold HH bG;rw[h];rfl
def YA(hr:r.Nodup)(hl:l.Nodup):sortI (r++l.filter λt=>!r.contains t)=both r l:=by
 refine EI ?_ ((B2 r l).imp λh=>by omega);refine(zf ((B2 r l).imp λh=>by omega) ?_).2 λt=>?_
 .rw [iy];refine⟨hr,qb _ hl,λa ha b hb e=>?_⟩;have:=(f_.1 hb).2;rw[<- e] at this;simp[ha] at this
 .rw [EM,ft,f_];by_cases h:t∈r
  .simp [h]
  .simp [h]
def E8(hx:Ord.Rows x)(hn:x.length<=9)(ha:0<=a/\a<(x.length:Int))(hb:0<=b/\b<(x.length:Int)):jX [aJ x,.int a,.int b]=.ok (aJ (put x a b)):=by
 unfold jX;have hs:=aBu hx hn;have rn:∀c:Int,0<=c->c<(x.length:Int)->(row x c).Nodup/\(row x c).length<=9:=λc h0 h1=>by have e:=Q9.f6 h0 h1;exact⟨(hx.up _ _ e).imp λq=>by omega,hs _ (jt e)⟩
 have ra:=rn a ha.1 ha.2;have hlow:(row x a++[a]).Nodup:=by rw[iy];refine⟨ra.1,by simp,λs h1 t h2 e=>?_⟩;rw[br] at h2;have:=hx.QY a.toNat (row x a) (Q9.f6 ha.1 ha.2);rw[show((a.toNat:Nat):Int)=a by omega] at this;exact this (by rw[e,h2] at h1;exact h1)
 have hpl:=cK x a b;have main:Rt ((aI (aN 3 (aC bA (bI pX (aA (aC a9 (aB 0) (aB 1)) aE)) (dC (aA (aB 1) aE))))
  (aI (fG 4 (dC aE))
  (aI (b9 (aR (aA (bI aW (aA (aB 0) aE)) aE)) (gK 5)
   (aI (aN 6 (bI pX (aA (aC a9 (aB 0) (aB 5)) aE)))
   (aI (eO (yN (tV (aC gM (aB 5) (aB 2))) (tV (aC (oO ag) (aB 2) (aC a9 (aB 0) (aB 5)))))
    (aN 6 (aC bA (aB 6) (bJ 1 [6] (cC (aB 3)) (g1 0) (tV (aC (oO ae) (aB 0) (aB 1))) (aB 0))))
    cJ)
   (sX (kR 4 eQ (bG (bI cB (aA (bI fZ (aA (aB 6) aE)) aE))))))))
  (bB (bI cB (aA (aB 4) aE)))))) (c6 7 [aJ x,.int a,.int b])) λd=>d=aJ (put x a b):=by
  refine bN [.ro (aJ x),.ro (.int a),.ro (.int b),.ro (aG (row x a++[a])),.no,.no,.no] (eD (aG (row x a++[a])) (aK (x:=aG (row x a)) (y:=aG [a]) (c8 (x:=tupI (row x a)) (aK (x:=aJ x) (y:=.int a) rfl rfl (pG ha.1 ha.2)) rfl) rfl (by unfold aG;rw[iO (by simp;omega),cy])) rfl) ?_;refine bN [.ro (aJ x),.ro (.int a),.ro (.int b),.ro (aG (row x a++[a])),.ow (.lst []),.no,.no] rfl ?_;refine f7 (λρ=>∃v5 v6,ρ=[.ro (aJ x),.ro (.int a),.ro (.int b),.ro (aG (row x a++[a])),.ow (.lst (((put x a b).take x.length).map tupI)),v5,v6]) ?_ λρ ⟨v5,v6,e⟩=>?_
  .refine iC x.length (λi ρ=>∃v5 v6,ρ=[.ro (aJ x),.ro (.int a),.ro (.int b),.ro (aG (row x a++[a])),.ow (.lst (((put x a b).take i).map tupI)),v5,v6]) (args1 (c8 rfl eJ)) (by omega) ⟨_,_,rfl⟩ (λi ρ hi ⟨v5,v6,e⟩=>?_) λρ h=>h;subst e;have ri:=rn i (by omega) (by omega);have hrow:row (put x a b) (i:Int)=HM b (row x a++[a]) (row x i,i):=by have:=B3 (x:=x) (a:=a) (b:=b) (d:=(i:Int)) (by omega) (by omega);rw[gk] at this;exact this
   refine⟨[.ro (aJ x),.ro (.int a),.ro (.int b),.ro (aG (row x a++[a])),.ow (.lst (((put x a b).take i).map tupI)),.ro (.int i),v6],rfl,?_⟩;refine dH [.ro (aJ x),.ro (.int a),.ro (.int b),.ro (aG (row x a++[a])),.ow (.lst (((put x a b).take i).map tupI)),.ro (.int i),.ro (aG (row x i))] (eD (aG (row x i)) (c8 (x:=tupI (row x i)) (aK (x:=aJ x) (y:=.int i) rfl rfl (pG (by omega) (by omega))) rfl) rfl) ?_;refine lM (λρ=>∃r:Q0e,(r.length<64/\sortI r=row (put x a b) (i:Int))/\ρ=[.ro (aJ x),.ro (.int a),.ro (.int b),.ro (aG (row x a++[a])),.ow (.lst (((put x a b).take i).map tupI)),.ro (.int i),.ro (aG r)]) ?_ λρ ⟨r,hr,e⟩=>?_
   .refine g7 (Zv ((i:Int)=b)||(row x i).contains b) ?_ (λhc=>?_) λhc=>gR ⟨row x i,⟨by omega,?_⟩,rfl⟩
    .refine Rm (b:=Zv ((i:Int)=b)) (l8 (aK rfl rfl cV) rfl) (λh=>?_) λh=>by rw[h];rfl
     rw[h,vd];exact l8 (aK (x:=.int b) (y:=tupI (row x i)) rfl (aK (x:=aJ x) (y:=.int i) rfl rfl (pG (by omega) (by omega))) jW) rfl
    .have hfl:((row x a++[a]).filter λt=>!(row x i).contains t).length<=10:=gn (j_ _ _) (by rw[bq];simp;omega);refine lN (aG (row x i++(row x a++[a]).filter λt=>!(row x i).contains t)) (aK (x:=aG (row x i)) (y:=aG ((row x a++[a]).filter λt=>!(row x i).contains t)) rfl ?_ ?_) ⟨_,⟨by rw[bq];omega,?_⟩,rfl⟩
     .refine iN ((row x a++[a]).map D.int) rfl (by rw[az,bq];simp;omega) ?_;exact eF D.int (λt=>!(row x i).contains t) D.int _ λt _=>⟨[aa (.int t),aa (aG (row x i))],rfl,l8 (aK rfl rfl uU) rfl,λ_=>rfl⟩
     .unfold aG;rw[iO (by rw[az,az];omega),cy]
     .rw [YA ri.1 hlow,hrow];unfold HM;rw[Z_ hc]
    .rw [hrow];unfold HM;rw[Zz (by rw[hc];decide)];have e:=Q9.f6 (x:=x) (b:=(i:Int)) (by omega) (by omega);exact EI (a2C _) ((hx.up _ _ e).imp λq=>by omega)
   .subst e;refine⟨_,NG (d:=tupI (row (put x a b) i)) (ds:=((put x a b).take i).map tupI) (c8 (x:=aG (row (put x a b) i)) (c8 (x:=aG r) rfl (by rw[<- hr.2];exact sorted_ints hr.1)) rfl) rfl (by rw[az,ji];omega),.ro (.int i),.ro (aG r),?_⟩;have e6:(put x a b).take (i+1)=(put x a b).take i++[row (put x a b) i]:=by rw[Gh];have:=Q9.f6 (x:=put x a b) (b:=(i:Int)) (by omega) (by rw[hpl];omega);rw[gk] at this;rw[this];rfl
    rw[e6,cy];rfl
  .subst e;rw[ph (by rw[hpl];exact bc _)];exact jJ _ rfl rfl
 obtain⟨d,e,rfl⟩:=kE rfl main;exact e
def i8:fY:=bY 4 1
  (aI (fG 1 (dC aE))
  (aI (b9 (aR (aA (bI aW (aA (aB 0) aE)) aE)) (gK 2)
   (b9 (aR (aA (aC bA (aB 2) (eC (.int 1))) (aA (bI aW (aA (aB 0) aE)) aE))) (gK 3)
    (eO (kD (tV (aC (oO ae) (aB 2) (aC a9 (aB 0) (aB 3)))) (tV (aC (oO ae) (aB 3) (aC a9 (aB 0) (aB 2)))))
     (sX (kR 1 eQ (bG (dG (aA (aB 2) (aA (aB 3) aE))))))
     cJ)))
  (bB (aB 1))))
def gG:fY:=bY 12 2
  (aI (fG 2 (dC aE))
  (aI (vS 3)
  (aI (fG 4 (dC (aA (aB 0) aE)))
  (aI (BO 3000000 (tV (aC rN (bI aW (aA (aB 4) aE)) (eC (.int 0))))
   (aI (oP 5 (dZ (aC a9 (aB 4) (jE (eC (.int 1))))))
   (aI (aN 6 (aH LL.i8 (aA (aB 5) aE)))
   (eO (tV (aC (uJ ag) (aB 5) (aB 3)))
    (sX (zM 4))
    (eO (tV (aC gM (bI aW (aA (aB 6) aE)) (eC (.int 0))))
     (aI (gC 3 (dZ (bI aW (aA (aB 2) aE))) (aB 5))
     (sX (kR 2 eQ (bG (dG (aA (aB 5) (aA (dG aE) aE)))))))
     (aI (aN 7 (aC a9 (aB 1) (aC cZ (bI uI (aA (bJ 1 [] (cC (aB 5)) (g1 0) cM (bI aW (aA (aB 0) aE))) aE)) (bI aW (aA (aB 1) aE)))))
     (aI (HH (bG (aC a9 (aB 6) (aC cZ (aB 7) (bI aW (aA (aB 6) aE))))) (zN 8 9))
     (aI (eO (tV (aC gM (aC cZ (aC kT (aB 7) (eC (.int 7))) (eC (.int 2))) (eC (.int 1))))
      (M8 8 9 (aA (aB 9) (aA (aB 8) aE)))
      cJ)
     (aI (aN 10 (dC (aA (aH LL.jX (aA (aB 5) (aA (aB 8) (aA (aB 9) aE)))) (aA (aH LL.jX (aA (aB 5) (aA (aB 9) (aA (aB 8) aE)))) aE))))
     (aI (jH 11 (bJ 1 [3] (cC (aB 10)) (g1 0) (tV (aC (uJ ae) (aB 0) (aB 1))) (aB 0)))
     (eO (tV (aC rN (bI aW (aA (aB 11) aE)) (eC (.int 0))))
      (sX (kR 4 eQ (bG (aC a9 (aB 11) (aC cZ (aC kT (aB 7) (eC (.int 16))) (bI aW (aA (aB 11) aE)))))))
      (aI (gC 3 (dZ (bI aW (aA (aB 2) aE))) (aB 5))
      (sX (kR 2 eQ (dZ (dG (aA (aB 5) (aA (dG (aA (aB 8) (aA (aB 9) (aA (aC kU (aB 3) (aC a9 (aB 10) (eC (.int 0)))) (aA (aC kU (aB 3) (aC a9 (aB 10) (eC (.int 1)))) aE))))) aE))))))))))))))))))
  (bB (aB 2))))))
def i9:fY:=bY 8 3
  (aI (aN 3 (aH LL.bR (aA (aH LL.bT (aA (aB 0) (aA (aB 1) aE))) (aA (eC (.int 3)) (aA (aB 2) aE)))))
  (aI (aN 4 (aC a9 (dC (aA (eC (.int 5)) (aA (eC (.int 4)) (aA (eC (.int 3)) (aA (eC (.int 5)) (aA (eC (.int 4)) (aA (eC (.int 2)) (aA (eC (.int 1)) (aA (eC (.int 0)) aE))))))))) (aC cZ (aC a9 (aB 3) (eC (.int 0))) (eC (.int 8)))))
  (aI (aN 5 (aC a9 (dC (aA (eC (.int 1)) (aA (eC (.int 1)) (aA (eC (.int 2)) (aA (eC (.int 2)) (aA (eC (.int 3)) (aA (eC (.int 1)) (aA (eC (.int 0)) (aA (eC (.int 2)) aE))))))))) (aC cZ (aC a9 (aB 3) (eC (.int 1))) (eC (.int 8)))))
  (aI (eO (tV (aC gM (aC cZ (aC a9 (aB 3) (eC (.int 2))) (eC (.int 8))) (eC (.int 3))))
   (aI (aN 4 (aC bA (eC (.int 6)) (aC cZ (aC a9 (aB 3) (eC (.int 0))) (eC (.int 4)))))
   (aN 5 (eC (.int 3))))
   cJ)
  (aI (aN 6 (aH LL.bR (aA (aH LL.bT (aA (aB 0) (aA (aC bA (aB 1) (eC (.int 1))) aE))) (aA (aC bA (aB 4) (aC kT (aC mulM (aB 4) (aC dS (aB 4) (eC (.int 1)))) (eC (.int 2)))) (aA (aC bA (aB 2) (eC (.int 10007))) aE)))))
  (aI (aN 7 (aH LL.dW (aA (aB 6) (aA (aB 4) (aA (aB 5) aE)))))
  (aI (eO (kD (tV (aC rN (aB 4) (eC (.int 5)))) (tV (aC rN (aH LL.gS (aA (aB 7) aE)) (eC (.int 60)))))
   (aN 7 (aH LL.dW (aA (aB 6) (aA (aB 4) (aA (eC (.int 4)) aE)))))
   cJ)
  (bB (aB 7)))))))))
def jA:fY:=bY 5 2
  (aI (fG 2 (dC aE))
  (aI (b9 (cC (aB 0)) (zN 3 4)
   (aI (eO (tV (aC rN (bI aW (aA (aB 4) aE)) (eC (.int 0))))
    (aN 4 (dG (aA (aC a9 (aB 4) (eC (.int 0))) (aA (aC a9 (aB 4) (eC (.int 1))) (aA (aC bA (aC a9 (aB 4) (eC (.int 2))) (aB 1)) (aA (aC bA (aC a9 (aB 4) (eC (.int 3))) (aB 1)) aE))))))
    cJ)
   (sX (kR 2 eQ (bG (dG (aA (aB 3) (aA (aB 4) aE))))))))
  (bB (aB 2))))
def cP:fY:=bY 2 2
  (bB (bI KO (aA (bJ 1 [0,1] (aR (aA (aC dS (bI aW (aA (aB 0) aE)) (eC (.int 1))) aE)) (g1 0) (tV (aC yT (aC a9 (aC a9 (aB 1) (aB 0)) (eC (.int 0))) (aC a9 (aC a9 (aB 1) (aB 2)) (eC (.int 0))))) (aB 0)) aE)))
def jN:fY:=bY 9 1
  (aI (aN 1 (aH LL.i9 (aA (aB 0) (aA (eC (.int 0)) (aA (eC (.int 100003)) aE)))))
  (aI (aN 2 (aH LL.bR (aA (aH LL.bT (aA (aB 0) (aA (eC (.int 2)) aE))) (aA (eC (.int 45)) (aA (eC (.int 200017)) aE)))))
  (aI (aN 3 (aH LL.bR (aA (aH LL.bT (aA (aB 0) (aA (eC (.int 3)) aE))) (aA (eC (.int 7)) (aA (eC (.int 300007)) aE)))))
  (aI (aN 4 (aH LL.gG (aA (aB 1) (aA (aB 2) aE))))
  (aI (eO (tV (aC gM (aC cZ (aC a9 (aB 3) (eC (.int 0))) (eC (.int 3))) (eC (.int 1))))
   (aI (aN 5 (aH LL.dW (aA (aC bA (DW (aB 3) (oE (eC (.int 1))) (oE (eC (.int 5)))) (aB 2)) (aA (bI aW (aA (aB 1) aE)) (aA (eC (.int 3)) aE)))))
   (eO (tV (aC leM (aC bA (aC mulM (eC (.int 2)) (aH LL.gS (aA (aB 5) aE))) (bI aW (aA (aB 4) aE))) (eC (.int 280))))
    (aI (aN 6 (aH LL.gG (aA (aB 5) (aA (aB 2) aE))))
    (aN 4 (aC bA (aB 6) (aH LL.jA (aA (aB 4) (aA (bI aW (aA (aB 6) aE)) aE))))))
    cJ))
   cJ)
  (aI (fG 7 (bJ 1 [4,3] (aR (aA (aC cZ (aC a9 (aB 3) (eC (.int 3))) (eC (.int 4))) aE)) (g1 0) cM (aC a9 (aB 1) (aC cZ (aC bA (aC a9 (aB 2) (eC (.int 1))) (aC mulM (aB 0) (aC a9 (aB 2) (eC (.int 2))))) (bI aW (aA (aB 1) aE))))))
  (aI (aN 8 (aC a9 (aC a9 (aB 4) (jE (eC (.int 1)))) (eC (.int 1))))
  (aI (eO (kD (tV (aC rN (bI aW (aA (aB 8) aE)) (eC (.int 0)))) (tV (aC gM (aC cZ (aC a9 (aB 3) (eC (.int 5))) (eC (.int 2))) (eC (.int 1)))))
   (sX (kR 7 eQ (bG (aC a9 (aB 4) (aC a9 (aB 8) (aC bA (eC (.int 2)) (aC cZ (aC a9 (aB 3) (eC (.int 6))) (eC (.int 2)))))))))
   cJ)
  (aI (jH 4 (aC DZ (aC bA (DW (aB 4) KH (oE (jE (eC (.int 1))))) (aB 7)) (DW (aB 4) (oE (jE (eC (.int 1)))) KH)))
  (aI (eO (kD (tV (aC rN (bI aW (aA (aB 8) aE)) (eC (.int 0)))) (tV (aC gM (aC cZ (aC kT (aC a9 (aB 3) (eC (.int 5))) (eC (.int 2))) (eC (.int 2))) (eC (.int 1)))))
   (aN 8 (dG (aA (aC a9 (aB 8) (eC (.int 0))) (aA (aC a9 (aB 8) (eC (.int 1))) (aA (aH LL.cP (aA (aB 4) (aA (aC a9 (aB 8) (eC (.int 2))) aE))) (aA (aH LL.cP (aA (aB 4) (aA (aC a9 (aB 8) (eC (.int 3))) aE))) aE))))))
   cJ)
  (bB (dG (aA (aB 1) (aA (aC bA (DW (aB 4) KH (oE (jE (eC (.int 1))))) (dC (aA (dG (aA (aC a9 (aC a9 (aB 4) (jE (eC (.int 1)))) (eC (.int 0))) (aA (aB 8) aE))) aE))) aE))))))))))))))
def SQ(h:p∈loose x):(0<=p.1/\p.1<(x.length:Int))/\(0<=p.2/\p.2<(x.length:Int))/\fM x p.1 p.2=ae:=by unfold loose at h;obtain⟨a,ha,hp⟩:=zg.1 h;unfold fH at hp;obtain⟨b,hb,rfl⟩:=gj.1 hp;have h1:=bD.1 ha;have h2:=f_.1 hb;have h3:=bD.1 h2.1;exact⟨by dsimp only;omega,by dsimp only;omega,h2.2⟩
theorem sU(x:Q0a):∀k,k<=x.length->((aY 0 k).flatMap (fH x)).length<=k*x.length
 |0,_=>by simp[aY]
 |k+1,h=>by have ih:=sU x k (by omega);have h2:=EK x (a:=0+(k:Int)) (by omega);rw[i5,a2p,bq,yz];simp only[uw,List.flatMap_nil,kl];omega
def HZ(hn:x.length<=9):i8 [aJ x]=.ok (.lst ((loose x).map pairD)):=by
 unfold i8;have main:Rt ((aI (fG 1 (dC aE))
  (aI (b9 (aR (aA (bI aW (aA (aB 0) aE)) aE)) (gK 2)
   (b9 (aR (aA (aC bA (aB 2) (eC (.int 1))) (aA (bI aW (aA (aB 0) aE)) aE))) (gK 3)
    (eO (kD (tV (aC (oO ae) (aB 2) (aC a9 (aB 0) (aB 3)))) (tV (aC (oO ae) (aB 3) (aC a9 (aB 0) (aB 2)))))
     (sX (kR 1 eQ (bG (dG (aA (aB 2) (aA (aB 3) aE))))))
     cJ)))
  (bB (aB 1)))) (c6 4 [aJ x])) λd=>d=.lst ((loose x).map pairD):=by
  refine bN [.ro (aJ x),.ow (.lst []),.no,.no] rfl ?_;refine f7 (λρ=>∃v2 v3,ρ=[.ro (aJ x),.ow (.lst ((loose x).map pairD)),v2,v3]) ?_ λρ ⟨v2,v3,e⟩=>by subst e;exact jJ _ rfl rfl
  refine iC x.length (λi ρ=>∃v2 v3,ρ=[.ro (aJ x),.ow (.lst (((aY 0 i).flatMap (fH x)).map pairD)),v2,v3]) (args1 (c8 rfl eJ)) (by omega) ⟨_,_,rfl⟩ (λi ρ hi ⟨v2,v3,e⟩=>?_) λρ h=>h;subst e;refine⟨[.ro (aJ x),.ow (.lst (((aY 0 i).flatMap (fH x)).map pairD)),.ro (.int i),v3],rfl,?_⟩;have hl0:=sU x i (by omega);have hl1:i*x.length<=9*9:=Gg (by omega) hn;generalize hA:(aY 0 i).flatMap (fH x)=A at hl0;have hnext:(aY 0 (i+1)).flatMap (fH x)=A++fH x i:=by rw[i5,a2p,hA,il];simp
  rw[hnext];have hm:((x.length:Int)-((i:Int)+1)).toNat=x.length-(i+1):=by omega
  let R:Nat->List (Int×Int):=λj=>((aY ((i:Int)+1) j).filter λb=>fM x i b).map λb=>((i:Int),b)
  refine B1 ((aY ((i:Int)+1) (x.length-(i+1))).map D.int) (λj ρ=>∃v3,ρ=[.ro (aJ x),.ow (.lst ((A++R j).map pairD)),.ro (.int i),v3]) ?_ ⟨v3,by simp[R,aY]⟩ (λj d ρ hd ⟨v3,e⟩=>?_) λρ ⟨v3,e⟩=>⟨.ro (.int i),v3,?_⟩
  .have:=Xy (a:=aC bA (aB 2) (eC (.int 1))) (b:=bI aW (aA (aB 0) aE)) (ρ:=gJ [.ro (aJ x),.ow (.lst (A.map pairD)),.ro (.int i),v3]) (i:=(i:Int)+1) (j:=(x.length:Int)) rfl (c8 rfl eJ) (by omega) (by omega);rw[this,hm]
  .subst e;have hj:j<x.length-(i+1):=by have:=(cn.1 hd).1;simpa[aO] using this
   rw[cg,jI hj] at hd;cases hd;obtain⟨b,hb⟩:∃b:Int,(i:Int)+1+(j:Int)=b:=⟨_,rfl⟩;rw[hb];have hlb:fM x i b=(!(row x b).contains (i:Int) && !(row x i).contains b):=by unfold fM;rw[Zy (by omega)];skip;rfl
   have Ad:R (j+1)=R j++(if fM x i b=ae then[((i:Int),b)] else[]):=by
    show((aY ((i:Int)+1) (j+1)).filter λb=>fM x i b).map _=_;rw[i5,hb,List.filter_append,cy];congr 1;by_cases h:fM x i b=ae
    .rw [Z_ h,a2s h];rfl
    .rw [Zz h,a2t h];rfl
   have Iz:(R j).length<=9:=by show(((aY ((i:Int)+1) j).filter _).map _).length<=9;rw[az];refine gn (j_ _ _) ?_;rw[aO];omega
   refine⟨[.ro (aJ x),.ow (.lst ((A++R j).map pairD)),.ro (.int i),.ro (.int b)],rfl,?_⟩;refine g7 (fM x i b) ?_ (λhc=>?_) λhc=>gR ⟨.ro (.int b),?_⟩
   .rw [hlb];refine EH (b:=!(row x b).contains (i:Int)) (l8 (aK (x:=.int i) (y:=tupI (row x b)) rfl (aK (x:=aJ x) (y:=.int b) rfl rfl (pG (by omega) (by omega))) jW) rfl) (λh=>?_) λh=>by rw[h];rfl
    rw[h,oh];exact l8 (aK (x:=.int b) (y:=tupI (row x i)) rfl (aK (x:=aJ x) (y:=.int i) rfl rfl (pG (by omega) (by omega))) jW) rfl
   .refine ⟨_,NG (d:=pairD ((i:Int),b)) (ds:=(A++R j).map pairD) rfl rfl (by rw[az,bq];omega),.ro (.int b),?_⟩;rw[Ad,Z_ hc,<- n_,cy (l₁:=A++R j)];rfl
   .rw [Ad,Zz (by rw[hc];decide),kl]
  .rw [e,az,aO];show[Sv.ro (aJ x),Sv.ow (.lst ((A++R (x.length-(i+1))).map pairD)),Sv.ro (.int i),v3]=_;unfold fH;rw[hm]
 obtain⟨d,e,rfl⟩:=kE rfl main;exact e
def nY(h:fM x a b=ae):fM x b a=ae/\(a≠b)/\z4 x a b=ag/\z4 x b a=ag:=by unfold fM at h ⊢;unfold z4;simp only[gw,zq,decide_eq_false_iff_not] at h ⊢;obtain⟨h1,h2,h3⟩:=h;rw[h2,h3];simp only[vc,decide_eq_false_iff_not];exact⟨⟨e_ h1,trivial,trivial⟩,h1,h1,e_ h1⟩
abbrev PR:=List (List Int)×List Int
def aQ(r:PR):D:=.tup [aJ r.1,tupI r.2]
def kO(x:Q0a):vP:=.inr (x.map λr=>iq (r.map c_))
theorem LK:∀x:Q0a,mJ (x.map tupI)=aa (x.map λr=>iq (r.map c_))
 |[]=>rfl
 |r::x=>by have ih:=LK x;show((vQ (r.map D.int)).map iq).bind (λk=>(mJ (x.map tupI)).map (k :: ·))=_;rw[sH,ih];rfl
def SR(x:Q0a):jT (aJ x)=aa (kO x):=by show(mJ (x.map tupI)).map iq=_;rw[LK];rfl
theorem map_inj{α β:Type}{f:α->β}(hf:∀a b,f a=f b->a=b):∀{l m:List α},l.map f=m.map f->l=m
 |[],[],_=>rfl
 |[],_::_,h=>by simp at h
 |_::_,[],h=>by simp at h
 |a::l,b::m,h=>by rw[ba,ba,p_] at h;rw[hf a b h.1,map_inj hf h.2]
def SS{x y:Q0a}(h:kO x=kO y):x=y:=by refine map_inj (λa b e=>?_) (tm h);exact B7 (tm e)
theorem Dm:∀x:Q0a,jS (x.map tupI)=ae
 |[]=>rfl
 |r::x=>by rw[ba,jS,Dm x,tupI,D.tT,i6];rfl
def wZ(x:Q0a):(aJ x).tT=ae:=Dm x
theorem SU:∀W:List (List (List Int)),jS (W.map aJ)=ae
 |[]=>rfl
 |x::W=>by rw[ba,jS,SU W,wZ];rfl
def E9(r:PR):(aQ r).tT=ae:=by show(jS [aJ r.1,tupI r.2])=ae;simp only[jS,wZ,tupI,D.tT,i6];rfl
def lK(R:List PR):KD:=(R.map λr=>kO r.1,(aY 0 R.length).map D.int)
def IA(R:List PR)(y:Q0a):Option Nat:=R.findIdx? λr=>Zv (r.1=y)
theorem LM(y:Q0a):∀(R:List PR) (lo:Int),bP (R.map λr=>kO r.1) ((aY lo R.length).map D.int) (kO y)=(R.findIdx? λr=>Zv (r.1=y)).map λi:Nat=>D.int (lo+(i:Int))
 |[],lo=>rfl
 |r::R,lo=>by
  have ih:=LM y R (lo+1);have e:aY lo (r::R).length=lo::aY (lo+1) R.length:=by
   unfold aY;rw[bx,Gn,ba,dq];congr 1
   .simp
   .refine gd λk _=>?_;show lo+((k+1:Nat):Int)=lo+1+(k:Int);omega
  rw[e,ba,ba];unfold bP at ih ⊢;rw[uo,ib,List.findIdx?_cons];by_cases h:r.1=y
  .rw [show Zv ((kO r.1,D.int lo).1=kO y)=ae from Zx (by show kO r.1=kO y;rw[h]),Zx h];show aa (D.int lo)=aa (D.int (lo+((0:Nat):Int)));congr 2;omega
  .rw [show Zv ((kO r.1,D.int lo).1=kO y)=ag from Zy λq=>h (SS q),Zy h];dsimp only;rw[ih]
   cases R.findIdx? λr=>Zv (r.1=y) with
   |none=>rfl
   |some i =>
    show aa (D.int (lo+1+(i:Int)))=aa (D.int (lo+((i+1:Nat):Int)));congr 2;omega
def SV(R:List PR)(y:Q0a):bP (lK R).1 (lK R).2 (kO y)=(IA R y).map λi:Nat=>D.int (i:Int):=by
 have:=LM y R 0;unfold lK IA;rw[this];congr 1
 funext i
 rw[il]
def IB(R:List PR)(y:Q0a):kindB (lK R).1 (kO y)=ae:=by unfold kindB lK;rw[ke];intro q hq;obtain⟨r,_,rfl⟩:=gj.1 hq;rfl
def dE(R:List PR)(y:Q0a):Bool:=R.any λr=>Zv (r.1=y)
def fR:dE R y=ae ↔ ∃r∈R,r.1=y:=by unfold dE;rw[uy];exact⟨λ⟨r,h,e⟩=>⟨r,h,by simpa using e⟩,λ⟨r,h,e⟩=>⟨r,h,by simpa using e⟩⟩
def mT:(IA R y).isSome=dE R y:=by unfold IA dE;rw[List.findIdx?_isSome]
def CS(h:IA R y=aa i):∃r,R[i]?=aa r/\r.1=y:=by unfold IA at h;obtain⟨hi,hp,_⟩:=List.findIdx?_eq_some_iff_getElem.1 h;exact⟨R[i],getElem?_eq_getElem hi,by simpa using hp⟩
def SW(h:IA R y=aa i):i<R.length:=by obtain⟨r,hr,_⟩:=CS h;exact(cn.1 hr).1
def LN(h:IA R y=aa i):IA (R++S) y=aa i:=by unfold IA at h ⊢;rw[List.findIdx?_append,h];rfl
def Ye(w:Q0e)(h:dE R y=ag):d7 (lK R).1 (lK R).2 (kO y) (.int R.length)=lK (R++[(y,w)]):=by
 unfold d7;rw[Zz]
 .unfold lK;rw[cy,bq,bx,fg,qv,i5,cy];show(_,_++[D.int R.length])=(_,_++[D.int (0+(R.length:Int))]);rw[il];rfl
 .intro q;rw[uy] at q;obtain⟨k,hk,e⟩:=q;obtain⟨r,hr,rfl⟩:=gj.1 (show k∈R.map λr=>kO r.1 from hk);have:dE R y=ae:=fR.2 ⟨r,hr,SS (by simpa using e)⟩;rw[this] at h;cases h
structure qK (n:Nat) (R:List PR) (i:Nat) (r:PR):Prop where
 rows:Ord.Rows r.1
 len:r.1.length=n
 why:(loose r.1=[]/\r.2=[]) \/∃(a b:Int) (p q:Nat) (u v:PR),loose r.1≠[]/\r.2=[a,b,(p:Int),(q:Int)]/\(0<=a/\a<(n:Int))/\(0<=b/\b<(n:Int))/\fM r.1 a b=ae/\p<i/\q<i/\R[p]?=aa u/\u.1=put r.1 a b/\R[q]?=aa v/\v.1=put r.1 b a
def GoodR(n:Nat)(R:List PR):Prop:=∀(i:Nat) (r:PR),R[i]?=aa r->qK n R i r
def u3{R S:List PR}{i:Nat}{r:PR}(h:R[i]?=aa r):(R++S)[i]?=aa r:=by rw[ik (cn.1 h).1];exact h
def qK.app{n:Nat}{R S:List PR}{i j:Nat}{r:PR}(h:qK n R i r)(hij:i<=j):qK n (R++S) j r:=by
 refine⟨h.rows,h.len,?_⟩;rcases h.why with z|⟨a,b,p,q,u,v,h0,h1,h2,h3,h4,h5,h6,h7,h8,h9,qh⟩
 .exact .inl z
 .exact .inr ⟨a,b,p,q,u,v,h0,h1,h2,h3,h4,by omega,by omega,u3 h7,h8,u3 h9,qh⟩
def GoodR.snoc(g:GoodR n R)(h:qK n R R.length r):GoodR n (R++[r]):=λi s hs=>by
 by_cases hi:i<R.length
 .rw [ik hi] at hs;exact(g i s hs).app (bc _)
 .have:=(cn.1 hs).1;rw[bq,bx,fg] at this;have e:i=R.length:=by omega
  subst e;rw[ic (bc _),my] at hs;cases hs;exact h.app (bc _)
def gl(x:Q0a):Nat:=(gls x x.length).length
def sV(hx:Ord.Rows x):1<=gl x:=by have h1:=pJ hx;have h2:=LF (x:=x);unfold gl;omega
theorem aBv(hab:a≠b)(ha:0<=a/\a<(x.length:Int))(hb:0<=b/\b<(x.length:Int)):gl x=gl (put x a b)+gl (put x b a):=by
 have hp:(gls x x.length).Perm (gls (put x a b) x.length++gls (put x b a) x.length):=by
  refine(zf (mR _) ?_).2 λw=>?_
  .rw [iy];refine⟨mR _,mR _,λw h1 w' h2 e=>?_⟩;subst e;have o1:=j5 hb h1;have o2:=j5 ha h2;exact LH (jM (d9 o1.1).2).1 o1.2 o2.2
  .rw [ft];refine⟨λh=>?_,λh=>?_⟩
   .rcases SE hab ha hb h with z|z
    .exact .inl (CO ha hb h z)
    .exact .inr (CO hb ha h z)
   .rcases h with z|z
    .exact (j5 hb z).1
    .exact (j5 ha z).1
 unfold gl;rw[hp.length_eq,bq,cK,cK]
noncomputable def wx:Nat->Nat->Nat
 |_,0=>1
 |n,i+1=>wx n i*(n-i)
theorem LO:∀i:Nat,(gls x i).length<=wx x.length i
 |0=>bc 1
 |i+1=>by
  have ih:=LO (x:=x) i;have go:∀L:Q0a,(∀w∈L,w∈gls x i)->(L.flatMap λw=>(aP x w).map λt=>w++[t]).length<=L.length*(x.length-i):=by
   intro L
   induction L with
   |nil=>intro _;simp
   |cons w L ihL =>
    intro h;have hw:=d9 (h w b_);have nd:=jM hw.2;have hf:=i7 (x:=x) (a:=w) ⟨nd.1,nd.2⟩;have:=ihL λu hu=>h u (dg _ hu);rw[uw,bq,az,bx,a18];omega
  have h1:=go (gls x i) λw h=>h;exact gn h1 (Gf _ ih)
def SX(hn:x.length<=9):gl x<=362880:=by
 have h1:=LO (x:=x) x.length;have h2:∀n:Nat,n<=9->wx n n<=362880:=by
  intro n hn;have:n=0\/n=1\/n=2\/n=3\/n=4\/n=5\/n=6\/n=7\/n=8\/n=9:=by omega
  rcases this with z|z|z|z|z|z|z|z|z|z<;>subst z<;>decide
 exact gn h1 (h2 _ hn)
def eK(dr:Q0e)(y:Q0a):Int:=at0 dr ((y.map λr=>(r.length:Int)).sum%(dr.length:Int))
def cH(dr:Q0e)(y:Q0a):Int×Int :=
 let p:=((loose y)[(eK dr y%((loose y).length:Int)).toNat]?).getD (0,0)
 if eK dr y/7%2=1 then(p.2,p.1) else p
def Dl(h:loose y≠[]):(0<=(cH dr y).1/\(cH dr y).1<(y.length:Int))/\(0<=(cH dr y).2/\(cH dr y).2<(y.length:Int))/\fM y (cH dr y).1 (cH dr y).2=ae:=by
 have hl:0<(loose y).length:=Gs.2 h;have h0:=ip (eK dr y) (show((loose y).length:Int)≠0 by omega);have h1:=jd (eK dr y) (show(0:Int)<((loose y).length:Int) by omega);have hm:((loose y)[(eK dr y%((loose y).length:Int)).toNat]?).getD (0,0)∈loose y:=by rw[getElem?_eq_getElem (by omega)];exact ni _
 obtain⟨i1,i2,i3⟩:=SQ hm;unfold cH;dsimp only;split
 .exact ⟨i2,i1,(nY i3).1⟩
 .exact ⟨i1,i2,i3⟩
def CT:a9 (.lst (ds++[d])) (.int (-1))=aa d:=by show pW (ds++[d]) (-1)=_;unfold pW G5;rw[Zz (by decide),Z_ (by rw[bq,bx,fg];omega)];show(ds++[d])[(-1+((ds++[d]).length:Int)).toNat]?=_;rw[show(-1+((ds++[d]).length:Int)).toNat=ds.length by rw[bq,bx,fg];omega,ic (bc _),my];rfl
def Yd(d:D)(h:f (bW ρ)=aa d)(hi:d.tT=ae)(hr:ρ.set i (.ro d)=ρ'):oP i (dZ f) ρ=.nx ρ':=by unfold oP dZ;rw[h,cz,Z_ hi];show Out.nx (ρ.set i (.ro d))=_;rw[hr]
def Dk(ds:List D)(h:f (bW ρ)=aa (.lst ds))(hi:jS ds=ae)(hr:ρ.set i (.ro (.lst ds))=ρ'):jH i f ρ=.nx ρ':=by unfold jH;rw[h];show(if jS ds=ae then _ else _)=_;rw[Z_ hi,hr]
def Rc(h1:f (bW ρ)=aa d)(hi:d.tT=ae)(h2:ρ[i]?=aa (.ow (.lst ds)))(hl:ds.length<16777216):sX (kR i eQ (dZ f)) ρ=.nx (ρ.set i (.ow (.lst (ds++[d])))):=by unfold sX kR dZ;rw[h2];simp only[mH,cz];rw[h1];simp only[cz,hi,if_true];rw[h2];simp only[mH,cz];rw[nU hl];rfl
def Rb(h2:ρ[i]?=aa (.ow (.lst (ds++[d])))):sX (zM i) ρ=.nx (ρ.set i (.ow (.lst ds))):=by unfold sX zM;rw[h2];simp only[mH,cz];rw[show(ds++[d]).length-1=ds.length by rw[bq,bx,fg];omega,ic (bc _),my];show Out.nx (ρ.set i (.ow (.lst (ds++[d]).dropLast)))=_;rw[List.dropLast_concat]
def Dj(w:Q0e)(h:dE R y=ag)(h1:f (bW ρ)=aa (.int R.length))(h2:ρ[i]?=aa (.ow (.cD q (lK R).1 (lK R).2)))(h3:k (bW ρ)=aa (aJ y))(h6:R.length<16000000):gC i (dZ f) k ρ=.nx (ρ.set i (.ow (.cD (adr q) (lK (R++[(y,w)])).1 (lK (R++[(y,w)])).2))):=by unfold gC dZ;rw[h1];simp only[cz,D.tT,if_true];rw[h2];simp only[EC,cz];rw[h3];simp only[cz];rw[SR];simp only[cz];rw[Z_ ⟨IB R y,by unfold lK oN;rw[az,aO];omega⟩,Ye w h]
def Bz(neg:Bool):uJ neg (aJ y) (.cD q (lK R).1 (lK R).2)=aa (.bl (if neg then !dE R y else dE R y)):=by show((jT (aJ y)).bind λk=>if kindB (lK R).1 k=ae then aa (D.bl (if neg then !(bP (lK R).1 (lK R).2 k).isSome else(bP (lK R).1 (lK R).2 k).isSome)) else af)=_;rw[SR];simp only[cz];rw[Z_ (IB R y),SV,ug,mT]
def By(h:IA R y=aa i):kU (.cD q (lK R).1 (lK R).2) (aJ y)=aa (.int (i:Int)):=by show((jT (aJ y)).bind λk=>if kindB (lK R).1 k=ae then bP (lK R).1 (lK R).2 k else af)=_;rw[SR];simp only[cz];rw[Z_ (IB R y),SV,h];rfl
theorem Ra(h:t (gJ ρ)=aa [x,y]):M8 i j t ρ=.nx ((ρ.set i (.ro x)).set j (.ro y)):=by unfold M8;rw[h]
abbrev mU:L4.SF:=(aI (oP 5 (dZ (aC a9 (aB 4) (jE (eC (.int 1))))))
   (aI (aN 6 (aH LL.i8 (aA (aB 5) aE)))
   (eO (tV (aC (uJ ag) (aB 5) (aB 3)))
    (sX (zM 4))
    (eO (tV (aC gM (bI aW (aA (aB 6) aE)) (eC (.int 0))))
     (aI (gC 3 (dZ (bI aW (aA (aB 2) aE))) (aB 5))
     (sX (kR 2 eQ (bG (dG (aA (aB 5) (aA (dG aE) aE)))))))
     (aI (aN 7 (aC a9 (aB 1) (aC cZ (bI uI (aA (bJ 1 [] (cC (aB 5)) (g1 0) cM (bI aW (aA (aB 0) aE))) aE)) (bI aW (aA (aB 1) aE)))))
     (aI (HH (bG (aC a9 (aB 6) (aC cZ (aB 7) (bI aW (aA (aB 6) aE))))) (zN 8 9))
     (aI (eO (tV (aC gM (aC cZ (aC kT (aB 7) (eC (.int 7))) (eC (.int 2))) (eC (.int 1))))
      (M8 8 9 (aA (aB 9) (aA (aB 8) aE)))
      cJ)
     (aI (aN 10 (dC (aA (aH LL.jX (aA (aB 5) (aA (aB 8) (aA (aB 9) aE)))) (aA (aH LL.jX (aA (aB 5) (aA (aB 9) (aA (aB 8) aE)))) aE))))
     (aI (jH 11 (bJ 1 [3] (cC (aB 10)) (g1 0) (tV (aC (uJ ae) (aB 0) (aB 1))) (aB 0)))
     (eO (tV (aC rN (bI aW (aA (aB 11) aE)) (eC (.int 0))))
      (sX (kR 4 eQ (bG (aC a9 (aB 11) (aC cZ (aC kT (aB 7) (eC (.int 16))) (bI aW (aA (aB 11) aE)))))))
      (aI (gC 3 (dZ (bI aW (aA (aB 2) aE))) (aB 5))
      (sX (kR 2 eQ (dZ (dG (aA (aB 5) (aA (dG (aA (aB 8) (aA (aB 9) (aA (aC kU (aB 3) (aC a9 (aB 10) (eC (.int 0)))) (aA (aC kU (aB 3) (aC a9 (aB 10) (eC (.int 1)))) aE))))) aE)))))))))))))))))
abbrev SP(x0:D)(dr:Q0e)(q:Nat->aw->Prop)(R:List PR)(W:List (List (List Int)))(v5 v6 v7 v8 v9 v10 v11:Sv):bV:=[.ro x0,.ro (aG dr),.ow (.lst (R.map aQ)),.ow (.cD q (lK R).1 (lK R).2),.ow (.lst (W.map aJ)),v5,v6,v7,v8,v9,v10,v11]
def sW(x0:D)(dr:Q0e)(R:List PR)(W:List (List (List Int)))(ρ:bV):Prop:=∃q v5 v6 v7 v8 v9 v10 v11,ρ=SP x0 dr q R W v5 v6 v7 v8 v9 v10 v11
inductive lU (dr:Q0e) (R:List PR) (W:List (List (List Int))) (y:Q0a):List PR->List (List (List Int))->Prop
 |pop:dE R y=ae->lU dr R W y R W
 |bare:dE R y=ag->loose y=[]->lU dr R W y (R++[(y,[])]) (W++[y])
 |push (p:Q0a):dE R y=ag->loose y≠[]->(p=put y (cH dr y).1 (cH dr y).2\/p=put y (cH dr y).2 (cH dr y).1)->dE R p=ag->lU dr R W y R (W++[y]++[p])
 |done (i j:Nat):dE R y=ag->loose y≠[]->IA R (put y (cH dr y).1 (cH dr y).2)=aa i->IA R (put y (cH dr y).2 (cH dr y).1)=aa j->lU dr R W y (R++[(y,[(cH dr y).1,(cH dr y).2,(i:Int),(j:Int)])]) (W++[y])
theorem IC(hy:Ord.Rows y)(hn:y.length<=9)(hd:dr.length=45)(hR:R.length<15000000)(hW:W.length<15000000)(h:sW x0 dr R (W++[y]) ρ):
  Nx (mU ρ) λρ'=>∃R' W',lU dr R W y R' W'/\sW x0 dr R' W' ρ':=by
 obtain⟨q,v5,v6,v7,v8,v9,v10,v11,rfl⟩:=h;have hll:(loose y).length<=81:=by have:=sU y y.length (bc _);have e:(aY 0 y.length).flatMap (fH y)=loose y:=rfl;rw[e] at this;exact gn this (gn (Gg hn hn) (by decide))
 refine dH (SP x0 dr q R (W++[y]) (.ro (aJ y)) v6 v7 v8 v9 v10 v11) (Yd (aJ y) (aK (x:=.lst ((W++[y]).map aJ)) (y:=.int (-1)) rfl rfl (by rw[cy];exact CT)) (wZ y) rfl) ?_;refine dH (SP x0 dr q R (W++[y]) (.ro (aJ y)) (.ro (.lst ((loose y).map pairD))) v7 v8 v9 v10 v11) (eD _ (kF rfl (HZ hn)) rfl) ?_;refine g7 (dE R y) (l8 (d:=.bl (dE R y)) (aK (x:=aJ y) (y:=.cD q (lK R).1 (lK R).2) rfl rfl (Bz ag)) rfl) (λhh=>?_) λhh=>?_
 .refine ⟨_,Rb (ds:=W.map aJ) (d:=aJ y) (by show aa (Sv.ow (.lst ((W++[y]).map aJ)))=_;rw[cy];rfl),R,W,.pop hh,q,_,_,_,_,_,_,_,rfl⟩
 refine g7 (Zv (((loose y).length:Int)=0)) (l8 (aK (x:=.int (loose y).length) (y:=.int 0) (c8 (x:=.lst ((loose y).map pairD)) rfl (by show aa (D.int ((loose y).map pairD).length)=_;rw[az])) rfl cV) rfl) (λhc=>?_) λhc=>?_
 .have hc:=of_decide_eq_true hc;have hl:loose y=[]:=q_.1 (by omega);refine dH (SP x0 dr q R (W++[y]) (.ro (aJ y)) (.ro (.lst ((loose y).map pairD))) v7 v8 v9 v10 v11 |>.set 3 (.ow (.cD (adr q) (lK (R++[(y,[])])).1 (lK (R++[(y,[])])).2))) (Dj [] hh (c8 (x:=.lst (R.map aQ)) rfl (by show aa (D.int (R.map aQ).length)=_;rw[az])) rfl rfl (by omega)) ?_;refine⟨_,NG (d:=aQ (y,[])) (ds:=R.map aQ) ?_ rfl (by rw[az];omega),R++[(y,[])],W++[y],.bare hh hl,adr q,.ro (aJ y),.ro (.lst ((loose y).map pairD)),v7,v8,v9,v10,v11,?_⟩
  .exact RC rfl rfl
  .rw [SP,SP,cy (f:=aQ)];rfl
 .have hc:=of_decide_eq_false hc;have hl:loose y≠[]:=λe=>hc (by rw[e];rfl);obtain⟨ab1,ab2,ab3⟩:=Dl (dr:=dr) hl;obtain⟨s1,s2,s3,s4⟩:=nY ab3;generalize hA:(cH dr y).1=a at ab1 ab3 s1 s2 s3 s4;generalize hB:(cH dr y).2=b at ab2 ab3 s1 s2 s3 s4;have Yc:0<=(y.map λr:List Int=>(r.length:Int)).sum%(45:Int):=ip _ (by decide);have Yb:(y.map λr:List Int=>(r.length:Int)).sum%(45:Int)<45:=jd _ (by decide);have hlen:aW [aG dr]=aa (.int 45):=by show aa (D.int ((dr.map D.int).length:Nat))=_;rw[az,hd];rfl
  have hlp:aW [.lst ((loose y).map pairD)]=aa (.int (loose y).length):=by show aa (D.int (((loose y).map pairD).length:Nat))=_;rw[az]
  refine dH (SP x0 dr q R (W++[y]) (.ro (aJ y)) (.ro (.lst ((loose y).map pairD))) (.ro (.int (eK dr y))) v8 v9 v10 v11) (eD (.int (eK dr y)) (aK (x:=aG dr) (y:=.int ((y.map λr:List Int=>(r.length:Int)).sum%45)) rfl (aK (x:=.int (y.map λr:List Int=>(r.length:Int)).sum) (y:=.int 45) (c8 (x:=aG (y.map λr:List Int=>(r.length:Int))) ?_ sum_ints) (c8 rfl hlen) (bL (by decide))) ?_) rfl) ?_
  .have e5:aG (y.map λr:List Int=>(r.length:Int))=.lst (y.map λr=>D.int (r.length:Int)):=by unfold aG;rw[dq];rfl
   rw[e5];exact iN (y.map tupI) rfl (by rw[az];omega) (iB tupI (λr=>D.int (r.length:Int)) y λr _=>⟨_,rfl,c8 rfl p9⟩)
  .unfold eK;rw[hd];exact sF Yc (by rw[hd];exact Yb)
  have hl0:0<(loose y).length:=Gs.2 hl;have h0:=ip (eK dr y) (show((loose y).length:Int)≠0 by omega);have h1:=jd (eK dr y) (show(0:Int)<((loose y).length:Int) by omega);obtain⟨p,hp⟩:∃p,(loose y)[(eK dr y%((loose y).length:Int)).toNat]?=aa p:=⟨_,getElem?_eq_getElem (by omega)⟩;refine dH (SP x0 dr q R (W++[y]) (.ro (aJ y)) (.ro (.lst ((loose y).map pairD))) (.ro (.int (eK dr y))) (.ro (.int p.1)) (.ro (.int p.2)) v10 v11) (B_ (p:=.int p.1) (q:=.int p.2) (aK (x:=.lst ((loose y).map pairD)) (y:=.int (eK dr y%((loose y).length:Int))) rfl (aK (x:=.int (eK dr y)) (y:=.int (loose y).length) rfl (c8 rfl hlp) (bL (by omega))) ?_)) ?_
  .show pW ((loose y).map pairD) (eK dr y%((loose y).length:Int))=_;have:=uV (xs:=(loose y).map pairD) (k:=(eK dr y%((loose y).length:Int)).toNat) (x:=pairD p) (by rw[cg,hp];rfl);rw[show(((eK dr y%((loose y).length:Int)).toNat:Nat):Int)=eK dr y%((loose y).length:Int) by omega] at this;rw[this];rfl
  have hab:cH dr y=if eK dr y/7%2=1 then(p.2,p.1) else p:=by unfold cH;rw[hp];rfl
  refine lM (λρ=>ρ=SP x0 dr q R (W++[y]) (.ro (aJ y)) (.ro (.lst ((loose y).map pairD))) (.ro (.int (eK dr y))) (.ro (.int a)) (.ro (.int b)) v10 v11) ?_ λρ e=>?_
  .refine g7 (Zv (eK dr y/7%2=1)) (l8 (aK (x:=.int (eK dr y/7%2)) (y:=.int 1) (aK (x:=.int (eK dr y/7)) (y:=.int 2) (aK (x:=.int (eK dr y)) (y:=.int 7) rfl rfl (iM (by decide) (by decide))) rfl (bL (by decide))) rfl cV) rfl) (λhc=>?_) λhc=>?_
   .rw [Z_ (of_decide_eq_true hc)] at hab;refine⟨_,Ra (args2 rfl rfl),?_⟩;rw[<- hA,<- hB,hab];rfl
   .rw [Zz (of_decide_eq_false hc)] at hab;refine gR ?_;rw[<- hA,<- hB,hab]
  subst e;have u1:=E8 hy hn ab1 ab2;have u2:=E8 hy hn ab2 ab1;refine dH (SP x0 dr q R (W++[y]) (.ro (aJ y)) (.ro (.lst ((loose y).map pairD))) (.ro (.int (eK dr y))) (.ro (.int a)) (.ro (.int b)) (.ro (.lst ([put y a b,put y b a].map aJ))) v11) (eD _ ?_ rfl) ?_
  .unfold dC;rw[args2 (fL rfl rfl rfl u1) (fL rfl rfl rfl u2)];rfl
  generalize hM:([put y a b,put y b a].filter λz=>!dE R z)=M;have hMl:M.length<=2:=by rw[<- hM];exact j_ _ _
  refine dH (SP x0 dr q R (W++[y]) (.ro (aJ y)) (.ro (.lst ((loose y).map pairD))) (.ro (.int (eK dr y))) (.ro (.int a)) (.ro (.int b)) (.ro (.lst ([put y a b,put y b a].map aJ))) (.ro (.lst (M.map aJ)))) (Dk (M.map aJ) ?_ (SU M) rfl) ?_
  .rw [<- hM];refine iN ([put y a b,put y b a].map aJ) rfl (by simp) (eF aJ (λz=>!dE R z) aJ _ λz _=>⟨_,rfl,l8 (d:=.bl (!dE R z)) (aK (x:=aJ z) (y:=.cD q (lK R).1 (lK R).2) rfl rfl (Bz ae)) rfl,λ_=>rfl⟩)
  have hlm:aW [.lst (M.map aJ)]=aa (.int M.length):=by show aa (D.int ((M.map aJ).length:Nat))=_;rw[az]
  refine g7 (Zv ((0:Int)<M.length)) (l8 (aK (x:=.int M.length) (y:=.int 0) (c8 rfl hlm) rfl iJ) rfl) (λhc=>?_) λhc=>?_
  .have hc:=of_decide_eq_true hc;have g0:=ip (eK dr y/16) (show(M.length:Int)≠0 by omega);have g1:=jd (eK dr y/16) hc;obtain⟨z,hz⟩:∃z,M[(eK dr y/16%(M.length:Int)).toNat]?=aa z:=⟨_,getElem?_eq_getElem (by omega)⟩;have hzm:z∈M:=jt hz;rw[<- hM,f_] at hzm;refine⟨_,NG (d:=aJ z) (ds:=(W++[y]).map aJ) (aK (x:=.lst (M.map aJ)) (y:=.int (eK dr y/16%(M.length:Int))) rfl (aK (x:=.int (eK dr y/16)) (y:=.int M.length) (aK (x:=.int (eK dr y)) (y:=.int 16) rfl rfl (iM (by decide) (by decide))) (c8 rfl hlm) (bL hc)) ?_) rfl (by rw[az,bq,bx,fg];omega),R,W++[y]++[z],.push z hh hl ?_ (by simpa using hzm.2),q,.ro (aJ y),.ro (.lst ((loose y).map pairD)),.ro (.int (eK dr y)),.ro (.int a),.ro (.int b),.ro (.lst ([put y a b,put y b a].map aJ)),.ro (.lst (M.map aJ)),?_⟩
   .show pW (M.map aJ) (eK dr y/16%(M.length:Int))=_;have:=uV (xs:=M.map aJ) (k:=(eK dr y/16%(M.length:Int)).toNat) (x:=aJ z) (by rw[cg,hz];rfl);rw[show(((eK dr y/16%(M.length:Int)).toNat:Nat):Int)=eK dr y/16%(M.length:Int) by omega] at this;exact this
   .rw [hA,hB];have:=hzm.1;simpa using this
   .rw [SP,SP,cy (l₁:=W++[y])];rfl
  .have hc:=of_decide_eq_false hc;have I_:M=[]:=q_.1 (by omega);rw[I_,G_] at hM;have k1:dE R (put y a b)=ae:=by simpa using hM (put y a b) (by simp)
   have k2:dE R (put y b a)=ae:=by simpa using hM (put y b a) (by simp)
   obtain⟨i,hi⟩:∃i,IA R (put y a b)=aa i:=yw.1 (by rw[mT];exact k1);obtain⟨j,hj⟩:∃j,IA R (put y b a)=aa j:=yw.1 (by rw[mT];exact k2);refine dH ((SP x0 dr q R (W++[y]) (.ro (aJ y)) (.ro (.lst ((loose y).map pairD))) (.ro (.int (eK dr y))) (.ro (.int a)) (.ro (.int b)) (.ro (.lst ([put y a b,put y b a].map aJ))) (.ro (.lst (M.map aJ)))).set 3 (.ow (.cD (adr q) (lK (R++[(y,[a,b,(i:Int),(j:Int)])])).1 (lK (R++[(y,[a,b,(i:Int),(j:Int)])])).2))) (Dj [a,b,(i:Int),(j:Int)] hh (c8 (x:=.lst (R.map aQ)) rfl (by show aa (D.int (R.map aQ).length)=_;rw[az])) rfl rfl (by omega)) ?_;refine⟨_,Rc (d:=aQ (y,[a,b,(i:Int),(j:Int)])) (ds:=R.map aQ) ?_ (E9 _) rfl (by rw[az];omega),R++[(y,[a,b,(i:Int),(j:Int)])],W++[y],?_,adr q,.ro (aJ y),.ro (.lst ((loose y).map pairD)),.ro (.int (eK dr y)),.ro (.int a),.ro (.int b),.ro (.lst ([put y a b,put y b a].map aJ)),.ro (.lst (M.map aJ)),?_⟩
   .refine RC (x:=aJ y) (y:=tupI [a,b,(i:Int),(j:Int)]) rfl ?_;have f1:∀ρ:dJ,ρ[3]?=aa (aa (.cD (adr q) (lK (R++[(y,[a,b,(i:Int),(j:Int)])])).1 (lK (R++[(y,[a,b,(i:Int),(j:Int)])])).2))->ρ[10]?=aa (aa (.lst ([put y a b,put y b a].map aJ)))->ρ[8]?=aa (aa (.int a))->ρ[9]?=aa (aa (.int b))->dG (aA (aB 8) (aA (aB 9) (aA (aC kU (aB 3) (aC a9 (aB 10) (eC (.int 0)))) (aA (aC kU (aB 3) (aC a9 (aB 10) (eC (.int 1)))) aE)))) ρ=aa (tupI [a,b,(i:Int),(j:Int)]):=λρ h3 qh h8 h9=>by
     have e3:aB 3 ρ=aa (.cD (adr q) (lK (R++[(y,[a,b,(i:Int),(j:Int)])])).1 (lK (R++[(y,[a,b,(i:Int),(j:Int)])])).2):=by unfold aB;rw[h3];rfl
     have Aj:aB 10 ρ=aa (.lst ([put y a b,put y b a].map aJ)):=by unfold aB;rw[qh];rfl
     have e8:aB 8 ρ=aa (.int a):=by unfold aB;rw[h8];rfl
     have e9:aB 9 ρ=aa (.int b):=by unfold aB;rw[h9];rfl
     have g1:aC kU (aB 3) (aC a9 (aB 10) (eC (.int 0))) ρ=aa (.int i):=aK e3 (y:=aJ (put y a b)) (aK Aj (y:=.int 0) rfl rfl) (By (LN hi));have g2:aC kU (aB 3) (aC a9 (aB 10) (eC (.int 1))) ρ=aa (.int j):=aK e3 (y:=aJ (put y b a)) (aK Aj (y:=.int 1) rfl rfl) (By (LN hj));unfold dG aA aE;rw[e8,e9,g1,g2];rfl
    exact f1 _ rfl rfl rfl rfl
   .have:=lU.done (dr:=dr) (W:=W) i j hh hl (by rw[hA,hB];exact hi) (by rw[hA,hB];exact hj);rw[hA,hB] at this;exact this
   .rw [SP,SP,cy (f:=aQ)];rfl
abbrev mV:TF:=tV (aC rN (bI aW (aA (aB 4) aE)) (eC (.int 0)))
def Steps(m:Nat)(ρ ρ':bV):Prop:=∀f:Nat,eI mV mU (f+m) ρ=eI mV mU f ρ'
def Steps.trans(h1:Steps m a b)(h2:Steps k b c):Steps (m+k) a c:=λf=>by rw[show f+(m+k)=(f+k)+m by omega,h1,h2]
def LP(h:sW x0 dr R W ρ):mV (bW ρ)=aa (Zv (0<W.length)):=by obtain⟨q,v5,v6,v7,v8,v9,v10,v11,rfl⟩:=h;refine l8 (d:=.bl (Zv ((0:Int)<W.length))) (aK (x:=.int W.length) (y:=.int 0) (c8 (x:=.lst (W.map aJ)) rfl (by show aa (D.int (W.map aJ).length)=_;rw[az])) rfl iJ) ?_;show aa (Zv ((0:Int)<W.length))=_;congr 1;rw[decide_eq_decide];omega
theorem qL(hy:Ord.Rows y)(hn:y.length<=9)(hd:dr.length=45)(hR:R.length<15000000)(hW:W.length<15000000)(h:sW x0 dr R (W++[y]) ρ):
  ∃R' W' ρ',lU dr R W y R' W'/\sW x0 dr R' W' ρ'/\Steps 1 ρ ρ':=by
 obtain⟨ρ',e,R',W',t,s⟩:=IC hy hn hd hR hW h;refine⟨R',W',ρ',t,s,λf=>?_⟩
 show(match mV (bW ρ) with
  |none=>Out.no
  |some ag=>.nx ρ
  |some ae=>match mU ρ with
   |.nx ρ'=>eI mV mU f ρ'
   |o=>o)=_
 rw[LP h,Zx (by rw[bq,bx];omega)];dsimp only;rw[e]
structure Ran (n:Nat) (dr:Q0e) (R:List PR) (y:Q0a) (m:Nat) (R':List PR):Prop where
 steps:m+4<=6*gl y
 more:∃S,R'=R++S /\∀r∈S,gl r.1<=gl y
 few:R'.length+1<=R.length+2*gl y
 good:GoodR n R'
 has:dE R' y=ae
 last:dE R y=ag ->∃S w,R'=S++[(y,w)]
def YB(h:dE R y=ae):dE (R++S) y=ae:=by obtain⟨r,hr,e⟩:=fR.1 h;exact fR.2 ⟨r,jh _ hr,e⟩
theorem YC(h:dE R y=ag)(hs:∀r∈S,r.1≠y):dE (R++S) y=ag:=by
 cases e:dE (R++S) y with
 |false=>rfl
 |true =>
  obtain⟨r,hr,e2⟩:=fR.1 e;rcases ft.1 hr with z|z
  .rw [fR.2 ⟨r,z,e2⟩] at h;cases h
  .exact Zw e2 (hs r z)
theorem AG(hn:n<=9)(hd:dr.length=45):∀(k:Nat) (y:Q0a) (R:List PR) (W:List (List (List Int))) (ρ:bV),gl y<=k->Ord.Rows y->y.length=n->GoodR n R->R.length+2*gl y<=14000000->W.length+gl y<=14000000->sW x0 dr R (W++[y]) ρ ->
  ∃m R' ρ',Ran n dr R y m R'/\sW x0 dr R' W ρ'/\Steps m ρ ρ'
 |0,y,R,W,ρ,hk,hy,_,_,_,_,_=>by have:=sV hy;omega
 |k+1,y,R,W,ρ,hk,hy,hl,hg,hR,hW,hst=>by
  have gp:=sV hy
  -- an order that has a row is taken off
  have offs:∀(R1:List PR) (ρ1:bV),dE R1 y=ae->R1.length<15000000->sW x0 dr R1 (W++[y]) ρ1 ->∃ρ',sW x0 dr R1 W ρ'/\Steps 1 ρ1 ρ':=λR1 ρ1 hh hl1 h1=>by
   obtain⟨R',W',ρ',t,s,e⟩:=qL hy (by omega) hd hl1 (by omega) h1
   cases t with
   |pop _=>exact⟨ρ',s,e⟩
   |bare h _=>rw[hh] at h;cases h
   |push p h=>rw[hh] at h;cases h
   |done i j h=>rw[hh] at h;cases h
  cases hh:dE R y with
  |true =>
   obtain⟨ρ',s,e⟩:=offs R ρ hh (by omega) hst;exact⟨1,R,ρ',⟨by omega,⟨[],by simp,λr hr=>by cases hr⟩,by omega,hg,hh,λh=>by rw[hh] at h;cases h⟩,s,e⟩
  |false =>
   by_cases hlo:loose y=[]
   .obtain ⟨R',W',ρ1,t,s,e⟩:=qL hy (by omega) hd (by omega) (by omega) hst
    cases t with
    |pop h=>rw[hh] at h;cases h
    |push p h h2=>exact Zw hlo h2
    |done i j h h2=>exact Zw hlo h2
    |bare h h2 =>
     have hhas:dE (R++[(y,[])]) y=ae:=fR.2 ⟨(y,[]),by simp,rfl⟩;obtain⟨ρ',s',e'⟩:=offs _ ρ1 hhas (by rw[bq,bx,fg];omega) s;refine⟨1+1,_,ρ',⟨by omega,⟨[(y,[])],rfl,λr hr=>by rw[br] at hr;rw[hr];exact bc _⟩,by rw[bq,bx,fg];omega,hg.snoc ⟨hy,hl,.inl ⟨hlo,rfl⟩⟩,hhas,λ_=>⟨R,[],rfl⟩⟩,s',e.trans e'⟩
   .obtain ⟨ab1,ab2,ab3⟩:=Dl (dr:=dr) hlo;obtain⟨s1,s2,s3,s4⟩:=nY ab3;have hsum:=aBv s2 ab1 ab2;have th1:thing y.length (cH dr y).1=ae:=nV.2 ab1;have th2:thing y.length (cH dr y).2=ae:=nV.2 ab2;have rP:=EN hy th1 th2 s3;have rQ:=EN hy th2 th1 s4;have gP:=sV rP;have gQ:=sV rQ;have lP:=cK y (cH dr y).1 (cH dr y).2;have lQ:=cK y (cH dr y).2 (cH dr y).1
    -- both parts have rows
    have fin:∀(R1:List PR) (ρ1:bV),dE R1 y=ag->dE R1 (put y (cH dr y).1 (cH dr y).2)=ae->dE R1 (put y (cH dr y).2 (cH dr y).1)=ae->R1.length<14500000->GoodR n R1->sW x0 dr R1 (W++[y]) ρ1 ->∃w ρ',GoodR n (R1++[(y,w)])/\sW x0 dr (R1++[(y,w)]) W ρ'/\Steps 2 ρ1 ρ':=λR1 ρ1 hh1 k1 k2 hl1 g1 h1=>by
     obtain⟨R',W',ρ2,t,s,e⟩:=qL hy (by omega) hd (by omega) (by omega) h1
     cases t with
     |pop h=>rw[hh1] at h;cases h
     |bare h h2=>exact Zw h2 hlo
     |push p h h2 h3 h4 =>
      rcases h3 with z|z
      .rw [z,k1] at h4;cases h4
      .rw [z,k2] at h4;cases h4
     |done i j h h2 h3 h4 =>
      have hhas:dE (R1++[(y,[(cH dr y).1,(cH dr y).2,(i:Int),(j:Int)])]) y=ae:=fR.2 ⟨_,gc _ (br.2 rfl),rfl⟩;obtain⟨ρ',s',e'⟩:=offs _ ρ2 hhas (by rw[bq,bx,fg];omega) s;obtain⟨u,u1,u2⟩:=CS h3;obtain⟨v,v1,v2⟩:=CS h4;refine⟨_,ρ',g1.snoc ⟨hy,hl,.inr ⟨_,_,i,j,u,v,hlo,rfl,by rw[<- hl];exact ab1,by rw[<- hl];exact ab2,ab3,SW h3,SW h4,u1,u2,v1,v2⟩⟩,s',e.trans e'⟩
    have all2:∀{p q:Q0a},(p=put y (cH dr y).1 (cH dr y).2\/p=put y (cH dr y).2 (cH dr y).1)->(q=put y (cH dr y).1 (cH dr y).2\/q=put y (cH dr y).2 (cH dr y).1)->p≠q->gl p+gl q=gl y:=λ{p q} hp hq hpq=>by
     rcases hp with z|z<;>rcases hq with z2|z2
     .exact Zw (z.trans z2.symm) hpq
     .rw [z,z2];omega
     .rw [z,z2];omega
     .exact Zw (z.trans z2.symm) hpq
    -- one part is run through
    have one:∀(R1:List PR) (ρ1:bV),dE R1 y=ag->¬ (dE R1 (put y (cH dr y).1 (cH dr y).2)=ae/\dE R1 (put y (cH dr y).2 (cH dr y).1)=ae)->R1.length<14500000->(∀p,(p=put y (cH dr y).1 (cH dr y).2\/p=put y (cH dr y).2 (cH dr y).1)->dE R1 p=ag->R1.length+2*gl p<=14000000)->GoodR n R1->sW x0 dr R1 (W++[y]) ρ1 ->
      ∃p m R2 ρ2,(p=put y (cH dr y).1 (cH dr y).2\/p=put y (cH dr y).2 (cH dr y).1)/\dE R1 p=ag/\gl p+1<=gl y/\Ran n dr R1 p m R2/\dE R2 y=ag/\sW x0 dr R2 (W++[y]) ρ2/\Steps (1+m) ρ1 ρ2:=λR1 ρ1 hh1 hm hl1 hb g1 h1=>by
     obtain⟨R',W',ρ2,t,s,e⟩:=qL hy (by omega) hd (by omega) (by omega) h1
     cases t with
     |pop h=>rw[hh1] at h;cases h
     |bare h h2=>exact Zw h2 hlo
     |done i j h h2 h3 h4 =>
      exact Zw ⟨by rw[<- mT,h3];rfl,by rw[<- mT,h4];rfl⟩ hm
     |push p h h2 h3 h4 =>
      have fct:Ord.Rows p/\p.length=n/\gl p+1<=gl y:=by
       rcases h3 with z|z
       .rw [z];exact⟨rP,by omega,by omega⟩
       .rw [z];exact⟨rQ,by omega,by omega⟩
      obtain⟨m,R2,ρ3,rn,s3,e3⟩:=AG hn hd k p R1 (W++[y]) ρ2 (by omega) fct.1 fct.2.1 g1 (hb p h3 h4) (by rw[bq,bx,fg];omega) s;refine⟨p,m,R2,ρ3,h3,h4,fct.2.2,rn,?_,s3,e.trans e3⟩;obtain⟨S,eS,hS⟩:=rn.more;rw[eS];exact YC hh1 λr hr e=>by have:=hS r hr;rw[e] at this;omega
    have keep:∀{R1 R2:List PR} {p z:Q0a} {m:Nat},Ran n dr R1 p m R2->dE R1 z=ae->dE R2 z=ae:=λ{R1 R2 p z m} rn h=>by obtain⟨S,eS,_⟩:=rn.more;rw[eS];exact YB h
    by_cases b0:dE R (put y (cH dr y).1 (cH dr y).2)=ae/\dE R (put y (cH dr y).2 (cH dr y).1)=ae
    .obtain ⟨w,ρ',g',s',e'⟩:=fin R ρ hh b0.1 b0.2 (by omega) hg hst;refine⟨2,_,ρ',⟨by omega,⟨[(y,w)],rfl,λr hr=>by rw[br] at hr;rw[hr];exact bc _⟩,by rw[bq,bx,fg];omega,g',fR.2 ⟨_,gc _ (br.2 rfl),rfl⟩,λ_=>⟨R,w,rfl⟩⟩,s',e'⟩
    .obtain ⟨p,m1,R1,ρ1,hp,hp0,hpg,rn1,hy1,st1,e1⟩:=one R ρ hh b0 (by omega) (λp hp _=>by
      rcases hp with z|z
      .rw [z];omega
      .rw [z];omega) hg hst
     obtain⟨S1,Ah,Ac⟩:=rn1.more;have f1:=rn1.few;have t1:=rn1.steps;have pg:1<=gl p:=by
      rcases hp with z|z
      .rw [z];exact gP
      .rw [z];exact gQ
     by_cases b1:dE R1 (put y (cH dr y).1 (cH dr y).2)=ae/\dE R1 (put y (cH dr y).2 (cH dr y).1)=ae
     .obtain ⟨w,ρ',g',s',e'⟩:=fin R1 ρ1 hy1 b1.1 b1.2 (by omega) rn1.good st1;refine⟨1+m1+2,_,ρ',⟨by omega,⟨S1++[(y,w)],by rw[Ah,n_],λr hr=>?_⟩,by rw[bq,bx,fg];omega,g',fR.2 ⟨_,gc _ (br.2 rfl),rfl⟩,λ_=>⟨R1,w,rfl⟩⟩,s',e1.trans e'⟩;rcases ft.1 hr with z|z
      .have:=Ac r z;omega
      .rw [br] at z;rw[z];exact bc _
     .obtain ⟨p2,m2,R2,ρ2,hp2,Bx,aNU,rn2,hy2,st2,e2⟩:=one R1 ρ1 hy1 b1 (by omega) (λp' hp' h'=>by
       have ne:p≠p':=λe=>by rw[<- e,rn1.has] at h';cases h'
       have:=all2 hp hp' ne;omega) rn1.good st1
      have ne:p≠p2:=λe=>by rw[<- e,rn1.has] at Bx;cases Bx
      have tot:=all2 hp hp2 ne;obtain⟨S2,Ja,vh⟩:=rn2.more;have f2:=rn2.few;have t2:=rn2.steps;have YD:dE R2 p=ae:=keep rn2 rn1.has;have both:dE R2 (put y (cH dr y).1 (cH dr y).2)=ae/\dE R2 (put y (cH dr y).2 (cH dr y).1)=ae:=by
       have h2:=rn2.has;rcases hp with z|z<;>rcases hp2 with z2|z2
       .exact Zw (z.trans z2.symm) ne
       .rw [z] at YD;rw[z2] at h2;exact⟨YD,h2⟩
       .rw [z] at YD;rw[z2] at h2;exact⟨h2,YD⟩
       .exact Zw (z.trans z2.symm) ne
      obtain⟨w,ρ',g',s',e'⟩:=fin R2 ρ2 hy2 both.1 both.2 (by omega) rn2.good st2;refine⟨1+m1+(1+m2+2),_,ρ',⟨by omega,⟨S1++S2++[(y,w)],by rw[Ja,Ah,n_,n_,n_],λr hr=>?_⟩,by rw[bq,bx,fg];omega,g',fR.2 ⟨_,gc _ (br.2 rfl),rfl⟩,λ_=>⟨R2,w,rfl⟩⟩,s',e1.trans (e2.trans e')⟩;rcases ft.1 hr with z|z
      .rcases ft.1 z with z|z
       .have:=Ac r z;omega
       .have:=vh r z;omega
      .rw [br] at z;rw[z];exact bc _
def FA(hx:Ord.Rows x)(hn:x.length<=9)(hd:dr.length=45):∃(R:List PR) (w:Q0e),GoodR x.length (R++[(x,w)])/\(R++[(x,w)]).length<=2*gl x/\gG [aJ x,aG dr]=.ok (.lst ((R++[(x,w)]).map aQ)):=by
 have g9:=SX hn;have gp:=sV hx;obtain⟨m,R',ρ',rn,st,e⟩:=AG (x0:=aJ x) hn hd (gl x) x [] [] (SP (aJ x) dr iL [] [x] .no .no .no .no .no .no .no) (bc _) hx rfl (λi r h=>by simp at h) (by simp;omega) (by simp;omega) ⟨_,_,_,_,_,_,_,_,rfl⟩;obtain⟨S,w,eR⟩:=rn.last rfl;have ts:=rn.steps;have fw:=rn.few;refine⟨S,w,by rw[<- eR];exact rn.good,by rw[<- eR];simp only[fg] at fw;omega,?_⟩;have run:eI mV mU 3000000 (SP (aJ x) dr iL [] [x] .no .no .no .no .no .no .no)=.nx ρ':=by
  obtain⟨f,hf⟩:∃f,3000000=(f+1)+m:=⟨3000000-1-m,by omega⟩;rw[hf,e]
  show(match mV (bW ρ') with
   |none=>Out.no
   |some ag=>.nx ρ'
   |some ae=>match mU ρ' with
    |.nx ρ'=>eI mV mU f ρ'
    |o=>o)=_
  rw[LP st];rfl
 unfold gG;refine gO rfl (dI [.ro (aJ x),.ro (aG dr),.ow (.lst []),.no,.no,.no,.no,.no,.no,.no,.no,.no] rfl (dI [.ro (aJ x),.ro (aG dr),.ow (.lst []),.ow (.cD iL [] []),.no,.no,.no,.no,.no,.no,.no,.no] rfl (dI (SP (aJ x) dr iL [] [x] .no .no .no .no .no .no .no) rfl (dI ρ' run (iA ?_)))));obtain⟨q,v5,v6,v7,v8,v9,v10,v11,rfl⟩:=st;rw[<- eR];rfl
theorem CU{α:Type}[DecidableEq α]{f:D->D->Option Bool}{mk:α->D}(h:∀a b,f (mk a) (mk b)=aa (Zv (a=b))):∀l m:List α,(vO f (l.map mk) (m.map mk)).map (λr=>r&&Zv ((l.map mk).length=(m.map mk).length))=aa (Zv (l=m))
 |[],[]=>rfl
 |[],b::m=>by show aa (ae&&Zv (0=(m.map mk).length+1))=_;rw[Zy (by omega),Zy (by simp)];rfl
 |a::l,[]=>by show aa (ae&&Zv ((l.map mk).length+1=0))=_;rw[Zy (by omega),Zy (by simp)];rfl
 |a::l,b::m=>by
  have ih:=CU h l m;rw[ba,ba,vO,h a b]
  cases e:vO f (l.map mk) (m.map mk) with
  |none=>rw[e] at ih;cases ih
  |some r =>
   rw[e] at ih;have ih2:(r&&Zv ((l.map mk).length=(m.map mk).length))=Zv (l=m):=df ih;show aa ((Zv (a=b)&&r)&&Zv ((l.map mk).length+1=(m.map mk).length+1))=_;rw[Bool.and_assoc,show Zv ((l.map mk).length+1=(m.map mk).length+1)=Zv ((l.map mk).length=(m.map mk).length) from decide_eq_decide.2 (by omega),ih2];congr 1;rw[rp,gw,decide_eq_true_eq,decide_eq_true_eq,decide_eq_true_eq,p_]
def YE(n:Nat)(a b:Q0e):eqP (n+1) (tupI a) (tupI b)=aa (Zv (a=b)):=CU (λa b=>by cases n<;>rfl) a b
def YF(n:Nat)(x y:Q0a):eqP (n+2) (aJ x) (aJ y)=aa (Zv (x=y)):=CU (λa b=>YE n a b) x y
def SY(x y:Q0a):yT (aJ x) (aJ y)=aa (.bl (Zv (x=y))):=by unfold yT;rw[YF 6];rfl
theorem YG{R:List PR}{i:Nat}{r:PR}(h:R[i]?=aa r):a9 (.tup (R.map aQ)) (.int (i:Int))=aa (aQ r):=by show pW (R.map aQ) (i:Int)=_;exact uV (by rw[cg,h];rfl)
noncomputable def mW(m:Nat)(r:PR):PR:=match r.2 with
 |[a,b,p,q]=>(r.1,[a,b,p+m,q+m])
 |_=>(r.1,r.2)
def w4(m:Nat)(r:PR):(mW m r).1=r.1:=by unfold mW;split<;>rfl
theorem FC:∀R:List PR,jS (R.map aQ)=ae
 |[]=>rfl
 |r::R=>by rw[ba,jS,FC R,E9];rfl
def S3{n m:Nat}{R:List PR}(g:GoodR n R)(hR:R.length<15000000):jA [.lst (R.map aQ),.int m]=.ok (.lst ((R.map (mW m)).map aQ)):=by
 unfold jA;have main:Rt ((aI (fG 2 (dC aE))
  (aI (b9 (cC (aB 0)) (zN 3 4)
   (aI (eO (tV (aC rN (bI aW (aA (aB 4) aE)) (eC (.int 0))))
    (aN 4 (dG (aA (aC a9 (aB 4) (eC (.int 0))) (aA (aC a9 (aB 4) (eC (.int 1))) (aA (aC bA (aC a9 (aB 4) (eC (.int 2))) (aB 1)) (aA (aC bA (aC a9 (aB 4) (eC (.int 3))) (aB 1)) aE))))))
    cJ)
   (sX (kR 2 eQ (bG (dG (aA (aB 3) (aA (aB 4) aE))))))))
  (bB (aB 2)))) (c6 5 [.lst (R.map aQ),.int m])) λd=>d=.lst ((R.map (mW m)).map aQ):=by
  refine bN [.ro (.lst (R.map aQ)),.ro (.int m),.ow (.lst []),.no,.no] rfl ?_;refine f7 (λρ=>∃v3 v4,ρ=[.ro (.lst (R.map aQ)),.ro (.int m),.ow (.lst ((R.map (mW m)).map aQ)),v3,v4]) ?_ λρ ⟨v3,v4,e⟩=>by subst e;exact jJ _ rfl rfl
  refine B1 (R.map aQ) (λi ρ=>∃v3 v4,ρ=[.ro (.lst (R.map aQ)),.ro (.int m),.ow (.lst (((R.take i).map (mW m)).map aQ)),v3,v4]) rfl ⟨_,_,rfl⟩ (λi d ρ hd ⟨v3,v4,e⟩=>?_) λρ h=>by rw[az,List.take_length] at h;exact h
  subst e;rw[cg] at hd;obtain⟨r,hr,rfl⟩:=mx.1 hd;have hil:=(cn.1 hr).1;have ok:=g i r hr;have tk:(R.take (i+1)).map (mW m)=(R.take i).map (mW m)++[mW m r]:=by rw[Gh,hr,cy];rfl
  refine⟨[.ro (.lst (R.map aQ)),.ro (.int m),.ow (.lst (((R.take i).map (mW m)).map aQ)),.ro (aJ r.1),.ro (tupI r.2)],rfl,?_⟩;refine lM (λρ=>ρ=[.ro (.lst (R.map aQ)),.ro (.int m),.ow (.lst (((R.take i).map (mW m)).map aQ)),.ro (aJ r.1),.ro (tupI (mW m r).2)]) ?_ λρ e=>?_
  .rcases ok.why with⟨l0,w0⟩|⟨a,b,p,q,u,v,l0,w0,_⟩
   .have e0:(mW m r).2=r.2:=by unfold mW;rw[w0]
    rw[e0,w0];exact g7 ag rfl (λh=>by cases h) λ_=>gR rfl
   .have e0:(mW m r).2=[a,b,(p:Int)+m,(q:Int)+m]:=by unfold mW;rw[w0]
    rw[e0,w0];exact g7 ae rfl (λ_=>lN (tupI [a,b,(p:Int)+m,(q:Int)+m]) rfl rfl) λh=>by cases h
  .subst e;refine⟨_,NG (d:=aQ (mW m r)) (ds:=((R.take i).map (mW m)).map aQ) (by unfold aQ;rw[w4];exact RC rfl rfl) rfl (by rw[az,az,ji];omega),.ro (aJ r.1),.ro (tupI (mW m r).2),?_⟩;rw[tk,cy (f:=aQ)];rfl
 obtain⟨d,e,rfl⟩:=kE rfl main;exact e
def GoodR.moved(ga:GoodR n A)(gr:GoodR n R):GoodR n (A++R.map (mW A.length)):=λi r hi=>by
 by_cases h:i<A.length
 .rw [ik h] at hi;exact(ga i r hi).app (bc _)
 .rw [ic (by omega),cg] at hi;obtain⟨s,hs,rfl⟩:=mx.1 hi;have ok:=gr _ s hs;refine⟨by rw[w4];exact ok.rows,by rw[w4];exact ok.len,?_⟩;rw[w4];rcases ok.why with⟨l0,w0⟩|⟨a,b,p,q,u,v,l0,w0,ha,hb,hlo,hp,hq,up,up2,vq,vq2⟩
  .refine .inl ⟨l0,?_⟩;unfold mW;rw[w0]
  .have at2:∀{c:Nat} {z:PR},R[c]?=aa z->(A++R.map (mW A.length))[c+A.length]?=aa (mW A.length z):=λ{c z} hz=>by rw[ic (by omega),cg,show c+A.length-A.length=c by omega,hz];rfl
   refine .inr ⟨a,b,p+A.length,q+A.length,mW A.length u,mW A.length v,l0,?_,ha,hb,hlo,by omega,by omega,at2 up,by rw[w4];exact up2,at2 vq,by rw[w4];exact vq2⟩;unfold mW;rw[w0];rfl
def GoodR.twice(g:GoodR n (R++[l]))(hT:∀t∈T,t∈R++[l]):GoodR n (R++T)/\qK n (R++T) (R++T).length l:=by
 have low:∀{i:Nat} {r:PR} {j:Nat},(R++[l])[i]?=aa r->R.length<=j->qK n (R++T) j r:=λ{i r j} hi hj=>by
  have ok:=g i r hi;have hil:=(cn.1 hi).1;rw[bq,bx,fg] at hil;refine⟨ok.rows,ok.len,?_⟩;rcases ok.why with z|⟨a,b,p,q,u,v,l0,w0,ha,hb,hlo,hp,hq,up,up2,vq,vq2⟩
  .exact .inl z
  .have cut:∀{c:Nat} {z:PR},c<R.length->(R++[l])[c]?=aa z->(R++T)[c]?=aa z:=λ{c z} hc hz=>by rw[ik hc] at hz ⊢;exact hz
   exact .inr ⟨a,b,p,q,u,v,l0,w0,ha,hb,hlo,by omega,by omega,cut (by omega) up,up2,cut (by omega) vq,vq2⟩
 refine⟨λi r hi=>?_,low (i:=R.length) (by rw[ic (bc _),my];rfl) (by rw[bq];omega)⟩;by_cases h:i<R.length
 .rw [ik h] at hi;have h2:(R++[l])[i]?=aa r:=by rw[ik h];exact hi
  have ok:=g i r h2;refine⟨ok.rows,ok.len,?_⟩;rcases ok.why with z|⟨a,b,p,q,u,v,l0,w0,ha,hb,hlo,hp,hq,up,up2,vq,vq2⟩
  .exact .inl z
  .have cut:∀{c:Nat} {z:PR},c<R.length->(R++[l])[c]?=aa z->(R++T)[c]?=aa z:=λ{c z} hc hz=>by rw[ik hc] at hz ⊢;exact hz
   exact .inr ⟨a,b,p,q,u,v,l0,w0,ha,hb,hlo,hp,hq,cut (by omega) up,up2,cut (by omega) vq,vq2⟩
 .rw [ic (by omega)] at hi;obtain⟨j,hj⟩:=uq.1 (hT r (jt hi));exact low hj (by omega)
theorem S4(h:ns≠[]):BR ns∈ns:=by
 cases ns with
 |nil=>exact Zw rfl h
 |cons a l =>
  have go:∀(l:Q0e) (a:Int),l.foldl (λm b=>if m<b then b else m) a=a\/l.foldl (λm b=>if m<b then b else m) a∈l:=by
   intro l
   induction l with
   |nil=>intro a;exact .inl rfl
   |cons b l ih =>
    intro a;rw[jk];rcases ih (if a<b then b else a) with z|z
    .rw [z];split
     .exact .inr b_
     .exact .inl rfl
    .exact .inr (dg _ z)
  show l.foldl (λm b=>if m<b then b else m) a∈a::l;rcases go l a with z|z
  .rw [z];exact b_
  .exact dg _ z
def u4{R:List PR}{i:Nat}{r:PR}(h:R[i]?=aa r):a9 (.lst (R.map aQ)) (.int (i:Int))=aa (aQ r):=YG h
def AH{R:List PR}{l u:PR}{p:Nat}(hp:R[p]?=aa u)(hR:R.length<15000000):∃(c:Nat) (v:PR),R[c]?=aa v/\v.1=u.1/\cP [.lst ((R++[l]).map aQ),.int p]=.ok (.int c):=by
 have hpl:=(cn.1 hp).1
 let F:List Int:=(aY 0 R.length).filter λi=>Zv (((R[i.toNat]?).getD ([],[])).1=u.1)
 have hF:F≠[]:=by have:(p:Int)∈F:=f_.2 ⟨bD.2 ⟨by omega,by omega⟩,by rw[gk,hp];exact Zx rfl⟩;intro e;rw[e] at this;cases this
 have hm:=S4 hF;obtain⟨m1,m2⟩:=f_.1 hm;have mr:=bD.1 m1;obtain⟨c,hc⟩:∃c:Nat,BR F=(c:Int):=⟨(BR F).toNat,by omega⟩;rw[hc] at m2 mr;have hcl:c<R.length:=by omega
 refine⟨c,R[c],getElem?_eq_getElem hcl,?_,?_⟩
 .have:=of_decide_eq_true m2;rw[gk,getElem?_eq_getElem hcl] at this;exact this
 .unfold cP;refine gO rfl (iA (c8 (x:=aG F) (iN ((aY 0 R.length).map D.int) ?_ (by rw[az,aO];omega) (eF D.int (λi=>Zv (((R[i.toNat]?).getD ([],[])).1=u.1)) D.int _ λi hi=>?_)) ?_))
  .refine Q4 (aK (x:=.int ((R.length:Int)+1)) (y:=.int 1) (c8 (x:=.lst ((R++[l]).map aQ)) rfl ?_) rfl ?_) (by omega)
   .show aa (D.int ((R++[l]).map aQ).length)=_;rw[az,bq];rfl
   .rw [kW];congr 2;omega
  .have hr:=bD.1 hi;have hil:i.toNat<R.length:=by omega
   have e1:(R++[l])[i.toNat]?=aa R[i.toNat]:=u3 (getElem?_eq_getElem hil);have e2:(R++[l])[p]?=aa u:=u3 hp;have r1:=u4 e1;rw[show((i.toNat:Nat):Int)=i by omega] at r1;refine⟨[aa (.int i),aa (.lst ((R++[l]).map aQ)),aa (.int p)],rfl,l8 (d:=.bl (Zv (R[i.toNat].1=u.1))) (aK (x:=aJ R[i.toNat].1) (y:=aJ u.1) (aK (x:=aQ R[i.toNat]) (y:=.int 0) (aK (x:=.lst ((R++[l]).map aQ)) (y:=.int i) rfl rfl r1) rfl rfl) (aK (x:=aQ u) (y:=.int 0) (aK (x:=.lst ((R++[l]).map aQ)) (y:=.int p) rfl rfl (u4 e2)) rfl rfl) (SY _ _)) ?_,λ_=>rfl⟩;rw[getElem?_eq_getElem hil];rfl
  .show (intsOf (F.map D.int)).bind _=_;rw[dM];show(if F=[] then af else aa (D.int (BR F)))=_;rw[Zz hF,hc]
theorem S5(ns:Q0e)(k s:Int):∃x:Q0a,x.length<=9/\Ord.Rows x/\i9 [.fX ns,.int k,.int s]=.ok (aJ x):=by
 obtain⟨c1,ec1⟩:=lO ns k;obtain⟨hs,hsl,hsp,eh⟩:=kZ c1 3 s (by decide) (by decide);obtain⟨c2,ec2⟩:=lO ns (k+1)
 match hs,hsl,hsp,eh with
 |[p,q,r],_,hsp,eh =>
  have p0:=ip p (b:=8) (by decide);have p1:=jd p (b:=8) (by decide);have q0:=ip q (b:=8) (by decide);have q1:=jd q (b:=8) (by decide);have p2:=ip p (b:=4) (by decide);have p3:=jd p (b:=4) (by decide);have at8:∀(l:Q0e) (z:Int),l.length=8->0<=z->z<8 ->∃v∈l,a9 (aG l) (.int z)=aa (.int v):=λl z hl h0 h1=>⟨at0 l z,X8 h0 (by omega),sF h0 (by omega)⟩;obtain⟨n0,hn0,en0⟩:=at8 [5,4,3,5,4,2,1,0] (p%8) rfl p0 p1;obtain⟨t0,ht0,et0⟩:=at8 [1,1,2,2,3,1,0,2] (q%8) rfl q0 q1;have hn5:0<=n0/\n0<=5:=by simp at hn0;omega
  have fin:Rt ((λb=>b (c6 8 [.fX ns,.int k,.int s])) (aI (aN 3 (aH LL.bR (aA (aH LL.bT (aA (aB 0) (aA (aB 1) aE))) (aA (eC (.int 3)) (aA (aB 2) aE)))))
  (aI (aN 4 (aC a9 (dC (aA (eC (.int 5)) (aA (eC (.int 4)) (aA (eC (.int 3)) (aA (eC (.int 5)) (aA (eC (.int 4)) (aA (eC (.int 2)) (aA (eC (.int 1)) (aA (eC (.int 0)) aE))))))))) (aC cZ (aC a9 (aB 3) (eC (.int 0))) (eC (.int 8)))))
  (aI (aN 5 (aC a9 (dC (aA (eC (.int 1)) (aA (eC (.int 1)) (aA (eC (.int 2)) (aA (eC (.int 2)) (aA (eC (.int 3)) (aA (eC (.int 1)) (aA (eC (.int 0)) (aA (eC (.int 2)) aE))))))))) (aC cZ (aC a9 (aB 3) (eC (.int 1))) (eC (.int 8)))))
  (aI (eO (tV (aC gM (aC cZ (aC a9 (aB 3) (eC (.int 2))) (eC (.int 8))) (eC (.int 3))))
   (aI (aN 4 (aC bA (eC (.int 6)) (aC cZ (aC a9 (aB 3) (eC (.int 0))) (eC (.int 4)))))
   (aN 5 (eC (.int 3))))
   cJ)
  (aI (aN 6 (aH LL.bR (aA (aH LL.bT (aA (aB 0) (aA (aC bA (aB 1) (eC (.int 1))) aE))) (aA (aC bA (aB 4) (aC kT (aC mulM (aB 4) (aC dS (aB 4) (eC (.int 1)))) (eC (.int 2)))) (aA (aC bA (aB 2) (eC (.int 10007))) aE)))))
  (aI (aN 7 (aH LL.dW (aA (aB 6) (aA (aB 4) (aA (aB 5) aE)))))
  (aI (eO (kD (tV (aC rN (aB 4) (eC (.int 5)))) (tV (aC rN (aH LL.gS (aA (aB 7) aE)) (eC (.int 60)))))
   (aN 7 (aH LL.dW (aA (aB 6) (aA (aB 4) (aA (eC (.int 4)) aE)))))
   cJ)
  (bB (aB 7)))))))))) λd=>∃x:Q0a,x.length<=9/\Ord.Rows x/\d=aJ x:=by
   refine bN [.ro (.fX ns),.ro (.int k),.ro (.int s),.ro (aG [p,q,r]),.no,.no,.no,.no] (eD _ (fL (cN rfl rfl ec1) rfl rfl eh) rfl) ?_;refine bN [.ro (.fX ns),.ro (.int k),.ro (.int s),.ro (aG [p,q,r]),.ro (.int n0),.no,.no,.no] (eD _ (aK (x:=aG [5,4,3,5,4,2,1,0]) (y:=.int (p%8)) rfl (aK (x:=.int p) (y:=.int 8) rfl rfl (bL (by decide))) en0) rfl) ?_;refine bN [.ro (.fX ns),.ro (.int k),.ro (.int s),.ro (aG [p,q,r]),.ro (.int n0),.ro (.int t0),.no,.no] (eD _ (aK (x:=aG [1,1,2,2,3,1,0,2]) (y:=.int (q%8)) rfl (aK (x:=.int q) (y:=.int 8) rfl rfl (bL (by decide))) et0) rfl) ?_;refine f7 (λρ=>∃(n:Nat) (t:Int),n<=9/\ρ=[.ro (.fX ns),.ro (.int k),.ro (.int s),.ro (aG [p,q,r]),.ro (.int n),.ro (.int t),.no,.no]) ?_ λρ ⟨n,t,hn,e⟩=>?_
   .refine g7 (Zv (r%8=3)) (l8 (aK (x:=.int (r%8)) (y:=.int 3) (aK (x:=.int r) (y:=.int 8) rfl rfl (bL (by decide))) rfl cV) rfl) (λ_=>?_) λ_=>gR ⟨n0.toNat,t0,by omega,by rw[show((n0.toNat:Nat):Int)=n0 by omega]⟩;refine dH [.ro (.fX ns),.ro (.int k),.ro (.int s),.ro (aG [p,q,r]),.ro (.int (6+p%4)),.ro (.int t0),.no,.no] (eD (.int (6+p%4)) (aK (x:=.int 6) (y:=.int (p%4)) rfl (aK (x:=.int p) (y:=.int 4) rfl rfl (bL (by decide))) fB) rfl) ?_;exact lN (.int 3) rfl ⟨(6+p%4).toNat,3,by omega,by rw[show(((6+p%4).toNat:Nat):Int)=6+p%4 by omega];rfl⟩
   subst e;have aNZ:=KR n;have hdv:((n:Int)*((n:Int)-1)/2)=(Ord.tri n:Int):=by
    have:(n:Int)*((n:Int)-1)=2*(Ord.tri n:Int):=by
     rw[Int.mul_sub,Hg];have:((n*n:Nat):Int)=(n:Int)*n:=by rw[Int.natCast_mul]
     omega
    rw[this];omega
   have tl:Ord.tri n<=81:=by have:n*n<=9*9:=Gg hn hn;omega
   obtain⟨dr,drl,drp,edr⟩:=kZ c2 ((n:Int)+(Ord.tri n:Int)) (s+10007) (by omega) (by omega);have hdl:dr.length=n+Ord.tri n:=by omega
   refine bN [.ro (.fX ns),.ro (.int k),.ro (.int s),.ro (aG [p,q,r]),.ro (.int n),.ro (.int t),.ro (aG dr),.no] (eD _ (fL (x:=.int c2) (y:=.int ((n:Int)+(Ord.tri n:Int))) (z:=.int (s+10007)) (cN (x:=.fX ns) (y:=.int (k+1)) rfl rfl ec2) (aK (x:=.int n) (y:=.int (Ord.tri n)) rfl (aK (x:=.int ((n:Int)*((n:Int)-1))) (y:=.int 2) (aK (x:=.int n) (y:=.int ((n:Int)-1)) rfl rfl (mN (by omega))) rfl (by rw[iM (by decide) (by decide),hdv])) fB) rfl edr) rfl) ?_;obtain⟨d1,o1,x1,l1,r1,rfl⟩:=wF dr n t hn (by omega);obtain⟨d2,o2,x2,l2,r2,rfl⟩:=wF dr n 4 hn (by omega);refine bN [.ro (.fX ns),.ro (.int k),.ro (.int s),.ro (aG [p,q,r]),.ro (.int n),.ro (.int t),.ro (aG dr),.ro (aJ x1)] (eD _ (fL rfl rfl rfl o1) rfl) ?_;refine f7 (λρ=>∃x:Q0a,(x.length<=9/\Ord.Rows x)/\ρ=[.ro (.fX ns),.ro (.int k),.ro (.int s),.ro (aG [p,q,r]),.ro (.int n),.ro (.int t),.ro (aG dr),.ro (aJ x)]) ?_ λρ ⟨x,hx,e⟩=>by subst e;exact jJ _ rfl ⟨x,hx.1,hx.2,rfl⟩
   refine g7 (Zv ((5:Int)<n)&&Zv ((60:Int)<(shares x1).sum)) (EH (b:=Zv ((5:Int)<n)) (l8 (aK (x:=.int n) (y:=.int 5) rfl rfl iJ) rfl) (λh=>?_) λh=>by rw[h];rfl) (λ_=>lN (aJ x2) (fL rfl rfl rfl o2) ⟨x2,⟨by omega,r2⟩,rfl⟩) λ_=>gR ⟨x1,⟨by omega,r1⟩,rfl⟩;rw[h,oh];exact l8 (aK (x:=.int (shares x1).sum) (y:=.int 60) (kF rfl (E7 r1 (by omega))) rfl iJ) rfl
  unfold i9;obtain⟨d,e,x,h1,h2,rfl⟩:=kE rfl fin;exact⟨x,h1,h2,e⟩
def LQ:slM (.lst (ds++[d])) af (aa (-1))=aa (.lst ds):=by show aa (D.lst (oF (ds++[d]) af (aa (-1))))=_;unfold oF yS;dsimp only;rw[Z_ (by decide),show(-1+((ds++[d]).length:Int)).toNat=ds.length by rw[bq,bx,fg];omega,pz,ui,List.take_left]
def YH:slM (.lst (ds++[d])) (aa (-1)) af=aa (.lst [d]):=by show aa (D.lst (oF (ds++[d]) (aa (-1)) af))=_;unfold oF yS;dsimp only;rw[Z_ (by decide),show(-1+((ds++[d]).length:Int)).toNat=ds.length by rw[bq,bx,fg];omega,List.drop_left,show(ds++[d]).length-ds.length=1 by rw[bq,bx,fg];omega];rfl
def slE(hf:f ρ=aa d)(hl:lo ρ=aa l)(hh:hi ρ=aa h)(e:slM d l h=z):DW f lo hi ρ=z:=by unfold DW;rw[hf,hl,hh];exact e
def YI(l:Q0e)(lo hi:Option Int):∃m:Q0e,slM (aG l) lo hi=aa (aG m):=by refine⟨(l.drop (yS (l.map D.int).length 0 lo)).take (yS (l.map D.int).length (l.map D.int).length hi-yS (l.map D.int).length 0 lo),?_⟩;show aa (D.lst (oF (l.map D.int) lo hi))=aa (D.lst _);unfold oF;rw[Gp,List.map_drop]
def NR(ns:Q0e):∃(x:Q0a) (R:List PR) (w:Q0e),x.length<=9/\Ord.Rows x/\GoodR x.length (R++[(x,w)])/\R.length<=3000000/\jN [.fX ns]=.ok (.tup [aJ x,.lst ((R++[(x,w)]).map aQ)]):=by
 obtain⟨x,hn,hx,ex⟩:=S5 ns 0 100003;obtain⟨c2,ec2⟩:=lO ns 2;obtain⟨dr,drl,drp,edr⟩:=kZ c2 45 200017 (by decide) (by decide);obtain⟨c3,ec3⟩:=lO ns 3;obtain⟨sz,szl,szp,esz⟩:=kZ c3 7 300007 (by decide) (by decide);have hd:dr.length=45:=drl;have hz:sz.length=7:=szl;obtain⟨R0,w0,g0,l0,e0⟩:=FA hx hn hd;have g9:=SX hn;have S6:∀{ρ:dJ} {j:Int},ρ[3]?=aa (aa (aG sz))->0<=j->j<7->aC a9 (aB 3) (eC (.int j)) ρ=aa (.int (at0 sz j)):=λ{ρ j} h h0 h1=>aK (x:=aG sz) (y:=.int j) (by unfold aB;rw[h];rfl) rfl (sF h0 (by omega));unfold jN;have fin:Rt ((λb=>b (c6 9 [.fX ns])) (aI (aN 1 (aH LL.i9 (aA (aB 0) (aA (eC (.int 0)) (aA (eC (.int 100003)) aE)))))
  (aI (aN 2 (aH LL.bR (aA (aH LL.bT (aA (aB 0) (aA (eC (.int 2)) aE))) (aA (eC (.int 45)) (aA (eC (.int 200017)) aE)))))
  (aI (aN 3 (aH LL.bR (aA (aH LL.bT (aA (aB 0) (aA (eC (.int 3)) aE))) (aA (eC (.int 7)) (aA (eC (.int 300007)) aE)))))
  (aI (aN 4 (aH LL.gG (aA (aB 1) (aA (aB 2) aE))))
  (aI (eO (tV (aC gM (aC cZ (aC a9 (aB 3) (eC (.int 0))) (eC (.int 3))) (eC (.int 1))))
   (aI (aN 5 (aH LL.dW (aA (aC bA (DW (aB 3) (oE (eC (.int 1))) (oE (eC (.int 5)))) (aB 2)) (aA (bI aW (aA (aB 1) aE)) (aA (eC (.int 3)) aE)))))
   (eO (tV (aC leM (aC bA (aC mulM (eC (.int 2)) (aH LL.gS (aA (aB 5) aE))) (bI aW (aA (aB 4) aE))) (eC (.int 280))))
    (aI (aN 6 (aH LL.gG (aA (aB 5) (aA (aB 2) aE))))
    (aN 4 (aC bA (aB 6) (aH LL.jA (aA (aB 4) (aA (bI aW (aA (aB 6) aE)) aE))))))
    cJ))
   cJ)
  (aI (fG 7 (bJ 1 [4,3] (aR (aA (aC cZ (aC a9 (aB 3) (eC (.int 3))) (eC (.int 4))) aE)) (g1 0) cM (aC a9 (aB 1) (aC cZ (aC bA (aC a9 (aB 2) (eC (.int 1))) (aC mulM (aB 0) (aC a9 (aB 2) (eC (.int 2))))) (bI aW (aA (aB 1) aE))))))
  (aI (aN 8 (aC a9 (aC a9 (aB 4) (jE (eC (.int 1)))) (eC (.int 1))))
  (aI (eO (kD (tV (aC rN (bI aW (aA (aB 8) aE)) (eC (.int 0)))) (tV (aC gM (aC cZ (aC a9 (aB 3) (eC (.int 5))) (eC (.int 2))) (eC (.int 1)))))
   (sX (kR 7 eQ (bG (aC a9 (aB 4) (aC a9 (aB 8) (aC bA (eC (.int 2)) (aC cZ (aC a9 (aB 3) (eC (.int 6))) (eC (.int 2)))))))))
   cJ)
  (aI (jH 4 (aC DZ (aC bA (DW (aB 4) KH (oE (jE (eC (.int 1))))) (aB 7)) (DW (aB 4) (oE (jE (eC (.int 1)))) KH)))
  (aI (eO (kD (tV (aC rN (bI aW (aA (aB 8) aE)) (eC (.int 0)))) (tV (aC gM (aC cZ (aC kT (aC a9 (aB 3) (eC (.int 5))) (eC (.int 2))) (eC (.int 2))) (eC (.int 1)))))
   (aN 8 (dG (aA (aC a9 (aB 8) (eC (.int 0))) (aA (aC a9 (aB 8) (eC (.int 1))) (aA (aH LL.cP (aA (aB 4) (aA (aC a9 (aB 8) (eC (.int 2))) aE))) (aA (aH LL.cP (aA (aB 4) (aA (aC a9 (aB 8) (eC (.int 3))) aE))) aE))))))
   cJ)
  (bB (dG (aA (aB 1) (aA (aC bA (DW (aB 4) KH (oE (jE (eC (.int 1))))) (dC (aA (dG (aA (aC a9 (aC a9 (aB 4) (jE (eC (.int 1)))) (eC (.int 0))) (aA (aB 8) aE))) aE))) aE))))))))))))))) λd=>∃(R:List PR) (w:Q0e),GoodR x.length (R++[(x,w)])/\R.length<=3000000/\d=.tup [aJ x,.lst ((R++[(x,w)]).map aQ)]:=by
  refine bN [.ro (.fX ns),.ro (aJ x),.no,.no,.no,.no,.no,.no,.no] (eD _ (fL rfl rfl rfl ex) rfl) ?_;refine bN [.ro (.fX ns),.ro (aJ x),.ro (aG dr),.no,.no,.no,.no,.no,.no] (eD _ (fL (cN rfl rfl ec2) rfl rfl edr) rfl) ?_;refine bN [.ro (.fX ns),.ro (aJ x),.ro (aG dr),.ro (aG sz),.no,.no,.no,.no,.no] (eD _ (fL (cN rfl rfl ec3) rfl rfl esz) rfl) ?_;refine bN [.ro (.fX ns),.ro (aJ x),.ro (aG dr),.ro (aG sz),.ro (.lst ((R0++[(x,w0)]).map aQ)),.no,.no,.no,.no] (eD _ (cN rfl rfl e0) rfl) ?_;have len0:∀A:List PR,aW [.lst (A.map aQ)]=aa (.int A.length):=λA=>by show aa (D.int (A.map aQ).length)=_;rw[az]
  refine f7 (λρ=>∃(R:List PR) (w:Q0e) (v5 v6:Sv),(GoodR x.length (R++[(x,w)])/\R.length<=2000000)/\ρ=[.ro (.fX ns),.ro (aJ x),.ro (aG dr),.ro (aG sz),.ro (.lst ((R++[(x,w)]).map aQ)),v5,v6,.no,.no]) ?_ λρ ⟨R,w,v5,v6,⟨g,Iz⟩,e⟩=>?_
  .rw [bq,bx,fg] at l0;refine g7 (Zv (at0 sz 0%3=1)) (l8 (aK (x:=.int (at0 sz 0%3)) (y:=.int 1) (aK (x:=.int (at0 sz 0)) (y:=.int 3) (S6 rfl (by decide) (by decide)) rfl (bL (by decide))) rfl cV) rfl) (λ_=>?_) λ_=>gR ⟨R0,w0,.no,.no,⟨g0,by omega⟩,rfl⟩;obtain⟨s4,es4⟩:=YI sz (aa 1) (aa 5);have s4l:s4.length<=7:=by
    have:slM (aG sz) (aa 1) (aa 5)=aa (.lst (oF (sz.map D.int) (aa 1) (aa 5))):=rfl;rw[es4] at this;have h2:=congrArg (λo=>match o with|some (D.lst l)=>l.length|_=>0) this
    change (s4.map D.int).length=(oF (sz.map D.int) (aa 1) (aa 5)).length at h2
    rw[az] at h2;rw[h2];unfold oF;exact gn (List.length_take_le' _ _) (gn (by rw[Gu];exact Nat.sub_le _ _) (by rw[az];omega))
   have aN3:x.length+Ord.tri x.length<=45:=by have t1:=KR x.length;have t2:x.length*x.length<=9*x.length:=Gf _ hn;omega
   obtain⟨d1,o1,y,ly,ry,rfl⟩:=wF (s4++dr) x.length 3 hn (by rw[bq];omega);refine dH [.ro (.fX ns),.ro (aJ x),.ro (aG dr),.ro (aG sz),.ro (.lst ((R0++[(x,w0)]).map aQ)),.ro (aJ y),.no,.no,.no] (eD _ (fL (x:=aG (s4++dr)) (y:=.int x.length) (z:=.int 3) (aK (x:=aG s4) (y:=aG dr) (slE (d:=aG sz) rfl rfl rfl es4) rfl ?_) (c8 rfl eJ) rfl o1) rfl) ?_
   .unfold aG;rw[iO (by rw[az,az];omega),cy]
   have gy:=SX (x:=y) (by omega);have mb:=pJ ry;have ml:=LF (x:=y);have mg:(shares y).sum=(gl y:Int):=by rw[<- ml];rfl
   refine g7 (Zv (2*(shares y).sum+((R0++[(x,w0)]).length:Int)<=280)) (l8 (aK (x:=.int (2*(shares y).sum+((R0++[(x,w0)]).length:Int))) (y:=.int 280) (aK (x:=.int (2*(shares y).sum)) (y:=.int (R0++[(x,w0)]).length) (aK (x:=.int 2) (y:=.int (shares y).sum) rfl (kF rfl (E7 ry (by omega))) (mN (by decide))) (c8 rfl (len0 _)) fB) rfl uR) rfl) (λ_=>?_) λ_=>gR ⟨R0,w0,.ro (aJ y),.no,⟨g0,by omega⟩,rfl⟩;obtain⟨R1,w1,g1,l1,e1⟩:=FA ry (by omega) hd;rw[ly] at g1;refine dH [.ro (.fX ns),.ro (aJ x),.ro (aG dr),.ro (aG sz),.ro (.lst ((R0++[(x,w0)]).map aQ)),.ro (aJ y),.ro (.lst ((R1++[(y,w1)]).map aQ)),.no,.no] (eD _ (cN rfl rfl e1) rfl) ?_;have gm:=g1.moved g0;have mv:=S3 (m:=(R1++[(y,w1)]).length) g0 (by rw[bq,bx,fg];omega);generalize R1++[(y,w1)]=A at *;have spl:A++(R0++[(x,w0)]).map (mW A.length)=(A++R0.map (mW A.length))++[(x,(mW A.length (x,w0)).2)]:=by rw[cy,<- n_];congr 1;show[mW A.length (x,w0)]=_;congr 1;exact Fx (w4 _ _) rfl
   rw[spl] at gm;refine lN (.lst (((A++R0.map (mW A.length))++[(x,(mW A.length (x,w0)).2)]).map aQ)) (aK (x:=.lst (A.map aQ)) (y:=.lst (((R0++[(x,w0)]).map (mW A.length)).map aQ)) rfl (cN (x:=.lst ((R0++[(x,w0)]).map aQ)) (y:=.int A.length) rfl (c8 rfl (len0 _)) mv) ?_) ⟨A++R0.map (mW A.length),(mW A.length (x,w0)).2,.ro (aJ y),.ro (.lst (A.map aQ)),⟨gm,by rw[bq,az];omega⟩,rfl⟩;rw[iO (by rw[az,az,az,bq,bx,fg];omega),<- cy,spl]
  subst e;have hA:(R++[(x,w)]).length=R.length+1:=by rw[bq,bx,fg]
  -- rows told twice
  have m30:=ip (at0 sz 3) (b:=4) (by decide);have m31:=jd (at0 sz 3) (b:=4) (by decide)
  let pick:Int->PR:=λk=>((R++[(x,w)])[((at0 sz 1+k*at0 sz 2)%((R++[(x,w)]).length:Int)).toNat]?).getD (x,w)
  have CV:∀k:Int,(R++[(x,w)])[((at0 sz 1+k*at0 sz 2)%((R++[(x,w)]).length:Int)).toNat]?=aa (pick k)/\0<=(at0 sz 1+k*at0 sz 2)%((R++[(x,w)]).length:Int):=λk=>by have h0:=ip (at0 sz 1+k*at0 sz 2) (show((R++[(x,w)]).length:Int)≠0 by omega);have h1:=jd (at0 sz 1+k*at0 sz 2) (show(0:Int)<((R++[(x,w)]).length:Int) by omega);refine⟨?_,h0⟩;show _=aa (((R++[(x,w)])[((at0 sz 1+k*at0 sz 2)%((R++[(x,w)]).length:Int)).toNat]?).getD (x,w));rw[getElem?_eq_getElem (by omega)];rfl
  let T0:List PR:=(aY 0 (at0 sz 3%4).toNat).map pick
  have T0l:T0.length<=4:=by show((aY 0 (at0 sz 3%4).toNat).map pick).length<=4;rw[az,aO];omega
  have T0m:∀t∈T0,t∈R++[(x,w)]:=λt ht=>by obtain⟨k,_,rfl⟩:=gj.1 ht;exact jt (CV k).1
  refine bN [.ro (.fX ns),.ro (aJ x),.ro (aG dr),.ro (aG sz),.ro (.lst ((R++[(x,w)]).map aQ)),v5,v6,.ow (.lst (T0.map aQ)),.no] (Rh ?_) ?_
  .have e5:T0.map aQ=(aY 0 (at0 sz 3%4).toNat).map λk=>aQ (pick k):=by show((aY 0 (at0 sz 3%4).toNat).map pick).map aQ=_;rw[dq];rfl
   rw[e5];refine iN ((aY 0 (at0 sz 3%4).toNat).map D.int) ?_ (by rw[az,aO];omega) (iB D.int (λk=>aQ (pick k)) _ λk hk=>?_)
   .refine Q4 ?_ (by omega);rw[show(((at0 sz 3%4).toNat:Nat):Int)=at0 sz 3%4 by omega];exact aK (x:=.int (at0 sz 3)) (y:=.int 4) (S6 rfl (by decide) (by decide)) rfl (bL (by decide))
   .have hr:=bD.1 hk;refine⟨[aa (.int k),aa (.lst ((R++[(x,w)]).map aQ)),aa (aG sz)],rfl,?_⟩;have i1:a9 (aG sz) (.int 1)=aa (.int (at0 sz 1)):=sF (by decide) (by omega);have i2:a9 (aG sz) (.int 2)=aa (.int (at0 sz 2)):=sF (by decide) (by omega);refine aK (x:=.lst ((R++[(x,w)]).map aQ)) (y:=.int ((at0 sz 1+k*at0 sz 2)%((R++[(x,w)]).length:Int))) rfl (aK (x:=.int (at0 sz 1+k*at0 sz 2)) (y:=.int (R++[(x,w)]).length) (aK (x:=.int (at0 sz 1)) (y:=.int (k*at0 sz 2)) (aK (x:=aG sz) (y:=.int 1) rfl rfl i1) (aK (x:=.int k) (y:=.int (at0 sz 2)) rfl (aK (x:=aG sz) (y:=.int 2) rfl rfl i2) (mN (by omega))) fB) (c8 rfl (len0 _)) (bL (by omega))) ?_;have:=u4 (CV k).1;rw[show((((at0 sz 1+k*at0 sz 2)%((R++[(x,w)]).length:Int)).toNat:Nat):Int)=(at0 sz 1+k*at0 sz 2)%((R++[(x,w)]).length:Int) by have:=(CV k).2;omega] at this;exact this
  have okL:qK x.length (R++[(x,w)]) R.length (x,w):=g R.length (x,w) (by rw[ic (bc _),my];rfl);have Ya:a9 (.lst ((R++[(x,w)]).map aQ)) (.int (-1))=aa (aQ (x,w)):=by rw[cy];exact CT
  refine bN [.ro (.fX ns),.ro (aJ x),.ro (aG dr),.ro (aG sz),.ro (.lst ((R++[(x,w)]).map aQ)),v5,v6,.ow (.lst (T0.map aQ)),.ro (tupI w)] (eD (tupI w) (aK (x:=aQ (x,w)) (y:=.int 1) (aK (x:=.lst ((R++[(x,w)]).map aQ)) (y:=.int (-1)) rfl rfl Ya) rfl rfl) rfl) ?_;have Br:aW [tupI w]=aa (.int w.length):=p9;refine f7 (λρ=>∃T:List PR,(T.length<=5 /\∀t∈T,t∈R++[(x,w)])/\ρ=[.ro (.fX ns),.ro (aJ x),.ro (aG dr),.ro (aG sz),.ro (.lst ((R++[(x,w)]).map aQ)),v5,v6,.ow (.lst (T.map aQ)),.ro (tupI w)]) ?_ λρ ⟨T,⟨Tl,Tm⟩,e⟩=>?_
  .refine g7 (Zv ((0:Int)<w.length)&&Zv (at0 sz 5%2=1)) (EH (b:=Zv ((0:Int)<w.length)) (l8 (aK (x:=.int w.length) (y:=.int 0) (c8 rfl Br) rfl iJ) rfl) (λh=>?_) λh=>by rw[h];rfl) (λhc=>?_) λ_=>gR ⟨T0,⟨by omega,T0m⟩,rfl⟩
   .rw [h,oh];exact l8 (aK (x:=.int (at0 sz 5%2)) (y:=.int 1) (aK (x:=.int (at0 sz 5)) (y:=.int 2) (S6 rfl (by decide) (by decide)) rfl (bL (by decide))) rfl cV) rfl
   .rw [gw,decide_eq_true_eq] at hc;rcases okL.why with z|⟨a,b,p,q,u,v,lo,S7,ha,hb,hlo,hp,hq,up,up2,vq,vq2⟩
    .have:w=[]:=z.2;rw[this] at hc;simp at hc
    .have S7:w=[a,b,(p:Int),(q:Int)]:=S7;have s0:=ip (at0 sz 6) (b:=2) (by decide);have s1:=jd (at0 sz 6) (b:=2) (by decide);obtain⟨c,t,hct,ec⟩:∃(c:Nat) (t:PR),(R++[(x,w)])[c]?=aa t/\a9 (tupI w) (.int (2+at0 sz 6%2))=aa (.int c):=by
      rcases(show at0 sz 6%2=0\/at0 sz 6%2=1 by omega) with z|z
      .exact ⟨p,u,up,by rw[z,S7];rfl⟩
      .exact ⟨q,v,vq,by rw[z,S7];rfl⟩
     refine⟨_,NG (d:=aQ t) (ds:=T0.map aQ) (aK (x:=.lst ((R++[(x,w)]).map aQ)) (y:=.int c) rfl (aK (x:=tupI w) (y:=.int (2+at0 sz 6%2)) rfl (aK (x:=.int 2) (y:=.int (at0 sz 6%2)) rfl (aK (x:=.int (at0 sz 6)) (y:=.int 2) (S6 rfl (by decide) (by decide)) rfl (bL (by decide))) fB) ec) (u4 hct)) rfl (by rw[az];omega),T0++[t],⟨by rw[bq,bx,fg];omega,λs hs=>?_⟩,?_⟩
     .rcases ft.1 hs with z|z
      .exact T0m s z
      .rw [br] at z;rw[z];exact jt hct
     .rw [cy (f:=aQ) (l₁:=T0)];rfl
  subst e;obtain⟨gT,okT⟩:=g.twice Tm;have hRT:(R++T).length<=2000005:=by rw[bq];omega
  refine bN [.ro (.fX ns),.ro (aJ x),.ro (aG dr),.ro (aG sz),.ro (.lst ((R++T++[(x,w)]).map aQ)),v5,v6,.ow (.lst (T.map aQ)),.ro (tupI w)] (Dk ((R++T++[(x,w)]).map aQ) ?_ (FC _) rfl) ?_
  .refine aK (x:=.lst ((R++T).map aQ)) (y:=.lst [aQ (x,w)]) (aK (x:=.lst (R.map aQ)) (y:=.lst (T.map aQ)) (slE (d:=.lst ((R++[(x,w)]).map aQ)) rfl rfl rfl (by rw[cy];exact LQ)) rfl ?_) (slE (d:=.lst ((R++[(x,w)]).map aQ)) rfl rfl rfl (by rw[cy];exact YH)) ?_
   .rw [iO (by rw[az,az];omega),<- cy]
   .rw [EE (by rw[az];simp only[bx,fg];omega),cy (l₁:=R++T)];rfl
  -- the later ones named
  refine f7 (λρ=>∃w':Q0e,qK x.length (R++T) (R++T).length (x,w')/\ρ=[.ro (.fX ns),.ro (aJ x),.ro (aG dr),.ro (aG sz),.ro (.lst ((R++T++[(x,w)]).map aQ)),v5,v6,.ow (.lst (T.map aQ)),.ro (tupI w')]) ?_ λρ ⟨w',okW,e⟩=>?_
  .refine g7 (Zv ((0:Int)<w.length)&&Zv (at0 sz 5/2%2=1)) (EH (b:=Zv ((0:Int)<w.length)) (l8 (aK (x:=.int w.length) (y:=.int 0) (c8 rfl Br) rfl iJ) rfl) (λh=>?_) λh=>by rw[h];rfl) (λhc=>?_) λ_=>gR ⟨w,okT,rfl⟩
   .rw [h,oh];exact l8 (aK (x:=.int (at0 sz 5/2%2)) (y:=.int 1) (aK (x:=.int (at0 sz 5/2)) (y:=.int 2) (aK (x:=.int (at0 sz 5)) (y:=.int 2) (S6 rfl (by decide) (by decide)) rfl (iM (by decide) (by decide))) rfl (bL (by decide))) rfl cV) rfl
   .rw [gw,decide_eq_true_eq] at hc;rcases okT.why with z|⟨a,b,p,q,u,v,lo,S7,ha,hb,hlo,hp,hq,up,up2,vq,vq2⟩
    .have:w=[]:=z.2;rw[this] at hc;simp at hc
    .have S7:w=[a,b,(p:Int),(q:Int)]:=S7;obtain⟨c1,v1,h1,h2,h3⟩:=AH (l:=(x,w)) up (by omega);obtain⟨c2,v2,k1,k2,k3⟩:=AH (l:=(x,w)) vq (by omega);refine lN (tupI [a,b,(c1:Int),(c2:Int)]) ?_ ⟨[a,b,(c1:Int),(c2:Int)],⟨okT.rows,okT.len,.inr ⟨a,b,c1,c2,v1,v2,lo,rfl,ha,hb,hlo,(cn.1 h1).1,(cn.1 k1).1,h1,by rw[h2];exact up2,k1,by rw[k2];exact vq2⟩⟩,rfl⟩;have q0:∀{ρ:dJ},ρ[8]?=aa (aa (tupI w))->ρ[4]?=aa (aa (.lst ((R++T++[(x,w)]).map aQ)))->dG (aA (aC a9 (aB 8) (eC (.int 0))) (aA (aC a9 (aB 8) (eC (.int 1))) (aA (aH LL.cP (aA (aB 4) (aA (aC a9 (aB 8) (eC (.int 2))) aE))) (aA (aH LL.cP (aA (aB 4) (aA (aC a9 (aB 8) (eC (.int 3))) aE))) aE)))) ρ=aa (tupI [a,b,(c1:Int),(c2:Int)]):=λ{ρ} h8 h4=>by
      have e8:aB 8 ρ=aa (tupI w):=by unfold aB;rw[h8];rfl
      have e4:aB 4 ρ=aa (.lst ((R++T++[(x,w)]).map aQ)):=by unfold aB;rw[h4];rfl
      have f0:aC a9 (aB 8) (eC (.int 0)) ρ=aa (.int a):=aK e8 (y:=.int 0) rfl (by rw[S7];rfl);have f1:aC a9 (aB 8) (eC (.int 1)) ρ=aa (.int b):=aK e8 (y:=.int 1) rfl (by rw[S7];rfl);have f2:aC a9 (aB 8) (eC (.int 2)) ρ=aa (.int (p:Int)):=aK e8 (y:=.int 2) rfl (by rw[S7];rfl);have f3:aC a9 (aB 8) (eC (.int 3)) ρ=aa (.int (q:Int)):=aK e8 (y:=.int 3) rfl (by rw[S7];rfl);unfold dG;rw[show aA (aC a9 (aB 8) (eC (.int 0))) (aA (aC a9 (aB 8) (eC (.int 1))) (aA (aH LL.cP (aA (aB 4) (aA (aC a9 (aB 8) (eC (.int 2))) aE))) (aA (aH LL.cP (aA (aB 4) (aA (aC a9 (aB 8) (eC (.int 3))) aE))) aE))) ρ=aa [.int a,.int b,.int c1,.int c2] by unfold aA aE;have g2:aH LL.cP (aA (aB 4) (aA (aC a9 (aB 8) (eC (.int 2))) aE)) ρ=aa (.int c1):=cN e4 f2 h3;have g3:aH LL.cP (aA (aB 4) (aA (aC a9 (aB 8) (eC (.int 3))) aE)) ρ=aa (.int c2):=cN e4 f3 k3;unfold aA aE at g2 g3;rw[f0,f1,g2,g3];rfl]
      rfl
     exact q0 rfl rfl
  subst e;refine jJ _ ?_ ⟨R++T,w',gT.snoc okW,by omega,rfl⟩;have aBz:a9 (.lst ((R++T++[(x,w)]).map aQ)) (.int (-1))=aa (aQ (x,w)):=by rw[cy (l₁:=R++T)];exact CT
  refine RC (x:=aJ x) rfl (aK (x:=.lst ((R++T).map aQ)) (y:=.lst [aQ (x,w')]) (slE (d:=.lst ((R++T++[(x,w)]).map aQ)) rfl rfl rfl (by rw[cy (l₁:=R++T)];exact LQ)) ?_ ?_)
  .unfold dC;rw[args1 (x:=aQ (x,w')) (RC (x:=aJ x) (y:=tupI w') (aK (x:=aQ (x,w)) (y:=.int 0) (aK (x:=.lst ((R++T++[(x,w)]).map aQ)) (y:=.int (-1)) rfl rfl aBz) rfl rfl) rfl)];rfl
  .rw [iO (by rw[az];simp only[bx,fg];omega),cy (l₁:=R++T)];rfl
 obtain⟨d,e,R,w,h1,h2,rfl⟩:=kE rfl fin;exact⟨x,R,w,hn,hx,h1,h2,e⟩
def Di(hl:ds.length=np)(h:Rt (b (c6 n ds)) λe=>e=d):bY n np b ds=.ok d:=by obtain⟨d',e,rfl⟩:=kE hl h;exact e
def Xo(lo:Int)(n:Nat):(L4.aY lo n).Pairwise (·<·):=zk _ (λa b (h:a<b)=>by omega) List.pairwise_lt_range
theorem AI:∀{l:Q0e},(∀i∈l,key (ρ.set 0 (aa (.int i)))=aa (g i))->mL key ρ (l.map D.int)=aa (l.map g)
 |[],_=>rfl
 |i::l,h=>by rw[ba];unfold mL;rw[h i b_,AI λj hj=>h j (dg _ hj)];rfl
def LR:aW [tupI l]=aa (.int l.length):=by unfold tupI;rw[kX,az]
end LL
namespace K34
open L3 L4
def fS:fY:=bY 1 1
  (bB (bI cB (aA (bJ 1 [0] (aR (aA (aC dS (bI aW (aA (aB 0) aE)) (eC (.int 1))) aE)) (g1 0) (tV (aC rN (aC a9 (aB 1) (aB 0)) (aC a9 (aB 1) (aC bA (aB 0) (eC (.int 1)))))) (aB 0)) aE)))
def c7:fY:=bY 3 2
  (aI (aN 2 (bI cB (aA (uQ [0] (bI aW (aA (aB 0) aE)) (bI aW (aA (aC a9 (aB 1) (aB 0)) aE))) aE)))
  (bB (aH LL.jL (aA (aC dS (aC dS (aC bA (aB 1) (bI aW (aA (aB 0) aE))) (eC (.int 1))) (bI aW (aA (aH fS (aA (aB 2) aE)) aE))) (aA (bI aW (aA (aB 0) aE)) aE)))))
def dY:fY:=bY 5 2
  (aI (fG 2 (dC aE))
  (aI (b9 (cC (aB 0)) (zN 3 4)
   (sX (kR 2 eQ (dZ (M0 (tV (aB 4)) (aC bA (aC a9 (aB 2) (aC a9 (aB 4) (eC (.int 2)))) (aC a9 (aB 2) (aC a9 (aB 4) (eC (.int 3))))) (aH c7 (aA (aB 3) (aA (aB 1) aE))))))))
  (bB (aC a9 (aB 2) (jE (eC (.int 1)))))))
def qM:fY:=bY 5 3
  (aI (aN 3 (aH LL.bR (aA (aH LL.bT (aA (aB 0) (aA (aB 1) aE))) (aA (eC (.int 2)) (aA (aB 2) aE)))))
  (aI (eO (tV (aC gM (aC cZ (aC a9 (aB 3) (eC (.int 0))) (eC (.int 3))) (eC (.int 0))))
   (bB (aC dS (aC cZ (aC a9 (aB 3) (eC (.int 1))) (eC (.int 23))) (eC (.int 11))))
   cJ)
  (aI (aN 4 (aH LL.iD (aA (aH LL.bT (aA (aB 0) (aA (aC bA (aB 1) (eC (.int 1))) aE))) (aA (aC uH (eC (.int 10)) (eC (.int 60))) (aA (aC bA (aB 2) (eC (.int 10007))) aE)))))
  (aI (eO (tV (aC gM (aC cZ (aC a9 (aB 3) (eC (.int 1))) (eC (.int 2))) (eC (.int 1))))
   (bB (jE (aB 4)))
   cJ)
  (bB (aB 4))))))
def qB:fY:=bY 7 1
  (aI (HH (bG (aH LL.jN (aA (aB 0) aE))) (zN 1 2))
  (aI (aN 3 (aH qM (aA (aB 0) (aA (eC (.int 4)) (aA (eC (.int 500009)) aE)))))
  (aI (b9 (aR (aA (eC (.int 5)) aE)) (gK 4)
   (eO (jC (tV (aH (LL.bZ 6) (aA (aH dY (aA (bI cB (aA (aB 2) aE)) (aA (aB 4) aE))) (aA (aH LL.k6 (aA (aB 1) (aA (aB 4) aE))) aE)))))
    (bB (eC (.bl ag)))
    cJ))
  (aI (eO (jC (tV (aH (LL.bZ 6) (aA (aH dY (aA (bI cB (aA (aB 2) aE)) (aA (aB 3) aE))) (aA (aH LL.f9 (aA (aB 1) (aA (aB 3) aE))) aE)))))
   (bB (eC (.bl ag)))
   cJ)
  (aI (aN 5 (aH LL.bR (aA (aH LL.bT (aA (aB 0) (aA (eC (.int 6)) aE))) (aA (eC (.int 2)) (aA (eC (.int 600011)) aE)))))
  (aI (aN 6 (bI cB (aA (DW (aB 2) KH (oE (aC bA (eC (.int 1)) (aC cZ (aC bA (aC a9 (aB 5) (eC (.int 0))) (aC mulM (eC (.int 64)) (aC a9 (aB 5) (eC (.int 1))))) (bI aW (aA (aB 2) aE)))))) aE)))
  (bB (aH (LL.bZ 6) (aA (aH dY (aA (aB 6) (aA (aB 3) aE))) (aA (aH LL.f9 (aA (aC a9 (aC a9 (aB 6) (jE (eC (.int 1)))) (eC (.int 0))) (aA (aB 3) aE))) aE))))))))))
open K24 LL
theorem aCA(ns:Q0e)(a s:Int):∃k,qM [.fX ns,.int a,.int s]=.ok (.int k)/\k.natAbs<=10^60:=by
 obtain⟨c,ec⟩:=lO ns a;obtain⟨c2,ec2⟩:=lO ns (a+1);obtain⟨xs,xl,_,ex⟩:=kZ c 2 s (by decide) (by decide);have Ir:∀ρ,aC uH (eC (.int 10)) (eC (.int 60)) ρ=aa (.int (10^60)):=λρ=>RD (i:=10) (j:=60) ρ (by decide+kernel);have Hz:(0:Int)<10^60:=by decide+kernel
 have b60:(1000:Nat)<10^60:=by decide+kernel
 obtain⟨g,g0,g1,eg⟩:=RE c2 (s+10007) Hz;have gb:g.natAbs<=10^60:=by
  have e:((10:Int)^60).natAbs=10^60:=by decide+kernel
  omega
 match xs,xl,ex with
 |[p,q],_,ex =>
  unfold qM;have first:∀{b:SF} {d:D},b [.ro (.fX ns),.ro (.int a),.ro (.int s),.ro (aG [p,q]),.no]=.rt d->aI (aN 3 (aH LL.bR (aA (aH LL.bT (aA (aB 0) (aA (aB 1) aE))) (aA (eC (.int 2)) (aA (aB 2) aE))))) b (c6 5 [.fX ns,.int a,.int s])=.rt d:=λh=>dI _ (eD (aG [p,q]) (fL (cN rfl rfl ec) rfl rfl ex) rfl) h
  have tst:tV (aC gM (aC cZ (aC a9 (aB 3) (eC (.int 0))) (eC (.int 3))) (eC (.int 0))) (bW [.ro (.fX ns),.ro (.int a),.ro (.int s),.ro (aG [p,q]),.no])=aa (Zv (p%3=0)):=l8 (aK (x:=.int (p%3)) (y:=.int 0) (aK (x:=.int p) (y:=.int 3) rfl rfl (bL (by decide))) rfl cV) rfl;by_cases h0:p%3=0
  .refine ⟨q%23-11,gO rfl (first (yW (M9 (by rw[tst,Zx h0]) (iA (aK (x:=.int (q%23)) (y:=.int 11) (aK (x:=.int q) (y:=.int 23) rfl rfl (bL (by decide))) rfl rfl))))),by omega⟩
  .have next:∀{b:SF} {d:D},b [.ro (.fX ns),.ro (.int a),.ro (.int s),.ro (aG [p,q]),.ro (.int g)]=.rt d->aI (aN 4 (aH LL.iD (aA (aH LL.bT (aA (aB 0) (aA (aC bA (aB 1) (eC (.int 1))) aE))) (aA (aC uH (eC (.int 10)) (eC (.int 60))) (aA (aC bA (aB 2) (eC (.int 10007))) aE))))) b [.ro (.fX ns),.ro (.int a),.ro (.int s),.ro (aG [p,q]),.no]=.rt d:=λh=>dI _ (eD (.int g) (fL (x:=.int c2) (y:=.int (10^60)) (z:=.int (s+10007)) (cN (x:=.fX ns) (y:=.int (a+1)) rfl rfl ec2) (Ir _) rfl eg) rfl) h
   have ts2:tV (aC gM (aC cZ (aC a9 (aB 3) (eC (.int 1))) (eC (.int 2))) (eC (.int 1))) (bW [.ro (.fX ns),.ro (.int a),.ro (.int s),.ro (aG [p,q]),.ro (.int g)])=aa (Zv (q%2=1)):=l8 (aK (x:=.int (q%2)) (y:=.int 1) (aK (x:=.int q) (y:=.int 2) rfl rfl (bL (by decide))) rfl cV) rfl;by_cases h1:q%2=1
   .exact ⟨-g,gO rfl (first (dI _ (yO (by rw[tst,Zy h0]) rfl) (next (yW (M9 (by rw[ts2,Zx h1]) (iA rfl)))))),by omega⟩
   .exact ⟨g,gO rfl (first (dI _ (yO (by rw[tst,Zy h0]) rfl) (next (dI _ (yO (by rw[ts2,Zy h1]) rfl) (iA rfl))))),gb⟩
section
variable{y:Q0a}
def tied(hy:loose y=[])(ha:0<=a/\a<(y.length:Int))(hb:0<=b/\b<(y.length:Int))(hab:a≠b):a∈row y b\/b∈row y a:=by
 have key:∀{a b:Int},0<=a->a<b->b<(y.length:Int)->a∈row y b\/b∈row y a:=λ{a b} a0 ab bn=>by
  refine qd λh=>?_;have hl:fM y a b=ae:=by
   unfold fM;simp only[gw,zq,decide_eq_false_iff_not];refine⟨by omega,?_,?_⟩
   .rw [Hc,decide_eq_false_iff_not];exact λq=>h (.inl q)
   .rw [Hc,decide_eq_false_iff_not];exact λq=>h (.inr q)
  have:(a,b)∈loose y:=by unfold loose fH;refine zg.2 ⟨a,bD.2 (by omega),gj.2 ⟨b,f_.2 ⟨bD.2 (by omega),hl⟩,rfl⟩⟩
  rw[hy] at this;cases this
 rcases Int.lt_or_lt_of_ne hab with z|z
 .exact key ha.1 z hb.2
 .exact (key hb.1 z ha.2).symm
def fewer(hx:Ord.Rows y)(hb:0<=b/\b<(y.length:Int))(h:a∈row y b):(row y a).length<(row y b).length:=by
 have ra:=K03.wK hx hb.1 hb.2 h;have nd:∀c:Int,0<=c->c<(y.length:Int)->(row y c).Nodup:=λc h0 h1=>(hx.up c.toNat (row y c) (Q9.f6 h0 h1)).imp λh=>by omega
 have ir:a∉row y a:=by
  have:=hx.QY a.toNat (row y a) (Q9.f6 ra.1 ra.2)
  rwa [show((a.toNat:Nat):Int)=a by omega] at this
 have:=Ord.dD (a::row y a) (row y b) (gu.2 ⟨ir,nd a ra.1 ra.2⟩) λt ht=>by
  rcases bu.1 ht with z|z
  .rw [z];exact h
  .exact K03.RB hx hb.1 hb.2 h z
 rw[bx] at this;omega
def lens(y:Q0a):List Int:=(aY 0 y.length).map λi=>((row y i).length:Int)
def xA(y:Q0a):(lens y).length=y.length:=by unfold lens;rw[az,aO]
def YJ(h:i<y.length):(lens y)[i]?=aa ((row y i).length:Int):=by unfold lens;rw[cg,jI h];simp
def LS(hx:Ord.Rows y)(hy:loose y=[]):(lens y).Nodup:=by
 unfold lens;rw[zl,pj];refine a3R ?_ (Xo 0 y.length);intro a b ha hb hab e;have ha:=bD.1 ha;have hb:=bD.1 hb;rcases tied hy (a:=a) (b:=b) (by omega) (by omega) (by omega) with z|z
 .have:=fewer hx (by omega) z;omega
 .have:=fewer hx (by omega) z;omega
def Q_:hV [p] [q]=Zv (p<q):=by
 unfold hV;by_cases h:p=q
 .subst h;rw[Z_ rfl];simp[hV]
 .rw [Zz h]
def AJ(hx:Ord.Rows y)(hy:loose y=[])(hw:w∈gls y y.length):nN ((lens y).map λn=>[n])=w:=by
 have hg:=d9 hw;have nd:=jM hg.2;have hp:w.Perm (aY 0 y.length):=by
  refine(zf nd.1 (wM _)).2 λa=>⟨λha=>?_,λha=>?_⟩
  .have:=nd.2 a ha;exact bD.2 (by omega)
  .have:=bD.1 ha;exact nW hg.1 hg.2 (by omega) (by omega)
 have hs:w.Pairwise λa b=>(row y a).length<(row y b).length:=by
  have key:∀(v u:Q0e),w=u++v->v.Pairwise λa b=>(row y a).length<(row y b).length:=by
   intro v
   induction v with
   |nil=>intro u _;exact zj
   |cons a v ih =>
    intro u e;refine gq.2 ⟨λb hb=>?_,ih (u++[a]) (by rw[e];simp)⟩;have ra:=nd.2 a (by rw[e];simp);have rb:=nd.2 b (by rw[e];exact gc _ (dg _ hb));have nd2:=nd.1;rw[e] at nd2;have nv:=(gu.1 (iy.1 nd2).2.1).1;rcases tied hy ra rb (λz=>nv (by rw[z];exact hb)) with z|z
    .exact fewer hx rb z
    .exact Zw ((gF.1 (hg.2 u a v e)).2.2 b z) λq=>(iy.1 nd2).2.2 b q b (dg _ hb) rfl
  exact key w [] rfl
 have es:tW ((lens y).map λn=>[n])=w.map λi=>[((row y i).length:Int)]:=by
  refine BQ ((pA _).trans ?_) (vN _) ?_
  .have:=(hp.map λi=>[((row y i).length:Int)]).symm;unfold lens;rw[dq];exact this
  .rw [UpT,pj];refine a2D ?_ hs;intro a b h;rw[Q_];exact Zy (by omega)
 unfold nN;rw[es,dq]
 conv=>rhs;rw[<- a2h w]
 refine gd λa ha=>?_;have ra:=nd.2 a ha;have hl:a.toNat<((lens y).map λn=>[n]).length:=by rw[az,xA];omega
 have e2:((lens y).map λn=>[n])[a.toNat]=[((row y a).length:Int)]:=by have:=YJ (y:=y) (i:=a.toNat) (by omega);rw[show((a.toNat:Nat):Int)=a by omega] at this;rw[Gv];congr 1;rw[getElem?_eq_getElem (by rw[xA];omega)] at this;exact df this
 have nd3:((lens y).map λn=>[n]).Nodup:=by rw[zl,pj];exact(LS hx hy).imp λh z=>h (Hd z).1
 show((((lens y).map λn=>[n]).idxOf [((row y a).length:Int)]:Nat):Int)=a;rw[<- e2,a2E nd3 a.toNat hl];omega
def FD(h:w.length<=1000):fS [tupI w]=.ok (tupI (NO w)):=by unfold fS;exact gO rfl (iA (c8 (x:=aG (NO w)) (Rf (.inl rfl) h rfl rfl) rfl))
def S8(hx:Ord.Rows y)(hn:y.length<=9)(hy:loose y=[])(hk:Bg 208 k):c7 [aJ y,.int k]=.ok (.int (DV y.length 0 (shares y) k)):=by
 obtain⟨w,hw⟩:∃w,w∈gls y y.length:=by
  have:=sV hx;unfold gl at this
  cases e:gls y y.length with
  |nil=>rw[e] at this;simp at this
  |cons w r=>exact⟨w,b_⟩
 have ew:=AJ hx hy hw;have one:gls y y.length=[w]:=by
  have nd:=mR (x:=y) y.length;have all:∀u∈gls y y.length,u=w:=λu hu=>by rw[<- AJ hx hy hu,ew]
  cases e:gls y y.length with
  |nil=>rw[e] at hw;cases hw
  |cons a r =>
   rw[e] at nd all;have ha:=all a b_
   cases r with
   |nil=>rw[ha]
   |cons b r =>
    have hb:=all b (dg _ b_);rw[ha,hb] at nd;exact Zw b_ (gu.1 nd).1
 have hg:=d9 hw;have wn:=jM hg.2;have hd:=X7 (w:=w) λa ha=>(wn.2 a ha).1;have hdl:=Xq hw;have hb:Bg 210 (k+y.length-1-((NO w).length:Int)):=by
  rw[hd];unfold Bg at hk ⊢;have:max y.length 1<=9:=by omega
  have e8:(2:Nat)^208+100<2^210:=by decide+kernel
  omega
 have ck:=z7 hb (m:=y.length) (by omega);have res:C (k+y.length-1-((NO w).length:Int)) y.length=DV y.length 0 (shares y) k:=by rw[qJ,one,hd];simp
 rw[res] at ck;unfold c7;refine gO rfl (dI [.ro (aJ y),.ro (.int k),.ro (tupI w)] (eD (tupI w) (c8 (x:=aG w) ?_ rfl) rfl) (iA (cN (x:=.int (k+y.length-1-((NO w).length:Int))) (y:=.int y.length) (aK (x:=.int (k+y.length-1)) (y:=.int (NO w).length) (aK (x:=.int (k+y.length)) (y:=.int 1) (aK (x:=.int k) (y:=.int y.length) rfl (c8 (x:=aJ y) rfl eJ) rfl) rfl rfl) (c8 (x:=tupI (NO w)) (kF rfl (FD (by rw[hg.1];omega))) LR) rfl) (c8 (x:=aJ y) rfl eJ) ck)));unfold uQ;rw[c8 (x:=aJ y) (z:=aa (.int y.length)) rfl eJ];show(if 0<=(y.length:Int)/\(y.length:Int)<64 then(mL _ _ ((aY 0 (y.length:Int).toNat).map D.int)).bind BS else af)=_;rw[Z_ (by omega),gk];have hkf:=AI (key:=bI aW (aA (aC a9 (aB 1) (aB 0)) aE)) (ρ:=benv 1 [0] (gJ (c6 3 [aJ y,.int k]))) (g:=λi=>.int ((row y i).length:Int)) (l:=aY 0 y.length) (λi hi=>by have:=bD.1 hi;exact c8 (x:=tupI (row y i)) (aK (x:=aJ y) (y:=.int i) rfl rfl (pG (by omega) (by omega))) LR)
 rw[hkf];show BS ((aY 0 y.length).map λi=>D.int ((row y i).length:Int))=_;have e:((aY 0 y.length).map λi=>D.int ((row y i).length:Int))=(lens y).map D.int:=by unfold lens;rw[dq];rfl
 rw[e];unfold BS;rw[dM,cz,Z_ ⟨by rw[xA];omega,LS hx hy⟩,ew];rfl
end
def cv(n:Nat)(k:Int)(r:PR):Int:=DV n 0 (shares r.1) k
def xB(hn:n<=9)(g:GoodR n R)(hk:Bg 208 k)(hR:R.length<=4000000)(hm:m<R.length)(hr:R[m]?=aa r):dY [.tup ((R.take (m+1)).map aQ),.int k]=.ok (.int (cv n k r)):=by
 unfold dY;refine Di rfl ?_;refine bN [.ro (.tup ((R.take (m+1)).map aQ)),.ro (.int k),.ow (aG []),.no,.no] rfl ?_;refine f7 (λρ=>∃v3 v4:Sv,ρ=[.ro (.tup ((R.take (m+1)).map aQ)),.ro (.int k),.ow (aG ((R.take (m+1)).map (cv n k))),v3,v4]) ?_ ?_
 .refine B1 ((R.take (m+1)).map aQ) (λi ρ=>∃v3 v4:Sv,ρ=[.ro (.tup ((R.take (m+1)).map aQ)),.ro (.int k),.ow (aG ((R.take i).map (cv n k))),v3,v4]) rfl ⟨.no,.no,rfl⟩ ?_ ?_
  .rintro i d _ hd ⟨v3,v4,rfl⟩;rw[cg] at hd;obtain⟨s,hs,rfl⟩:∃s,(R.take (m+1))[i]?=aa s/\aQ s=d:=by
    cases e:(R.take (m+1))[i]? with
    |none=>rw[e] at hd;cases hd
    |some y=>rw[e] at hd;exact⟨y,rfl,df hd⟩
   have hi:i<m+1:=by have:=(cn.mp hs).1;rw[ji] at this;omega
   have hs2:R[i]?=aa s:=by rw[nj hi] at hs;exact hs
   have ok:=g i s hs2;have hil:((R.take i).map (cv n k)).length=i:=by rw[az,ji];omega
   refine⟨[.ro (.tup ((R.take (m+1)).map aQ)),.ro (.int k),.ow (aG ((R.take i).map (cv n k))),.ro (aJ s.1),.ro (tupI s.2)],rfl,?_⟩;have val:M0 (tV (aB 4)) (aC bA (aC a9 (aB 2) (aC a9 (aB 4) (eC (.int 2)))) (aC a9 (aB 2) (aC a9 (aB 4) (eC (.int 3))))) (aH c7 (aA (aB 3) (aA (aB 1) aE))) (bW [.ro (.tup ((R.take (m+1)).map aQ)),.ro (.int k),.ow (aG ((R.take i).map (cv n k))),.ro (aJ s.1),.ro (tupI s.2)])=aa (.int (cv n k s)):=by
    rcases ok.why with⟨h1,h2⟩|⟨a,b,p,q,u,v,h0,h1,h2,h3,h4,h5,h6,h7,h8,h9,qh⟩
    .have ch:=S8 ok.rows (by rw[ok.len];exact hn) h1 hk;rw[ok.len] at ch;unfold M0;rw[show tV (aB 4) (bW [.ro (.tup ((R.take (m+1)).map aQ)),.ro (.int k),.ow (aG ((R.take i).map (cv n k))),.ro (aJ s.1),.ro (tupI s.2)])=aa ag from l8 (d:=tupI s.2) rfl (by rw[h2];rfl)];exact(cN (x:=aJ s.1) (y:=.int k) rfl rfl ch:aH c7 (aA (aB 3) (aA (aB 1) aE)) (bW [.ro (.tup ((R.take (m+1)).map aQ)),.ro (.int k),.ow (aG ((R.take i).map (cv n k))),.ro (aJ s.1),.ro (tupI s.2)])=aa (.int (cv n k s)))
    .unfold M0;rw[show tV (aB 4) (bW [.ro (.tup ((R.take (m+1)).map aQ)),.ro (.int k),.ow (aG ((R.take i).map (cv n k))),.ro (aJ s.1),.ro (tupI s.2)])=aa ae from l8 (d:=tupI s.2) rfl (by rw[h1];rfl)];have gt:∀{j:Nat} {t:PR},j<i->R[j]?=aa t->a9 (aG ((R.take i).map (cv n k))) (.int j)=aa (.int (cv n k t)):=λ{j t} hj ht=>by refine iX ?_;rw[cg,nj hj,ht];rfl
     have w2:a9 (tupI s.2) (.int 2)=aa (.int p):=by rw[h1];rfl
     have w3:a9 (tupI s.2) (.int 3)=aa (.int q):=by rw[h1];rfl
     refine aK (x:=.int (cv n k u)) (y:=.int (cv n k v)) (aK (x:=aG ((R.take i).map (cv n k))) (y:=.int p) rfl (aK (x:=tupI s.2) (y:=.int 2) rfl rfl w2) (gt h5 h7)) (aK (x:=aG ((R.take i).map (cv n k))) (y:=.int q) rfl (aK (x:=tupI s.2) (y:=.int 3) rfl rfl w3) (gt h6 h9)) ?_;show aa (D.int (cv n k u+cv n k v))=_;have pc:=NN (x:=s.1) (nY h4).2.1 (by rw[ok.len];exact h2) (by rw[ok.len];exact h3) k;rw[cK,cK,ok.len,<- h8,<- qh] at pc;unfold cv;rw[pc]
   refine⟨[.ro (.tup ((R.take (m+1)).map aQ)),.ro (.int k),.ow (aG ((R.take i).map (cv n k)++[cv n k s])),.ro (aJ s.1),.ro (tupI s.2)],?_,.ro (aJ s.1),.ro (tupI s.2),?_⟩
   .unfold sX kR dZ;rw[val];simp only[cz,D.tT,if_true]
    show(match ((eQ (((R.take i).map (cv n k)).map D.int) (.int (cv n k s))).map λq=>([Sv.ro (.tup ((R.take (m+1)).map aQ)),.ro (.int k),.ow (aG ((R.take i).map (cv n k))),.ro (aJ s.1),.ro (tupI s.2)].set 2 (.ow (.lst q.1)),q.2)) with
     |some p=>Out.nx p.1
     |none=>.no)=_
    rw[nU (by rw[az,hil];omega)];unfold aG;rw[cy];rfl
   .have e3:R.take (i+1)=R.take i++[s]:=by rw[a2c,hs2];rfl
    rw[e3,cy];rfl
  .rintro ρ ⟨v3,v4,rfl⟩;rw[az,ji,Nat.min_eq_left (by omega)];exact⟨v3,v4,rfl⟩
 .rintro _ ⟨v3,v4,rfl⟩;refine jJ (.int (cv n k r)) (aK (x:=aG ((R.take (m+1)).map (cv n k))) (y:=.int (-1)) rfl rfl ?_) rfl;have hl:((R.take (m+1)).map (cv n k)).length=m+1:=by rw[az,ji];omega
  show pW (((R.take (m+1)).map (cv n k)).map D.int) (-1)=_;unfold pW;rw[az,hl];have:G5 (m+1) (-1)=aa m:=by unfold G5;rw[Zz (by decide),Z_ (by omega)];congr 1;omega
  rw[this,cz,cg,cg,nj (by omega),hr];rfl
def S9(ns:Q0e)(hns:ns.length<=63):qB [.fX ns]=.ok (.bl ae):=by
 obtain⟨x,R,w,hn,hx,g,hl,e⟩:=NR ns;obtain⟨k,ek,hk⟩:=aCA ns 4 500009;have LU:Bg 208 k:=by
  unfold Bg;have:(10:Nat)^60<2^208:=by decide+kernel
  omega
 obtain⟨c,ec⟩:=lO ns 6;obtain⟨ds,hds,hd0,ed⟩:=kZ c 2 600011 (by decide) (by decide);have few:∀{y:Q0a},Ord.Rows y->y.length<=9 ->∀r∈y,r.length<=9:=λ{y} hy hl r hr=>by
  obtain⟨i,hi,rfl⟩:=ur hr;have:=K03.Xv hy (c:=(i:Int)) (by omega) (by omega);have e:row y (i:Int)=y[i]:=by unfold row;rw[gk,getElem?_eq_getElem hi];rfl
  rw[e] at this;omega
 have last:(R++[(x,w)])[R.length]?=aa (x,w):=by rw[ic (bc _),my];rfl
 have full:(R++[(x,w)]).take (R.length+1)=R++[(x,w)]:=ph (by simp);have all:∀{k:Int},Bg 208 k->dY [.tup ((R++[(x,w)]).map aQ),.int k]=.ok (.int (DV x.length 0 (shares x) k)):=λ{k} hk=>by have:=xB hn g hk (by rw[bq];simp;omega) (m:=R.length) (by simp) last;rw[full] at this;exact this
 have sm:∀v:Int,bZ 6 [.int v,.int v]=.ok (.bl ae):=λv=>same_refl 6 _ (by trivial);unfold qB;refine Di rfl ?_;refine bN [.ro (.fX ns),.ro (aJ x),.ro (.lst ((R++[(x,w)]).map aQ)),.no,.no,.no,.no] (B_ (kF rfl e)) ?_;refine bN [.ro (.fX ns),.ro (aJ x),.ro (.lst ((R++[(x,w)]).map aQ)),.ro (.int k),.no,.no,.no] (eD (.int k) (fL rfl rfl rfl ek) rfl) ?_;refine f7 (λρ=>∃v4:Sv,ρ=[.ro (.fX ns),.ro (aJ x),.ro (.lst ((R++[(x,w)]).map aQ)),.ro (.int k),v4,.no,.no]) ?_ ?_
 .refine iC 5 (λ_ ρ=>∃v4:Sv,ρ=[.ro (.fX ns),.ro (aJ x),.ro (.lst ((R++[(x,w)]).map aQ)),.ro (.int k),v4,.no,.no]) (args1 rfl) (by decide) ⟨.no,rfl⟩ ?_ λρ h=>h;rintro i _ hi ⟨v4,rfl⟩;refine⟨[.ro (.fX ns),.ro (aJ x),.ro (.lst ((R++[(x,w)]).map aQ)),.ro (.int k),.ro (.int i),.no,.no],rfl,?_⟩;have Xn:Bg 208 (i:Int):=by
   unfold Bg;have:(5:Nat)<2^208:=by decide+kernel
   omega
  exact⟨_,yO (tnE (b:=ae) (l8 (d:=.bl ae) (cN (cN (x:=.tup ((R++[(x,w)]).map aQ)) (y:=.int i) (c8 (x:=.lst ((R++[(x,w)]).map aQ)) rfl rfl) rfl (all Xn)) (cN rfl rfl (NL hx hn (k:=i) (by omega))) (sm _)) rfl) rfl) rfl,_,rfl⟩
 rintro _ ⟨v4,rfl⟩;refine bN _ (yO (tnE (b:=ae) (l8 (d:=.bl ae) (cN (cN (x:=.tup ((R++[(x,w)]).map aQ)) (y:=.int k) (c8 (x:=.lst ((R++[(x,w)]).map aQ)) rfl rfl) rfl (all LU)) (cN rfl rfl (qF hn (few hx hn) LU)) (sm _)) rfl) rfl) rfl) ?_;obtain⟨p,q,rfl⟩:∃p q,ds=[p,q]:=by
  match ds,hds with
  |[p,q],_=>exact⟨p,q,rfl⟩
 refine bN [.ro (.fX ns),.ro (aJ x),.ro (.lst ((R++[(x,w)]).map aQ)),.ro (.int k),v4,.ro (aG [p,q]),.no] (eD (aG [p,q]) (fL (x:=.int c) (y:=.int 2) (z:=.int 600011) (cN rfl rfl ec) rfl rfl ed) rfl) ?_;have L:((R++[(x,w)]).map aQ).length=R.length+1:=by simp
 have m0:=ip (p+64*q) (show((R.length+1:Nat):Int)≠0 by omega);have m1:=jd (p+64*q) (show(0:Int)<((R.length+1:Nat):Int) by omega);obtain⟨m,hm⟩:∃m:Nat,(p+64*q)%((R.length+1:Nat):Int)=(m:Int):=⟨((p+64*q)%((R.length+1:Nat):Int)).toNat,by omega⟩;have hml:m<(R++[(x,w)]).length:=by rw[bq];simp;omega
 obtain⟨r,hr⟩:∃r,(R++[(x,w)])[m]?=aa r:=⟨_,getElem?_eq_getElem hml⟩;have ok:=g m r hr;have cm:=xB hn g LU (by rw[bq];simp;omega) hml hr;have cu:oF ((R++[(x,w)]).map aQ) af (aa (1+(m:Int)))=((R++[(x,w)]).take (m+1)).map aQ:=by unfold oF yS;simp only[pz,ui];rw[Zz (by omega),L,Gp];congr 1;omega
 refine bN [.ro (.fX ns),.ro (aJ x),.ro (.lst ((R++[(x,w)]).map aQ)),.ro (.int k),v4,.ro (aG [p,q]),.ro (.tup (((R++[(x,w)]).take (m+1)).map aQ))] (eD (.tup (((R++[(x,w)]).take (m+1)).map aQ)) (c8 (x:=.lst (((R++[(x,w)]).take (m+1)).map aQ)) ?_ rfl) rfl) ?_
 .have eh:aC bA (eC (.int 1)) (aC cZ (aC bA (aC a9 (aB 5) (eC (.int 0))) (aC mulM (eC (.int 64)) (aC a9 (aB 5) (eC (.int 1))))) (bI aW (aA (aB 2) aE))) (gJ [.ro (.fX ns),.ro (aJ x),.ro (.lst ((R++[(x,w)]).map aQ)),.ro (.int k),v4,.ro (aG [p,q]),.no])=aa (.int (1+(m:Int))):=by
   refine aK (x:=.int 1) (y:=.int (m:Int)) rfl (aK (x:=.int (p+64*q)) (y:=.int ((R.length+1:Nat):Int)) (aK (x:=.int p) (y:=.int (64*q)) (aK (x:=aG [p,q]) (y:=.int 0) rfl rfl (iX (j:=0) rfl)) (aK (x:=.int 64) (y:=.int q) rfl (aK (x:=aG [p,q]) (y:=.int 1) rfl rfl (iX (j:=1) rfl)) rfl) rfl) (c8 (x:=.lst ((R++[(x,w)]).map aQ)) rfl ?_) ?_) rfl
   .show aa (D.int (((R++[(x,w)]).map aQ).length:Nat))=_;rw[L]
   .rw [bL (by omega),hm]
  unfold DW oE KH;rw[eh];show aa (D.lst (oF ((R++[(x,w)]).map aQ) af (aa (1+(m:Int)))))=_;rw[cu]
 have t6:a9 (.tup (((R++[(x,w)]).take (m+1)).map aQ)) (.int (-1))=aa (aQ r):=by
  have hl:((R++[(x,w)]).take (m+1)).length=m+1:=by rw[ji];omega
  show pW (((R++[(x,w)]).take (m+1)).map aQ) (-1)=_;unfold pW;rw[az,hl];have:G5 (m+1) (-1)=aa m:=by unfold G5;rw[Zz (by decide),Z_ (by omega)];congr 1;omega
  rw[this,cz,cg,nj (by omega),hr];rfl
 have ca:=qF (x:=r.1) (by rw[ok.len];exact hn) (few ok.rows (by rw[ok.len];exact hn)) LU;rw[ok.len] at ca;exact jJ (.bl ae) (cN (x:=.int (cv x.length k r)) (y:=.int (cv x.length k r)) (cN rfl rfl cm) (cN (x:=aJ r.1) (y:=.int k) (aK (x:=aQ r) (y:=.int 0) (aK (x:=.tup (((R++[(x,w)]).take (m+1)).map aQ)) (y:=.int (-1)) rfl rfl t6) rfl rfl) rfl ca) (sm _)) rfl
end K34
section
-- CHANGE: your row's module here,as the last of these rows
namespace L2
open PySem.Spec PyProof.Rows
abbrev Key:=Sum Int ak
noncomputable def AK:Key->ai->Bool
 |.inl k,v=>a0T k v
 |.inr x,v=>a0S x v
noncomputable def Qz(w:bb):Key->Int
 |.inl k=>hashInt k
 |.inr x=>hashStr w x
theorem cU:∀{k:Key} {v:ai},AK k v=ae->(∃i t,k=c_ i/\v=o_ i t)\/(∃x t,k=iq x/\v=ya x t)
 |.inl i,v,h=>by obtain⟨t,e⟩:=Value.isInt_shape (k:=i) (v:=v) h;exact .inl ⟨i,t,rfl,e⟩
 |.inr x,v,h=>by obtain⟨t,e⟩:=Value.isStrOf_shape (x:=x) (v:=v) h;exact .inr ⟨x,t,rfl,e⟩
def NS(i:Int)(t:Tok):AK (.inl i) (.int i t)=ae:=by simp[AK,a0T]
def NT(x:ak)(t:Tok):AK (.inr x) (.str x t)=ae:=by simp[AK,a0S]
def aCB(a b:Int):Zv ((c_ a:Key)=c_ b)=(a == b):=by
 by_cases e:a=b
 .subst e;simp
 .have h:¬ (c_ a:Key)=c_ b:=λq=>e (xj q);rw[Zy h];exact(beq_eq_false_iff_ne.mpr e).symm
def aCC(a b:ak):Zv ((iq a:Key)=iq b)=Zv (a=b):=by
 by_cases e:a=b
 .subst e;simp
 .have h:¬ (iq a:Key)=iq b:=λq=>e (tm q);rw[Zy h,Zy e]
noncomputable def aCD(a:Int)(b:ak):Zv ((c_ a:Key)=iq b)=ag:=Zy (λq=>nomatch q)
noncomputable def aCE(a:ak)(b:Int):Zv ((iq a:Key)=c_ b)=ag:=Zy (λq=>nomatch q)
def bC(prog:bh)(w:bb):PySem.KeyKind prog w Key where
 is:=AK
 hash:=Qz w
 inj:=λv a b ha hb=>by
  rcases cU ha with⟨i,t,rfl,rfl⟩|⟨x,t,rfl,rfl⟩
  .rcases cU hb with⟨j,u,rfl,e⟩|⟨y,u,rfl,e⟩
   .injection e with e1 _;rw[e1]
   .exact nomatch e
  .rcases cU hb with⟨j,u,rfl,e⟩|⟨y,u,rfl,e⟩
   .exact nomatch e
   .injection e with e1 _;rw[e1]
 byValue:=λk v h=>by rcases cU h with⟨i,t,rfl,rfl⟩|⟨x,t,rfl,rfl⟩<;>rfl
 pyHash:=λhv h=>by
  rcases cU hv with⟨i,t,rfl,rfl⟩|⟨x,t,rfl,rfl⟩
  .exact wpAny_pyHash_int h
  .exact wpAny_pyHash_str h
 eqBool:=λhu hv h=>by
  rcases cU hu with⟨i,t,rfl,rfl⟩|⟨x,t,rfl,rfl⟩
  .rcases cU hv with⟨j,u,rfl,rfl⟩|⟨y,u,rfl,rfl⟩
   .rw [aCB] at h;exact wpAny_eqBool_int h
   .rw [aCD] at h;exact a0W i t y u _ _ _ _ h
  .rcases cU hv with⟨j,u,rfl,rfl⟩|⟨y,u,rfl,rfl⟩
   .rw [aCE] at h;exact a0V x t j u _ _ _ _ h
   .rw [aCC] at h;exact wpAny_eqBool_str h
 «strs»:=λk x t v h=>by
  rcases cU h with⟨i,u,rfl,e⟩|⟨y,u,rfl,e⟩
  .exact nomatch e
  .injection e with e1 _;subst e1;cases v<;>rfl
def FE(prog:bh)(w:bb)(i:Int)(t:Tok):(bC prog w).is (.inl i) (.int i t)=ae:=NS i t
def FF(prog:bh)(w:bb)(x:ak)(t:Tok):(bC prog w).is (.inr x) (.str x t)=ae:=NT x t
abbrev N1:=List (Sum Key (List Key))
abbrev KX:=Sum Key N1
section
variable{prog:bh}{w:bb}{K:Type}[dK:DecidableEq K](knd:KeyKind prog w K)
noncomputable def pK(h:bf):Sum K (List K)->ai->Prop
 |.inl k,v=>knd.is k v=ae
 |.inr ks,v=>∃b,v=.ref b/\IsTupleKey knd h ks b
inductive gU (h:bf):List (Sum K (List K))->List ai->Prop
 |nil:gU h [] []
 |cons {k:Sum K (List K)} {v:ai} {ks:List (Sum K (List K))} {vs:Q0f}:pK knd h k v->gU h ks vs->gU h (k::ks) (v::vs)
def iG(h:bf)(ks:List (Sum K (List K)))(a:ah):Prop:=∃o items n,h.get? a=aa o/\o.cls=.type "tuple" /\o.data=.seq items n/\gU knd h ks items.toList
variable{knd}
theorem pK.inj{h:bf}{v:ai}:∀{x y:Sum K (List K)},pK knd h x v->pK knd h y v->x=y
 |.inl a,.inl b,hx,hy=>by rw[knd.inj _ _ _ hx hy]
 |.inl a,.inr b,hx,⟨q,e,_⟩=>by subst e;exact Zw (knd.byValue _ _ hx) (by simp[carriedByValue])
 |.inr a,.inl b,⟨q,e,_⟩,hy=>by subst e;exact Zw (knd.byValue _ _ hy) (by simp[carriedByValue])
 |.inr a,.inr b,⟨q,e,hx⟩,⟨r,f,hy⟩=>by subst e;injection f with f;subst f;rw[hx.inj hy]
theorem gU.inj{h:bf}{x:List (Sum K (List K))}{vs:Q0f}(hx:gU knd h x vs):∀{y},gU knd h y vs->x=y:=by
 induction hx with
 |nil=>intro y hy;cases hy;rfl
 |cons h1 _ ih =>
  intro y hy
  cases hy with
  |cons h2 t2=>rw[h1.inj h2,ih t2]
def iG.typeIs{s:ao}{ks:List (Sum K (List K))}{a:ah}(x:iG knd s.heap ks a):s.TypeIs (.ref a) "tuple":=let ⟨o,_,_,ho,hc,_⟩:=x;⟨o,ho,hc⟩
def iG.inj{h:bf}{a:ah}{x y:List (Sum K (List K))}(hx:iG knd h x a)(hy:iG knd h y a):x=y:=by obtain⟨o,its,n,ho,_,hd,hi⟩:=hx;obtain⟨o',its',n',ho',_,hd',hi'⟩:=hy;rw[ho] at ho';cases ho';rw[hd] at hd';cases hd';exact hi.inj hi'
theorem iG.keeps{es ep}(x:iG knd h ks a)(ho:h.get? d=aa o)(hd:o.data=.dict es ep)(hs:pb d h h'):iG knd h' ks a:=by
 obtain⟨q,items,n,hq,hc,hi,his⟩:=x;have ne:a≠d:=λz=>by subst z;rw[hq] at ho;cases ho;rw[hi] at hd;cases hd
 refine⟨q,items,n,(hs.2 a ne).trans hq,hc,hi,?_⟩;have go:∀{ks:List (Sum K (List K))} {vs:Q0f},gU knd h ks vs->gU knd h' ks vs:=by
  intro ks vs t
  induction t with
  |nil=>exact .nil
  | @cons k v ks vs h1 _ ih =>
   refine .cons ?_ ih
   cases k with
   |inl k=>exact h1
   |inr k=>obtain⟨b,e,hb⟩:=h1;exact⟨b,e,hb.keeps ho hd hs⟩
 exact go his
noncomputable def qN(knd:KeyKind prog w K):Sum K (List K)->Int
 |.inl k=>knd.hash k
 |.inr ks=>tupleKeyHash knd ks
noncomputable def lA:Sum K (List K)->Nat
 |.inl _=>1
 |.inr ks=>ks.length+1
def xC(knd:KeyKind prog w K)(ks:List (Sum K (List K))):Int:=reduceHash (a1s (ks.map (qN knd)))
def nZ(ks:List (Sum K (List K))):Nat:=(ks.map lA).sum+1
variable{s:ao}{A:bp}{E:Q0c}
theorem NU(hu:A.units<cx)(hk:pK knd s.heap k v)(h:Q (qN knd k) {s with toks:=s.toks+lA k}):ax (ay prog w) A (pyHash v) Q E s:=by
 cases k with
 |inl k=>exact knd.pyHash hk h
 |inr k =>
  obtain⟨b,e,hb⟩:=hk;subst e;exact wpAny_pyHash_tuple hu hb h
def xD(x:IsTupleKey knd h ks b):∃items,h.IsTuple b items:=by obtain⟨o,items,n,ho,hc,hd,_⟩:=x;exact⟨items,o,ho,hc,n,hd⟩
end
section
variable{P:bh}{w:bb}{A:bp}{E:Q0c}{s:ao}
theorem YK(hu:A.units<cx)(hx:pK (bC P w) s.heap x u)(hy:pK (bC P w) s.heap y v)(h:Q (Zv (x=y)) s):ax (ay P w) A (eqBool u v) Q E s:=by
 cases x with
 |inl x =>
  cases y with
  |inl y =>
   refine(bC P w).eqBool hx hy ?_;rw[show Zv (x=y)=Zv ((c_ x:Sum Key (List Key))=c_ y) by simp];exact h
  |inr y =>
   obtain⟨b,e,hb⟩:=hy;subst e;obtain⟨its,hb⟩:=xD hb;rw[show Zv ((c_ x:Sum Key (List Key))=iq y)=ag by simp] at h;rcases cU hx with⟨i,t,rfl,rfl⟩|⟨i,t,rfl,rfl⟩
   .exact a25 i t hb hu P w E Q h
   .exact a2Y i t hb hu P w E Q h
 |inr x =>
  obtain⟨a,e,ha⟩:=hx;subst e
  cases y with
  |inl y =>
   obtain⟨its,ha⟩:=xD ha;rw[show Zv ((iq x:Sum Key (List Key))=c_ y)=ag by simp] at h;rcases cU hy with⟨i,t,rfl,rfl⟩|⟨i,t,rfl,rfl⟩
   .exact a2X i t ha hu P w E Q h
   .exact a2W i t ha hu P w E Q h
  |inr y =>
   obtain⟨b,e,hb⟩:=hy;subst e;refine wpAny_eqBool_tuple hu ha hb ?_;rw[show Zv (x=y)=Zv ((iq x:Sum Key (List Key))=iq y) by simp];exact h
theorem AL:∀(rest:Q0f) (left:List (Sum Key (List Key))) (b:Array Int) (s:ao) (R:Array Int->ao->Prop),A.units<cx->gU (bC P w) s.heap left rest ->
  (∀b':Array Int,b'.toList=b.toList++left.map (qN (bC P w))->R b' {s with toks:=s.toks+(left.map lA).sum}) ->
  ax (ay P w) A (forIn rest b λx r=>do
   let r' <- pyHash x
   pure (md (r.push r'))) R E s
 |[],left,b,s,R,hu,t,k=>by cases t;exact a_ (k b (by simp))
 |v::rest,left,b,s,R,hu,t,k=>by
  cases t with
  | @cons kk _ ks _ h1 h2 =>
   rw[nq];refine au (au (NU hu h1 (a_ ?_)));refine AL rest ks _ _ _ hu h2 λb' e=>?_;have:=k b' (by rw[e];simp);simpa[a19] using this
def NV{ks:List (Sum Key (List Key))}{a:ah}{Q:Int->ao->Prop}(hu:A.units+1<cx)(hk:iG (bC P w) s.heap ks a)(h:Q (xC (bC P w) ks) {s with toks:=s.toks+nZ ks}):ax (ay P w) A (pyHash (.ref a)) Q E s:=by
 have hT:=hk.typeIs;obtain⟨o,its,n,ho,_,hd,hi⟩:=hk;have sl:=F.slot_tuple_hash;unfold pyHash pyHashByItsType
 wp_walk using wpAny_cRoomFor_or (.inr (by omega)),Ee hT sl.lookup,(wpAny_callSpecialIfBoundUnlessNone?_slot hT sl (kn sl hT F.entry_tuple_hash ?_ (F.args_tuple_hash_1 _)))
 rw[hd];refine a_ (a_ (au ?_));rw[<- a2U];refine AL its.toList ks #[] s _ hu hi λb eb=>?_;dsimp only;rw[eb,k_];unfold xC reduceHash at h;refine wpAny_ret_mkInt ?_;have e2:s.toks+(ks.map lA).sum+1=s.toks+nZ ks:=by unfold nZ;omega
 show ax (ay P w) A (pyHashByItsType.reduced _) Q E {s with toks:=s.toks+(ks.map lA).sum+1};rw[e2];unfold pyHashByItsType.reduced;generalize a1s (ks.map (qN (bC P w)))=z at h ⊢;by_cases hz:(Zv (-(2^63:Int)<=z)&&Zv (z<2^63))=ae
 .rw [Z_ hz] at h ⊢;exact a_ h
 .rw [Zz hz] at h ⊢;refine au (om ?_);exact a_ h
theorem eq_loop:∀(x y:List (Sum Key (List Key))) (xs ys:Q0f) (R:Option Fin×Unit->ao->Prop),A.units<cx->gU (bC P w) s.heap x xs->gU (bC P w) s.heap y ys ->
  (x≠y->R (aa (.done (.ret (.bool ag))),()) s)->((x=y↔xs.length=ys.length)->R (af,()) s) ->
  ax (ay P w) A (forIn (xs.zip ys) ((af,()):Option Fin×Unit) λp _=>do
   let c <- eqBool p.1 p.2
   if(!c)=ae then do
    let q <- ret (yb ag)
    pure (a2M (aa q,()))
   else pure (md (af,()))) R E s
 |[],y,xs,ys,R,hu,hx,hy,k1,k2=>by cases hx;refine a_ (k2 ?_);cases hy<;>simp
 |kx::x,[],xs,ys,R,hu,hx,hy,k1,k2=>by cases hx;cases hy;exact a_ (k2 (by simp))
 |kx::x,ky::y,xs,ys,R,hu,hx,hy,k1,k2=>by
  cases hx with
  | @cons _ u _ xs hx1 hx2 =>
   cases hy with
   | @cons _ v _ ys hy1 hy2 =>
    rw[uo,nq];refine au (au (YK hu hx1 hy1 ?_));by_cases hk:kx=ky
    .subst hk;rw[Zx rfl,Zz (by decide)];refine a_ (eq_loop x y xs ys R hu hx2 hy2 (λn=>k1 (by simpa using n)) λe=>k2 ?_);simpa using e
    .rw [Zy hk,Z_ (by decide)];exact au (a_ (a_ (a_ (k1 (by simp[hk])))))
noncomputable def YL{x y:List (Sum Key (List Key))}{a b:ah}{Q:Bool->ao->Prop}(hu:A.units+1<cx)(hx:iG (bC P w) s.heap x a)(hy:iG (bC P w) s.heap y b)(h:Q (Zv (x=y)) s):ax (ay P w) A (eqBool (.ref a) (.ref b)) Q E s:=by
 have tx:=hx.typeIs;have ty:=hy.typeIs;have sl:=a05;by_cases hab:a=b
 .subst hab;rw[hx.inj hy,Zx rfl] at h;exact yc _ P w E Q h
 .obtain ⟨oa,xs,na,hoa,_,hda,hia⟩:=hx;obtain⟨oc,ys,nb,hob,_,hdb,hib⟩:=hy;unfold eqBool;rw[Zz (by simpa using hab)];have hu0:A.units<cx:=by omega
  apply jo;apply au;refine(wpAny_richCompare_same_room (op:=.Eq) tx ty sl (kn sl tx F.entry_tuple_eq ?_ (F.args_tuple_eq_2 _ _)) hu0);unfold Builtin.«tuple.__eq__»
  wp_walk using Ej ty a0z,a0a hoa hda,a0a hob hdb
  refine eq_loop x y xs.toList ys.toList _ hu hia hib (λn=>?_) λe=>?_
  .rw [Zy n] at h;exact a_ ⟨_,rfl,(λz=>nomatch z),mj h⟩
  .refine a_ ⟨_,rfl,(λz=>nomatch z),?_⟩;have e2:(xs.size == ys.size)=Zv (x=y):=by
    by_cases q:x=y
    .rw [Zx q];simpa using e.1 q
    .rw [Zy q];simpa using λz=>q (e.2 z)
   show ax (ay P w) A (truthOfDropped (.bool (xs.size == ys.size))) Q E s;rw[e2];exact mj h
theorem xE:∀(vs:Q0f) (R:Option Bool×Unit->ao->Prop),(∀v∈vs,∀Q:Bool->ao->Prop,Q ae s->ax (ay P w) A (eqIsQuiet d v) Q E s)->R (af,()) s ->
  ax (ay P w) A (forIn vs ((af,()):Option Bool×Unit) λy _=>do
   let c <- eqIsQuiet d y
   if(!c)=ae then pure (a2M (aa ag,()))
   else pure (md (af,()))) R E s
 |[],R,hq,k=>a_ k
 |v::vs,R,hq,k=>by rw[nq];refine au (au (hq v b_ _ ?_));rw[Zz (by decide)];exact a_ (xE vs R (λu hu=>hq u (dg _ hu)) k)
theorem AM(tx:s.TypeIs (fu a) "tuple")(ho:s.heap.get? a=aa o)(hd:o.data=.seq xs n)(hq:∀v∈xs.toList,∀Q:Bool->ao->Prop,Q ae s->ax (ay P w) A (eqIsQuiet d v) Q E s)(h:Q ae s):
  ax (ay P w) A (eqIsQuiet (d+1) (.ref a)) Q E s:=by
 have sl:=a05;unfold eqIsQuiet;refine au (Ee tx sl.lookup ?_);show ax (ay P w) A (isInstance (.ref a) (.type "tuple") >>= _) _ _ s;refine au (Ej tx a0z ?_);rw[Zz (by decide)];dsimp only;refine au (Ef ho hd (au ?_));show ax _ _ (forIn xs _ _) _ _ s;rw[<- a2U];exact xE xs.toList _ hq (a_ h)
def ID{x:List (Sum Key (List Key))}{a:ah}{Q:Bool->ao->Prop}(hx:iG (bC P w) s.heap x a)(h:Q ae s):ax (ay P w) A (eqIsQuiet 8 (.ref a)) Q E s:=by
 have tx:=hx.typeIs;obtain⟨o,xs,n,ho,_,hd,hi⟩:=hx;refine AM (d:=7) tx ho hd ?_ h;have go:∀{ks:List (Sum Key (List Key))} {vs:Q0f},gU (bC P w) s.heap ks vs ->∀v∈vs,∀Q:Bool->ao->Prop,Q ae s->ax (ay P w) A (eqIsQuiet 7 v) Q E s:=by
  intro ks vs t
  induction t with
  |nil=>intro v hv;cases hv
  | @cons k v ks vs h1 _ ih =>
   intro u hu Q k0;rcases bu.1 hu with e|hu
   .subst e
    cases k with
    |inl k =>
     rw[a0E _ ((bC P w).byValue _ _ h1)];exact a_ k0
    |inr k =>
     obtain⟨b,e,hb⟩:=h1;subst e;have tb:=hb.typeIs;obtain⟨o',xs',n',ho',_,hd',hi'⟩:=hb;refine AM (d:=6) tb ho' hd' (λv' hv' Q' k'=>?_) k0;rw[a0E _ (hi'.byValue v' hv')];exact a_ k'
   .exact ih u hu Q k0
 exact go hi
def gW(P:bh)(w:bb):HeapKind P w (List (Sum Key (List Key))) where
 is:=iG (bC P w)
 hash:=xC (bC P w)
 draws:=nZ
 room:=λA=>A.units+1<cx
 inj:=λhx hy=>hx.inj hy
 keeps:=λx ho he hs=>x.keeps ho he hs
 pyHash:=λhu hk h=>NV hu hk h
 eqBool:=λhu hx hy h=>YL hu hx hy h
 quiet:=λhk h=>ID hk h
def nest_room(hu:A.units+2<cx):(gW P w).room A.in1:=hu
end
inductive V where
 |non|bl (b:Bool)|int (i:Int)|str (x:ak)|NW (b:Array UInt8)|flt (b:UInt64)|ref (a:ah)|ty (n:String)
 deriving DecidableEq
noncomputable def RelV:V->ai->Prop
 |.non,u=>u=js
 |.bl b,u=>u=yb b
 |.int i,u=>∃t,u=o_ i t
 |.str x,u=>∃t,u=ya x t
 |.NW b,u=>∃t,u=Value.bytes b t
 |.flt b,u=>∃t,u=a0U b t
 |.ref a,u=>u=fu a
 |.ty n,u=>u=x_ n
abbrev Vals:List V->List ai->Prop:=iu RelV
def Vals.length{xs:List V}{us:Q0f}(r:Vals xs us):xs.length=us.length:=qq r
theorem Vals.get:∀{xs:List V} {us:Q0f} {i:Nat} {x:V},Vals xs us->xs[i]?=aa x ->∃u,us[i]?=aa u/\RelV x u
 |_,_,_,_,.nil,e=>by simp at e
 |_,_,0,_,.cons r _,e=>by simp at e;subst e;exact⟨_,rfl,r⟩
 |_,_,i+1,x,.cons _ t,e=>by obtain⟨u,h1,h2⟩:=Vals.get (i:=i) (x:=x) t (by simpa using e);exact⟨u,by simpa using h1,h2⟩
theorem Vals.set{x:V}{u:ai}(r:RelV x u):∀{xs:List V} {us:Q0f} (i:Nat),Vals xs us->Vals (xs.set i x) (us.set i u)
 |_,_,_,.nil=>.nil
 |_,_,0,.cons _ t=>.cons r t
 |_,_,i+1,.cons q t=>.cons q (Vals.set r i t)
theorem Vals.append:∀{xs ys:List V} {us ws:Q0f},Vals xs us->Vals ys ws->Vals (xs++ys) (us++ws)
 |_,_,_,_,.nil,s=>s
 |_,_,_,_,.cons r t,s=>.cons r (Vals.append t s)
theorem Vals.take:∀{xs:List V} {us:Q0f} (n:Nat),Vals xs us->Vals (xs.take n) (us.take n)
 |_,_,0,_=>.nil
 |_,_,_+1,.nil=>.nil
 |_,_,n+1,.cons r t=>.cons r (Vals.take n t)
theorem Vals.drop:∀{xs:List V} {us:Q0f} (n:Nat),Vals xs us->Vals (xs.drop n) (us.drop n)
 |_,_,0,r=>r
 |_,_,_+1,.nil=>.nil
 |_,_,n+1,.cons _ t=>Vals.drop n t
def mX:Option V->Option ai->Prop
 |some v,aa u=>RelV v u
 |none,af=>True
 |_,_=>False
def KV{κ:Type}:List (κ×V)->List (κ×ai)->Prop:=iu λ(p:κ×V) (q:κ×ai)=>p.1=q.1/\RelV p.2 q.2
noncomputable def kV:Key->V
 |.inl i=>.int i
 |.inr x=>.str x
inductive HO where
 |lst (xs:List V)
 |tup (xs:List V)
 |dK (kvs:List (Key×V))|dT (kvs:List (List Key×V))
 |dX (o:aw) (kvs:List (KX×V×V))
 |set (S:Int->Bool) (n:Nat)
 |ins (C dx:ah) (fs:List (ak×V))
 |own (x:ah)
 |xd (fs:List (ak×V))
 |met (f x:ah)
 |rng (lo hi:Int)
 |yP (o:aw) (u:HO)
 |QL (q:ak)
 |ext (φ:bf->Prop)
abbrev Hp:=ah->Option HO
def upd(H:Hp)(a:ah)(o:HO):Hp:=λb=>if b=a then aa o else H b
def aU{H:Hp}{a:ah}{o:HO}:upd H a o a=aa o:=by unfold upd;rw[Z_ rfl]
def bE{H:Hp}{a b:ah}{o:HO}(h:b≠a):upd H a o b=H b:=by unfold upd;rw[Zz h]
def Dh{H:Hp}{a b:ah}{o u:HO}(h:H a=aa o)(h':H b=aa u)(d:o≠u):a≠b:=by intro e;subst e;rw[h] at h';exact d (df h')
theorem bH{H:Hp}{a b:ah}{o:HO}(h:H a=aa o)(h':H b=af):a≠b:=by intro e;subst e;rw[h] at h';cases h'
def xF(H:Hp):Sum Key (List Key)->V->Prop
 |.inl k,v=>v=kV k
 |.inr ks,v=>∃b,v=.ref b/\H b=aa (.tup (ks.map kV))
def mY(H:Hp)(ks:N1)(a:ah):Prop:=∃vs,H a=aa (.tup vs)/\iu (xF H) ks vs
def y7(P:bh)(w:bb)(H:Hp)(o:aw)(kvs:List (KX×V×V)):Prop:=o.ExactDict /\∃es ep,o.data=.dict es ep /\
 ((∃vs:List (Key×ai),iu (λ(p:KX×V×V) (q:Key×ai)=>p.1=.inl q.1/\p.2.1=kV q.1/\RelV p.2.2 q.2) kvs vs/\KeysOf (bC P w) es/\Pairs (bC P w) es.toList vs/\(vs.map (·.1)).Nodup) \/
  ∃xs:List (N1×ah×ai),iu (λ(p:KX×V×V) (q:N1×ah×ai)=>p.1=.inr q.1/\p.2.1=.ref q.2.1/\mY H q.1 q.2.1/\RelV p.2.2 q.2.2) kvs xs/\es.toList=xs.map (entryOfKey (gW P w))/\(xs.map (·.1)).Nodup)
theorem Paired.wq{α β:Type}{F G:α->β->Prop}:∀{l₁:List α} {l₂:List β},iu F l₁ l₂->(∀a b,F a b->G a b)->iu G l₁ l₂
 |_,_,.nil,_=>.nil
 |_,_,.cons r t,f=>.cons (f _ _ r) (Paired.wq t f)
theorem mY.stay{H H':Hp}{ks:N1}{a:ah}(h:mY H ks a)(ht:∀b xs,H b=aa (.tup xs)->H' b=aa (.tup xs)):mY H' ks a:=by
 obtain⟨vs,e,r⟩:=h;refine⟨vs,ht _ _ e,Paired.wq r λk v q=>?_⟩
 cases k with
 |inl k=>exact q
 |inr k=>obtain⟨b,e,q⟩:=q;exact⟨b,e,ht _ _ q⟩
def y7.stay{P:bh}{w:bb}{H H':Hp}{o:aw}{kvs:List (KX×V×V)}(h:y7 P w H o kvs)(ht:∀b xs,H b=aa (.tup xs)->H' b=aa (.tup xs)):y7 P w H' o kvs:=by
 obtain⟨x,es,ep,e,h⟩:=h;refine⟨x,es,ep,e,?_⟩;rcases h with h|⟨xs,r,h1,h2⟩
 .exact .inl h
 .exact .inr ⟨xs,Paired.wq r λp q z=>⟨z.1,z.2.1,z.2.2.1.stay ht,z.2.2.2⟩,h1,h2⟩
def FG(h:bf)(a:ah):Prop:=∀o,h.get? a=aa o->o.dict=af
def FG.at{h h':bf}{a:ah}{o:aw}(n:FG h a)(e:h.get? a=aa o)(e':h'.get? a=aa o):FG h' a:=λu q=>by rw[e'] at q;cases q;exact n _ e
def FG.new(h:bf)(its:Array ai){n:Nat}:FG (h.push {cls:=.type "tuple",data:=.seq its n}) h.objs.size:=λu q=>by rw[gg h rfl] at q;cases q;rfl
def FG.is(e:h.get? a=aa o)(d:o.dict=af):FG h a:=λu q=>by rw[e] at q;cases q;exact d
abbrev CW(oc:aw):HO:=.yP oc (.ext λ_=>True)
def LV(H:Hp)(q:ak)(ps:Array ai):Prop:=TriplesOk ps.toList /\
 ∀pos cv,codeAmong pos ps.toList=aa cv ->∃c oc vs t,cv=.ref c/\H c=aa (CW oc)/\oc.data=.fields vs/\vs[1]?=aa (.str q t)
theorem LV.stay{H H':Hp}{q:ak}{ps:Array ai}(h:LV H q ps)(hf:∀b o u,H b=aa (.yP o u)->H' b=aa (.yP o u)):LV H' q ps :=
 ⟨h.1,λpos cv e=>let ⟨c,oc,vs,t,e1,e2,e3⟩:=h.2 pos cv e;⟨c,oc,vs,t,e1,hf _ _ _ e2,e3⟩⟩
section
variable(P:bh)(w:bb)
def dP(H:Hp)(h:bf)(a:ah):HO->Prop
 |.lst xs=>xs.length<=bg /\∃(its:Q0f) (n:Nat),Vals xs its/\h.get? a=aa {cls:=.type "list",data:=.seq its.toArray n}
 |.tup xs=>xs.length<=bg /\∃its:Q0f,Vals xs its/\jz h a its.toArray/\FG h a
 |.dK kvs=>kvs.length<=bg/\(a == sysModules)=ag /\∃vs,KV kvs vs/\h.DictOf (bC P w) a vs
 |.dT kvs=>kvs.length<=bg/\(a == sysModules)=ag /\∃xs:List (List Key×ah×ai),
   iu (λ(p:List Key×V) (q:List Key×ah×ai)=>p.1=q.1/\H q.2.1=aa (.tup (p.1.map kV))/\RelV p.2 q.2.2) kvs xs /\
   ∃o es ep,h.get? a=aa o/\o.ExactDict/\o.data=.dict es ep/\es.toList=xs.map (entryOfKey (tupleKind (bC P w)))/\(xs.map (·.1)).Nodup
 |.dX o kvs=>kvs.length<=bg/\(a == sysModules)=ag/\h.get? a=aa o/\y7 P w H o kvs
 |.set S n=>h.SetOf (intKind P w) a S n
 |.ins C dx fs=>H dx=aa (.own a)/\fs.length<=1000/\dx≠a/\h.get? a=aa (instObj C dx) /\
   ∃mA,h.Ns1 dx mA/\(∀f,mX (fs.lookup f) (mA f))/\a0I mA (fs.map (·.1))
 |.own _=>∃o,h.get? a=aa o
 |.xd fs=>∃mA,h.Ns1 a mA /\∀f,mX (fs.lookup f) (mA f)
 |.rng lo hi=>∃t u v,h.get? a=aa {cls:=.type "range",data:=.fields #[.int lo t,.int hi u,.int 1 v]}
 |.yP o u=>h.get? a=aa o/\dP H h a u
 |.QL q=>∃ps:Array ai,h.get? a=aa {cls:=.none,data:=.fields ps}/\LV H q ps
 |.met f x=>h.get? a=aa (methodObj (.ref f) (.ref x))
 |.ext φ=>φ h/\(∃o,h.get? a=aa o) /\∀h1 h2:bf,φ h1->(∀o,h1.get? a=aa o->h2.get? a=aa o)->φ h2
def oI(H:Hp)(h:bf):Prop:=∀a o,H a=aa o->dP P w H h a o
end
section
variable{P:bh}{w:bb}{H H':Hp}{h h':bf}{a:ah}{o:HO}
theorem dP.lt(x:dP P w H h a o):a<h.objs.size:=by
 cases o with
 |lst xs=>obtain⟨_,_,_,_,e⟩:=x;exact cb e
 |tup xs=>obtain⟨_,_,_,p,_⟩:=x;exact p.lt
 |dK kvs=>obtain⟨_,_,_,_,o,_,_,e,_⟩:=x;exact cb e
 |dT kvs=>obtain⟨_,_,_,_,o,_,_,e,_⟩:=x;exact cb e
 |dX ob kvs=>obtain⟨_,_,e,_⟩:=x;exact cb e
 |set S n=>obtain⟨o,_,_,_,e,_⟩:=x;exact cb e
 |ins C dx fs=>obtain⟨_,_,_,e,_⟩:=x;exact cb e
 |own y=>obtain⟨_,e⟩:=x;exact cb e
 |xd fs=>obtain⟨_,⟨_,_,_,e,_⟩,_⟩:=x;exact cb e
 |rng lo hi=>obtain⟨_,_,_,e⟩:=x;exact cb e
 |yP ob u=>obtain⟨e,_⟩:=x;exact cb e
 |QL q=>obtain⟨ps,e,_⟩:=x;exact cb e
 |met f y=>exact cb (show h.get? a=aa _ from x)
 |ext φ=>obtain⟨_,⟨_,e⟩,_⟩:=x;exact cb e
theorem Paired.wo{α β:Type}{F G:α->β->Prop}:∀{l₁:List α} {l₂:List β},iu F l₁ l₂->(∀a b,F a b->G a b)->iu G l₁ l₂
 |_,_,.nil,_=>.nil
 |_,_,.cons r t,f=>.cons (f _ _ r) (Paired.wo t f)
theorem dP.stay(x:dP P w H h a o)(k:∀b u,(b=a\/H b=aa (.own a))->h.get? b=aa u->h'.get? b=aa u)
  (ho:∀b,H b=aa (.own a)->H' b=aa (.own a)) (ht:∀b xs,H b=aa (.tup xs)->H' b=aa (.tup xs)) (hf:∀b o u,H b=aa (.yP o u)->H' b=aa (.yP o u):=by exact λ_ _ _ q=>q):dP P w H' h' a o:=by
 induction o with
 |lst xs=>obtain⟨z,its,n,r,e⟩:=x;exact⟨z,its,n,r,k _ _ (.inl rfl) e⟩
 |tup xs=>obtain⟨z,its,r,⟨ob,e,c⟩,nd⟩:=x;exact⟨z,its,r,⟨ob,k _ _ (.inl rfl) e,c⟩,nd.at e (k _ _ (.inl rfl) e)⟩
 |dK kvs=>obtain⟨z,y,vs,r,ob,es,ep,e,c⟩:=x;exact⟨z,y,vs,r,ob,es,ep,k _ _ (.inl rfl) e,c⟩
 |dT kvs =>
  obtain⟨z,y,xs,r,ob,es,ep,e,c⟩:=x;exact⟨z,y,xs,Paired.wo r λp q z=>⟨z.1,ht _ _ z.2.1,z.2.2⟩,ob,es,ep,k _ _ (.inl rfl) e,c⟩
 |dX ob kvs=>obtain⟨z,y,e,c⟩:=x;exact⟨z,y,k _ _ (.inl rfl) e,c.stay ht⟩
 |set S n=>obtain⟨ob,es,ep,t,e,c⟩:=x;exact⟨ob,es,ep,t,k _ _ (.inl rfl) e,c⟩
 |ins C dx fs =>
  obtain⟨d,z,ne,e,mA,⟨od,es,ep,e2,c⟩,r⟩:=x;exact⟨ho _ d,z,ne,k _ _ (.inl rfl) e,mA,⟨od,es,ep,k _ _ (.inr d) e2,c⟩,r⟩
 |own y=>obtain⟨ob,e⟩:=x;exact⟨ob,k _ _ (.inl rfl) e⟩
 |xd fs=>obtain⟨mA,⟨od,es,ep,e,c⟩,r⟩:=x;exact⟨mA,⟨od,es,ep,k _ _ (.inl rfl) e,c⟩,r⟩
 |rng lo hi=>obtain⟨t,u,v,e⟩:=x;exact⟨t,u,v,k _ _ (.inl rfl) e⟩
 |yP ob u ih=>obtain⟨e,q⟩:=x;exact⟨k _ _ (.inl rfl) e,ih q⟩
 |QL q=>obtain⟨ps,e,r⟩:=x;exact⟨ps,k a _ (.inl rfl) e,r.stay hf⟩
 |met f y =>
  have e:h.get? a=aa (methodObj (.ref f) (.ref y)):=x;show h'.get? a=aa (methodObj (.ref f) (.ref y));exact k a _ (.inl rfl) e
 |ext φ=>obtain⟨p,⟨o,e⟩,st⟩:=x;exact⟨st _ _ p λo q=>k _ _ (.inl rfl) q,⟨o,k _ _ (.inl rfl) e⟩,st⟩
def oI.lt(x:oI P w H h)(e:H a=aa o):a<h.objs.size:=(x a o e).lt
theorem oI.fresh(x:oI P w H h)(e:h.objs.size<=a):H a=af:=by
 cases q:H a with
 |none=>rfl
 |some u=>exact Zw (fz (x.lt q) e) (j7 _)
def oI.kept(x:oI P w H h)(k:∀b u,h.get? b=aa u->h'.get? b=aa u):oI P w H h':=λa o e =>
 (x a o e).stay (λb u _ q=>k b u q) (λ_ q=>q) λ_ _ q=>q
def oI.laid(x:oI P w H h)(k:∀b u,h.get? b=aa u->h'.get? b=aa u)(hp:h.objs.size<=a)(new:dP P w (upd H a o) h' a o):oI P w (upd H a o) h':=λb u e=>by
 have hn:=x.fresh hp;by_cases hb:b=a
 .subst hb;rw[aU] at e;cases e;exact new
 .rw [bE hb] at e;exact(x b u e).stay (λc v _ q=>k c v q) (λc q=>by rw[bE (bH q hn)];exact q) (λc xs q=>by rw[bE (bH q hn)];exact q) λc o u q=>by rw[bE (bH q hn)];exact q
end
def Rd(H:Hp)(a:ah)(u:HO):Prop:=H a=aa u \/∃o,H a=aa (.yP o u)
theorem Rd.ok{P:bh}{w:bb}{H:Hp}{h:bf}{a:ah}{u:HO}(r:Rd H a u)(x:oI P w H h):dP P w H h a u:=by
 rcases r with r|⟨o,r⟩
 .exact x a u r
 .obtain ⟨_,q⟩:=x a _ r;exact q
def Mut:Option HO->Prop
 |some (.lst _)=>True
 |some (.dK _)=>True
 |some (.dT _)=>True
 |some (.dX _ _)=>True
 |some (.set _ _)=>True
 |some (.ins _ _ _)=>True
 |some (.ext _)=>True
 |_=>False
section
variable{P:bh}{w:bb}{H:Hp}{h h':bf}{x e:ah}{o':HO}
theorem oI.write(ok:oI P w H h)(mu:Mut (H x))(he:e=x\/H e=aa (.own x))(k:∀b u,b≠e->h.get? b=aa u->h'.get? b=aa u)(heo:∃u,h'.get? e=aa u)
  (new:dP P w (upd H x o') h' x o'):oI P w (upd H x o') h':=λb u q=>by
 have Bq:∀c y,H c=aa (.own y)->c≠x:=λc y r z=>by subst z;rw[r] at mu;exact mu
 have Qy:∀c xs,H c=aa (.tup xs)->c≠x:=λc xs r z=>by subst z;rw[r] at mu;exact mu
 by_cases hb:b=x
 .subst hb;rw[aU] at q;cases q;exact new
 .rw [bE hb] at q;by_cases hbe:b=e
  .have q':H b=aa (.own x):=by
    rcases he with z|z
    .exact Zw (hbe.trans z) hb
    .rw [hbe];exact z
   rw[q] at q';cases q';obtain⟨v,hv⟩:=heo;exact⟨v,by rw[hbe];exact hv⟩
  .refine (ok b u q).stay (λc v hc r=>k c v ?_ r) (λc r=>by rw[bE (Bq c b r)];exact r) (λc xs r=>by rw[bE (Qy c xs r)];exact r) λc o u r=>by rw[bE λz=>by subst z;rw[r] at mu;exact mu];exact r
   rcases hc with rfl|hc
   .exact hbe
   .rintro rfl;rcases he with z|z
    .exact Bq c b hc z
    .rw [hc] at z;cases z;exact hb rfl
end
structure Un (fs ex:List ah) (H H':Hp) (h h':bf):Prop where
 keep:∀b o,h.get? b=aa o->H b=af->b∉fs->b∉ex->h'.get? b=aa o
 slot:∀b o,h.get? b=aa o->H b=af->b∈fs->b∉ex ->∃sl,h'.get? b=aa {o with slots:=sl}
 free:∀b o,h.get? b=aa o->H b=af->b∉ex->H' b=af
 there:∀b o,h.get? b=aa o->b∉ex ->∃o',h'.get? b=aa o'
 tups:∀b xs,H b=aa (.tup xs)->H' b=aa (.tup xs)
 sY:∀b o u,H b=aa (.yP o u)->H' b=aa (.yP o u)
 qO:∀b q,H b=aa (.QL q)->H' b=aa (.QL q)
section
variable{fs fs' ex ex':List ah}{H H1 H2:Hp}{h h1 h2 h':bf}{a x e:ah}{o:HO}
def Un.any(u:Un fs ex H H1 h h1){b:ah}{ob:aw}(q:h.get? b=aa ob)(n:H b=af)(hx:b∉ex):∃sl,h1.get? b=aa {ob with slots:=sl}:=by
 by_cases hb:b∈fs
 .exact u.slot b ob q n hb hx
 .exact ⟨ob.slots,u.keep b ob q n hb hx⟩
theorem Un.trans(a:Un fs ex H H1 h h1)(b:Un fs ex H1 H2 h1 h2):Un fs ex H H2 h h2 where
 keep:=λc ob q n hc hx=>b.keep c ob (a.keep c ob q n hc hx) (a.free c ob q n hx) hc hx
 slot:=λc ob q n hc hx=>by obtain⟨sl,e1⟩:=a.slot c ob q n hc hx;obtain⟨sl',e2⟩:=b.slot c _ e1 (a.free c ob q n hx) hc hx;exact⟨sl',e2⟩
 free:=λc ob q n hx=>by obtain⟨o',e1⟩:=a.there c ob q hx;exact b.free c o' e1 (a.free c ob q n hx) hx
 there:=λc ob q hx=>by obtain⟨o',e1⟩:=a.there c ob q hx;exact b.there c o' e1 hx
 tups:=λc xs q=>b.tups c xs (a.tups c xs q)
 sY:=λc ob xs q=>b.sY c ob xs (a.sY c ob xs q)
 qO:=λc ps q=>b.qO c ps (a.qO c ps q)
def Un.kept(k:∀b u,h.get? b=aa u->h'.get? b=aa u):Un fs ex H H h h' :=
 ⟨λb ob q _ _ _=>k b ob q,λb ob q _ _ _=>⟨ob.slots,k b ob q⟩,λ_ _ _ n _=>n,λb ob q _=>⟨ob,k b ob q⟩,λ_ _ q=>q,λ_ _ _ q=>q,λ_ ps q=>q⟩
def Un.refl:Un fs ex H H h h:=Un.kept λ_ _ q=>q
theorem Un.laid(k:∀b u,h.get? b=aa u->h'.get? b=aa u)(hp:h.objs.size<=a)(hn:H a=af):Un fs ex H (upd H a o) h h' where
 keep:=λb u q _ _ _=>k b u q
 slot:=λb u q _ _ _=>⟨u.slots,k b u q⟩
 free:=λb u q n _=>by rw[bE (h_ (fz (cb q) hp))];exact n
 there:=λb u q _=>⟨u,k b u q⟩
 tups:=λb xs q=>by rw[bE (bH q hn)];exact q
 sY:=λb u xs q=>by rw[bE (bH q hn)];exact q
 qO:=λb ps q=>by rw[bE (bH q hn),q]
def Un.write(mu:Mut (H x))(he:e=x\/H e=aa (.own x))(k:∀b u,b≠e->h.get? b=aa u->h'.get? b=aa u)(heo:∃u,h'.get? e=aa u):Un fs ex H (upd H x o) h h':=by
 have hx:∀b,H b=af->b≠x:=λb n z=>by subst z;rw[n] at mu;exact mu
 have hb:∀b,H b=af->b≠e:=λb n z=>by
  subst z;rcases he with r|r
  .exact hx b n r
  .rw [n] at r;cases r
 have hm:∀b u,H b=aa u->¬ Mut (aa u)->b≠x:=λb u q nm z=>by subst z;rw[q] at mu;exact nm mu
 refine⟨λb u q n _ _=>k b u (hb b n) q,λb u q n _ _=>⟨u.slots,k b u (hb b n) q⟩,λb u q n _=>by rw[bE (hx b n)];exact n,λb u q _=>?_,
  λb xs q=>by rw[bE (hm b _ q λz=>z)];exact q,λb u xs q=>by rw[bE (hm b _ q λz=>z)];exact q,λb ps q=>by rw[bE (hm b _ q λz=>z),q]⟩
 by_cases hbe:b=e
 .subst hbe;exact heo
 .exact ⟨u,k b u hbe q⟩
end
def trk(h:bf)(H:Hp):List ah:=(dj h.objs.size).filter λa=>(H a).isSome
def y9(h:bf)(H:Hp):bf:=PySem.W.hideAll h (trk h H)
def NX(h:bf)(H:Hp):(y9 h H).objs.size=h.objs.size:=PySem.W.hideAll_size _ _
def TB(e:h.get? b=aa o)(n:H b=af):(y9 h H).get? b=aa o :=
 PySem.W.hideAll_get _ e λhm=>by have q:(H b).isSome=ae:=(f_.mp hm).2;rw[n] at q;simp at q
theorem YM(e:(y9 h H).get? b=aa o):h.get? b=aa o/\H b=af:=by
 have e':h.get? b=aa o:=PySem.W.of_hideAll (trk h H) e;refine⟨e',?_⟩
 cases q:H b with
 |none=>rfl
 |some x =>
  have hm:b∈trk h H:=f_.mpr ⟨pk.mpr (cb e'),by simp[q]⟩;have z:(y9 h H).get? b=af:=PySem.W.hideAll_none (trk h H) hm;rw[z] at e;cases e
structure Mod (K:aq) (mg:Q0d) (base:bf):Prop where
 kin:K.In base
 glob:base.Ns ie mg
 blt:∃mb,base.Ns builtinsNs mb /\∀x:ak,x ≠ "__name__"->mb x=bootBuiltins x
 nolimit:base.NoLimit
 bm:∃bm ob,mg "__builtins__"=aa (.ref bm)/\bm≠builtinsNs/\base.get? bm=aa ob/\ob.cls=.type "module" /\ob.dict=aa builtinsNs/\ob.data=.plain
def FH:List ak:=["going_of","count_of_chain","cut_paper","downsets","strictest_chains"]
def mZ(x:ak):ak:=x++".<locals>.<lambda>"
def dQ(K:aq):List (ak×ah×ah):=FH.filterMap λx=>(tw K x).map λp=>(x,p.1,p.2)
def YN(K:aq)(base:bf)(H:Hp):Prop:=∀t∈dQ K,CodeHd base t.2.1 t.2.2/\H t.2.2=aa (.QL (mZ t.1))
structure Cx where
 prog:bh
 w:bb
 K:aq
 mg:ak->Option ai
 base:bf
 A:bp
 N:List ak
 s₀:ao
 H₀:Hp
 env:fm
 outer:List fm
 stack:List fm
 ex:List ah
 fn:ak->Bool
 calm:Bool
 pn:List (ah×aw)
 xe:ai->ao->Prop
def frs(l:List fm):List ah:=l.filterMap (·.frame)
abbrev Cx.fs(X:Cx):List ah:=frs X.outer
def AN(sc:gf)(x:ak):Prop:=sc.names.lookup x=aa .local\/sc.names.lookup x=aa .cell\/sc.names.lookup x=aa .free
def Loc(sc:gf)(x:ak):Prop:=sc.names.lookup x=aa .local\/sc.names.lookup x=aa .cell
def Look(env:fm)(h:bf)(m:Q0d)(x:ak)(u:ai):Prop :=
 (env.kindOf x=aa .local/\m x=aa u)\/((env.kindOf x=aa .cell\/env.kindOf x=aa .free) /\∃c,env.cells.lookup x=aa c/\h.IsCell c (aa u))
structure Cx.Ok (X:Cx):Prop where
 mod:Mod X.K X.mg X.base
 kind:X.env.scope.kind=.function
 glob:X.env.globals=ie
 blt:X.env.builtins=builtinsNs
 above:X.s₀.heap.objs.size<=X.env.locals
 inj:∀x y c,X.env.cells.lookup x=aa c->X.env.cells.lookup y=aa c->x=y
 has:∀x,(X.env.kindOf x=aa .cell\/X.env.kindOf x=aa .free) ->∃c,X.env.cells.lookup x=aa c
 cab:∀x c,X.fn x=ae->X.env.cells.lookup x=aa c->X.s₀.heap.objs.size<=c
 hd:X.calm=ae->X.A.handled=af
 frames:X.A.frames=aa X.stack
 stk:X.stack=X.outer\/(X.stack=X.env::X.outer/\X.env.frame=aa X.env.locals)
 exf:∀b∈X.ex,b≠X.env.locals /\∀x c,X.env.cells.lookup x=aa c->c≠b
 bs:∀b o,X.base.get? b=aa o->X.s₀.heap.get? b=aa o/\X.H₀ b=af
 W9:X.base.objs.size<=X.s₀.heap.objs.size
 TC:∀b o,X.base.get? b=aa o->b∉X.ex
 YO:∀b∈X.ex,b∉X.fs
 xG:X.s₀.heap.FunFrames X.base X.outer
 frf:∀b∈X.fs,X.H₀ b=af
 tab:YN X.K X.base X.H₀
structure Inv (X:Cx) (pins:Q0b) (σ:List (Option V)) (H:Hp) (s:ao):Prop where
 ok:X.Ok
 os:s.os=X.s₀.os
 bare:lr s.gens
 base:Un X.fs X.ex X.H₀ H X.s₀.heap s.heap
 loc:∃m,s.heap.Ns X.env.locals m /\∀(i:Nat) (x:ak) (v:V),X.N[i]?=aa x->σ[i]?=aa (aa v)->AN X.env.scope x ->∃u,RelV v u/\Look X.env s.heap m x u
 cell:∀x c,X.env.cells.lookup x=aa c ->∃v,s.heap.IsCell c v
 free:H X.env.locals=af
 l9:∀x c,X.env.cells.lookup x=aa c->H c=af
 pin:∀p∈X.pn++pins,s.heap.get? p.1=aa p.2/\H p.1=af/\p.1≠X.env.locals/\p.1∉X.fs /\∀v,p.2.data≠.cell v
 hok:oI X.prog X.w H s.heap
 len:σ.length=X.N.length
section
variable{X:Cx}{pins:Q0b}{σ:List (Option V)}{H H':Hp}{s:ao}{h':bf}
def Cx.Ok.Qx(ok:X.Ok)(e:X.base.get? b=aa o):b∉X.fs:=λhb=>by have:=(ok.xG.mem hb).1;rw[e] at this;cases this
def Inv.bs(I:Inv X pins σ H s):∀b o,X.base.get? b=aa o->s.heap.get? b=aa o/\H b=af:=λb o e =>
 ⟨I.base.keep b o (I.ok.bs b o e).1 (I.ok.bs b o e).2 (I.ok.Qx e) (I.ok.TC b o e),I.base.free b o (I.ok.bs b o e).1 (I.ok.bs b o e).2 (I.ok.TC b o e)⟩
def Inv.bk(I:Inv X pins σ H s):∀b o,X.base.get? b=aa o->s.heap.get? b=aa o:=λb o e=>(I.bs b o e).1
def Inv.mod(I:Inv X pins σ H s):Mod X.K X.mg X.base:=I.ok.mod
def Inv.tab(I:Inv X pins σ H s):YN X.K X.base H:=λt ht=>⟨(I.ok.tab t ht).1,I.base.qO _ _ (I.ok.tab t ht).2⟩
def Inv.CY(I:Inv X pins σ H s):X.K.In s.heap:=I.ok.mod.kin.keeps I.bk
def Inv.nolimit(I:Inv X pins σ H s):s.heap.NoLimit:=I.ok.mod.nolimit.keeps I.bk
def Inv.fr(I:Inv X pins σ H s):∃m,Fr X.base X.env.locals s.heap m :=
 let ⟨m,hn,_⟩:=I.loc
 ⟨m,hn,I.bk,gn I.ok.W9 I.ok.above⟩
def Inv.lt(I:Inv X pins σ H s):X.env.locals<s.heap.objs.size:=let ⟨_,hn,_⟩:=I.loc;hn.lt
def Inv.sz(I:Inv X pins σ H s):X.s₀.heap.objs.size<=s.heap.objs.size:=gn I.ok.above (ku I.lt)
def Inv.Qw(I:Inv X pins σ H s)(h:s.heap.objs.size<=a):a∉X.fs:=λhb=>by obtain⟨_,o,ho,_⟩:=I.ok.xG.mem hb;exact Zw (fz (cb ho) (gn I.sz h)) (j7 _)
def Inv.cne(I:Inv X pins σ H s):∀x c,X.env.cells.lookup x=aa c->c≠X.env.locals:=λx c e z=>by obtain⟨v,o,ho,hd⟩:=I.cell x c e;obtain⟨m,⟨o',es,ep,ho',hd',_⟩,_⟩:=I.loc;rw[z,ho'] at ho;cases ho;rw[hd'] at hd;cases hd
def Inv.xG(I:Inv X pins σ H s):s.heap.FunFrames X.base X.outer:=by
 have all:∀(l:List fm),(∀b∈frs l,b∈X.fs)->X.s₀.heap.FunFrames X.base l->s.heap.FunFrames X.base l:=by
  intro l
  induction l with
  |nil=>intro _ _;trivial
  |cons env r ih =>
   intro hs hl;obtain⟨hk,⟨L,o,hf,hn,ho,hd⟩,hr⟩:=hl;have hL:L∈X.fs:=hs L (by unfold frs;rw[Ha,hf];exact b_);obtain⟨sl,e⟩:=I.base.slot L o ho (I.ok.frf L hL) hL λz=>I.ok.YO L z hL;exact⟨hk,⟨L,_,hf,hn,e,hd⟩,ih (λb hb=>hs b (by unfold frs;rw[Ha,hf];exact dg _ hb)) hr⟩
 exact all X.outer (λ_ hb=>hb) I.ok.xG
def Inv.stack(I:Inv X pins σ H s):s.heap.FunFrames X.base X.stack:=by
 rcases I.ok.stk with e|⟨e,hf⟩
 .rw [e];exact I.xG
 .rw [e];obtain⟨m,hn,_⟩:=I.loc;refine .cons (by rw[I.ok.kind];decide) hf hn ?_ I.xG;exact Heap.get?_none_of_le (gn I.ok.W9 I.ok.above)
def Inv.xH(I:Inv X pins σ H s):∀b∈frs X.stack,b∈X.env.locals::X.fs:=λb hb=>by
 rcases I.ok.stk with e|⟨e,hf⟩
 .rw [e] at hb;exact dg _ hb
 .rw [e] at hb;unfold frs at hb;rw[Ha,hf] at hb;exact hb
def Inv.CZ(I:Inv X pins σ H s):∀b∈frs X.stack,H b=af:=λb hb=>by
 rcases bu.mp (I.xH b hb) with e|hb
 .rw [e];exact I.free
 .obtain ⟨_,o,ho,_⟩:=I.ok.xG.mem hb;exact I.base.free b o ho (I.ok.frf b hb) λz=>I.ok.YO b z hb
theorem Inv.step{g':Array GenState}{t':Nat}{d':Drawn}{ch:List ah}(I:Inv X pins σ H s)
  (hch:∀b∈ch,(b∈X.ex\/X.s₀.heap.objs.size<=b)/\b≠X.env.locals/\(∀x c,X.env.cells.lookup x=aa c->c≠b) /\∀p∈X.pn++pins,p.1≠b)
  (keep:∀b o,b≠X.env.locals->b∉X.fs->b∉ch->s.heap.get? b=aa o->H b=af->h'.get? b=aa o)
  (slot:∀b o,b≠X.env.locals->b∈X.fs->b∉ch->s.heap.get? b=aa o->H b=af ->∃sl,h'.get? b=aa {o with slots:=sl}) (free:∀b o,b∉ch->s.heap.get? b=aa o->H b=af->H' b=af)
  (there:∀b o,b∉ch->s.heap.get? b=aa o ->∃o',h'.get? b=aa o')
  (tups:∀b xs,H b=aa (.tup xs)->H' b=aa (.tup xs)) (sY:∀b o u,H b=aa (.yP o u)->H' b=aa (.yP o u)) (qO:∀b q,H b=aa (.QL q)->H' b=aa (.QL q))
  (ns:∀m,s.heap.Ns X.env.locals m->h'.Ns X.env.locals m) (hok:oI X.prog X.w H' h') (hg:lr g'):
  Inv X pins σ H' {s with heap:=h',gens:=g',drawn:=d',toks:=t' }:=by
 have neL:∀b o,X.s₀.heap.get? b=aa o->b≠X.env.locals:=λb o e=>h_ (fz (cb e) I.ok.above);have neC:∀b o,X.s₀.heap.get? b=aa o->b∉X.ex->b∉ch:=λb o e hx hb=>by
  rcases(hch b hb).1 with z|z
  .exact hx z
  .exact Zw (fz (cb e) z) (j7 _)
 have cellK:∀x c,X.env.cells.lookup x=aa c ->∀v,s.heap.IsCell c v->h'.IsCell c v:=λx c e v hq2=>by
  obtain⟨o,ho,hd⟩:=hq2;have nch:c∉ch:=λz=>(hch c z).2.2.1 x c e rfl;by_cases hc:c∈X.fs
  .obtain ⟨sl,q⟩:=slot c o (I.cne x c e) hc nch ho (I.l9 x c e);exact⟨_,q,hd⟩
  .exact ⟨o,keep c o (I.cne x c e) hc nch ho (I.l9 x c e),hd⟩
 refine⟨I.ok,I.os,hg,⟨λb o e n hb hx=>?_,λb o e n hb hx=>?_,λb o e n hx=>?_,λb o e hx=>?_,λb xs e=>tups b xs (I.base.tups b xs e),λb o xs e=>sY b o xs (I.base.sY b o xs e),λb ps e=>qO b ps (I.base.qO b ps e)⟩,?_,λx c e=>?_,?_,λx c e=>?_,λp hp=>?_,hok,I.len⟩
 .exact keep b o (neL b o e) hb (neC b o e hx) (I.base.keep b o e n hb hx) (I.base.free b o e n hx)
 .obtain ⟨sl,e1⟩:=I.base.slot b o e n hb hx;obtain⟨sl',e2⟩:=slot b _ (neL b o e) hb (neC b o e hx) e1 (I.base.free b o e n hx);exact⟨sl',e2⟩
 .obtain ⟨o',e1⟩:=I.base.there b o e hx;exact free b o' (neC b o e hx) e1 (I.base.free b o e n hx)
 .obtain ⟨o',e1⟩:=I.base.there b o e hx;exact there b o' (neC b o e hx) e1
 .obtain ⟨m,hn,hl⟩:=I.loc;refine⟨m,ns m hn,λi x v e1 e2 e3=>?_⟩;obtain⟨u,r,l⟩:=hl i x v e1 e2 e3;refine⟨u,r,?_⟩;rcases l with l|⟨k,c,e,z⟩
  .exact .inl l
  .exact .inr ⟨k,c,e,cellK x c e _ z⟩
 .obtain ⟨v,z⟩:=I.cell x c e;exact⟨v,cellK x c e v z⟩
 .obtain ⟨m,⟨o,_,_,ho,_⟩,_⟩:=I.loc;exact free _ o (λz=>(hch _ z).2.1 rfl) ho I.free
 .obtain ⟨v,o,ho,hd⟩:=I.cell x c e;exact free c o (λz=>(hch c z).2.2.1 x c e rfl) ho (I.l9 x c e)
 .obtain ⟨e,n,ne,nf,d⟩:=I.pin p hp;have nch:p.1∉ch:=λz=>(hch p.1 z).2.2.2 p hp rfl;exact⟨keep p.1 p.2 ne nf nch e n,free p.1 p.2 nch e n,ne,nf,d⟩
noncomputable def Inv.un{t':Nat}(I:Inv X pins σ H s)(u:Un X.fs [] H H' s.heap h')(hok:oI X.prog X.w H' h'):Inv X pins σ H' {s with heap:=h',toks:=t' }:=by
 obtain⟨m,⟨o,es,ep,ho,r⟩,_⟩:=id I.loc;obtain⟨sl,hL⟩:=u.any ho I.free (by simp);exact I.step (g':=s.gens) (d':=s.drawn) (ch:=[]) (λ_ z=>nomatch z) (λb o _ hb _ e n=>u.keep b o e n hb (by simp)) (λb o _ hb _ e n=>u.slot b o e n hb (by simp)) (λb o _ e n=>u.free b o e n (by simp)) (λb o _ e=>u.there b o e (by simp)) u.tups u.sY u.qO (λm' hm=>by obtain⟨o',es',ep',ho',r'⟩:=hm;rw[ho] at ho';cases ho';exact⟨_,es',ep',hL,r'⟩) hok I.bare
theorem Inv.call{g':Array GenState}{t':Nat}{d':Drawn}{ch:List ah}(I:Inv X pins σ H s)(u:Un (frs X.stack) ch H H' s.heap h')(hok:oI X.prog X.w H' h')(hg:lr g')
  (hch:∀b∈ch,(b∈X.ex\/X.s₀.heap.objs.size<=b)/\b≠X.env.locals/\(∀x c,X.env.cells.lookup x=aa c->c≠b) /\∀p∈X.pn++pins,p.1≠b):
  Inv X pins σ H' {s with heap:=h',gens:=g',drawn:=d',toks:=t' }:=by
 obtain⟨m,⟨o,es,ep,ho,r⟩,_⟩:=id I.loc;obtain⟨sl,hL⟩:=u.any ho I.free λz=>(hch _ z).2.1 rfl;exact I.step (ch:=ch) hch (λb o hL hb hc e n=>u.keep b o e n (λz=>(bu.mp (I.xH b z)).elim hL hb) hc) (λb o _ _ hc e n=>u.any e n hc) (λb o hc e n=>u.free b o e n hc) (λb o hc e=>u.there b o e hc) u.tups u.sY u.qO (λm' hm=>by obtain⟨o',es',ep',ho',r'⟩:=hm;rw[ho] at ho';cases ho';exact⟨_,es',ep',hL,r'⟩) hok hg
theorem Inv.turned{t':Nat}{it:ah}(I:Inv X pins σ H s)(k:∀b o,b≠it->s.heap.get? b=aa o->h'.get? b=aa o)(hn:H it=af)(hL:it≠X.env.locals)
  (h1:it∈X.ex\/X.s₀.heap.objs.size<=it) (h2:∀x c,X.env.cells.lookup x=aa c->c≠it) (h3:∀p∈X.pn++pins,p.1≠it):Inv X pins σ H {s with heap:=h',toks:=t' }:=by
 have nit:∀b u,H b=aa u->b≠it:=λb u e z=>by rw[z,hn] at e;cases e
 refine I.step (g':=s.gens) (d':=s.drawn) (ch:=[it]) (λb hb=>?_) (λb o _ _ hc e _=>k b o (λz=>hc (by simp[z])) e) (λb o _ _ hc e _=>⟨o.slots,k b o (λz=>hc (by simp[z])) e⟩) (λ_ _ _ _ n=>n)
  (λb o hc e=>⟨o,k b o (λz=>hc (by simp[z])) e⟩) (λ_ _ e=>e) (λ_ _ _ e=>e) (λb ps e=>e) (λm hm=>?_) (λb u e=>?_) I.bare
 .have e:b=it:=by simpa using hb
  subst e;exact⟨h1,hL,h2,h3⟩
 .obtain ⟨o,es,ep,ho,r⟩:=hm;exact⟨o,es,ep,k _ o (e_ hL) ho,r⟩
 .refine (I.hok b u e).stay (λc v hc q=>k c v ?_ q) (λ_ q=>q) λ_ _ q=>q;rcases hc with z|z
  .rw [z];exact nit b u e
  .exact nit c _ z
def Inv.tok(I:Inv X pins σ H s)(t:Nat):Inv X pins σ H {s with toks:=t}:=I.un (h':=s.heap) (t':=t) Un.refl I.hok
def Inv.kept(I:Inv X pins σ H s)(k:∀b u,s.heap.get? b=aa u->h'.get? b=aa u):Inv X pins σ H {s with heap:=h',toks:=t' }:=I.un (Un.kept k) (I.hok.kept k)
theorem Inv.laid{a:ah}{o:HO}{t':Nat}(I:Inv X pins σ H s)(k:∀b u,s.heap.get? b=aa u->h'.get? b=aa u)(hp:s.heap.objs.size<=a)(new:dP X.prog X.w (upd H a o) h' a o):
  Inv X pins σ (upd H a o) {s with heap:=h',toks:=t' }:=I.un (Un.laid k hp (I.hok.fresh hp)) (I.hok.laid k hp new)
theorem Inv.write(I:Inv X pins σ H s)(mu:Mut (H x))(he:e=x\/H e=aa (.own x))(k:∀b u,b≠e->s.heap.get? b=aa u->h'.get? b=aa u)(heo:∃u,h'.get? e=aa u)
  (new:dP X.prog X.w (upd H x o) h' x o):Inv X pins σ (upd H x o) {s with heap:=h',toks:=t' }:=I.un (Un.write mu he k heo) (I.hok.write mu he k heo new)
def Inv.weak(I:Inv X pins σ H s)(hl:σ'.length=σ.length)(w:∀(i:Nat) v,σ'[i]?=aa (aa v)->σ[i]?=aa (aa v)):Inv X pins σ' H s :=
 ⟨I.ok,I.os,I.bare,I.base,let ⟨m,hn,hl'⟩:=I.loc;⟨m,hn,λi x v e1 e2 e3=>hl' i x v e1 (w i v e2) e3⟩,I.cell,I.free,I.l9,I.pin,I.hok,hl.trans I.len⟩
def Inv.C0(I:Inv X pins σ H s)(h:∀p∈TH,s.heap.get? p.1=aa p.2/\H p.1=af/\p.1≠X.env.locals/\p.1∉X.fs /\∀v,p.2.data≠.cell v):Inv X TH σ H s :=
 ⟨I.ok,I.os,I.bare,I.base,I.loc,I.cell,I.free,I.l9,λp hp=>(ft.mp hp).elim (λz=>I.pin p (jh _ z)) (h p),I.hok,I.len⟩
def FI{N:Q0g}(hN:N.Nodup){i j:Nat}{x:ak}(a:N[i]?=aa x)(b:N[j]?=aa x):i=j:=by obtain⟨h1,e1⟩:=cn.mp a;obtain⟨h2,e2⟩:=cn.mp b;exact(a2n hN).mp (e1.trans e2.symm)
theorem AO{M:Model}{A:bp}{E:Q0c}{i:Nat}{x:ak}{v:V}{u:ai}{Q:Unit->ao->Prop}(I:Inv X pins σ H s)(hN:X.N.Nodup)(hi:X.N[i]?=aa x)(hx:Loc X.env.scope x)(r:RelV v u)
  (h:∀s',Inv X pins (σ.set i (aa v)) H s'->(∃a,pb a s.heap s'.heap/\(a=X.env.locals\/X.env.cells.lookup x=aa a))->Q () s') (hf:X.fn x=ae\/X.env.scope.names.lookup x=aa .local:=by first|exact .inl rfl|exact .inr rfl|assumption):ax M A (storeName X.env x u) Q E s:=by
 obtain⟨m,hn,hl⟩:=id I.loc;have hcls:(X.env.scope.kind == .class||(X.env.scope.kind == .module&&X.env.locals !=X.env.globals))=ag:=by rw[I.ok.kind];rfl
 have hiσ:i<σ.length:=by rw[I.len];exact(cn.mp hi).1
 have cne:=I.cne;have tracked:∀{a:ah} {h':bf},(∃o,s.heap.get? a=aa o/\H a=af)->pb a s.heap h'->oI X.prog X.w H h':=λ{a h'} ha hs b ob e=>by
  obtain⟨_,_,hfree⟩:=ha;refine(I.hok b ob e).stay (λc w' hc q=>(hs.2 c ?_).trans q) (λ_ q=>q) λ_ _ q=>q;rintro rfl;rcases hc with rfl|hc
  .rw [hfree] at e;cases e
  .rw [hfree] at hc;cases hc
 rcases hx with hk|hk
 .refine wpAny_storeName_local hk hn (λh' hn' hs=>?_) hcls;obtain⟨oL,_,_,hoL,_⟩:=id hn;refine h _ ⟨I.ok,I.os,I.bare,⟨λb o e n hb hx=>?_,λb o e n hb hx=>?_,I.base.free,λb o e hx=>?_,I.base.tups,I.base.sY,I.base.qO⟩,⟨_,hn',λj y v' e1 e2 e3=>?_⟩,λy c e=>?_,I.free,I.l9,λp hp=>?_,tracked ⟨oL,hoL,I.free⟩ hs,by simpa using I.len⟩ ⟨_,hs,.inl rfl⟩
  .exact (hs.2 b (h_ (fz (cb e) I.ok.above))).trans (I.base.keep b o e n hb hx)
  .obtain ⟨sl,e1⟩:=I.base.slot b o e n hb hx;exact⟨sl,(hs.2 b (h_ (fz (cb e) I.ok.above))).trans e1⟩
  .obtain ⟨o',e1⟩:=I.base.there b o e hx;exact⟨o',(hs.2 b (h_ (fz (cb e) I.ok.above))).trans e1⟩
  .by_cases hj:j=i
   .subst hj;rw[hi] at e1;cases e1;rw[lj hiσ] at e2;cases e2;exact⟨u,r,.inl ⟨hk,by simp⟩⟩
   .rw [jj (e_ hj)] at e2;obtain⟨u',r',q⟩:=hl j y v' e1 e2 e3;refine⟨u',r',?_⟩;rcases q with⟨k,e⟩|⟨k,c,e,z⟩
    .refine .inl ⟨k,?_⟩;have:y≠x:=λe=>hj (FI hN e1 (e▸hi));simp[this,e]
    .exact .inr ⟨k,c,e,z.sameBut hs (cne y c e)⟩
  .obtain ⟨w',z⟩:=I.cell y c e;exact⟨w',z.sameBut hs (cne y c e)⟩
  .obtain ⟨e,n,ne,nf,d⟩:=I.pin p hp;exact⟨(hs.2 p.1 ne).trans e,n,ne,nf,d⟩
 .have hfn:X.fn x=ae:=by
   rcases hf with z|z
   .exact z
   .rw [z] at hk;cases hk
  obtain⟨c,hc⟩:=I.ok.has x (.inl hk);obtain⟨w',z⟩:=I.cell x c hc;refine wpAny_storeName_cell I.ok.kind hk hc z (λh' hc' hs=>?_);obtain⟨oc,hoc,Qu⟩:=id z;refine h {s with heap:=h' } ⟨I.ok,I.os,I.bare,⟨λb o e n hb hx=>?_,λb o e n hb hx=>?_,I.base.free,λb o e hx=>?_,I.base.tups,I.base.sY,I.base.qO⟩,⟨m,hn.sameBut hs (e_ (cne x c hc)),λj y v' e1 e2 e3=>?_⟩,λy c' e=>?_,I.free,I.l9,λp hp=>?_,tracked ⟨oc,hoc,I.l9 x c hc⟩ hs,by simpa using I.len⟩ ⟨c,hs,.inr hc⟩
  .exact (hs.2 b (h_ (fz (cb e) (I.ok.cab x c hfn hc)))).trans (I.base.keep b o e n hb hx)
  .obtain ⟨sl,e1⟩:=I.base.slot b o e n hb hx;exact⟨sl,(hs.2 b (h_ (fz (cb e) (I.ok.cab x c hfn hc)))).trans e1⟩
  .obtain ⟨o',e1⟩:=I.base.there b o e hx;exact⟨o',(hs.2 b (h_ (fz (cb e) (I.ok.cab x c hfn hc)))).trans e1⟩
  .by_cases hj:j=i
   .subst hj;rw[hi] at e1;cases e1;rw[lj hiσ] at e2;cases e2;exact⟨u,r,.inr ⟨.inl hk,c,hc,hc'⟩⟩
   .rw [jj (e_ hj)] at e2;obtain⟨u',r',q⟩:=hl j y v' e1 e2 e3;refine⟨u',r',?_⟩;rcases q with q|⟨k,c',e,z'⟩
    .exact .inl q
    .refine .inr ⟨k,c',e,z'.sameBut hs ?_⟩;rintro rfl;exact hj (FI hN e1 (I.ok.inj _ _ _ e hc▸hi))
  .by_cases hcc:c'=c
   .subst hcc;exact⟨_,hc'⟩
   .obtain ⟨w2,z2⟩:=I.cell y c' e;exact⟨w2,z2.sameBut hs hcc⟩
  .obtain ⟨e,n,ne,nf,d⟩:=I.pin p hp;refine⟨(hs.2 p.1 ?_).trans e,n,ne,nf,d⟩;intro q;rw[q,hoc] at e;have q':oc=p.2:=df e;exact d w' (by rw[<- q'];exact Qu)
theorem qP(I:Inv X pins σ H s)(hN:X.N.Nodup)(hi:X.N[i]?=aa x)(hx:Loc X.env.scope x)(r:RelV v u)
  (h:∀s',Inv X pins (σ.set i (aa v)) H s'->Q () s') (hf:X.fn x=ae\/X.env.scope.names.lookup x=aa .local:=by first|exact .inl rfl|exact .inr rfl|assumption):ax M A (storeName X.env x u) Q E s :=
 AO I hN hi hx r (λs' I' _=>h s' I') hf
theorem Inv.call'(I:Inv X pins σ H s)(ho:s'.os=s.os)(u:Un (frs X.stack) ch H H' s.heap s'.heap)(hok:oI X.prog X.w H' s'.heap)(hg:lr s'.gens)
  (hch:∀b∈ch,(b∈X.ex\/X.s₀.heap.objs.size<=b)/\b≠X.env.locals/\(∀x c,X.env.cells.lookup x=aa c->c≠b) /\∀p∈X.pn++pins,p.1≠b):Inv X pins σ H' s':=by
 obtain⟨h',g',d',t',o'⟩:=s';have e:o'=s.os:=ho;subst e;exact I.call (g':=g') (t':=t') (d':=d') u hok hg hch
end
abbrev XK:=ai->Option ah->Hp->Prop
abbrev St:=List (Option V)
abbrev VK:=V->Hp->Prop
abbrev TE:=St->Hp->VK->Prop
abbrev TT:=St->Hp->(Bool->Hp->Prop)->Prop
abbrev TA:=St->Hp->(List V->Hp->Prop)->Prop
structure Ends where
 nx:St->Hp->Prop
 rt:VK
 bk:St->Hp->Prop:=λ_ _=>False
 ct:St->Hp->Prop:=λ_ _=>False
abbrev TS:=Ends->St->Hp->Prop
def EP(X:Cx)(pins:Q0b)(σ:St)(Q:VK)(u:ai)(s':ao):Prop:=∃v H',Inv X pins σ H' s'/\RelV v u/\Q v H'
def TP(X:Cx)(pins:Q0b)(σ:St)(Q:Bool->Hp->Prop)(b:Bool)(s':ao):Prop:=∃H',Inv X pins σ H' s'/\Q b H'
def AP(X:Cx)(pins:Q0b)(σ:St)(Q:List V->Hp->Prop)(us:Q0f)(s':ao):Prop:=∃vs H',Inv X pins σ H' s'/\Vals vs us/\Q vs H'
def SP(X:Cx)(pins:Q0b)(D:Ends)(f:Flow)(s':ao):Prop :=
 match f with
 |.next=>∃σ' H',Inv X pins σ' H' s'/\D.nx σ' H'
 |.brk=>∃σ' H',Inv X pins σ' H' s'/\D.bk σ' H'
 |.cont=>∃σ' H',Inv X pins σ' H' s'/\D.ct σ' H'
 |.ret u=>∃v σ' H',Inv X pins σ' H' s'/\RelV v u/\D.rt v H'
def PE(X:Cx)(e:ar)(t:TE):Prop :=
 ∀(pins:Q0b) (s:ao) (σ:St) (H:Hp) (Q:VK),Inv X pins σ H s->t σ H Q->ax (ay X.prog X.w) X.A (eval e X.env) (EP X pins σ Q) X.xe s
def PT(X:Cx)(e:ar)(t:TT):Prop :=
 ∀(pins:Q0b) (s:ao) (σ:St) (H:Hp) (Q:Bool->Hp->Prop),Inv X pins σ H s->t σ H Q->ax (ay X.prog X.w) X.A (isTrue e X.env (eval e X.env)) (TP X pins σ Q) X.xe s
def PW(X:Cx)(e:ar)(t:TT):Prop :=
 ∀(whole:Sem ai) (pins:Q0b) (s:ao) (σ:St) (H:Hp) (Q:Bool->Hp->Prop),Inv X pins σ H s->t σ H Q->ax (ay X.prog X.w) X.A (isTrue e X.env whole) (TP X pins σ Q) X.xe s
def PW.pt(h:PW X e t):PT X e t:=h _
def PA(X:Cx)(es:List ar)(t:TA):Prop :=
 ∀(pos:bo) (pins:Q0b) (s:ao) (σ:St) (H:Hp) (Q:List V->Hp->Prop),Inv X pins σ H s->t σ H Q->ax (ay X.prog X.w) X.A (spliced (fq pos (av es X.env))) (AP X pins σ Q) X.xe s
def PS(X:Cx)(st:de)(t:TS):Prop :=
 ∀(pins:Q0b) (s:ao) (σ:St) (H:Hp) (D:Ends),Inv X pins σ H s->t D σ H->ax (ay X.prog X.w) X.A (exec st X.env) (SP X pins D) X.xe s
def yQ(X:Cx)(st:List de)(t:TS):Prop :=
 ∀(pins:Q0b) (s:ao) (σ:St) (H:Hp) (D:Ends),Inv X pins σ H s->t D σ H->ax (ay X.prog X.w) X.A (execs st X.env) (SP X pins D) X.xe s
def dR{α:Type}{t:Sem α}{Q Q':α->ao->Prop}{M:Model}{A:bp}{E:Q0c}{s:ao}(h:ax M A t Q E s)(hQ:∀a s,Q a s->Q' a s):ax M A t Q' E s:=jx h hQ λ_ _ x=>x
section
variable{X:Cx}
def YQ(i:Nat):TE:=λσ H Q=>∃v,σ[i]?=aa (aa v)/\Q v H
def tC(v:V):TE:=λ_ H Q=>Q v H
def lV(hN:X.N[i]?=aa x)(hv:AN X.env.scope x)(hd:(x == ("__debug__":ak))=ag:=by decide)(hcd:(x == ("__classdict__":ak))=ag:=by decide):PE X (.Name x pos) (YQ i):=by
 intro pins s σ H Q I h;obtain⟨v,e,h⟩:=h;obtain⟨m,hn,hl⟩:=I.loc;obtain⟨u,r,l⟩:=hl i x v hN e hv;have fin:EP X pins σ Q u s:=⟨v,H,I,r,h⟩;rcases l with⟨hk,hm⟩|⟨hk,c,hc,hcell⟩
 .exact El (wpAny_loadName_local I.ok.kind hk hn hm fin) hd
 .rcases hk with hk|hk
  .exact El (wpAny_loadName_cell I.ok.kind hk hc hcell fin) hd
  .exact El (wpAny_loadName_free I.ok.kind hk hc hcell fin hcd) hd
def aCJ{i j pos}:PE X (.Constant (.int i) j pos) (tC (.int i)):=λ_ _ _ H _ I h=>wpAny_Constant_int ⟨.int i,H,I.tok _,⟨_,rfl⟩,h⟩
def Xm{b j pos}:PE X (.Constant (.bool b) j pos) (tC (.bl b)):=λ_ _ _ H _ I h=>Constant_bool ⟨.bl b,H,I,rfl,h⟩
def aCK{j pos}:PE X (.Constant .none j pos) (tC .non):=λ_ _ _ H _ I h=>Constant_none ⟨.non,H,I,rfl,h⟩
def Gl(X:Cx)(x:ak):Prop:=X.env.kindOf x=aa .globalImplicit
theorem LW(I:Inv X pins σ H s)(hg:Gl X x)(hm:X.mg x=aa u)(h:Q u s)
  (hd:(x == ("__debug__":ak))=ag:=by decide):ax (ay X.prog X.w) X.A (eval (.Name x pos) X.env) Q E s :=
 a1o I.ok.kind hg (Calls.loadGlobal_global (by rw[I.ok.glob];exact I.mod.glob.keeps I.bk) hm h) hd
theorem lW(I:Inv X pins σ H s)(hg:Gl X x)(hm:X.mg x=af)(hv:bootBuiltins x=aa u)(h:Q u s)
  (hn:x ≠ "__name__":=by decide) (hd:(x == ("__debug__":ak))=ag:=by decide):ax (ay X.prog X.w) X.A (eval (.Name x pos) X.env) Q E s:=by
 obtain⟨mb,h1,h2⟩:=I.mod.blt;exact a1o I.ok.kind hg (Calls.loadGlobal_builtin (by rw[I.ok.glob];exact I.mod.glob.keeps I.bk) hm (by rw[I.ok.blt];exact h1.keeps I.bk) ((h2 x hn).trans hv) h) hd
def YR(hg:Gl X x)(hm:X.mg x=aa u)(r:RelV v u)(hd:(x == ("__debug__":ak))=ag:=by decide):PE X (.Name x pos) (tC v) :=
 λ_ _ _ H _ I h=>LW I hg hm ⟨v,H,I,r,h⟩ hd
def YS(hg:Gl X x)(hm:X.mg x=af)(hv:bootBuiltins x=aa u)(r:RelV v u)(hn:x ≠ "__name__":=by decide)(hd:(x == ("__debug__":ak))=ag:=by decide):PE X (.Name x pos) (tC v) :=
 λ_ _ _ H _ I h=>lW I hg hm hv ⟨v,H,I,r,h⟩ hn hd
variable{a b:ar}{ta tb:TE}{pos:bo}
def PC(X:Cx)(op:CmpOp)(a b:ar)(t:TE):Prop :=
 ∀(pins:Q0b) (s:ao) (σ:St) (H:Hp) (Q:VK),Inv X pins σ H s->t σ H Q ->
  ax (ay X.prog X.w) X.A (eval a X.env) (λv s₁=>ax (ay X.prog X.w) X.A (eval b X.env) (λu s₂=>ax (ay X.prog X.w) X.A (compareOp op v u) (EP X pins σ Q) X.xe s₂) X.xe s₁) X.xe s
def tB(t:TE):TT:=λσ H Q=>t σ H λx H1=>∃c,x=.bl c/\Q c H1
def TJ{op:CmpOp}{t:TE}(h:PC X op a b t)(h1:behindInMarks op b=ag:=by first|exact aEg _ (by decide) (by decide)|rfl):PT X (.Compare a [op] [b] pos) (tB t):=by intro pins s σ H Q I hw;refine a0k (dR (h pins s σ H _ I hw) λv s1 h1=>dR h1 λu s2 h2=>dR h2 λc s3 ⟨x,H1,I1,r1,q1⟩=>?_) h1;obtain⟨d,rfl,q⟩:=q1;cases r1;exact mj ⟨H1,I1,q⟩
variable{tA tB':TT}{rest:List ar}
def kD(t u:TT):TT:=λσ H Q=>t σ H λc H1=>if c=ae then u σ H1 Q else Q ag H1
def yN(t u:TT):TT:=λσ H Q=>t σ H λc H1=>if c=ae then Q ae H1 else u σ H1 Q
def jC(t:TT):TT:=λσ H Q=>t σ H λc H1=>Q (!c) H1
theorem YT(ha:PT X a tA):PW X (.BoolOp .And [a] pos) tA:=by
 intro wh pins s σ H Q I h;refine isTrue_and (dR (ha pins s σ H Q I h) λc s1 e=>?_)
 cases c with
 |true=>exact isTrue_and_nil e
 |false=>exact e
theorem aCL(ha:PT X a tA):PW X (.BoolOp .Or [a] pos) tA:=by
 intro wh pins s σ H Q I h;refine isTrue_or (dR (ha pins s σ H Q I h) λc s1 e=>?_)
 cases c with
 |false=>exact isTrue_or_nil e
 |true=>exact e
theorem aCM(ha:PT X a tA)(hb:PW X (.BoolOp .And (b::rest) pos) tB'):PW X (.BoolOp .And (a::b::rest) pos) (kD tA tB'):=by
 intro wh pins s σ H Q I h;refine isTrue_and (dR (ha pins s σ H _ I h) λc s1 ⟨H1,I1,q1⟩=>?_)
 cases c with
 |true=>exact hb wh pins s1 σ H1 Q I1 q1
 |false=>exact⟨H1,I1,q1⟩
theorem Xl(ha:PT X a tA)(hb:PW X (.BoolOp .Or (b::rest) pos) tB'):PW X (.BoolOp .Or (a::b::rest) pos) (yN tA tB'):=by
 intro wh pins s σ H Q I h;refine isTrue_or (dR (ha pins s σ H _ I h) λc s1 ⟨H1,I1,q1⟩=>?_)
 cases c with
 |true=>exact⟨H1,I1,q1⟩
 |false=>exact hb wh pins s1 σ H1 Q I1 q1
def aCN(ha:PT X a tA):PT X (.UnaryOp .Not a pos) (jC tA):=by intro pins s σ H Q I h;exact isTrue_not (ha pins s σ H (λc H1=>Q (!c) H1) I h)
def Xk(ta tb:TE):TE:=λσ H Q=>ta σ H λx H1=>∃c,x=.bl c/\if c=ae then tb σ H1 Q else Q (.bl ag) H1
def Xj(ta:TE):TE:=λσ H Q=>ta σ H λx H1=>∃c,x=.bl c/\Q (.bl (!c)) H1
def aCO{op}(h:PE X a t):PE X (.BoolOp op [a] pos) t:=λpins s σ H Q I hw=>BoolOp_one (h pins s σ H Q I hw)
theorem aCP(ha:PE X a ta)(hb:PE X (.BoolOp .And (b::rest) pos) tb):PE X (.BoolOp .And (a::b::rest) pos) (Xk ta tb):=by
 intro pins s σ H Q I h;refine BoolOp_and (dR (ha pins s σ H _ I h) λv s1 ⟨x,H1,I1,r1,q1⟩=>?_);obtain⟨c,rfl,q1⟩:=q1;cases r1;refine mj ?_
 cases c with
 |true=>exact hb pins s1 σ H1 Q I1 q1
 |false=>exact⟨.bl ag,H1,I1,rfl,q1⟩
def aCQ(ha:PE X a ta):PE X (.UnaryOp .Not a pos) (Xj ta):=by intro pins s σ H Q I h;refine UnaryOp_ (dR (ha pins s σ H _ I h) λv s1 ⟨x,H1,I1,r1,q1⟩=>?_);obtain⟨c,rfl,q1⟩:=q1;cases r1;exact not_of (mj ⟨.bl (!c),H1,I1,rfl,q1⟩)
def Hs(t:TT)(ta tb:TE):TE:=λσ H Q=>t σ H λc H1=>if c=ae then ta σ H1 Q else tb σ H1 Q
theorem TK{c:ar}(hc:PT X c tA)(ha:PE X a ta)(hb:PE X b tb):PE X (.IfExp c a b pos) (Hs tA ta tb):=by
 intro pins s σ H Q I h;refine wpAny_IfExp (dR (hc pins s σ H _ I h) λd s1 ⟨H1,I1,q1⟩=>?_)
 cases d with
 |true=>exact ha pins s1 σ H1 Q I1 q1
 |false=>exact hb pins s1 σ H1 Q I1 q1
end
def eE(K:aq)(H:Hp)(a:ah)(xs:List V):Prop :=
 Rd H a (.lst xs) \/
  ∃(o:aw) (its:Array ai) (n:Nat),K.lookup a=aa o/\o.cls=.type "list" /\o.dict=af/\o.data=.seq its n/\its.size<=bg/\Vals xs its.toList
def fT(K:aq)(H:Hp)(a:ah)(xs:List V):Prop :=
 Rd H a (.tup xs) \/
  ∃(o:aw) (its:Array ai) (n:Nat),K.lookup a=aa o/\o.cls=.type "tuple" /\o.data=.seq its n/\its.size<=bg/\Vals xs its.toList
noncomputable def Qt:ai->Option V
 |.none=>aa .non
 |.bool b=>aa (.bl b)
 |.int i _=>aa (.int i)
 |.str x _=>aa (.str x)
 |.bytes b _=>aa (.NW b)
 |.float b _=>aa (.flt b)
 |.ref a=>aa (.ref a)
 |.type n=>aa (.ty n)
 |_=>af
theorem RelV.abs(r:RelV x u):Qt u=aa x:=by
 cases x with
 |non=>cases r;rfl
 |bl _=>cases r;rfl
 |int _=>obtain⟨t,rfl⟩:=r;rfl
 |str _=>obtain⟨t,rfl⟩:=r;rfl
 |NW _=>obtain⟨t,rfl⟩:=r;rfl
 |flt _=>obtain⟨t,rfl⟩:=r;rfl
 |ref _=>cases r;rfl
 |ty _=>cases r;rfl
def RelV.inj{x y:V}{u:ai}(r:RelV x u)(q:RelV y u):x=y:=df (r.abs.symm.trans q.abs)
theorem Vals.inj:∀{xs ys:List V} {us:Q0f},Vals xs us->Vals ys us->xs=ys
 |_,_,_,.nil,.nil=>rfl
 |_,_,_,.cons r t,.cons r' t'=>by rw[r.inj r',Vals.inj t t']
section
variable{X:Cx}{pins:Q0b}{σ:St}{H:Hp}{s:ao}{a:ah}{xs ys:List V}
def eE.of{K:aq}(h:H a=aa (.lst xs)):eE K H a xs:=.inl (.inl h)
def fT.of{K:aq}(h:H a=aa (.tup xs)):fT K H a xs:=.inl (.inl h)
def Inv.list(I:Inv X pins σ H s)(h:eE X.K H a xs):∃its:Q0f,Vals xs its/\PlainL s.heap a its.toArray/\xs.length<=bg:=by
 rcases h with h|⟨o,its,n,hk,hc,hd,hs,hz,r⟩
 .obtain ⟨z,its,n,r,e⟩:=h.ok I.hok;exact⟨its,r,⟨_,n,e,rfl,rfl,rfl⟩,z⟩
 .refine ⟨its.toList,r,⟨o,n,I.CY a o hk,hc,hd,by simpa using hs⟩,?_⟩;have e:=r.length;simp only[ve] at e;omega
def Inv.tuple(I:Inv X pins σ H s)(h:fT X.K H a xs):∃its:Q0f,Vals xs its/\jz s.heap a its.toArray/\xs.length<=bg:=by
 rcases h with h|⟨o,its,n,hk,hc,hs,hz,r⟩
 .obtain ⟨z,its,r,p,_⟩:=h.ok I.hok;exact⟨its,r,p,z⟩
 .refine ⟨its.toList,r,⟨o,I.CY a o hk,hc,n,by simpa using hs⟩,?_⟩;have e:=r.length;simp only[ve] at e;omega
def Inv.fU(I:Inv X pins σ H s)(h:eE X.K H a xs)(h':eE X.K H a ys):xs=ys:=by
 obtain⟨its,r,⟨o,n,e,_,_,d⟩,_⟩:=I.list h;obtain⟨its',r',⟨o',n',e',_,_,d'⟩,_⟩:=I.list h';rw[e] at e';cases e';rw[d] at d';injection d' with d1 _;have:its=its':=by simpa using congrArg a2S d1
 subst this;exact r.inj r'
def Inv.lB(I:Inv X pins σ H s)(h:fT X.K H a xs)(h':fT X.K H a ys):xs=ys:=by
 obtain⟨its,r,⟨o,e,_,n,d⟩,_⟩:=I.tuple h;obtain⟨its',r',⟨o',e',_,n',d'⟩,_⟩:=I.tuple h';rw[e] at e';cases e';rw[d] at d';injection d' with d1 _;have:its=its':=by simpa using congrArg a2S d1
 subst this;exact r.inj r'
end
abbrev Cx.wish(X:Cx)(E:Q0c):Cx:={X with xe:=E}
abbrev Cx.QM(X:Cx):Cx:=X.wish λ_ _=>False
def Cx.Ok.wish{X:Cx}(ok:X.Ok)(E:Q0c):(X.wish E).Ok :=
 ⟨ok.mod,ok.kind,ok.glob,ok.blt,ok.above,ok.inj,ok.has,ok.cab,ok.hd,ok.frames,ok.stk,ok.exf,ok.bs,ok.W9,ok.TC,ok.YO,ok.xG,ok.frf,ok.tab⟩
def Cx.Ok.m4{X:Cx}{E:Q0c}(ok:(X.wish E).Ok):X.Ok :=
 ⟨ok.mod,ok.kind,ok.glob,ok.blt,ok.above,ok.inj,ok.has,ok.cab,ok.hd,ok.frames,ok.stk,ok.exf,ok.bs,ok.W9,ok.TC,ok.YO,ok.xG,ok.frf,ok.tab⟩
section
variable{X:Cx}{pins:Q0b}{σ:St}{H:Hp}{s:ao}{E:Q0c}
def Inv.wish(I:Inv X pins σ H s)(E:Q0c):Inv (X.wish E) pins σ H s:=⟨I.ok.wish E,I.os,I.bare,I.base,I.loc,I.cell,I.free,I.l9,I.pin,I.hok,I.len⟩
def Inv.m4(I:Inv (X.wish E) pins σ H s):Inv X pins σ H s:=⟨I.ok.m4,I.os,I.bare,I.base,I.loc,I.cell,I.free,I.l9,I.pin,I.hok,I.len⟩
theorem SP.m4{D:Ends}{f:Flow}{s':ao}(h:SP (X.wish E) pins D f s'):SP X pins D f s':=by
 cases f with
 |next=>obtain⟨σ',H',I,q⟩:=h;exact⟨σ',H',I.m4,q⟩
 |brk=>obtain⟨σ',H',I,q⟩:=h;exact⟨σ',H',I.m4,q⟩
 |cont=>obtain⟨σ',H',I,q⟩:=h;exact⟨σ',H',I.m4,q⟩
 |ret u=>obtain⟨v,σ',H',I,r,q⟩:=h;exact⟨v,σ',H',I.m4,r,q⟩
def yQ.QM{st:List de}{t:TS}(h:yQ X.QM st t):yQ X st t:=λpins s σ H D I hw =>
 jx (h pins s σ H D (I.wish _) hw) (λ_ _ q=>q.m4) λ_ _ z=>ju z
end
section
variable{X:Cx}{st:de}{rest:List de}{t u:TS}{e:ar}{te:TE}{pos:bo}
def Xi:TS:=λD σ H=>D.nx σ H
def NY(t u:TS):TS:=λD σ H=>t {D with nx:=u D} σ H
def YU:yQ X [] Xi:=λ_ _ σ H _ I h=>xn ⟨σ,H,I,h⟩
theorem xI(h1:PS X st t)(h2:yQ X rest u):yQ X (st::rest) (NY t u):=by
 intro pins s σ H D I h;refine a0o (dR (h1 pins s σ H {D with nx:=u D} I h) λf s1 q=>?_)
 cases f with
 |next =>
  obtain⟨σ',H',I',q⟩:=q;exact h2 pins s1 σ' H' D I' q
 |ret v=>exact q
 |brk=>exact q
 |cont=>exact q
theorem LX(h1:PS X st t):yQ X [st] t:=by
 intro pins s σ H D I h;refine a0o (dR (h1 pins s σ H D I h) λf s1 q=>?_)
 cases f with
 |next=>exact xn q
 |ret v=>exact q
 |brk=>exact q
 |cont=>exact q
def Inv.quiet(I:Inv X pins σ H s):interactive X.env=ag:=by simp[interactive,I.ok.kind]
def Xh(te:TE):TS:=λD σ H=>te σ H λ_ H1=>D.nx σ H1
def LY(he:PE X e te)(hs:fj e af pos.line X.env=pure ag:=by rfl):PS X (.Expr e pos) (Xh te):=by intro pins s σ H D I h;exact wpAny_Expr_any (dR (he pins s σ H _ I h) λv s1 ⟨x,H1,I1,r1,q1⟩=>⟨σ,H1,I1,q1⟩) I.quiet hs
def Bp(te:TE):TS:=λD σ H=>te σ H D.rt
def TL(he:PE X e te):PS X (.Return (aa e) pos) (Bp te):=by intro pins s σ H D I h;exact wpAny_Return_some (dR (he pins s σ H _ I h) λv s1 ⟨x,H1,I1,r1,q1⟩=>⟨x,σ,H1,I1,r1,q1⟩)
def Qs(c:TT)(t u:TS):TS:=λD σ H=>c σ H λb H1=>if b=ae then t D σ H1 else u D σ H1
theorem Xg(hc:PT X c tc)(ha:yQ X a t)(hb:yQ X b u):PS X (.If c a b pos) (Qs tc t u):=by
 intro pins s σ H D I h;refine wpAny_If (dR (hc pins s σ H _ I h) λd s1 ⟨H1,I1,q1⟩=>?_)
 cases d with
 |true=>exact ha pins s1 σ H1 D I1 q1
 |false=>exact hb pins s1 σ H1 D I1 q1
end
abbrev TG:=V->St->Hp->(St->Hp->Prop)->Prop
abbrev TGs:=List V->St->Hp->(St->Hp->Prop)->Prop
def PG(X:Cx)(target:ar)(t:TG):Prop :=
 ∀(pins:Q0b) (s:ao) (σ:St) (H:Hp) (v:V) (u:ai) (Q:St->Hp->Prop),Inv X pins σ H s->RelV v u->t v σ H Q ->
  ax (ay X.prog X.w) X.A (assign target X.env u) (λ_ s'=>∃σ' H',Inv X pins σ' H' s'/\Q σ' H') X.xe s
def PGs(X:Cx)(ts:List ar)(t:TGs):Prop :=
 ∀(pins:Q0b) (s:ao) (σ:St) (H:Hp) (vs:List V) (us:Q0f) (Q:St->Hp->Prop),Inv X pins σ H s->Vals vs us->t vs σ H Q ->
  ax (ay X.prog X.w) X.A (assignInOrder ((ee ts X.env).map (·.2)) us) (λ_ s'=>∃σ' H',Inv X pins σ' H' s'/\Q σ' H') X.xe s
abbrev Bo:=V->V->V->Hp->(Hp->Prop)->Prop
def Bn(X:Cx)(t:Bo):Prop :=
 ∀(pins:Q0b) (s:ao) (σ:St) (H:Hp) (o i v:V) (ov iv u:ai) (Q:Hp->Prop),Inv X pins σ H s->RelV o ov->RelV i iv->RelV v u->t o i v H Q ->
  ax (ay X.prog X.w) X.A (setItem ov iv u) (λ_ s'=>∃H',Inv X pins σ H' s'/\Q H') X.xe s
section
variable{X:Cx}{pos:bo}
def TN(i:Nat):TG:=λv σ H Q=>Q (σ.set i (aa v)) H
def n5(hN:X.N.Nodup)(hi:X.N[i]?=aa x)(hx:Loc X.env.scope x)(hf:X.fn x=ae\/X.env.scope.names.lookup x=aa .local:=by first|exact .inl rfl|exact .inr rfl|assumption):PG X (.Name x pos) (TN i):=by intro pins s σ H v u Q I r h;exact a0q (qP I hN hi hx r (λs' I'=>⟨_,H,I',h⟩) hf)
def Rz:TGs:=λvs σ H Q=>vs=[]/\Q σ H
def Xf(t:TG)(u:TGs):TGs:=λvs σ H Q=>∃v r,vs=v::r/\t v σ H λσ' H'=>u r σ' H' Q
def LZ:PGs X [] Rz:=by intro pins s σ H vs us Q I r h;obtain⟨e,h⟩:=h;subst e;cases r;exact a1N ⟨σ,H,I,h⟩
theorem qQ(h1:PG X e t)(h2:PGs X es u)
  (hs:(ee (e::es) X.env).map (·.2)=assign e X.env::(ee es X.env).map (·.2):=by rfl):PGs X (e::es) (Xf t u):=by
 intro pins s σ H vs us Q I r h;obtain⟨v,vr,e1,h⟩:=h;subst e1
 cases r with
 |cons r rr =>
  rw[hs];refine Fv (dR (h1 pins s σ H _ _ _ I r h) λ_ s1 ⟨σ1,H1,I1,q1⟩=>?_);exact h2 pins s1 σ1 H1 _ _ Q I1 rr q1
def Ry(K:aq)(n:Nat)(t:TGs):TG:=λv σ H Q=>∃a xs,v=.ref a/\fT K H a xs/\xs.length=n/\t xs σ H Q
theorem TQ(hc:X.calm=ae)(h:PGs X es t)
  (hn:(ee es X.env).length=n:=by rfl) (hst:(ee es X.env).findIdx? (·.1)=af:=by rfl):PG X (.Tuple es k pos) (Ry X.K n t):=by
 intro pins s σ H v u Q I r hw;obtain⟨a,xs,e1,hq,hl,hw⟩:=hw;subst e1;cases r;obtain⟨its,rv,ht,hz⟩:=I.tuple hq;refine assign_Tuple_tuple (I.ok.hd hc) ht (by simp[hn,<- hl,rv.length]) hst λh' hx=>?_;have I1:Inv X pins σ H {s with heap:=h' }:=I.kept (t':=s.toks) λb o e=>hx b o (h_ (cb e)) e;exact h pins _ σ H xs _ Q I1 (by simpa using rv) hw
def Rx(to ti:TE)(t:Bo):TG:=λv σ H Q=>to σ H λo H1=>ti σ H1 λi H2=>t o i v H2 λH3=>Q σ H3
theorem aCR(ho:PE X o to)(hi:PE X i ti)(hs:Bn X t)
  (ha:∀v,assign (.Subscript o i pos) X.env v=(do
   let ov <- holding [v] (eval o X.env)
   let iv <- holding [v,ov] (eval i X.env)
   standAt pos
   holding [v,ov,iv] (setItem ov iv v)
   release [v,ov,iv] []):=by intro _;rfl):PG X (.Subscript o i pos) (Rx to ti t):=by
 intro pins s σ H v u Q I r h;rw[ha];refine au (jo (dR (ho pins s σ H _ I h) λov s1 ⟨x,H1,I1,r1,q1⟩=>?_));refine au (jo (dR (hi pins s1 σ H1 _ I1 q1) λiv s2 ⟨y,H2,I2,r2,q2⟩=>?_));refine au (tq (au (jo (dR (hs pins s2 σ H2 x y v ov iv u _ I2 r1 r2 r q2) λ_ s3 ⟨H3,I3,q3⟩=>?_))));exact wpAny_release ⟨σ,H3,I3,q3⟩
def wm(te:TE)(g:TG):TS:=λD σ H=>te σ H λx H1=>g x σ H1 D.nx
def TR(he:PE X e te)(hg:PG X tg g)(hs:swapsWithSole [tg] e pos.line X.env=pure ag:=by rfl)(hw:swappedStores [tg] e X.env=pure af:=by rfl)
  (h1:(ee [tg] X.env).map (·.2)=[assign tg X.env]:=by rfl):PS X (.Assign [tg] e pos) (wm te g):=by
 intro pins s σ H D I h;refine wpAny_Assign_stores (dR (he pins s σ H _ I h) λv s1 ⟨x,H1,I1,r1,q1⟩=>?_) hs hw;rw[h1];exact dR (hg pins s1 σ H1 x v _ I1 r1 q1) λ_ s2 q=>q
def lX(hN:X.N.Nodup)(hi:X.N[i]?=aa x)(hx:Loc X.env.scope x)(he:PE X e te)(hs:fj e (aa (.Name x pos')) pos.line X.env=pure ag:=by rfl)(hf:X.fn x=ae\/X.env.scope.names.lookup x=aa .local:=by first|exact .inl rfl|exact .inr rfl|assumption):
  PS X (.Assign [.Name x pos'] e pos) (wm te (TN i)):=by
 intro pins s σ H D I h;refine wpAny_Assign_Name (dR (he pins s σ H _ I h) λv s1 ⟨y,H1,I1,r1,q1⟩=>?_) hs;exact qP I1 hN hi hx r1 (λs2 I2=>⟨_,H1,I2,q1⟩) hf
def Ru(i j:Nat)(ta:TA):TS:=λD σ H=>ta σ H λvs H1=>∃v w,vs=[v,w]/\D.nx ((σ.set i (aa v)).set j (aa w)) H1
theorem aCT{kt k2 TU}(hc:X.calm=ae)(hN:X.N.Nodup)(hi:X.N[i]?=aa x)(hj:X.N[j]?=aa y)(hij:i≠j)
  (hx:X.env.scope.names.lookup x=aa .local) (hy:X.env.scope.names.lookup y=aa .local) (ha:PA X [a,b] ta)
  (hw:swappedStores [.Tuple [.Name x px,.Name y py] kt pt] (.Tuple [a,b] k2 TU) X.env=pure (aa [x,y]))
  (hs:swapsWithSole [.Tuple [.Name x px,.Name y py] kt pt] (.Tuple [a,b] k2 TU) pos.line X.env=pure ag:=by rfl):
  PS X (.Assign [.Tuple [.Name x px,.Name y py] kt pt] (.Tuple [a,b] k2 TU) pos) (Ru i j ta):=by
 intro pins s σ H D I h;rw[exec_Assign_arm];refine au (tq ?_);rw[hs];refine au (a_ ?_);rw[Zz (by decide)];refine au (Tuple_ (dR (ha _ pins s σ H _ I h) λus s1 ⟨vs,H1,I1,r1,q1⟩=>?_));obtain⟨v,w,e1,q1⟩:=q1;subst e1;obtain⟨u1,u2,rfl,rv,wL⟩:∃u1 u2,us=[u1,u2]/\RelV v u1/\RelV w u2:=by
  cases r1 with
  |cons p q =>
   cases q with
   |cons p' q' =>
    cases q';exact⟨_,_,rfl,p,p'⟩
 refine qi ?_ (by show 2<=bg;decide);have I2:Inv X pins σ H1 {s1 with heap:=s1.heap.push {cls:=.type "tuple",data:=.seq [u1,u2].toArray} }:=I1.kept (t':=s1.toks) λb o e=>di _ e;rw[hw];refine au (a_ ?_);show ax (ay X.prog X.w) X.A (do rule "assign.swapped-stores";let items <- unpackItems (.ref s1.heap.objs.size) 2 af;assignInOrder [λv=>bindName X.env y v,λv=>bindName X.env x v] items.reverse;pure a02) _ _ _;refine au (om (au (unpackItems_tuple (items:=#[u1,u2]) (I.ok.hd hc) (yt s1.heap _) λh' hx'=>?_)));have I3:=I2.kept (h':=h') (t':=s1.toks) λb o e=>hx' b o (h_ (cb e)) e;show ax _ _ (assignInOrder [λv=>bindName X.env y v,λv=>bindName X.env x v] [u2,u1] >>= λ_=>pure a02) _ _ _;refine au (Fv (a0p (qP I3 hN hj (.inl hy) wL (λs2 I4=>?_) (.inr hy))));refine Fv (a0p (qP I4 hN hi (.inl hx) rv (λs3 I5=>a1N (a_ ?_)) (.inr hx)));rw[List.set_comm _ _ (e_ hij)] at I5;exact⟨_,H1,I5,q1⟩
end
section
variable{X:Cx}{pos:bo}
def aCU(c:TT)(tb:TS):TS:=λD σ H=>∃W:Nat->St->Hp->Prop,(∃m,W m σ H) /\∀m σ H,W m σ H ->
 c σ H λb H1=>if b=ae then ∃N:St->Hp->Prop,(∀σ' H',N σ' H' ->∃m',m'<m/\W m' σ' H')/\tb {D with nx:=N,ct:=N,bk:=D.nx} σ H1 else D.nx σ H1
theorem TV(hp:qp (ay X.prog X.w) X.A X.env X.xe)(hc:PT X c tc)(hb:yQ X body tb):PS X (.While c body [] pos) (aCU tc tb):=by
 intro pins s σ H D I h;obtain⟨W,⟨m0,w0⟩,turn⟩:=h;refine wpAny_While (codeAny_whileLoop (λn s'=>∃σ' H',Inv X pins σ' H' s'/\W n σ' H') ?_ m0 ⟨σ,H,I,w0⟩);rintro n s1 ⟨σ1,H1,I1,w1⟩;refine oo hp (dR (hc pins s1 σ1 H1 _ I1 (turn n σ1 H1 w1)) λb s2 ⟨H2,I2,q2⟩=>?_)
 cases b with
 |true =>
  obtain⟨N,hN,q2⟩:=q2;rw[Z_ rfl];refine oo hp (dR (hb pins s2 σ1 H2 _ I2 q2) λf s3 q3=>?_)
  cases f with
  |next =>
   obtain⟨σ3,H3,I3,n3⟩:=q3;obtain⟨m',hm,w3⟩:=hN σ3 H3 n3;exact⟨m',hm,σ3,H3,I3,w3⟩
  |cont =>
   obtain⟨σ3,H3,I3,n3⟩:=q3;obtain⟨m',hm,w3⟩:=hN σ3 H3 n3;exact⟨m',hm,σ3,H3,I3,w3⟩
  |brk=>exact q3
  |ret v=>exact q3
 |false =>
  rw[Zz bt];exact xn ⟨σ1,H2,I2,q2⟩
end
structure It where
 go:Nat->Hp->Prop
 yld:Nat->Hp->V->Hp->Prop
 stop:Nat->Hp->Prop
def pL(X:Cx)(pins:Q0b)(H:Hp)(b:ah):Prop :=
 H b=af/\b≠X.env.locals/\b∉X.fs/\(b∈X.ex\/X.s₀.heap.objs.size<=b)/\(∀x c,X.env.cells.lookup x=aa c->c≠b) /\∀p∈X.pn++pins,p.1≠b
def Inv.C2(I:Inv X pins σ H s)(hb:s.heap.objs.size<=b)(hn:H' b=af):pL X pins H' b:=by
 refine⟨hn,m_ (fz I.lt hb),I.Qw hb,.inr (gn I.sz hb),λx c e z=>?_,λp hp z=>?_⟩
 .obtain ⟨v,q⟩:=I.cell x c e;exact Zw (fz q.lt (by rw[z];exact hb)) (j7 _)
 .exact Zw (fz (cb (I.pin p hp).1) (by rw[z];exact hb)) (j7 _)
structure Turn (P:bh) (w:bb) (K:aq) (tg:ar) (J:It) (fp:List ah) (it:ah) (tn:Nat->bf->Prop):Prop where
 mem:it∈fp
 obj:∀i h,tn i h ->∀b∈fp,∃o,h.get? b=aa o /\∀v,o.data≠.cell v
 keep:∀i h h',tn i h->(∀b∈fp,∀o,h.get? b=aa o->h'.get? b=aa o)->tn i h'
 item:∀(X:Cx),X.prog=P->X.w=w->X.K=K->X.calm=ae ->∀(i:Nat) (pins:Q0b) (s:ao) (σ:St) (H:Hp) (E:Q0c),Inv X pins σ H s->(∀b∈fp,pL X pins H b)->tn i s.heap->J.go i H ->
  ax (ay P w) X.A (pyNext (.ref it)) (λr s1=>∃u,r=aa u /\
   ax (ay P w) X.A (letOwnedTupleGo tg (.ref it) u) (λ_ s2=>∃x H',Inv X pins σ H' s2/\RelV x u/\J.yld i H x H'/\tn (i+1) s2.heap /\∀b∈fp,H' b=af) E s1) E s
 done:∀(X:Cx),X.prog=P->X.w=w->X.K=K->X.calm=ae ->∀(i:Nat) (pins:Q0b) (s:ao) (σ:St) (H:Hp) (E:Q0c),Inv X pins σ H s->(∀b∈fp,pL X pins H b)->tn i s.heap->J.stop i H ->
  ax (ay P w) X.A (pyNext (.ref it)) (λr s1=>r=af/\Inv X pins σ H s1) E s
 self:∀(A:bp) (i:Nat) (s:ao) (Q:Q0c) (E:Q0c),tn i s.heap->Q (.ref it) s->ax (ay P w) A (pyIter (.ref it)) Q E s
abbrev TI:=St->Hp->(It->Hp->Prop)->Prop
def PIE(X:Cx)(pins:Q0b)(σ:St)(tg:ar)(R:It->Hp->Prop)(itv:ai)(s2:ao):Prop :=
 ∃(it:ah) (fp:List ah) (tn:Nat->bf->Prop) (J:It) (H':Hp),itv=.ref it/\Inv X pins σ H' s2/\Turn X.prog X.w X.K tg J fp it tn/\tn 0 s2.heap/\(∀b∈fp,pL X pins H' b)/\R J H'
def PI(X:Cx)(tg iter:ar)(wi:TI):Prop :=
 ∀(pins:Q0b) (s:ao) (σ:St) (H:Hp) (R:It->Hp->Prop),Inv X pins σ H s->wi σ H R ->
  ax (ay X.prog X.w) X.A (eval iter X.env) (λv s1=>ax (ay X.prog X.w) X.A (pyIter v) (PIE X pins σ tg R) X.xe s1) X.xe s
theorem L1(ho:s.heap.get? it=aa o)(hc:o.cls=.type n)(hd:o.data=.fields vs)
  (hn:["enumerate","zip","dict_itemiterator","dict_reverseitemiterator","odict_iterator","itertools.zip_longest","itertools.pairwise"].contains n=ag) (hQ:Q () s):ax M A (letOwnedTupleGo tg (.ref it) u) Q E s:=by
 unfold letOwnedTupleGo;cases tg<;>first
  |exact a_ hQ
  | (cases u<;>first
    |exact a_ hQ
    | (refine au (Ei ho ?_)
       rw[hc,hd];show ax M A (if(["enumerate","zip","dict_itemiterator","dict_reverseitemiterator","odict_iterator","itertools.zip_longest","itertools.pairwise"].contains n&&vs[0]? == aa (rawInt _))=ae then _ else _) Q E s;rw[Zz (by intro h;rw[hn,zr] at h;cases h)];exact a_ hQ))
def Itl(K:aq)(a:ah):It :=
 ⟨λi H=>∃xs x,eE K H a xs/\xs[i]?=aa x,λi H x H'=>H'=H /\∀xs,eE K H a xs->xs[i]?=aa x,λi H=>∃xs,eE K H a xs/\xs.length<=i⟩
def Itt(K:aq)(a:ah):It :=
 ⟨λi H=>∃xs x,fT K H a xs/\xs[i]?=aa x,λi H x H'=>H'=H /\∀xs,fT K H a xs->xs[i]?=aa x,λi H=>∃xs,fT K H a xs/\xs.length<=i⟩
def Itr(lo:Int)(n:Nat):It:=⟨λi _=>i<n,λi H x H'=>H'=H/\x=.int (lo+i),λi _=>n<=i⟩
theorem NZ{P:bh}{w:bb}{K:aq}{tg:ar}(a it:ah):Turn P w K tg (Itl K a) [it] it (λi h=>h.IsListIter it a i) where
 mem:=by simp
 obj:=λi h st b hb=>by
  have e:b=it:=by simpa using hb
  subst e;obtain⟨o,e,c,d⟩:=st;exact⟨o,e,λv z=>by rw[d] at z;cases z⟩
 keep:=λi h h' st k=>st.at λo e=>k it (by simp) o e
 item:=by intro X hP hw hK hc i pins s σ H E I hf st hg;subst hP hw hK;obtain⟨xs,x,hq,hx⟩:=hg;obtain⟨its,rv,p,hz⟩:=I.list hq;obtain⟨u,hu,ru⟩:=rv.get hx;obtain⟨f0,f1,f2,f3,f4,f5⟩:=hf it (by simp);refine wpAny_pyNext_list_item st p.isList (x:=u) (by simpa using hu) λh' st' sb=>?_;have I1:Inv X pins σ H {s with heap:=h' }:=I.turned (t':=s.toks) (λb o hb e=>(sb.2 b hb).trans e) f0 f1 f3 f4 f5;obtain⟨o,e,c,d⟩:=id st';exact⟨u,rfl,L1 (s:={s with heap:=h' }) e c d (by decide) ⟨x,H,I1,ru,⟨rfl,λys hy=>by rw[I.fU hy hq];exact hx⟩,st',λb hb=>(hf b hb).1⟩⟩
 done:=by intro X hP hw hK hc i pins s σ H E I hf st hg;subst hP hw hK;obtain⟨xs,hq,hx⟩:=hg;obtain⟨its,rv,p,hz⟩:=I.list hq;obtain⟨f0,f1,f2,f3,f4,f5⟩:=hf it (by simp);have hl:=rv.length;exact wpAny_pyNext_list_end (I.ok.hd hc) st p.isList (by simp;omega) λh' eb=>⟨rfl,I.turned (t':=s.toks) (λb o hb e=>eb b o hb e) f0 f1 f3 f4 f5⟩
 self:=λ_ _ _ _ _ st h=>wpAny_pyIter_listiter st h
theorem IE{P:bh}{w:bb}{K:aq}{tg:ar}(a it:ah):Turn P w K tg (Itt K a) [it] it (λi h=>h.IsTupleIter it a i) where
 mem:=by simp
 obj:=λi h st b hb=>by
  have e:b=it:=by simpa using hb
  subst e;obtain⟨o,e,c,d⟩:=st;exact⟨o,e,λv z=>by rw[d] at z;cases z⟩
 keep:=λi h h' st k=>st.at λo e=>k it (by simp) o e
 item:=by intro X hP hw hK hc i pins s σ H E I hf st hg;subst hP hw hK;obtain⟨xs,x,hq,hx⟩:=hg;obtain⟨its,rv,p,hz⟩:=I.tuple hq;obtain⟨u,hu,ru⟩:=rv.get hx;obtain⟨f0,f1,f2,f3,f4,f5⟩:=hf it (by simp);refine wpAny_pyNext_tuple_item st (show s.heap.IsTuple a its.toArray from p) (x:=u) (by simpa using hu) λh' st' sb=>?_;have I1:Inv X pins σ H {s with heap:=h' }:=I.turned (t':=s.toks) (λb o hb e=>(sb.2 b hb).trans e) f0 f1 f3 f4 f5;obtain⟨o,e,c,d⟩:=id st';exact⟨u,rfl,L1 (s:={s with heap:=h' }) e c d (by decide) ⟨x,H,I1,ru,⟨rfl,λys hy=>by rw[I.lB hy hq];exact hx⟩,st',λb hb=>(hf b hb).1⟩⟩
 done:=by intro X hP hw hK hc i pins s σ H E I hf st hg;subst hP hw hK;obtain⟨xs,hq,hx⟩:=hg;obtain⟨its,rv,p,hz⟩:=I.tuple hq;obtain⟨f0,f1,f2,f3,f4,f5⟩:=hf it (by simp);have hl:=rv.length;exact wpAny_pyNext_tuple_end (I.ok.hd hc) st (show s.heap.IsTuple a its.toArray from p) (by simp;omega) λh' eb=>⟨rfl,I.turned (t':=s.toks) (λb o hb e=>eb b o hb e) f0 f1 f3 f4 f5⟩
 self:=λ_ _ _ _ _ st h=>wpAny_pyIter_tupleiter st h
theorem IF{P:bh}{w:bb}{K:aq}{tg:ar}(it:ah)(lo:Int)(n:Nat):Turn P w K tg (Itr lo n) [it] it (λi h=>a00 h it (lo+(i:Nat)*1) ((n:Int)-(i:Nat)) 1) where
 mem:=by simp
 obj:=λi h st b hb=>by
  have e:b=it:=by simpa using hb
  subst e;exact⟨_,st,λv z=>by have z':Data.fields _=Data.cell v:=z;cases z'⟩
 keep:=λi h h' st k=>k it (by simp) _ st
 item:=by intro X hP hw hK hc i pins s σ H E I hf st hg;subst hP hw hK;obtain⟨f0,f1,f2,f3,f4,f5⟩:=hf it (by simp);have W:=Walks.range (prog:=X.prog) (w:=X.w) (I.ok.hd hc) it lo 1 n;refine W.item i s _ _ hg st λv h' tk hv st' kk=>?_;obtain⟨t,rfl⟩:=hv;have I1:Inv X pins σ H {s with heap:=h',toks:=tk}:=I.turned (λb o hb e=>kk b o (by simpa using hb) e) f0 f1 f3 f4 f5;refine⟨_,rfl,L1 (s:={s with heap:=h',toks:=tk}) (n:="range_iterator") st' rfl rfl (by decide) ⟨.int (lo+i),H,I1,⟨t,?_⟩,⟨rfl,rfl⟩,st',λb hb=>(hf b hb).1⟩⟩;rw[Hg]
 done:=by intro X hP hw hK hc i pins s σ H E I hf st hg;subst hP hw hK;obtain⟨f0,f1,f2,f3,f4,f5⟩:=hf it (by simp);exact wpAny_pyNext_range_end (I.ok.hd hc) st (by have:n<=i:=hg;omega) λh' eb=>⟨rfl,I.turned (t':=s.toks) (λb o hb e=>eb b o hb e) f0 f1 f3 f4 f5⟩
 self:=λ_ _ _ _ _ st h=>wpAny_pyIter_rangeiter st h
section
variable{X:Cx}{tg:ar}
theorem FJ{pins:Q0b}{σ:St}{H:Hp}{s:ao}{R:It->Hp->Prop}{E:Q0c}{lo hi:Int}{t u v:Tok}{tk:Nat}(I:Inv X pins σ H s)(h1:-(2^62)<=lo)(h2:lo<2^62)(h3:-(2^62)<=hi)(h4:hi<2^62)
  (q:R (Itr lo (hi-lo).toNat) H):ax (ay X.prog X.w) X.A (pyIter (.ref s.heap.objs.size)) (PIE X pins σ tg R) E {s with heap:=s.heap.push {cls:=.type "range",data:=.fields #[.int lo t,.int hi u,.int 1 v]},toks:=tk}:=by
 refine wpAny_pyIter_range (IsRange.new ..) (En h1 h2 h3 h4) ?_;have I1:Inv X pins σ H {s with heap:=s.heap.push {cls:=.type "range",data:=.fields #[.int lo t,.int hi u,.int 1 v]},toks:=tk}:=I.kept λb o e=>di _ e;refine⟨(s.heap.push {cls:=.type "range",data:=.fields #[.int lo t,.int hi u,.int 1 v]}).objs.size,[(s.heap.push {cls:=.type "range",data:=.fields #[.int lo t,.int hi u,.int 1 v]}).objs.size],_,_,H,rfl,
  I1.kept (t':=tk) λb o e=>di _ e,IF _ lo (hi-lo).toNat,?_,λb hb=>?_,q⟩
 .have e1:lo+((0:Nat):Int)*1=lo:=by simp
  have e2:(((hi-lo).toNat:Nat):Int)-((0:Nat):Int)=yp lo hi 1:=by rw[Er];split<;>omega
  show a00 _ _ (lo+((0:Nat):Int)*1) ((((hi-lo).toNat:Nat):Int)-((0:Nat):Int)) 1;rw[e1,e2];exact gg _ rfl
 .have e:b=(s.heap.push {cls:=.type "range",data:=.fields #[.int lo t,.int hi u,.int 1 v]}).objs.size:=by simpa using hb
  subst e;exact I1.C2 (bc _) (I1.hok.fresh (bc _))
def Xe(ta:TA):TI:=λσ H R=>ta σ H λvs H1=>∃j:Int,vs=[.int j] /\ -(2^62)<=j/\j<2^62/\R (Itr 0 j.toNat) H1
def Xd(ta:TA):TI:=λσ H R=>ta σ H λvs H1=>∃i j:Int,vs=[.int i,.int j]/\(-(2^62)<=i/\i<2^62 /\ -(2^62)<=j/\j<2^62)/\R (Itr i (j-i).toNat) H1
theorem N0{a:ar}{ta:TA}{p pos:bo}(hg:Gl X "range")(hm:X.mg "range"=af)(ha:PA X [a] ta)(hs:av [a] X.env=[(ag,eval a X.env)]:=by rfl):PI X tg (.Call (.Name "range" p) [a] [] pos) (Xe ta):=by
 intro pins s σ H R I h;refine uf (lW I hg hm Ft (qu (dR (ha pos pins s σ H _ I h) λus s1 ⟨vs,H1,I1,r1,q1⟩=>?_) hs rfl));obtain⟨j,e,q1,q2,q⟩:=q1;subst e
 cases r1 with
 |cons r rr =>
  cases rr;obtain⟨t,rfl⟩:=r;exact a0F (FJ I1 (by omega) (by omega) q1 q2 (by simpa using q))
theorem N2(hg:Gl X "range")(hm:X.mg "range"=af)(ha:PA X [a,b] ta)(hs:av [a,b] X.env=[(ag,eval a X.env),(ag,eval b X.env)]:=by rfl)(hs2:av [b] X.env=[(ag,eval b X.env)]:=by rfl):
  PI X tg (.Call (.Name "range" p) [a,b] [] pos) (Xd ta):=by
 intro pins s σ H R I h;refine uf (lW I hg hm Ft (qu (dR (ha pos pins s σ H _ I h) λus s1 ⟨vs,H1,I1,r1,q1⟩=>?_) (by rw[hs,hs2]) (by rw[hs2];rfl)));obtain⟨i,j,e,⟨q1,q2,q3,q4⟩,q⟩:=q1;subst e
 cases r1 with
 |cons r rr =>
  cases rr with
  |cons r' rr =>
   cases rr;obtain⟨t,rfl⟩:=r;obtain⟨t',rfl⟩:=r';exact call_range_2 (FJ I1 q1 q2 q3 q4 q)
def Rr(wi:TI)(g:TG)(tb:TS):TS:=λD σ H=>wi σ H λJ H1=>∃W:Nat->Nat->St->Hp->Prop,(∃m,W 0 m σ H1) /\∀i m σ H,W i m σ H ->
 (J.stop i H/\D.nx σ H)\/(J.go i H /\∃N:St->Hp->Prop,(∀σ' H',N σ' H' ->∃m',m'<m/\W (i+1) m' σ' H') /\∀x H',J.yld i H x H'->g x σ H' λσ2 H2=>tb {D with nx:=N,ct:=N,bk:=D.nx} σ2 H2)
def xJ(fp:List ah)(h:bf):List (ah×aw):=fp.filterMap λb=>(h.get? b).map λo=>(b,o)
def lY(hb:b∈fp)(e:h.get? b=aa o):(b,o)∈xJ fp h:=zh.mpr ⟨b,hb,by rw[e];rfl⟩
theorem N3(hp:p∈xJ fp h):p.1∈fp/\h.get? p.1=aa p.2:=by
 obtain⟨b,hb,e⟩:=zh.mp hp
 cases q:h.get? b with
 |none=>rw[q] at e;cases e
 |some o =>
  rw[q] at e;have e':(b,o)=p:=df e;subst e';exact⟨hb,q⟩
def Inv.pinned(I:Inv X pins σ H s)(hf:∀b∈fp,pL X pins H b)(ho:∀b∈fp,∃o,s.heap.get? b=aa o /\∀v,o.data≠.cell v):Inv X (pins++xJ fp s.heap) σ H s :=
 I.C0 λp hp=>(ft.mp hp).elim (λz=>I.pin p (gc _ z)) λz=>by obtain⟨hb,e⟩:=N3 z;obtain⟨f0,f1,f2,_⟩:=hf p.1 hb;obtain⟨o,e',d⟩:=ho p.1 hb;rw[e] at e';cases e';exact⟨e,f0,f1,f2,d⟩
def Inv.iR(I:Inv X (pins++pl) σ H s):Inv X pins σ H s:=I.C0 λp hp=>I.pin p (gc _ (jh _ hp))
theorem aCV(hp:qp (ay X.prog X.w) X.A X.env X.xe)(hc:X.calm=ae)(hi:PI X tg iter wi)(hg:PG X tg g)(hb:yQ X body tb)
  (hs:∀x,foldedSetIterable iter X.env x=pure x:=by intro _;rfl):PS X (.For tg iter body [] pos) (Rr wi g tb):=by
 intro pins s σ H D I h;refine wpAny_For (dR (hi pins s σ H _ I h) λv s1 h1=>dR h1 λitv s2 h2=>?_) hs;obtain⟨it,fp,tn,J,H2,e,I2,T,st2,f2,W,⟨m0,w0⟩,turn⟩:=h2;subst e
 -- what stays ae of the iterator's objects through the loop
 have stat:∀{H':Hp},(∀b∈fp,H' b=af) ->∀b∈fp,pL X pins H' b:=λhn b hb=>⟨hn b hb,(f2 b hb).2⟩;refine codeAny_forLoop_any (λn s'=>∃i σ' H',Inv X pins σ' H' s'/\tn i s'.heap/\(∀b∈fp,H' b=af)/\W i n σ' H') ?_ m0 ⟨0,σ,H2,I2,st2,λb hb=>(f2 b hb).1,w0⟩;rintro n s3 ⟨i,σ3,H3,I3,st3,fr3,w3⟩;rcases turn i n σ3 H3 w3 with⟨stop,qn⟩|⟨go,N,hN,step⟩
 .refine oo hp (dR (T.done X rfl rfl rfl hc i pins s3 σ3 H3 X.xe I3 (stat fr3) st3 stop) λr s4 ⟨hr,I4⟩=>?_);subst hr;exact xn ⟨σ3,H3,I4,qn⟩
 .refine oo hp (dR (T.item X rfl rfl rfl hc i pins s3 σ3 H3 X.xe I3 (stat fr3) st3 go) λr s4 ⟨u,hr,h4⟩=>?_);subst hr;refine oo hp (dR h4 λ_ s5 ⟨x,H5,I5,r5,y5,st5,fr5⟩=>?_);have I5':=I5.pinned (stat fr5) (T.obj _ _ st5);refine oo hp (dR (hg _ s5 σ3 H5 x u _ I5' r5 (step x H5 y5)) λ_ s6 ⟨σ6,H6,I6,q6⟩=>?_);refine oo hp (dR (hb _ s6 σ6 H6 _ I6 q6) λf s7 q7=>?_);have again:∀{σ7:St} {H7:Hp},Inv X (pins++xJ fp s5.heap) σ7 H7 s7->N σ7 H7 ->∃m,m<n /\∃i σ' H',Inv X pins σ' H' s7/\tn i s7.heap/\(∀b∈fp,H' b=af)/\W i m σ' H':=λ{σ7 H7} I7 n7=>by obtain⟨m',hm,w7⟩:=hN σ7 H7 n7;refine⟨m',hm,i+1,σ7,H7,I7.iR,T.keep _ _ _ st5 λb hb o e=>(I7.pin (b,o) (gc _ (gc _ (lY hb e)))).1,λb hb=>?_,w7⟩;obtain⟨o,e,d⟩:=T.obj _ _ st5 b hb;exact(I7.pin (b,o) (gc _ (gc _ (lY hb e)))).2.1
  cases f with
  |next=>obtain⟨σ7,H7,I7,n7⟩:=q7;exact again I7 n7
  |cont=>obtain⟨σ7,H7,I7,n7⟩:=q7;exact again I7 n7
  |brk=>obtain⟨σ7,H7,I7,q7⟩:=q7;exact⟨σ7,H7,I7.iR,q7⟩
  |ret v=>obtain⟨x7,σ7,H7,I7,r7,q7⟩:=q7;exact⟨x7,σ7,H7,I7.iR,r7,q7⟩
end
abbrev R2:=V->V->Hp->VK->Prop
def j6(X:Cx)(f:ai->ai->Sem ai)(r:R2):Prop :=
 ∀(pins:Q0b) (s:ao) (σ:St) (H:Hp) (x y:V) (v u:ai) (Q:VK),Inv X pins σ H s->RelV x v->RelV y u->r x y H Q ->
  ax (ay X.prog X.w) X.A (f v u) (EP X pins σ Q) X.xe s
def UnR(X:Cx)(f:ai->Sem ai)(r:V->Hp->VK->Prop):Prop :=
 ∀(pins:Q0b) (s:ao) (σ:St) (H:Hp) (x:V) (v:ai) (Q:VK),Inv X pins σ H s->RelV x v->r x H Q ->
  ax (ay X.prog X.w) X.A (f v) (EP X pins σ Q) X.xe s
def iS(X:Cx)(f:ai)(r:List V->Hp->VK->Prop):Prop :=
 ∀(pins:Q0b) (s:ao) (σ:St) (H:Hp) (xs:List V) (us:Q0f) (Q:VK),Inv X pins σ H s->Vals xs us->r xs H Q ->
  ax (ay X.prog X.w) X.A (call f us) (EP X pins σ Q) X.xe s
def Rq(X:Cx)(r:V->Hp->(Bool->Hp->Prop)->Prop):Prop :=
 ∀(pins:Q0b) (s:ao) (σ:St) (H:Hp) (x:V) (v:ai) (Q:Bool->Hp->Prop),Inv X pins σ H s->RelV x v->r x H Q ->
  ax (ay X.prog X.w) X.A (truthy v) (TP X pins σ Q) X.xe s
def qg(r:R2)(ta tb:TE):TE:=λσ H Q=>ta σ H λx H1=>tb σ H1 λy H2=>r x y H2 Q
def Hq(r:V->Hp->VK->Prop)(ta:TE):TE:=λσ H Q=>ta σ H λx H1=>r x H1 Q
def rI(C:Int->Int->Prop)(g:Int->Int->V):R2:=λx y H Q=>∃i j,x=.int i/\y=.int j/\C i j/\Q (g i j) H
def TX(g:Int->Int->V):R2:=λx y H Q=>∃i j,x=.int i/\y=.int j/\Q (g i j) H
def rU(g:Int->V):V->Hp->VK->Prop:=λx H Q=>∃i,x=.int i/\Q (g i) H
section
variable{X:Cx}{a b c:ar}{ta tb tc:TE}{pos:bo}
theorem wj(ha:PE X a ta)(hb:PE X b tb){pins:Q0b}{s:ao}{σ:St}{H:Hp}{R:V->V->Hp->Prop}(I:Inv X pins σ H s)
  (h:ta σ H λx H1=>tb σ H1 λy H2=>R x y H2) {Q:Q0c} {f:ai->ai->Sem ai}
  (hf:∀v u s2 x y H2,Inv X pins σ H2 s2->RelV x v->RelV y u->R x y H2->ax (ay X.prog X.w) X.A (f v u) Q X.xe s2):
  ax (ay X.prog X.w) X.A (eval a X.env) (λv s₁=>ax (ay X.prog X.w) X.A (eval b X.env) (λu s₂=>ax (ay X.prog X.w) X.A (f v u) Q X.xe s₂) X.xe s₁) X.xe s:=by
 refine dR (ha pins s σ H _ I h) λv s1 hq3=>?_;obtain⟨x,H1,I1,r1,q1⟩:=hq3;refine dR (hb pins s1 σ H1 _ I1 q1) λu s2 hq4=>?_;obtain⟨y,H2,I2,r2,q2⟩:=hq4;exact hf v u s2 x y H2 I2 r1 r2 q2
def TY{op:Operator}{r:R2}(ho:j6 X (binaryOp op) r)(ha:PE X a ta)(hb:PE X b tb):PE X (.BinOp a op b pos) (qg r ta tb):=by intro pins s σ H Q I h;exact wpAny_BinOp (wj ha hb I h λv u s2 x y H2 I2 rx ry q=>ho pins s2 σ H2 x y v u Q I2 rx ry q)
def Xc(ho:UnR X (unaryOp op) r)(ha:PE X a ta):PE X (.UnaryOp op a pos) (Hq r ta):=by intro pins s σ H Q I h;exact UnaryOp_ (dR (ha pins s σ H _ I h) λv s1 ⟨x,H1,I1,r1,q1⟩=>ho pins s1 σ H1 x v Q I1 r1 q1)
theorem YV{f:ai->ai->Sem ai}{C:Int->Int->Prop}{g:Int->Int->Int}
  (rule:∀(i j:Int) (t u:Tok) (s:ao) (Q:Q0c) (E:Q0c),C i j->Q (.int (g i j) s.toks) {s with toks:=s.toks+1}->ax (ay X.prog X.w) X.A (f (.int i t) (.int j u)) Q E s):
  j6 X f (rI C λi j=>.int (g i j)):=by
 intro pins s σ H x y v u Q I rx ry h;obtain⟨i,j,rfl,rfl,hc,q⟩:=h;obtain⟨t,rfl⟩:=rx;obtain⟨t',rfl⟩:=ry;exact rule i j t t' s _ _ hc ⟨.int (g i j),H,I.tok _,⟨_,rfl⟩,q⟩
theorem Bm{f:ai->ai->Sem ai}{g:Int->Int->Int}
  (rule:∀(i j:Int) (t u:Tok) (s:ao) (Q:Q0c) (E:Q0c),Q (.int (g i j) s.toks) {s with toks:=s.toks+1}->ax (ay X.prog X.w) X.A (f (.int i t) (.int j u)) Q E s):
  j6 X f (TX λi j=>.int (g i j)):=by
 intro pins s σ H x y v u Q I rx ry h;obtain⟨i,j,rfl,rfl,q⟩:=h;obtain⟨t,rfl⟩:=rx;obtain⟨t',rfl⟩:=ry;exact rule i j t t' s _ _ ⟨.int (g i j),H,I.tok _,⟨_,rfl⟩,q⟩
theorem YW{f:ai->ai->Sem ai}{g:Int->Int->Bool}
  (rule:∀(i j:Int) (t u:Tok) (s:ao) (Q:Q0c) (E:Q0c),Q (.bool (g i j)) s->ax (ay X.prog X.w) X.A (f (.int i t) (.int j u)) Q E s):
  j6 X f (TX λi j=>.bl (g i j)):=by
 intro pins s σ H x y v u Q I rx ry h;obtain⟨i,j,rfl,rfl,q⟩:=h;obtain⟨t,rfl⟩:=rx;obtain⟨t',rfl⟩:=ry;exact rule i j t t' s _ _ ⟨.bl (g i j),H,I,rfl,q⟩
def Bl(i j:Int):Prop:=0<j/\j<1073741824
def wg(i j:Int):Prop:=0<=j/\j<=1000000/\i.natAbs<2^64
def YX(i j:Int):Prop:=(-(2^64)<i/\i<2^64)\/(-(2^64)<j/\j<2^64)
def YX.ok{i j:Int}(h:YX i j):ub i j:=by
 rcases h with⟨h1,h2⟩|⟨h1,h2⟩
 .exact .of_left (a0B h1 h2)
 .exact .of_right (a0B h1 h2)
def IG(k:Nat):(0:Int)<=2^k:=by rw[two_pow_cast];exact Int.natCast_nonneg _
def aCY:j6 X (binaryOp .Add) (TX λi j=>.int (i+j)):=Bm λ_ _ _ _ _ _ _ q=>add_int q
def aCZ:j6 X (binaryOp .Sub) (TX λi j=>.int (i-j)):=Bm λ_ _ _ _ _ _ _ q=>sub_int q
def YY:j6 X (binaryOp .FloorDiv) (rI Bl λi j=>.int (i/j)):=YV λi j _ _ _ _ _ hc q=>by have h1:(0:Int)<j:=hc.1;have h2:j<1073741824:=hc.2;exact floordiv_int (by omega) (by rw[a2K i (by omega)];exact q) (.inl (PyProof.noPylong_small (by omega)))
def aC0:j6 X (binaryOp .Mod) (rI (λ_ j=>0<j) λi j=>.int (i%j)):=YV λi j _ _ _ _ _ hc q=>by have h1:(0:Int)<j:=hc;exact mod_int' (by omega) (by rw[Int.fmod_eq_emod_of_nonneg i (by omega)];exact q)
def aC1:j6 X (binaryOp .Pow) (rI wg λi j=>.int (i^j.toNat)):=YV λ_ _ _ _ _ _ _ hc q=>pow_int_small hc.1 hc.2.1 hc.2.2 q
def aC2:j6 X (binaryOp .LShift) (rI wg λi j=>.int (i*2^j.toNat)):=YV λ_ _ _ _ _ _ _ hc q=>lshift_int_small hc.1 hc.2.1 hc.2.2 q
def aC3:j6 X (binaryOp .RShift) (rI (λ_ j=>0<=j) λi j=>.int (i/2^j.toNat)):=YV λi j _ _ _ _ _ hc q =>
 rshift_int hc (by rw[a2K i (IG _)];exact q)
theorem unI{f:ai->Sem ai}{g:Int->Int}
  (rule:∀(i:Int) (t:Tok) (s:ao) (Q:Q0c) (E:Q0c),Q (.int (g i) s.toks) {s with toks:=s.toks+1}->ax (ay X.prog X.w) X.A (f (.int i t)) Q E s):
  UnR X f (rU λi=>.int (g i)):=by
 intro pins s σ H x v Q I rx h;obtain⟨i,rfl,q⟩:=h;obtain⟨t,rfl⟩:=rx;exact rule i t s _ _ ⟨.int (g i),H,I.tok _,⟨_,rfl⟩,q⟩
def aC4:UnR X (unaryOp .USub) (rU λi=>.int (-i)):=unI λ_ _ _ _ _ q=>neg_int q
end
noncomputable def wu:V->V->Bool
 |.non,.non=>ae | .non,.int _=>ae | .int _,.non=>ae | .non,.bl _=>ae | .bl _,.non=>ae | .non,.str _=>ae | .str _,.non=>ae
 |.int _,.int _=>ae | .bl _,.bl _=>ae | .str _,.str _=>ae | .NW _,.NW _=>ae
 |.int _,.str _=>ae | .str _,.int _=>ae | .bl _,.str _=>ae | .str _,.bl _=>ae
 |_,_=>ag
def r9:R2:=λx y H Q=>wu x y=ae/\Q (.bl (Zv (x=y))) H
def zv:R2:=λx y H Q=>wu x y=ae/\Q (.bl (!Zv (x=y))) H
def C4:Zv (V.int i=V.int j)=(i == j):=by rw[rp];simp
def IH:Zv (V.bl i=V.bl j)=(i == j):=by rw[rp];simp
def C5:Zv (V.str i=V.str j)=(i == j):=by rw[rp];simp
def MA:Zv (V.NW i=V.NW j)=(i.toList == j.toList):=by rw[rp];cases i;cases j;simp
section
variable{X:Cx}{a b c:ar}{ta tb tc:TE}{pos:bo}
def cL(I:Inv X pins σ H s)(q:Q (.bl k) H)(e:k=k'):EP X pins σ Q (.bool k') s:=by subst e;exact⟨.bl k,H,I,rfl,q⟩
theorem TZ:j6 X (compareOp .Eq) r9:=by
 intro pins s σ H x y v u Q I rx ry h;obtain⟨hs,q⟩:=h
 cases x with
 |non =>
  cases rx
  cases y with
  |non=>cases ry;exact a3s (cL I q (by simp))
  |bl j=>cases ry;exact a3u (cL I q (by simp))
  |int j=>obtain⟨t',rfl⟩:=ry;exact a3t (cL I q (by simp))
  |str j=>obtain⟨t',rfl⟩:=ry;exact a3r (cL I q (by simp))
  |_=>exact Zw (show ag=ae from hs) bt
 |bl i =>
  cases rx
  cases y with
  |non=>cases ry;exact a3w (cL I q (by simp))
  |bl j=>cases ry;exact eq_bool (cL I q IH)
  |str j=>obtain⟨t',rfl⟩:=ry;exact a3E (cL I q (by simp))
  |_=>exact Zw (show ag=ae from hs) bt
 |int i =>
  obtain⟨t,rfl⟩:=rx
  cases y with
  |non=>cases ry;exact a3v (cL I q (by simp))
  |int j=>obtain⟨t',rfl⟩:=ry;exact eq_int (cL I q C4)
  |str j=>obtain⟨t',rfl⟩:=ry;exact a3D (cL I q (by simp))
  |_=>exact Zw (show ag=ae from hs) bt
 |str i =>
  obtain⟨t,rfl⟩:=rx
  cases y with
  |non=>cases ry;exact a3q (cL I q (by simp))
  |bl j=>cases ry;exact a3C (cL I q (by simp))
  |int j=>obtain⟨t',rfl⟩:=ry;exact a3B (cL I q (by simp))
  |str j=>obtain⟨t',rfl⟩:=ry;exact eq_str (cL I q C5)
  |_=>exact Zw (show ag=ae from hs) bt
 |NW i =>
  obtain⟨t,rfl⟩:=rx
  cases y with
  |NW j=>obtain⟨t',rfl⟩:=ry;exact PySem.W.eq_bytes (cL I q MA)
  |_=>exact Zw (show ag=ae from hs) bt
 |_=>cases y<;>exact Zw (show ag=ae from hs) bt
theorem Wt:j6 X (compareOp .NotEq) zv:=by
 intro pins s σ H x y v u Q I rx ry h;obtain⟨hs,q⟩:=h
 cases x with
 |non =>
  cases rx
  cases y with
  |non=>cases ry;exact a3l (cL I q (by simp))
  |bl j=>cases ry;exact a3n (cL I q (by simp))
  |int j=>obtain⟨t',rfl⟩:=ry;exact a3m (cL I q (by simp))
  |str j=>obtain⟨t',rfl⟩:=ry;exact a3k (cL I q (by simp))
  |_=>exact Zw (show ag=ae from hs) bt
 |bl i =>
  cases rx
  cases y with
  |non=>cases ry;exact a3p (cL I q (by simp))
  |bl j=>cases ry;exact ne_bool (cL I q (congrArg not IH))
  |str j=>obtain⟨t',rfl⟩:=ry;exact a3A (cL I q (by simp))
  |_=>exact Zw (show ag=ae from hs) bt
 |int i =>
  obtain⟨t,rfl⟩:=rx
  cases y with
  |non=>cases ry;exact a3o (cL I q (by simp))
  |int j=>obtain⟨t',rfl⟩:=ry;exact ne_int (cL I q (congrArg not C4))
  |str j=>obtain⟨t',rfl⟩:=ry;exact a3z (cL I q (by simp))
  |_=>exact Zw (show ag=ae from hs) bt
 |str i =>
  obtain⟨t,rfl⟩:=rx
  cases y with
  |non=>cases ry;exact a3j (cL I q (by simp))
  |bl j=>cases ry;exact a3y (cL I q (by simp))
  |int j=>obtain⟨t',rfl⟩:=ry;exact a3x (cL I q (by simp))
  |str j=>obtain⟨t',rfl⟩:=ry;exact ne_str (cL I q (congrArg not C5))
  |_=>exact Zw (show ag=ae from hs) bt
 |NW i =>
  obtain⟨t,rfl⟩:=rx
  cases y with
  |NW j=>obtain⟨t',rfl⟩:=ry;exact PySem.W.ne_bytes (cL I q (congrArg not MA))
  |_=>exact Zw (show ag=ae from hs) bt
 |_=>cases y<;>exact Zw (show ag=ae from hs) bt
def Ws:j6 X (compareOp .Lt) (TX λi j=>.bl (Zv (i<j))):=YW λ_ _ _ _ _ _ _ q=>lt_int q
def Wq:j6 X (compareOp .LtE) (TX λi j=>.bl (Zv (i<=j))):=YW λ_ _ _ _ _ _ _ q=>le_int q
def Wo:j6 X (compareOp .Gt) (TX λi j=>.bl (Zv (j<i))):=YW λ_ _ _ _ _ _ _ q=>gt_int q
def Wn:j6 X (compareOp .GtE) (TX λi j=>.bl (Zv (j<=i))):=YW λ_ _ _ _ _ _ _ q=>ge_int q
def T2:j6 X (compareOp .Is) (λx y H Q=>y=.non/\Q (.bl (Zv (x=.non))) H):=by
 intro pins s σ H x y v u Q I rx ry h;obtain⟨rfl,q⟩:=h;cases ry;refine is_none_gen (cL I q ?_);cases x<;>first
  | (cases rx;rfl)
  | (obtain⟨t,rfl⟩:=rx;rfl)
def j6.or(h:j6 X f r)(h':j6 X f r'):j6 X f (λx y H Q=>r x y H Q\/r' x y H Q):=by
 intro pins s σ H x y v u Q I rx ry q;rcases q with q|q
 .exact h pins s σ H x y v u Q I rx ry q
 .exact h' pins s σ H x y v u Q I rx ry q
def kJ(b:ar)(h:op≠.In:=by decide)(h2:op≠.NotIn:=by decide):behindInMarks op b=ag:=by
 have e1:(op == CmpOp.In)=ag:=by cases op<;>first|rfl|exact Zw rfl h
 have e2:(op == CmpOp.NotIn)=ag:=by cases op<;>first|rfl|exact Zw rfl h2
 cases b<;>simp[behindInMarks,e1,e2]
def YZ{op:CmpOp}{r:R2}(ho:j6 X (compareOp op) r)(ha:PE X a ta)(hb:PE X b tb)(hm:behindInMarks op b=ag):PE X (.Compare a [op] [b] pos) (qg r ta tb):=by intro pins s σ H Q I h;exact wpAny_Compare1 (wj ha hb I h λv u s2 x y H2 I2 rx ry q=>ho pins s2 σ H2 x y v u Q I2 rx ry q) hm
def MB(t:TE):TT:=λσ H Q=>t σ H λx H'=>∃k,x=.bl k/\Q k H'
theorem Y0(ho:j6 X (compareOp op) r)(ha:PE X a ta)(hb:PE X b tb)(hm:behindInMarks op b=ag):PT X (.Compare a [op] [b] pos) (MB (qg r ta tb)):=by
 intro pins s σ H Q I h;refine a0k (dR (ha pins s σ H _ I h) λv s1 ⟨x,H1,I1,r1,q1⟩=>dR (hb pins s1 σ H1 _ I1 q1) λu s2 ⟨y,H2,I2,r2,q2⟩ =>
  dR (ho pins s2 σ H2 x y v u _ I2 r1 r2 q2) λc s3 ⟨z,H3,I3,r3,k,e,q3⟩=>?_) hm
 subst e;cases r3;exact mj ⟨H3,I3,q3⟩
def Bk(K:aq)(x:V)(H:Hp)(k:Bool):Prop :=
 match x with
 |.non=>k=ag
 |.bl b=>k=b
 |.int i=>k=(i !=0)
 |.str y=>y.length<=bg/\k=((y.length:Int) !=0)
 |.NW y=>y.size<=bg/\k=((y.size:Int) !=0)
 |.ref p=>(∃xs,eE K H p xs/\k=!xs.isEmpty)\/(∃xs,fT K H p xs/\k=!xs.isEmpty) \/∃kvs,H p=aa (.dK kvs)/\k=!kvs.isEmpty
 |_=>False
def II{κ:Type}{kvs:List (κ×V)}{vs:List (κ×ai)}(r:KV kvs vs):(!vs.isEmpty)=!kvs.isEmpty:=by cases r<;>rfl
def lZ{xs:List V}{its:Q0f}(r:Vals xs its):(!its.toArray.isEmpty)=!xs.isEmpty:=by cases r<;>simp
def xK:(bg:Nat)<2^63:=by rw[gx];decide
theorem aC6:Rq X (λx H Q=>∃k,Bk X.K x H k/\Q k H):=by
 intro pins s σ H x v Q I rx h;obtain⟨k,e,q⟩:=h;have hl:=xK;have hs:bg=16777216:=gx
 cases x with
 |non =>
  cases rx;have e':k=ag:=e;subst e';exact truthy_none ⟨H,I,q⟩
 |bl b =>
  cases rx;have e':k=b:=e;subst e';exact mj ⟨H,I,q⟩
 |int i =>
  obtain⟨t,rfl⟩:=rx;have e':k=(i !=0):=e;subst e';exact PySem.P.truthy_int ⟨H,I,q⟩
 |str y =>
  obtain⟨t,rfl⟩:=rx;obtain⟨hy,e'⟩:y.length<=bg/\k=((y.length:Int) !=0):=e;subst e';exact PySem.P.truthy_str (by omega) ⟨H,I.tok _,q⟩
 |NW y =>
  obtain⟨t,rfl⟩:=rx;obtain⟨hy,e'⟩:y.size<=bg/\k=((y.size:Int) !=0):=e;subst e';exact PySem.W.truthy_bytes (by omega) ⟨H,I.tok _,q⟩
 |ref p =>
  cases rx;have e':(∃xs,eE X.K H p xs/\k=!xs.isEmpty)\/(∃xs,fT X.K H p xs/\k=!xs.isEmpty) \/∃kvs,H p=aa (.dK kvs)/\k=!kvs.isEmpty:=e;rcases e' with⟨xs,hx,e'⟩|⟨xs,hx,e'⟩|⟨kvs,hx,e'⟩
  .subst e';obtain⟨its,r,pl,hz⟩:=I.list hx;have hlen:=r.length;exact a0b pl.isList (by simp only[cf];omega) ⟨H,I.tok _,by rw[lZ r];exact q⟩
  .subst e';obtain⟨its,r,pl,hz⟩:=I.tuple hx;have hlen:=r.length;exact a1y pl (by simp only[cf];omega) ⟨H,I.tok _,by rw[lZ r];exact q⟩
  .subst e';obtain⟨hz,hS,vs,r,m⟩:kvs.length<=bg/\(p == sysModules)=ag /\∃vs,KV kvs vs/\s.heap.DictOf (bC X.prog X.w) p vs:=I.hok p _ hx;have hlen:kvs.length=vs.length:=qq r;exact wpAny_truthy_dict hS m (by omega) ⟨H,I.tok _,by rw[II r];exact q⟩
 |_=>exact(show False from e).elim
theorem T4(ha:PE X a ta)(he:∀whole,isTrue a X.env whole=(do let v <- whole;standAt a.pos;holding [v] (truthy v))):
  PT X a (λσ H Q=>ta σ H λx H'=>∃k,Bk X.K x H' k/\Q k H'):=by
 intro pins s σ H Q I h;exact isTrue_plain (dR (ha pins s σ H _ I h) λv s1 ⟨x,H1,I1,r1,q1⟩=>aC6 pins s1 σ H1 x v Q I1 r1 q1) (he _)
def IJ:j6 X (binaryOp .Add) (λx y H Q=>∃i j,x=.str i/\y=.str j/\i.length+j.length<=bg/\Q (.str (i++j)) H):=by intro pins s σ H x y v u Q I rx ry h;obtain⟨i,j,rfl,rfl,hz,q⟩:=h;obtain⟨t,rfl⟩:=rx;obtain⟨t',rfl⟩:=ry;exact add_str (λt' tk=>⟨.str (i++j),H,I.tok _,⟨_,rfl⟩,q⟩) hz
theorem vals1(r:Vals [x] us):∃u,us=[u]/\RelV x u:=by
 cases r with
 |cons r1 r2=>cases r2;exact⟨_,rfl,r1⟩
theorem vals2(r:Vals [x,y] us):∃u w',us=[u,w']/\RelV x u/\RelV y w':=by
 cases r with
 |cons r1 r2 =>
  cases r2 with
  |cons r3 r4=>cases r4;exact⟨_,_,rfl,r1,r3⟩
end
structure wt (h:bf) (x dx C:ah) (mA:Q0d):Prop where
 obj:h.get? x=aa (instObj C dx)
 ns:h.Ns1 dx mA
 ne:dx≠x
def N4{h:bf}{dx:ah}{mA:Q0d}(n:h.Ns1 dx mA):∃od,h.get? dx=aa od /\∀name,lookIn name od=aa (mA name):=by
 obtain⟨o,es,ep,ho,hd,hk,_,hm⟩:=n;refine⟨o,ho,λname=>?_⟩;have e:=hm name;unfold nsFind findBy at e;rw[<- Array.find?_toList] at e;unfold lookIn;rw[hd];dsimp only;split
 .rename_i y q;rw[q] at e;exact congrArg aa e
 .rename_i q;rw[q] at e;have a:es.toList.any (·.refKey)=ag:=by rw[He];intro y hy;obtain⟨z,t,hkey⟩:=hk y (Array.mem_toList_iff.mp hy);simp[a3F,hkey]
  have a':¬ es.toList.any (·.refKey)=ae:=by rw[a];exact bt
  rw[Zz a'];exact congrArg aa e
def wt.look(I:wt h x dx C mA):∃od,PySem.W.InstAt h x (instObj C dx) C (aa od) /\∀name,lookIn name od=aa (mA name) :=
 let ⟨od,ho,hl⟩:=N4 I.ns
 ⟨od,⟨I.obj,rfl,rfl,ho⟩,hl⟩
theorem mX.some_of(r:mX (aa v) o):∃u,o=aa u/\RelV v u:=by
 cases o with
 |none=>exact(show False from r).elim
 |some u=>exact⟨u,rfl,r⟩
section
variable{P:bh}{w:bb}{H H':Hp}{h h':bf}{a C dx:ah}{fs fs':List (ak×V)}
def Y1(hok:oI P w H h)(e:H a=aa (.ins C dx fs)):∃mA,wt h a dx C mA/\(∀f,mX (fs.lookup f) (mA f))/\a0I mA (fs.map (·.1))/\fs.length<=1000/\H dx=aa (.own a):=by obtain⟨d,z,ne,ob,mA,n,r,q⟩:=(show dP P w H h a (.ins C dx fs) from hok a _ e);exact⟨mA,⟨ob,n,ne⟩,r,q,z,d⟩
end
structure Cls (K:aq) (C:ah):Prop where
 pg:a0L K C Str.empty=ae
 hd:PySem.W.hasDictIn K C=ae
 po:PySem.W.plainOver K C=ae
 sa:t_ K (.ref C) "__setattr__"=aa (aa (.builtin "object.__setattr__"))
def Cls.get{K:aq}{C:ah}(c:Cls K C)(f:ak):a0L K C f=ae:=c.pg
structure Con (K:aq) (C:ah) (f:ak) (v:V) (u:ai):Prop where
 at_:t_ K (.ref C) f=aa (aa u)
 rel:RelV v u
 get:a0K K u "__get__"=aa af
 cp:PySem.W.copiedNames.contains f=ag
structure Meth (K:aq) (C:ah) (m:ak) (f:ah):Prop where
 at_:t_ K (.ref C) m=aa (aa (.ref f))
 fn:a0O K (.ref f)=ae
 kp:keepIn K (.ref f)=ae
section
variable{X:Cx}{pins:Q0b}{σ:St}{H:Hp}{s:ao}{A:bp}{E:Q0c}{Q:Q0c}{c:ai}{b:Bool}
inductive qR (K:aq) (H:Hp):V->ai->Prop where
 |non:qR K H .non (.type "NoneType")
 |bl (x:Bool):qR K H (.bl x) (.type "bool")
 |int (i:Int):qR K H (.int i) (.type "int")
 |str (x:ak):qR K H (.str x) (.type "str")
 |flt (x:UInt64):qR K H (.flt x) (.type "float")
 |lst {a:ah} {xs:List V} (e:H a=aa (.lst xs)):qR K H (.ref a) (.type "list")
 |yP {a:ah} {o:aw} {xs:List V} (e:H a=aa (.yP o (.lst xs))):qR K H (.ref a) (.type "list")
 |tup {a:ah} {xs:List V} (e:H a=aa (.tup xs)):qR K H (.ref a) (.type "tuple")
 |dK {a:ah} {kvs:List (Key×V)} (e:H a=aa (.dK kvs)):qR K H (.ref a) (.type "dict")
 |dT {a:ah} {kvs:List (List Key×V)} (e:H a=aa (.dT kvs)):qR K H (.ref a) (.type "dict")
 |ins {a C dx:ah} {fs:List (ak×V)} (e:H a=aa (.ins C dx fs)) (cl:Cls K C) (ha:t_ K (.ref C) "__class__"=aa (aa (.builtin "object.__class__")))
   (hn:a0K K (.builtin "object.__class__") "__get__"=aa (aa (.builtin "getset_descriptor.__get__"))) (htk:PySem.W.takesIn K (.builtin "object.__class__")=aa ae)
   (hm:PySem.W.mroIn K C (.type "object")=aa ae):qR K H (.ref a) (.ref C)
theorem N5(I:Inv X pins σ H s)(rx:RelV x u)(ty:qR X.K H x t)(e:E_ X.K t c=aa b)(h:∀tk,Q (.bool b) {s with toks:=tk}):
  ax (ay X.prog X.w) A (call (.builtin "isinstance") [u,c]) Q E s:=by
 cases ty with
 |non=>cases (show u=js from rx);exact jq PySem.W.kitx_none I.CY jn e (λz=>nomatch z) h
 |bl y=>cases (show u=yb y from rx);exact jq PySem.W.kitx_bool I.CY jn e (λz=>nomatch z) h
 |int i=>obtain⟨t,q⟩:=(show ∃t,u=o_ i t from rx);cases q;exact jq PySem.W.kitx_int I.CY jn e (λz=>nomatch z) h
 |str y=>obtain⟨t,q⟩:=(show ∃t,u=ya y t from rx);cases q;exact jq PySem.W.kitx_str I.CY jn e (λz=>nomatch z) h
 |flt y=>obtain⟨t,q⟩:=(show ∃t,u=a0U y t from rx);cases q;exact jq PySem.W.kitx_float I.CY jn e (λz=>nomatch z) h
 | @lst a xs ea =>
  cases (show u=fu a from rx);obtain⟨_,_,n,_,h1⟩:=(show dP X.prog X.w H s.heap a (.lst xs) from I.hok a _ ea);exact jq Ez I.CY ⟨_,h1,rfl⟩ e (λz=>nomatch z) h
 | @yP a ob xs ea =>
  cases (show u=fu a from rx);obtain⟨_,_,_,n,_,h1⟩:=(show dP X.prog X.w H s.heap a (.yP ob (.lst xs)) from I.hok a _ ea);exact jq Ez I.CY ⟨_,h1,rfl⟩ e (λz=>nomatch z) h
 | @tup a xs ea =>
  cases (show u=fu a from rx);obtain⟨_,_,_,p,_⟩:=(show dP X.prog X.w H s.heap a (.tup xs) from I.hok a _ ea);obtain⟨o,h1,h2,_⟩:=p;exact jq a0M I.CY ⟨o,h1,h2⟩ e (λz=>nomatch z) h
 | @dK a kvs ea =>
  cases (show u=fu a from rx);obtain⟨_,_,vs,_,p⟩:=(show dP X.prog X.w H s.heap a (.dK kvs) from I.hok a _ ea);obtain⟨o,es,ep,h1,h2,_⟩:=p;exact jq a0N I.CY ⟨o,h1,h2.1⟩ e (λz=>nomatch z) h
 | @dT a kvs ea =>
  cases (show u=fu a from rx);obtain⟨_,_,xs,_,o,es,ep,h1,h2,_⟩:=(show dP X.prog X.w H s.heap a (.dT kvs) from I.hok a _ ea);exact jq a0N I.CY ⟨o,h1,h2.1⟩ e (λz=>nomatch z) h
 | @ins a C dx fs ea cl ha hn htk hm =>
  cases (show u=fu a from rx);obtain⟨mA,O,_⟩:=Y1 I.hok ea;obtain⟨od,J,_⟩:=O.look;exact jq (PySem.W.kitx_own (cl.get _) cl.hd ha hn htk hm) I.CY J e (λz=>nomatch z) h
end
structure fN (k:Nat) (A:bp):Prop where
 hd:A.handled=af
 dp:A.depth+3*k+5<recursionLimit
 un:A.units+16*k+200<cx
def fN.mono(r:fN k A)(h:j<=k):fN j A:=⟨r.hd,by have:=r.dp;omega,by have:=r.un;omega⟩
def fN.deeper(r:fN (k+1) A)(env:fm):fN k (A.deeper env) :=
 ⟨r.hd,by have:=r.dp;show A.depth+1+3*k+5<_;omega,by have:=r.un;show A.units+3+16*k+200<_;omega⟩
def fN.depth(r:fN k A):A.depth<recursionLimit:=by have:=r.dp;omega
def fN.units(r:fN k A):A.units+64<cx:=by have:=r.un;omega
def Bj:TA:=λ_ H Q=>Q [] H
def Dg(ta:TE)(tr:TA):TA:=λσ H Q=>ta σ H λx H1=>tr σ H1 λxs H2=>Q (x::xs) H2
section
variable{X:Cx}{e:ar}{es:List ar}{te:TE}{t:TA}{pos:bo}
def sZ:PA X [] Bj:=λ_ _ _ _ H Q I h=>a1m ⟨[],H,I,.nil,h⟩
def j8(ha:PE X e te)(hr:PA X es t)(hs:av (e::es) X.env=(ag,eval e X.env)::av es X.env:=by rfl):PA X (e::es) (Dg te t):=by intro pos pins s σ H Q I h;rw[hs];show ax _ _ (spliced ((ag,eval e X.env)::fq pos (av es X.env))) _ _ s;refine Fj (dR (ha pins s σ H _ I h) λu s1 ⟨x,H1,I1,r1,q1⟩=>?_);exact dR (hr pos pins s1 σ H1 _ I1 q1) λus s2 hq5=>by obtain⟨xs,H2,I2,r2,q2⟩:=hq5;exact⟨x::xs,H2,I2,.cons r1 r2,q2⟩
def Qr(t:TA):TE:=λσ H Q=>t σ H λxs H1=>xs.length<=bg /\∀p,H1 p=af->Q (.ref p) (upd H1 p (.tup xs))
def Qq(t:TA):TE:=λσ H Q=>t σ H λxs H1=>xs.length<=bg /\∀p,H1 p=af->Q (.ref p) (upd H1 p (.lst xs))
def aC8{x1}(h:PA X es t):PE X (.Tuple es x1 pos) (Qr t):=by intro pins s σ H Q I hq;refine wpAny_Tuple_spliced (dR (h pos pins s σ H _ I hq) λus s1 ⟨xs,H1,I1,r,z,q⟩=>⟨by rw[<- r.length];exact z,?_⟩);have hf:H1 s1.heap.objs.size=af:=I1.hok.fresh (bc _);refine⟨.ref s1.heap.objs.size,upd H1 s1.heap.objs.size (.tup xs),I1.laid (t':=s1.toks) (λb u e=>di _ e) (bc _) ?_,rfl,q _ hf⟩;exact⟨z,us,r,⟨_,gg _ rfl,rfl,_,rfl⟩,FG.new _ _⟩
def aC9(h:PA X es t):PE X (.List es pos) (Qq t):=by intro pins s σ H Q I hq;refine wpAny_List_spliced (dR (h pos pins s σ H _ I hq) λus s1 ⟨xs,H1,I1,r,z,q⟩=>⟨by rw[<- r.length];exact z,?_⟩);have hf:H1 s1.heap.objs.size=af:=I1.hok.fresh (bc _);refine⟨.ref s1.heap.objs.size,upd H1 s1.heap.objs.size (.lst xs),I1.laid (t':=s1.toks) (λb u e=>di _ e) (bc _) ?_,rfl,q _ hf⟩;exact⟨z,us,0,r,gg _ rfl⟩
end
abbrev Sp:=List V->Hp->VK->XK->Prop
abbrev MC:=List fm->Hp->ao->XK->ai->ao->Prop
structure Y2 (P:bh) (w:bb) (K:aq) (mg:Q0d) (base:bf) (A:bp) (outer:List fm) (s:ao) (H:Hp):Prop where
 frames:A.frames=aa outer
 mod:Mod K mg base
 bs:∀b o,base.get? b=aa o->s.heap.get? b=aa o/\H b=af
 W9:base.objs.size<=s.heap.objs.size
 xG:s.heap.FunFrames base outer
 frf:∀b∈frs outer,H b=af
 hok:oI P w H s.heap
 bare:lr s.gens
 tab:YN K base H
def CE(outer:List fm)(P:bh)(w:bb)(H:Hp)(s:ao)(Q:VK)(u:ai)(s':ao):Prop :=
 ∃v H',s'.os=s.os/\lr s'.gens/\Un (frs outer) [] H H' s.heap s'.heap/\oI P w H' s'.heap/\RelV v u/\Q v H'
def CR(CX:MC)(outer:List fm)(P:bh)(w:bb)(H:Hp)(s:ao)(Q:VK)(E:XK)(r:Result)(s':ao):Prop :=
 match r with
 |.ok (.ret u)=>CE outer P w H s Q u s'
 |.ok _=>False
 |.error e=>CX outer H s E e s'
structure lC (P:bh) (w:bb) (K:aq) (mg:Q0d) (base:bf) (CX:MC) (k:Nat) (f:ah) (fd:gi) (ps:Q0g) (sp:Sp):Prop where
 len:∀vs H Q E,sp vs H Q E->vs.length=ps.length
 run:∀(A:bp) (outer:List fm) (s:ao) (H:Hp) (args:Args) (us:Q0f) (vs:List V) (Q:VK) (E:XK),fN k A->Y2 P w K mg base A outer s H->pd s fd args (ps.zip us)->Vals vs us->sp vs H Q E ->
  ou (ay P w) A (.call (.ref f) args) (CR CX outer P w H s Q E) s
theorem lC.mono{P:bh}{w:bb}{K:aq}{mg:Q0d}{base:bf}{CX:MC}{j k:Nat}{f:ah}{fd:gi}{ps:Q0g}{sp:Sp}(F:lC P w K mg base CX j f fd ps sp)(h:j<=k):
  lC P w K mg base CX k f fd ps sp:=⟨F.len,λA outer s H args us vs Q E hr=>F.run A outer s H args us vs Q E (hr.mono h)⟩
section
variable{X:Cx}{pins:Q0b}{σ:St}{H:Hp}{s s':ao}
def Inv.env0(I:Inv X pins σ H s):Y2 X.prog X.w X.K X.mg X.base X.A X.stack s H :=
 ⟨I.ok.frames,I.ok.mod,I.bs,gn I.ok.W9 I.sz,I.stack,I.CZ,I.hok,I.bare,I.tab⟩
def Inv.after(I:Inv X pins σ H s)(h:CE X.stack X.prog X.w H s Q u s'):EP X pins σ Q u s':=by obtain⟨v,H',os,bare,un,hok,r,q⟩:=h;obtain⟨hh,g,d,t,os'⟩:=s';obtain rfl:os'=s.os:=os;exact⟨v,H',I.call (h':=hh) (g':=g) (d':=d) (t':=t) (ch:=[]) un hok bare (λb z=>Zw z (by simp)),r,q⟩
end
def De(sp:Sp)(dvs:List V)(E:XK)(t:TA):TE:=λσ H Q=>t σ H λvs H1=>sp (vs++dvs) H1 Q E
def Binds(K:aq)(fd:gi)(ps:Q0g)(ds:Q0f):Prop :=
 ∀(s:ao) (us:Q0f),K.In s.heap->(us++ds).length=ps.length->pd s fd ⟨us,[]⟩ (ps.zip (us++ds))
def Binds.all{K:aq}{fd:gi}{ps:Q0g}(h:∀us:Q0f,us.length=ps.length->bindArgs fd ⟨us,[]⟩=pure (ps.zip us)):Binds K fd ps []:=λs us _ hl=>by rw[kl] at hl ⊢;exact .of_eq (h us hl)
def Passes(CX:MC)(X:Cx)(E:XK):Prop:=∀(pins:Q0b) (σ:St) (H:Hp) (s:ao) (e:ai) (s':ao),Inv X pins σ H s->CX X.stack H s E e s'->X.xe e s'
section
variable{X:Cx}{CX:MC}{k:Nat}{f C:ah}{fd:gi}{ps:Q0g}{sp:Sp}{dvs:List V}{ds:Q0f}{E:XK}{x m:ak}{p pos apos:bo}{e o:ar}{es:List ar}{ta:TE}{t:TA}
theorem aCa(F:lC X.prog X.w X.K X.mg X.base CX k f fd ps sp)(hr:fN k X.A)(hb:Binds X.K fd ps ds)(hd:Vals dvs ds)(hx:Passes CX X E)
  (I:Inv X pins σ H s) (r:Vals vs us) (h:sp (vs++dvs) H Q E):ax (ay X.prog X.w) X.A (call (.ref f) us) (EP X pins σ Q) X.xe s:=by
 have r2:Vals (vs++dvs) (us++ds):=r.append hd;have hl:(us++ds).length=ps.length:=by rw[<- r2.length];exact F.len _ _ _ _ h
 refine wpAny_call (Ew (F.run X.A X.stack s H ⟨us,[]⟩ (us++ds) (vs++dvs) Q E hr I.env0 (hb s us I.CY hl) r2 h) λr s' hq=>?_)
 cases r with
 |error e=>exact hx pins σ H s e s' I hq
 |ok fl =>
  cases fl with
  |ret u=>exact I.after hq
  |next=>exact ju hq
  |brk=>exact ju hq
  |cont=>exact ju hq
theorem C6(F:lC X.prog X.w X.K X.mg X.base CX k f fd ps sp)(hr:fN k X.A)(hg:Gl X x)(hm:X.mg x=aa (.ref f))(hk:keepIn X.K (.ref f)=ae)(hb:Binds X.K fd ps ds)(hd:Vals dvs ds)(hx:Passes CX X E)
  (ha:PA X (e::es) t) (hdb:(x == ("__debug__":ak))=ag:=by decide) (he:av (e::es) X.env=(ag,eval e X.env)::av es X.env:=by rfl) (hpl:(fq pos (av es X.env)).any (·.1)=ag:=by rfl):
  PE X (.Call (.Name x p) (e::es) [] pos) (De sp dvs E t):=by
 intro pins s σ H Q I h;refine xo (LW I hg hm ?_ hdb);refine PySem.W.callWith_K (h₀:=X.base) I.ok.mod.kin hk (dR (ha pos pins s σ H _ I h) λus s1 ⟨vs,H1,I1,r,q⟩=>⟨I1.CY,?_⟩) he hpl;exact aCa F hr hb hd hx I1 r q
structure Mk (K:aq) (C f:ah):Prop where
 makes:PySem.W.makesIn K C=ae
 init:t_ K (.ref C) "__init__"=aa (aa (.ref f))
 fn:a0O K (.ref f)=ae
 kp:keepIn K (.ref C)=ae
end
section
variable{X:Cx}{CX:MC}{k:Nat}{f C:ah}{fd:gi}{ps ks:Q0g}{sp:Sp}{E:XK}{x m:ak}{p pos apos kpos:bo}{e o:ar}{es:List ar}{kws:List iw}{te ta:TE}{t tk:TA}{nm:Option ak}
structure aIc (K:aq) (fd:gi) (ps ks:Q0g) (g:List ai->List ai->List ai) (gV:List V->List V->List V):Prop where
 to:∀(s:ao) (us ws:Q0f),K.In s.heap->(g us ws).length=ps.length->pd s fd ⟨us,ks.zip ws⟩ (ps.zip (g us ws))
 rel:∀{vs:List V} {us:Q0f} {zs:List V} {ws:Q0f},Vals vs us->Vals zs ws->Vals (gV vs zs) (g us ws)
variable{g:List ai->List ai->List ai}{gV:List V->List V->List V}
end
structure gX (N P:Q0g) (sc:gf):Prop where
 kind:sc.kind=.function
 co:sc.isCoroutine=ag
 gen:sc.isGenerator=ag
 nd:N.Nodup
 pre:N.take P.length=P
 par:∀x∈P,sc.names.lookup x=aa .local\/sc.names.lookup x=aa .cell
 aCb:∀y∈sc.names,y.2≠.free
theorem AQ{kindOf:ak->Option jf}{x:ak}:∀{binds:List (ak×ai)} {m:Q0d},(∀v,(x,v)∉binds)->bindL kindOf binds m x=m x
 |[],_,_=>rfl
 | (n,v)::r,m,h=>by
  unfold bindL;rw[AQ λw hw=>h w (dg _ hw)];split
  .have:x≠n:=by rintro rfl;exact h v b_
   simp[this]
  .rfl
theorem AR{kindOf:ak->Option jf}{x:ak}:∀{binds:List (ak×ai)} {m:Q0d},(∀v,(x,v)∉binds)->bindC kindOf binds m x=m x
 |[],_,_=>rfl
 | (n,v)::r,m,h=>by
  unfold bindC;rw[AR λw hw=>h w (dg _ hw)];split
  .rfl
  .have:x≠n:=by rintro rfl;exact h v b_
   simp[this]
theorem AS{kindOf:ak->Option jf}{x:ak}{v:ai}:∀{P:Q0g} {vs:Q0f} {i:Nat} {m:Q0d},P.Nodup->P[i]?=aa x->vs[i]?=aa v->kindOf x=aa .local ->
  bindL kindOf (P.zip vs) m x=aa v
 |[],_,_,_,_,h,_,_=>by simp at h
 |_::_,[],_,_,_,_,h,_=>by simp at h
 |p::P,w::vs,0,m,nd,h1,h2,hk=>by simp at h1 h2;subst h1;subst h2;show bindL kindOf ((p,w)::P.zip vs) m p=_;unfold bindL;rw[AQ λv hv=>(gu.mp nd).1 (qx hv).1,Z_ hk];simp
 |p::P,w::vs,i+1,m,nd,h1,h2,hk=>by show bindL kindOf ((p,w)::P.zip vs) m x=_;unfold bindL;exact AS (i:=i) (gu.mp nd).2 (by simpa using h1) (by simpa using h2) hk
theorem AU{kindOf:ak->Option jf}{x:ak}{v:ai}:∀{P:Q0g} {vs:Q0f} {i:Nat} {m:Q0d},P.Nodup->P[i]?=aa x->vs[i]?=aa v->kindOf x≠aa .local ->
  bindC kindOf (P.zip vs) m x=aa v
 |[],_,_,_,_,h,_,_=>by simp at h
 |_::_,[],_,_,_,_,h,_=>by simp at h
 |p::P,w::vs,0,m,nd,h1,h2,hk=>by simp at h1 h2;subst h1;subst h2;show bindC kindOf ((p,w)::P.zip vs) m p=_;unfold bindC;rw[AR λv hv=>(gu.mp nd).1 (qx hv).1,Zz hk];simp
 |p::P,w::vs,i+1,m,nd,h1,h2,hk=>by show bindC kindOf ((p,w)::P.zip vs) m x=_;unfold bindC;exact AU (i:=i) (gu.mp nd).2 (by simpa using h1) (by simpa using h2) hk
def start(N:Q0g)(vs:List V):St:=vs.map aa++dm (N.length-vs.length) af
def tE(CX:MC)(P:bh)(w:bb)(K:aq)(mg:Q0d)(base:bf)(N:Q0g)(qual:ak)(scope:gf)(f:ah)(cd:ai)(A:bp)(outer:List fm)(s:ao)(H:Hp)(E:XK):Cx where
 prog:=P
 w:=w
 K:=K
 mg:=mg
 base:=base
 A:=A.deeper (envOfC qual scope s.heap.objs.size f cd)
 N:=N
 s₀:=s
 H₀:=H
 env:=envOfC qual scope s.heap.objs.size f cd
 outer:=outer
 stack:=envOfC qual scope s.heap.objs.size f cd::outer
 ex:=[]
 calm:=ae
 fn:=λ_=>ae
 pn:=[]
 xe:=λe s'=>ax (ay P w) (A.deeper (envOfC qual scope s.heap.objs.size f cd)) (leaving (envOfC qual scope s.heap.objs.size f cd) e) (λ_ s''=>CX outer H s E e s'') (λe' s''=>CX outer H s E e' s'') s'
def FK{sc:gf}{n:Nat}{x:ak}(h:sc.names.lookup x=aa .cell):∃c,(cellsFrom n sc.names []).lookup x=aa c:=by have q:=a0P sc.names n [] (.inl h);exact yw.mp q
theorem N6{CX:MC}{P:bh}{w:bb}{K:aq}{mg:Q0d}{base:bf}{N ps:Q0g}{qual:ak}{scope:gf}{f:ah}{cd:ai}{A:bp}{outer:List fm}{s s1:ao}{H:Hp}{E:XK}{us:Q0f}{vs:List V}
  (S:gX N ps scope) (hd:A.handled=af) (e0:Y2 P w K mg base A outer s H) (hl:vs.length=ps.length) (r:Vals vs us)
  (x:InCallC s s.heap.objs.size (bindL (envOfC qual scope s.heap.objs.size f cd).kindOf (ps.zip us) λ_=>af) (cellsFrom (s.heap.objs.size+1) scope.names []) (bindC (envOfC qual scope s.heap.objs.size f cd).kindOf (ps.zip us) λ_=>af) s1):
  Inv (tE CX P w K mg base N qual scope f cd A outer s H E) [] (start N vs) H s1:=by
 have hpl:ps.length<=N.length:=by have:=congrArg rf S.pre;rw[ji] at this;omega
 obtain⟨h1,tk,rfl,hk⟩:=x.done;have noA:∀b:ah,b∉(tE CX P w K mg base N qual scope f cd A outer s H E).ex:=λb z=>Zw (show b∈([]:List ah) from z) (by simp);refine⟨⟨e0.mod,S.kind,rfl,rfl,bc _,λy z c h1 h2=>?_,λy hy=>?_,λy c _ h=>?_,λ_=>hd,a1w e0.frames,.inr ⟨rfl,rfl⟩,λb z=>Zw z (noA b),e0.bs,e0.W9,λb _ _=>noA b,λb z=>Zw z (noA b),e0.xG,e0.frf,e0.tab⟩,
  rfl,e0.bare,Un.kept hk,⟨_,x.toInCall.ns,λi y v h1 h2 h3=>?_⟩,λy c h=>⟨_,x.cell y c h⟩,e0.hok.fresh (bc _),λy c h=>?_,λp hp=>Zw (show p∈([]:Q0b) from hp) (by simp),e0.hok.kept hk,?_⟩
 .exact a0y x.apart (jy h1) (jy h2)
 .have hy:scope.names.lookup y=aa .cell\/scope.names.lookup y=aa .free:=hy;rcases hy with hy|hy
  .exact FK hy
  .exact Zw rfl (S.aCb _ (jy hy))
 .exact ku (x.above y c (jy h))
 .have hi:i<vs.length:=by
   unfold start at h2;by_cases hi:i<vs.length
   .exact hi
   .rw [ic (by simpa using hi)] at h2;rw[kb] at h2;split at h2<;>cases h2
  have ha:vs[i]?=aa v:=by
   unfold start at h2;rw[ik (by simpa using hi),cg] at h2
   cases e:vs[i]? with
   |none=>rw[e] at h2;cases h2
   |some a=>rw[e] at h2;cases h2;rfl
  obtain⟨u,hu,rv⟩:=r.get ha;have hp:ps[i]?=aa y:=by rw[<- S.pre,nj (by omega)];exact h1
  have ndP:ps.Nodup:=by rw[<- S.pre];exact S.nd.sublist (a2b _ _)
  refine⟨u,rv,?_⟩;rcases S.par y (jt hp) with k|k
  .exact .inl ⟨k,AS ndP hp hu k⟩
  .obtain ⟨c,e⟩:=FK (n:=s.heap.objs.size+1) k;refine .inr ⟨.inl k,c,e,?_⟩;have q:=x.cell y c e;rw[AU ndP hp hu (by show scope.names.lookup y≠_;rw[k];decide)] at q;exact q
 .exact e0.hok.fresh (ku (x.above y c (jy h)))
 .unfold start;show _=N.length;rw[bq,az,lz];omega
theorem Dc{CX:MC}{P:bh}{w:bb}{K:aq}{mg:Q0d}{base:bf}{k:Nat}{f:ah}{name qual:ak}{params:Arguments}{body:List de}{scope:gf}{dV kV doc pm cdv ct oc:ai}{an od:Option ah}
  {osl:Array (Option ai)} {N ps:Q0g} {sp:Sp} (lk:K.lookup f=aa ⟨oc,od,.func (fnOf name qual params body scope dV kV doc pm an cdv ct),osl⟩) (hcd:codeIn K cdv qual=ae) (S:gX N ps scope)
  (len:∀vs H Q E,sp vs H Q E->vs.length=ps.length)
  (hbody:∀(A:bp) (outer:List fm) (s:ao) (H:Hp) (vs:List V) (Q:VK) (E:XK),fN k (A.deeper (envOfC qual scope s.heap.objs.size f cdv))->sp vs H Q E ->
   ∃t,yQ (tE CX P w K mg base N qual scope f cdv A outer s H E) body t/\t {nx:=λ_ H'=>Q .non H',rt:=Q} (start N vs) H):
  lC P w K mg base CX (k+1) f (fnOf name qual params body scope dV kV doc pm an cdv ct) ps sp:=by
 refine⟨len,λA outer s H args us vs Q E hr e0 hb r hsp=>?_⟩;have hl:=len _ _ _ _ hsp;have KX:K.In s.heap:=e0.mod.kin.keeps λb o e=>(e0.bs b o e).1;have lim:s.heap.NoLimit:=e0.mod.nolimit.keeps λb o e=>(e0.bs b o e).1;have hkind:∀y∈ps.zip us,scope.names.lookup y.1=aa .local\/(scope.names.lookup y.1=aa .cell/\((cellsFrom (s.heap.objs.size+1) scope.names []).lookup y.1).isSome=ae):=λ⟨n,v⟩ hy=>by
  rcases S.par n (qx hy).1 with q|q
  .exact .inl q
  .exact .inr ⟨q,a0P _ _ _ (.inl q)⟩
 refine codeAny_call_function hr.depth (KX _ _ lk) rfl S.co S.gen rfl (PySem.W.codeRec_of KX hcd) (hb _ _ _ _ ?_);refine wpAny_newFunctionEnv_cells S.kind hkind λenv he s1 x=>?_;subst he;refine⟨lim.keeps x.toInCall.keep,codeAny_func ?_⟩;obtain⟨t,ht,hq⟩:=hbody A outer s H vs Q E (hr.deeper _) hsp;have I:Inv (tE CX P w K mg base N qual scope f cdv A outer s H E) [] (start N vs) H s1:=N6 S hr.hd e0 hl r x;refine jx (ht [] s1 (start N vs) H _ I hq) (λfl s' hs=>?_) λe s' hs=>hs;have fin:∀{σ':St} {H':Hp} {v:V} {u:ai},Inv (tE CX P w K mg base N qual scope f cdv A outer s H E) [] σ' H' s'->RelV v u->Q v H'->CE outer P w H s Q u s' :=
  λ{σ' H' v u} J rv q=>⟨v,H',J.os,J.bare,J.base,J.hok,rv,q⟩
 cases fl with
 |ret u =>
  obtain⟨v,σ',H',J,rv,q⟩:=hs;exact fin J rv q
 |next =>
  obtain⟨σ',H',J,q⟩:=hs;exact fin (v:=V.non) (u:=js) J rfl q
 |brk =>
  obtain⟨_,_,_,q⟩:=hs;exact ju q
 |cont =>
  obtain⟨_,_,_,q⟩:=hs;exact ju q
section
variable{X:Cx}{x:ak}{p pos:bo}{e:ar}{es:List ar}{t:TA}{id T:String}{r:List V->Hp->VK->Prop}
def r6(r:List V->Hp->VK->Prop)(t:TA):TE:=λσ H Q=>t σ H λvs H1=>r vs H1 Q
def qS(hc:iS X (.builtin id) r)(hg:Gl X x)(hm:X.mg x=af)(hv:bootBuiltins x=aa (.builtin id))(ha:PA X (e::es) t)(hn:x ≠ "__name__":=by decide)(hdb:(x == ("__debug__":ak))=ag:=by decide)
  (he:av (e::es) X.env=(ag,eval e X.env)::av es X.env:=by rfl) (hpl:(fq pos (av es X.env)).any (·.1)=ag:=by rfl):PE X (.Call (.Name x p) (e::es) [] pos) (r6 r t):=by
 intro pins s σ H Q I h;refine xo (lW I hg hm hv ?_ hn hdb);exact a3L (dR (ha pos pins s σ H _ I h) λus s1 ⟨vs,H1,I1,r1,q1⟩=>hc pins s1 σ H1 vs us Q I1 r1 q1) he hpl
def tF(hc:iS X (.type T) r)(hg:Gl X x)(hm:X.mg x=af)(hv:bootBuiltins x=aa (.type T))(ha:PA X (e::es) t)(hn:x ≠ "__name__":=by decide)(hdb:(x == ("__debug__":ak))=ag:=by decide)
  (he:av (e::es) X.env=(ag,eval e X.env)::av es X.env:=by rfl) (hpl:(fq pos (av es X.env)).any (·.1)=ag:=by rfl):PE X (.Call (.Name x p) (e::es) [] pos) (r6 r t):=by
 intro pins s σ H Q I h;refine xo (lW I hg hm hv ?_ hn hdb);exact qu (dR (ha pos pins s σ H _ I h) λus s1 ⟨vs,H1,I1,r1,q1⟩=>hc pins s1 σ H1 vs us Q I1 r1 q1) he hpl
end
end L2
namespace HT
open PyProof.Rows
section
open PySem.SeqAt

open PySem.MeetsSeq PySem.MeetsSeq2 PySem.MeetsSeq3
end
section
variable{prog:bh}{w:bb}{A:bp}{E:Q0c}{s:ao}
theorem Y3(ht:jz s.heap t vs.toArray)(hb:jz s.heap b ws.toArray)(hv:vs≠[])
  (h1:ws=[]->Q (.ref t) s) (h2:ws≠[]->Q (.ref s.heap.objs.size) {s with heap:=s.heap.push {cls:=.type "tuple",data:=.seq (vs++ws).toArray} })
  (hsz:vs.length+ws.length<=bg):ax (ay prog w) A (binaryOp .Add (.ref t) (.ref b)) Q E s:=by
 obtain⟨⟨cls,dd,data,sl⟩,ho,hc,n,hd⟩:=id ht;obtain⟨⟨cls2,dd2,data2,sl2⟩,ho2,hc2,n2,hd2⟩:=id hb;simp only at hc hd hc2 hd2;subst hc hd hc2 hd2;have e:vs.toArray++ws.toArray=(vs++ws).toArray:=by simp
 by_cases hw:ws=[]
 .exact Eu ⟨_,ho,rfl⟩ ⟨_,ho2,rfl⟩ Et Eo Ff Fh (Fi _ _)
   (tuple_addW1 t b vs.toArray ws.toArray n n2 dd dd2 sl sl2 (by simpa using hv) (by simp[hw])) ⟨ho,ho2,h1 hw⟩
 .refine Eu ⟨_,ho,rfl⟩ ⟨_,ho2,rfl⟩ Et Eo Ff Fh (Fi _ _)
   (tuple_addW2 t b vs.toArray ws.toArray n n2 dd dd2 sl sl2 (by simpa using hv) (by simpa using hw) (by rw[cf,cf];exact hsz)) ⟨ho,ho2,?_⟩
  rw[e];exact h2 hw
noncomputable def gL(n d:Nat):Option Int->Nat
 |none=>d
 |some v=>if v<0 then(v+(n:Int)).toNat else min v.toNat n
theorem aCc(n d:Nat)(hd:d<=n)(o:Option Int):gL n d o<=n:=by
 cases o with
 |none=>exact hd
 |some v =>
  show(if v<0 then(v+(n:Int)).toNat else min v.toNat n)<=n;by_cases hv:v<0
  .rw [Z_ hv];omega
  .rw [Zz hv];exact a11 _ _
def MD(v:Int)(n d:Nat):(if v<0 then max (v+(n:Int)) 0 else min v (n:Int))=((gL n d (aa v):Nat):Int):=by
 show(if v<0 then max (v+(n:Int)) 0 else min v (n:Int))=(((if v<0 then(v+(n:Int)).toNat else min v.toNat n):Nat):Int);by_cases hv:v<0
 .simp only[Z_ hv];omega
 .simp only[Zz hv];omega
def IK(lo hi:Option Int)(n:Nat):Fn lo hi 1 (n:Int)=(((gL n 0 lo:Nat):Int),((gL n n hi:Nat):Int)):=by
 have h1:¬ ((1:Int)<0):=by omega
 unfold Fn;simp only[h1,if_false];refine Fx ?_ ?_
 .cases lo with
  |none=>rfl
  |some v=>exact MD v n 0
 .cases hi with
  |none=>rfl
  |some v=>exact MD v n n
def IL(i j:Nat):yo (i:Int) (j:Int) 1=j-i:=by
 unfold yo;have h1:(1:Int)>0:=by omega
 simp only[h1,if_true,Int.ediv_one];split<;>omega
theorem xM(p:ko v o)(h:Q o s):ax (ay prog w) A (a3H v) Q E s:=by
 cases p with
 |none=>exact a1B h
 |int i t=>exact slicePart_int h
theorem lD{sl:ah}{vl vu:ai}{lo hi:Option Int}{n:Nat}{Q:Int×Int×Nat->ao->Prop}(hs:s.heap.IsSliceOf sl vl vu .none)(pl:ko vl lo)(pu:ko vu hi)
  (h:Q (((gL n 0 lo:Nat):Int),1,gL n n hi-gL n 0 lo) s):ax (ay prog w) A (a1u (.ref sl) (pure (n:Int))) Q E s:=by
 obtain⟨os,hos,hcs,hds⟩:=id hs;unfold a1u a3I;refine au (au (oq hos hds (x:=vl) rfl (au (oq hos hds (x:=vu) rfl (au (oq hos hds (x:=.none) rfl (a_ ?_)))))));refine au (a1B ?_);show ax _ _ (if((1:Int) == 0)=ae then _ else _) _ _ s;rw[Zz (by decide)];refine au (xM pl (au (xM pu (au (a_ ?_)))));show ax _ _ (match Fn lo hi 1 (n:Int) with|(lo,hi)=>pure (lo,(1:Int),yo lo hi 1)) _ _ s;rw[IK lo hi n];show ax _ _ (pure (((gL n 0 lo:Nat):Int),(1:Int),yo ((gL n 0 lo:Nat):Int) ((gL n n hi:Nat):Int) 1)) _ _ s;rw[IL];exact a_ h
def T5(xs:Array ai)(i k:Nat):((dj k).filterMap λ(m:Nat)=>xs[((i:Int)+(m:Int)*1).toNat]?).toArray=((xs.toList.drop i).take k).toArray:=by
 have e:(λ(m:Nat)=>xs[((i:Int)+(m:Int)*1).toNat]?)=λm=>xs[i+m]?:=by
  funext m
  have:((i:Int)+(m:Int)*1).toNat=i+m:=by omega
  rw[this]
 rw[e];have:=pick_run xs i k;rw[List.filterMap_map] at this;have e2:((λx=>xs[x]?)∘λx=>i+x)=λm=>xs[i+m]?:=rfl;rw[e2] at this;rw[this]
theorem qT{t sl:ah}{items:Array ai}{vl vu:ai}{lo hi:Option Int}{Q:Q0c}(ht:jz s.heap t items)(hs:s.heap.IsSliceOf sl vl vu .none)(pl:ko vl lo)(pu:ko vu hi)
  (hw:¬ (gL items.size 0 lo=0/\gL items.size items.size hi=items.size))
  (h:Q (.ref s.heap.objs.size) {s with heap:=s.heap.push {cls:=.type "tuple",data:=.seq ((items.toList.drop (gL items.size 0 lo)).take (gL items.size items.size hi-gL items.size 0 lo)).toArray} })
  (hsz:items.size<=bg):ax (ay prog w) A (getItem (.ref t) (.ref sl)) Q E s:=by
 have ME:sizeOk (.seq ((items.toList.drop (gL items.size 0 lo)).take (gL items.size items.size hi-gL items.size 0 lo)).toArray):=by show((items.toList.drop (gL items.size 0 lo)).take (gL items.size items.size hi-gL items.size 0 lo)).toArray.size<=bg;rw[cf,ji,Gu,ve];omega
 have hj:gL items.size items.size hi<=items.size:=aCc _ _ (bc _) hi;obtain⟨os,hos,hcs,hds⟩:=id hs;have Iu:s.TypeIs (.ref sl) "slice":=⟨os,hos,hcs⟩;unfold getItem
 try with_reducible refine jo ?_
 first|refine au (a_ ?_)|skip
 refine au (a0g ht.typeIs (by decide) ?_);refine au (qj (name:=qm "__getitem__") ht.typeIs pf
  (kn pf ht.typeIs a1G ?_ (a1O _ _)))
 show ax _ _ (a1r (.ref t) >>= _) _ _ s;refine au (a1x ht ?_);refine au (Ed Iu ?_);rw[Z_ (by decide)];refine au (lD hs pl pu ?_);have hno:¬ ((((gL items.size 0 lo:Nat):Int) == 0&&(1:Int) == 1&&(gL items.size items.size hi-gL items.size 0 lo) == items.size)=ae):=by intro q;rw[gw,gw] at q;have q1:((gL items.size 0 lo:Nat):Int)=0:=eq_of_beq q.1.1;have q2:gL items.size items.size hi-gL items.size 0 lo=items.size:=eq_of_beq q.2;exact hw ⟨by omega,by omega⟩
 show ax _ _ (if(((gL items.size 0 lo:Nat):Int) == 0&&(1:Int) == 1&&(gL items.size items.size hi-gL items.size 0 lo) == items.size)=ae then _ else _) _ _ s;rw[Zz hno,T5]
 first
  |exact au (m:=ym _) (qi (a_ ⟨_,rfl,a_ h⟩) ME)
  |exact au (m:=ym _) (qi (au (a_ (a_ ⟨_,rfl,a_ h⟩))) ME)
  |exact au (au (m:=ym _) (qi (a_ (a_ ⟨_,rfl,a_ h⟩)) ME))
  |exact au (au (m:=ym _) (qi (a_ ⟨_,rfl,a_ h⟩) ME))
end
end HT
namespace L2
open PySem.Spec PyProof.Rows
abbrev TO:=St->Hp->(Option Int->Hp->Prop)->Prop
def PO(X:Cx)(e:Option ar)(t:TO):Prop :=
 ∀(pins:Q0b) (s:ao) (σ:St) (H:Hp) (Q:Option Int->Hp->Prop),Inv X pins σ H s->t σ H Q ->
  ax (ay X.prog X.w) X.A (evalPart e X.env) (λu s'=>∃o H',Inv X pins σ H' s'/\ko u o/\Q o H') X.xe s
def Y4:TO:=λ_ H Q=>Q af H
def Wm(t:TE):TO:=λσ H Q=>t σ H λx H1=>∃i,x=.int i/\Q (aa i) H1
theorem intsAre_of:∀{us:Q0f},Vals (ns.map V.int) us->lp us ns:=by
 induction ns with
 |nil=>intro us r;rw[lh] at r;cases r;exact .nil
 |cons n ns ih =>
  intro us r;rw[ba] at r
  cases r with
  |cons r1 r2 =>
   obtain⟨t,e⟩:=r1;subst e;exact .cons n t (ih r2)
section
variable{X:Cx}{e:ar}{te:TE}{lo hi:Option ar}{tl th:TO}{pos p2:bo}
def Y5:PO X af Y4:=by intro pins s σ H Q I h;rw[a0D];exact a_ ⟨af,H,I,.none,h⟩
def Y6(h:PE X e te):PO X (aa e) (Wm te):=by intro pins s σ H Q I hw;rw[evalPart_some];refine dR (h pins s σ H _ I hw) λu s1 hq6=>?_;obtain⟨x,H1,I1,r1,q1⟩:=hq6;obtain⟨i,rfl,q⟩:=q1;obtain⟨t,rfl⟩:=r1;exact⟨aa i,H1,I1,.int i t,q⟩
def SlR(X:Cx)(r:V->Option Int->Option Int->Hp->VK->Prop):Prop :=
 ∀(pins:Q0b) (s:ao) (σ:St) (H:Hp) (x:V) (v vl vu:ai) (lo hi:Option Int) (sl:ah) (Q:VK),Inv X pins σ H s->RelV x v->s.heap.IsSliceOf sl vl vu .none->ko vl lo->ko vu hi->r x lo hi H Q ->
  ∃T id,typeLookup (.type T) "__getitem__"=pure (aa (.builtin id))/\s.TypeIs v T/\ax (ay X.prog X.w) X.A (getItem v (.ref sl)) (EP X pins σ Q) X.xe s
def SlR.or(h:SlR X r)(h':SlR X r'):SlR X (λx lo hi H Q=>r x lo hi H Q\/r' x lo hi H Q):=by
 intro pins s σ H x v vl vu lo hi sl Q I rx hs pl pu q;rcases q with q|q
 .exact h pins s σ H x v vl vu lo hi sl Q I rx hs pl pu q
 .exact h' pins s σ H x v vl vu lo hi sl Q I rx hs pl pu q
def Hr(r:V->Option Int->Option Int->Hp->VK->Prop)(te:TE)(tl th:TO):TE:=λσ H Q=>te σ H λx H1=>tl σ H1 λl H2=>th σ H2 λu H3=>r x l u H3 Q
def T6(hr:SlR X r)(he:PE X e te)(hl:PO X lo tl)(hu:PO X hi th):PE X (.Subscript e (.Slice lo hi af p2) pos) (Hr r te tl th):=by intro pins s σ H Q I h;refine Fw (dR (he pins s σ H _ I h) λv s1 ⟨x,H1,I1,r1,q1⟩=>?_);refine wpAny_Slice (dR (hl pins s1 σ H1 _ I1 q1) λvl s2 ⟨l,H2,I2,pl,q2⟩=>dR (hu pins s2 σ H2 _ I2 q2) λvu s3 ⟨u,H3,I3,pu,q3⟩=>?_);rw[a0D];refine a_ ?_;have I4:Inv X pins σ H3 {s3 with heap:=s3.heap.push {cls:=.type "slice",data:=.fields #[vl,vu,.none]} }:=I3.kept (t':=s3.toks) λb ob q=>di _ q;obtain⟨T,id,hT,ht,hg⟩:=hr pins {s3 with heap:=s3.heap.push {cls:=.type "slice",data:=.fields #[vl,vu,.none]} } σ H3 x v vl vu l u s3.heap.objs.size Q I4 r1 (a3h ..) pl pu q3;show ax (ay X.prog X.w) X.A (subscriptTail e (.Slice lo hi af p2) v (.ref s3.heap.objs.size)) (EP X pins σ Q) X.xe {s3 with heap:=s3.heap.push {cls:=.type "slice",data:=.fields #[vl,vu,.none]} };exact tail_any (ops:=[.ref s3.heap.objs.size,v]) ht hT hg (by with_unfolding_all rfl)
def FL(xs:List V)(lo hi:Option Int):List V:=(xs.drop (HT.gL xs.length 0 lo)).take (HT.gL xs.length xs.length hi-HT.gL xs.length 0 lo)
def t7(xs:List V)(lo hi:Option Int):(FL xs lo hi).length<=xs.length:=by unfold FL;rw[ji,Gu];omega
def Qp(K:aq):V->Option Int->Option Int->Hp->VK->Prop:=λx lo hi H Q=>∃a xs,x=.ref a/\fT K H a xs /\
 ¬ (HT.gL xs.length 0 lo=0/\HT.gL xs.length xs.length hi=xs.length) /\∀p,H p=af->Q (.ref p) (upd H p (.tup (FL xs lo hi)))
def aCd:SlR X (Qp X.K):=by
 intro pins s σ H x v vl vu lo hi sl Q I rx hs pl pu h;obtain⟨a,xs,rfl,hx,hw,q⟩:=h;cases rx;obtain⟨its,r,ht,hz⟩:=I.tuple hx;have hlen:its.toArray.size=xs.length:=by rw[cf];exact r.length.symm
 refine⟨"tuple",_,pf.lookup,ht.typeIs,?_⟩;refine HT.qT ht hs pl pu (by rw[hlen];exact hw) ?_ (by rw[hlen];exact hz);rw[hlen];refine⟨.ref s.heap.objs.size,_,I.laid (t':=s.toks) (o:=.tup (FL xs lo hi)) (λb ob q=>di _ q) (bc _) ?_,rfl,q _ (I.hok.fresh (bc _))⟩;exact⟨gn (t7 xs lo hi) hz,_,(r.drop (HT.gL xs.length 0 lo)).take (HT.gL xs.length xs.length hi-HT.gL xs.length 0 lo),yt _ _,FG.new _ _⟩
def Wl(K:aq):R2:=λx y H Q=>∃a b xs ys,x=.ref a/\y=.ref b/\fT K H a xs/\fT K H b ys/\xs≠[]/\xs.length+ys.length<=bg /\
 (ys=[]->Q (.ref a) H)/\(ys≠[] ->∀p,H p=af->Q (.ref p) (upd H p (.tup (xs++ys))))
theorem Vals.C7(r:Vals xs us):us=[]↔xs=[]:=by
 cases r with
 |nil=>simp
 |cons _ _=>simp
def Y7:j6 X (binaryOp .Add) (Wl X.K):=by intro pins s σ H x y v u Q I rx ry h;obtain⟨a,b,xs,ys,rfl,rfl,ha,hb,hx,hz,q1,q2⟩:=h;cases rx;cases ry;obtain⟨its,r1,p1,_⟩:=I.tuple ha;obtain⟨its2,r2,p2,_⟩:=I.tuple hb;refine HT.Y3 p1 p2 (λz=>hx (r1.C7.mp z)) (λz=>⟨.ref a,H,I,rfl,q1 (r2.C7.mp z)⟩) (λz=>?_) (by rw[<- r1.length,<- r2.length];exact hz);refine⟨.ref s.heap.objs.size,_,I.laid (t':=s.toks) (o:=.tup (xs++ys)) (λb ob q=>di _ q) (bc _) ?_,rfl,q2 (λw=>z (r2.C7.mpr w)) _ (I.hok.fresh (bc _))⟩;exact⟨by rw[bq];exact hz,_,r1.append r2,yt _ _,FG.new _ _⟩
end
def N7(n:Nat)(i:Int):Option Nat:=if 0<=i then(if i<n then aa i.toNat else af) else if -(n:Int)<=i then aa (i+n).toNat else af
def uM{α:Type}(xs:List α)(i:Int):Option α:=(N7 xs.length i).bind λj=>xs[j]?
def C8(h:N7 n i=aa j):seqIndex? i n=aa j/\j<n /\ -(n:Int)<=i/\i<n:=by
 unfold N7 at h;by_cases h0:0<=i
 .rw [Z_ h0] at h;by_cases h1:i<n
  .rw [Z_ h1] at h;have e:i.toNat=j:=df h;exact⟨by rw[Ep h0 h1,e],by omega,by omega,h1⟩
  .rw [Zz h1] at h;cases h
 .rw [Zz h0] at h;by_cases h1:-(n:Int)<=i
  .rw [Z_ h1] at h;have e:(i+n).toNat=j:=df h;exact⟨by rw[seqIndex_neg (by omega) h1,e],by omega,h1,by omega⟩
  .rw [Zz h1] at h;cases h
theorem MF{α:Type}{xs:List α}{i:Int}{v:α}(h:uM xs i=aa v):∃j,seqIndex? i xs.length=aa j/\xs[j]?=aa v/\j<xs.length /\ -(xs.length:Int)<=i/\i<xs.length:=by
 unfold uM at h
 cases e:N7 xs.length i with
 |none=>rw[e] at h;cases h
 |some j =>
  rw[e] at h;obtain⟨h1,h2,h3,h4⟩:=C8 e;exact⟨j,h1,h,h2,h3,h4⟩
def C9(b:ar):Prop:=∀o i,subscripted b ag o i=operate [o,i] (getItem o i)
def IxR(X:Cx)(r:R2):Prop :=
 ∀(value slice:ar) (pins:Q0b) (s:ao) (σ:St) (H:Hp) (x y:V) (v u:ai) (Q:VK),Inv X pins σ H s->RelV x v->RelV y u->r x y H Q ->
  subscripted slice ag v u=operate [v,u] (getItem v u)->ax (ay X.prog X.w) X.A (subscriptTail value slice v u) (EP X pins σ Q) X.xe s
def MtR(X:Cx)(id:String)(r:V->List V->Hp->VK->Prop):Prop :=
 ∀(pins:Q0b) (s:ao) (σ:St) (H:Hp) (x:V) (xs:List V) (v:ai) (us:Q0f) (Q:VK),Inv X pins σ H s->RelV x v->Vals xs us->r x xs H Q ->
  ax (ay X.prog X.w) X.A (call (.builtin id) (v::us)) (EP X pins σ Q) X.xe s
section
variable{X:Cx}{a b:ar}{ta tb:TE}{pos:bo}
def IxR.or(h:IxR X r)(h':IxR X r'):IxR X (λx y H Q=>r x y H Q\/r' x y H Q):=by
 intro value slice pins s σ H x y v u Q I rx ry q hs;rcases q with q|q
 .exact h value slice pins s σ H x y v u Q I rx ry q hs
 .exact h' value slice pins s σ H x y v u Q I rx ry q hs
def Wk(hr:IxR X r)(ha:PE X a ta)(hb:PE X b tb)(hs:C9 b):PE X (.Subscript a b pos) (qg r ta tb):=by intro pins s σ H Q I h;exact Fw (wj ha hb I h λv u s2 x y H2 I2 rx ry q=>hr a b pins s2 σ H2 x y v u Q I2 rx ry q (hs _ _))
def Bi(K:aq):R2:=λx y H Q=>∃p xs i v,x=.ref p/\y=.int i/\eE K H p xs/\uM xs i=aa v/\Q v H
def Bh(K:aq):R2:=λx y H Q=>∃p xs i v,x=.ref p/\y=.int i/\fT K H p xs/\uM xs i=aa v/\Q v H
def Y8:IxR X (Bi X.K):=by
 intro value slice pins s σ H x y v u Q I rx ry h hs;obtain⟨p,xs,i,z,rfl,rfl,hq,he,q⟩:=h;cases rx;obtain⟨t,rfl⟩:=ry;obtain⟨its,r,pl,hz⟩:=I.list hq;obtain⟨j,h1,h2,h3,h4,h5⟩:=MF he;obtain⟨w,ew,wL⟩:=r.get h2;have hl:=r.length;have hn:=xK;have fin:EP X pins σ Q w s:=⟨z,H,I,wL,q⟩;by_cases h0:0<=i
 .have hj:i.toNat=j:=by rw[Ep h0 h5] at h1;exact df h1
  exact item_listR pl.isList h0 (by omega) (by rw[hj];simpa using ew) fin hs
 .have hj:(i+(its.toArray.size:Int)).toNat=j:=by rw[seqIndex_neg (by omega) h4] at h1;rw[cf,<- hl];exact df h1
  exact a1z (x:=w) pl.isList.typeIs a0v.lookup
   (wpAny_getItem_list_neg (Q:=λr s'=>r=w/\EP X pins σ Q r s') pl.isList (by omega) (by rw[cf]<;>omega) (by omega) (by rw[hj];simpa using ew) ⟨rfl,fin⟩) hs
def aCf:IxR X (Bh X.K):=by
 intro value slice pins s σ H x y v u Q I rx ry h hs;obtain⟨p,xs,i,z,rfl,rfl,hq,he,q⟩:=h;cases rx;obtain⟨t,rfl⟩:=ry;obtain⟨its,r,pl,hz⟩:=I.tuple hq;obtain⟨j,h1,h2,h3,h4,h5⟩:=MF he;obtain⟨w,ew,wL⟩:=r.get h2;have hl:=r.length;have hn:=xK;have fin:EP X pins σ Q w s:=⟨z,H,I,wL,q⟩;exact a1z (x:=w) pl.typeIs pf.lookup
  (getItem_tuple (j:=j) (Q:=λr s'=>r=w/\EP X pins σ Q r s') pl (by omega) (by omega) (by rw[cf,<- hl];exact h1) (by simpa using ew) ⟨rfl,fin⟩) hs
def IM(its:Q0f)(n j:Nat)(u:ai):gz (·.setIfInBounds j u) {cls:=.type "list",data:=.seq its.toArray n}={cls:=.type "list",data:=.seq (its.set j u).toArray n}:=by simp[gz]
theorem Inv.lst{pins:Q0b}{σ:St}{H:Hp}{s:ao}{p:ah}{xs:List V}(I:Inv X pins σ H s)(h:H p=aa (.lst xs)):
  ∃(its:Q0f) (n:Nat),Vals xs its/\s.heap.get? p=aa {cls:=.type "list",data:=.seq its.toArray n}/\xs.length<=bg:=by
 obtain⟨z,its,n,r,e⟩:=I.hok p _ h;exact⟨its,n,r,e,z⟩
theorem Inv.aCg{pins:Q0b}{σ:St}{H:Hp}{s:ao}{p:ah}{xs ys:List V}{its its':Q0f}{n n':Nat}{f:aw->aw}(I:Inv X pins σ H s)(h:H p=aa (.lst xs))
  (ho:s.heap.get? p=aa {cls:=.type "list",data:=.seq its.toArray n}) (hf:f {cls:=.type "list",data:=.seq its.toArray n}={cls:=.type "list",data:=.seq its'.toArray n' }) (r:Vals ys its') (hz:ys.length<=bg) (t:Nat):
  Inv X pins σ (upd H p (.lst ys)) {s with heap:=s.heap.update p f,toks:=t}:=by
 have e:(s.heap.update p f).get? p=aa {cls:=.type "list",data:=.seq its'.toArray n' }:=by rw[ud f ho (by rw[hf]<;>rfl),hf]
 refine I.write (x:=p) (e:=p) (by rw[h];trivial) (.inl rfl) (λb u hb q=>(Fe _ _ (e_ hb)).trans q) ⟨_,e⟩ ?_;exact⟨hz,its',n',r,e⟩
def Wj:V->V->V->Hp->(Hp->Prop)->Prop:=λo i v H Q=>∃p xs k j,o=.ref p/\i=.int k/\H p=aa (.lst xs)/\N7 xs.length k=aa j/\Q (upd H p (.lst (xs.set j v)))
def set_list:Bn X Wj:=by
 intro pins s σ H o i v ov iv u Q I ro ri rv h;obtain⟨p,xs,k,j,rfl,rfl,hp,hj,q⟩:=h;cases ro;obtain⟨t,rfl⟩:=ri;obtain⟨its,n,r,ho,hz⟩:=I.lst hp;obtain⟨h1,h2,h3,h4⟩:=C8 hj;have hl:=r.length;have hn:=xK;have I':Inv X pins σ (upd H p (.lst (xs.set j v))) {s with heap:=s.heap.update p (gz (·.setIfInBounds j u))} :=
  I.aCg hp ho (IM its n j u) (r.set rv j) (by rw[ia];exact hz) s.toks
 by_cases h0:0<=k
 .have hk:k.toNat=j:=by rw[Ep h0 h4] at h1;exact df h1
  exact PySem.W.ki_setAt ho h0 (by omega) (by rw[cf,<- hl];exact h4) (by rw[hk];exact⟨_,I',q⟩)
 .have hk:(k+(its.toArray.size:Int)).toNat=j:=by rw[seqIndex_neg (by omega) h3] at h1;rw[cf,<- hl];exact df h1
  exact PySem.W.ki_setBack ho (by omega) (by rw[cf,<- hl];exact h3) (by omega) (by rw[hk];exact⟨_,I',q⟩)
def DA(lo hi:Option Int)(n:Nat):(sliceBounds lo hi af n).1=((HT.gL n 0 lo:Nat):Int)/\(sliceBounds lo hi af n).2.1=((HT.gL n n hi:Nat):Int)/\(sliceBounds lo hi af n).2.2=1:=by
 refine⟨?_,?_,rfl⟩
 .cases lo with
  |none=>simp[sliceBounds,HT.gL]
  |some i =>
   simp only[sliceBounds,HT.gL,a1Q,show(1:Int)>0 by decide,if_true];by_cases h:i<0
   .simp only[h,if_true]<;>omega
   .simp only[h,if_false]<;>omega
 .cases hi with
  |none=>simp[sliceBounds,HT.gL]
  |some i =>
   simp only[sliceBounds,HT.gL,a1Q,show(1:Int)>0 by decide,if_true];by_cases h:i<0
   .simp only[h,if_true]<;>omega
   .simp only[h,if_false]<;>omega
def zA(its:Q0f)(lo hi:Option Int):slicePick its.toArray lo hi af=((its.drop (HT.gL its.length 0 lo)).take (HT.gL its.length its.length hi-HT.gL its.length 0 lo)).toArray:=by obtain⟨h1,h2,h3⟩:=DA lo hi its.toArray.size;unfold slicePick;rw[h1,h2,h3];simp only[sliceRange_one,pick_run,cf]<;>rfl
def Qo(K:aq):V->Option Int->Option Int->Hp->VK->Prop:=λx lo hi H Q=>∃a xs,x=.ref a/\eE K H a xs /\∀p,H p=af->Q (.ref p) (upd H p (.lst (FL xs lo hi)))
theorem Y9:SlR X (Qo X.K):=by intro pins s σ H x v vl vu lo hi sl Q I rx hs pl pu h;obtain⟨a,xs,rfl,hx,q⟩:=h;cases rx;obtain⟨its,r,ht,hz⟩:=I.list hx;have hlen:=r.length;refine⟨"list",_,a0v.lookup,ht.isList.typeIs,?_⟩;refine wpAny_getItem_list_slice ht.isList hs pl pu .none (by simp) ?_ (by rw[cf]<;>omega);rw[zA,<- hlen];refine⟨.ref s.heap.objs.size,_,I.laid (t':=s.toks) (o:=.lst (FL xs lo hi)) (λb ob q=>di _ q) (bc _) ?_,rfl,q _ (I.hok.fresh (bc _))⟩;exact⟨gn (t7 xs lo hi) hz,_,0,(r.drop (HT.gL xs.length 0 lo)).take (HT.gL xs.length xs.length hi-HT.gL xs.length 0 lo),gg _ rfl⟩
noncomputable def qU:V->Bool
 |.non=>ae
 |.bl _=>ae
 |.int _=>ae
 |.str _=>ae
 |_=>ag
noncomputable def eqV:V->V->Bool
 |.non,.non=>ae
 |.bl a,.bl b=>a == b
 |.bl a,.int b=>(if a then 1 else 0) == b
 |.int a,.bl b=>a == (if b then 1 else 0)
 |.int a,.int b=>a == b
 |.str a,.str b=>a == b
 |_,_=>ag
theorem aCh(ry:RelV y u)(rx:RelV x v)(fy:qU y=ae)(fx:qU x=ae):qo A s u v (eqV y x):=by
 cases y with
 |non =>
  cases ry
  cases x with
  |non=>cases rx;exact yc _
  |bl b=>cases rx;exact a24 b
  |int b=>obtain⟨t,rfl⟩:=rx;exact a23 b t
  |str b=>obtain⟨t,rfl⟩:=rx;exact a22 b t
  |_=>exact Zw (show ag=ae from fx) bt
 |bl a =>
  cases ry
  cases x with
  |non=>cases rx;exact a3a a
  |bl b=>cases rx;exact a3c a b
  |int b=>obtain⟨t,rfl⟩:=rx;exact a3b a b t
  |str b=>obtain⟨t,rfl⟩:=rx;exact a29 a b t
  |_=>exact Zw (show ag=ae from fx) bt
 |int a =>
  obtain⟨t',rfl⟩:=ry
  cases x with
  |non=>cases rx;exact a26 a t'
  |bl b=>cases rx;exact a28 a t' b
  |int b=>obtain⟨t,rfl⟩:=rx;exact a27 a t' b t
  |str b=>obtain⟨t,rfl⟩:=rx;exact a0W a t' b t
  |_=>exact Zw (show ag=ae from fx) bt
 |str a =>
  obtain⟨t',rfl⟩:=ry
  cases x with
  |non=>cases rx;exact a20 a t'
  |bl b=>cases rx;exact a21 a t' b
  |int b=>obtain⟨t,rfl⟩:=rx;exact a0V a t' b t
  |str b=>obtain⟨t,rfl⟩:=rx;exact a2Z a t' b t
  |_=>exact Zw (show ag=ae from fx) bt
 |_=>exact Zw (show ag=ae from fy) bt
def IP(x:V)(u:ai):Bool:=match u with
 |.none=>eqV .non x
 |.bool b=>eqV (.bl b) x
 |.int i _=>eqV (.int i) x
 |.str z _=>eqV (.str z) x
 |_=>ag
theorem T7(r:RelV y u)(f:qU y=ae):IP x u=eqV y x:=by
 cases y with
 |non=>cases r;rfl
 |bl b=>cases r;rfl
 |int i=>obtain⟨t,rfl⟩:=r;rfl
 |str z=>obtain⟨t,rfl⟩:=r;rfl
 |_=>exact Zw (show ag=ae from f) bt
theorem qV:∀{xs:List V} {us:Q0f},Vals xs us->xs.all qU=ae->us.any (IP x)=xs.any λy=>eqV y x
 |_,_,.nil,_=>rfl
 |y::xs,u::us,.cons r t,f=>by rw[og,gw] at f;rw[km,km,T7 r f.1,qV t f.2]
theorem m5(rx:RelV x v)(fx:qU x=ae):∀{xs:List V} {us:Q0f},Vals xs us->xs.all qU=ae ->∀u∈us,qo A s u v (IP x u)
 |_,_,.nil,_=>λu hu=>by cases hu
 |y::xs,u::us,.cons r t,f=>λu' hu=>by
  rw[og,gw] at f;rcases bu.mp hu with rfl|hu
  .rw [T7 r f.1];exact aCh r rx f.1 fx
  .exact m5 rx fx t f.2 u' hu
def inV(x:V)(xs:List V):Bool:=xs.any λy=>eqV y x
def vg(K:aq)(neg:Bool):R2:=λx y H Q=>∃p xs,y=.ref p/\(eE K H p xs\/fT K H p xs)/\qU x=ae/\xs.all qU=ae/\Q (.bl (if neg then !inV x xs else inV x xs)) H
def AV:j6 X (compareOp .In) (vg X.K ag):=by
 intro pins s σ H x y v u Q I rx ry h;obtain⟨p,xs,rfl,hq,fx,fs,q⟩:=h;cases ry;rcases hq with hq|hq
 .obtain ⟨its,r,pl,hz⟩:=I.list hq;refine SeqAt.in_listAt (IP x) pl.isList (λw hw=>m5 rx fx r fs w (by simpa using hw)) ⟨.bl _,H,I,rfl,?_⟩;rw[show its.toArray.any (IP x)=its.any (IP x) by simp,qV r fs];exact q
 .obtain ⟨its,r,pl,hz⟩:=I.tuple hq;refine SeqAt.in_tupleAt (IP x) pl (λw hw=>m5 rx fx r fs w (by simpa using hw)) ⟨.bl _,H,I,rfl,?_⟩;rw[show its.toArray.any (IP x)=its.any (IP x) by simp,qV r fs];exact q
def DB:j6 X (compareOp .NotIn) (vg X.K ae):=by
 intro pins s σ H x y v u Q I rx ry h;obtain⟨p,xs,rfl,hq,fx,fs,q⟩:=h;cases ry;rcases hq with hq|hq
 .obtain ⟨its,r,pl,hz⟩:=I.list hq;refine SeqAt.notIn_listAt (IP x) pl.isList (λw hw=>m5 rx fx r fs w (by simpa using hw)) ⟨.bl _,H,I,rfl,?_⟩;rw[show its.toArray.any (IP x)=its.any (IP x) by simp,qV r fs];exact q
 .obtain ⟨its,r,pl,hz⟩:=I.tuple hq;refine SeqAt.notIn_tupleAt (IP x) pl (λw hw=>m5 rx fx r fs w (by simpa using hw)) ⟨.bl _,H,I,rfl,?_⟩;rw[show its.toArray.any (IP x)=its.any (IP x) by simp,qV r fs];exact q
def DC:iS X (.builtin "len") (λxs H Q=>∃p ys,xs=[.ref p]/\(eE X.K H p ys\/fT X.K H p ys)/\Q (.int ys.length) H):=by
 intro pins s σ H xs us Q I r h;obtain⟨p,ys,rfl,hq,q⟩:=h;obtain⟨u,rfl,rx⟩:=vals1 r;cases rx;have hn:=xK;rcases hq with hq|hq
 .obtain ⟨its,r',pl,hz⟩:=I.list hq;have hlen:=r'.length;exact Calls.call_len_list pl.isList (by simp only[cf]<;>omega) ⟨.int ys.length,H,I.tok _,⟨s.toks+1,by rw[cf,hlen]⟩,q⟩
 .obtain ⟨its,r',pl,hz⟩:=I.tuple hq;have hlen:=r'.length;exact len_tuple pl (by simp only[cf]<;>omega) ⟨.int ys.length,H,I.tok _,⟨s.toks+1,by rw[cf,hlen]⟩,q⟩
def DD:iS X (.type "list") (λxs H Q=>∃p ys,xs=[.ref p]/\(eE X.K H p ys\/fT X.K H p ys) /\∀l,H l=af->Q (.ref l) (upd H l (.lst ys))):=by
 intro pins s σ H xs us Q I r h;obtain⟨p,ys,rfl,hq,q⟩:=h;obtain⟨u,rfl,rx⟩:=vals1 r;cases rx;have fin:∀(its:Q0f),Vals ys its->ys.length<=bg ->∀(h':bf) (c':Nat),(∀b o',s.heap.get? b=aa o'->h'.get? b=aa o') ->
   h'.get? s.heap.objs.size=aa {cls:=.type "list",dict:=af,data:=.seq its.toArray c',slots:=#[]}->EP X pins σ Q (.ref s.heap.objs.size) {s with heap:=h' }:=λits r' hz h' c' kp e =>
  ⟨.ref s.heap.objs.size,_,I.laid (t':=s.toks) kp (bc _) (show dP X.prog X.w _ h' _ (.lst ys) from⟨hz,its,c',r',e⟩),rfl,q _ (I.hok.fresh (bc _))⟩
 rcases hq with hq|hq
 .obtain ⟨its,r',pl,hz⟩:=I.list hq;have hlen:=r'.length;obtain⟨o,ho,hc,n,hd⟩:=pl.isList;exact a0H p (.inl rfl) ho hc hd (λh' c' kp e=>fin its r' hz h' c' kp e) (by simp only[cf]<;>omega)
 .obtain ⟨its,r',pl,hz⟩:=I.tuple hq;have hlen:=r'.length;obtain⟨o,ho,hc,n,hd⟩:=pl;exact a0H p (.inr rfl) ho hc hd (λh' c' kp e=>fin its r' hz h' c' kp e) (by simp only[cf]<;>omega)
theorem zB:iS X (.type "tuple") (λxs H Q=>∃p ys,xs=[.ref p]/\((eE X.K H p ys /\∀l,H l=af->Q (.ref l) (upd H l (.tup ys)))\/(fT X.K H p ys/\Q (.ref p) H))):=by
 intro pins s σ H xs us Q I r h;obtain⟨p,ys,rfl,h⟩:=h;obtain⟨u,rfl,rx⟩:=vals1 r;cases rx;rcases h with⟨hq,q⟩|⟨hq,q⟩
 .obtain ⟨its,r',pl,hz⟩:=I.list hq;have hlen:=r'.length;refine call_tuple_list pl.isList (λh' kp=>?_) (by simp only[cf]<;>omega);have I1:Inv X pins σ H {s with heap:=h' }:=I.kept (t':=s.toks) kp;have I2:Inv X pins σ (upd H h'.objs.size (.tup ys)) {s with heap:=h'.push {cls:=.type "tuple",data:=.seq its.toArray} } :=
   I1.laid (t':=s.toks) (λb o e=>di _ e) (bc _) (show dP X.prog X.w _ _ _ (.tup ys) from⟨hz,its,r',yt _ _,FG.new _ _⟩)
  exact⟨.ref h'.objs.size,_,I2,rfl,q _ (I1.hok.fresh (bc _))⟩
 .obtain ⟨its,r',pl,hz⟩:=I.tuple hq;exact call_tuple_same pl ⟨.ref p,H,I,rfl,q⟩
def tyV(K:aq)(T:String)(x:V)(H:Hp):Prop:=match x with
 |.str _=>T="str"
 |.int _=>T="int"
 |.ref p=>(T="list" /\∃xs,eE K H p xs)\/(T="tuple" /\∃o,K.lookup p=aa o/\o.cls=.type "tuple" /\o.dict=af) \/
   (T="dict" /\((∃kvs,H p=aa (.dK kvs)) \/∃kvs,H p=aa (.dT kvs)))\/(T="set" /\∃S n,H p=aa (.set S n))\/(T="tuple" /\∃xs,H p=aa (.tup xs))
 |_=>False
theorem T8(I:Inv X pins σ H s)(r:RelV x v)(ty:tyV X.K T x H):
  s.TypeIs v T /\∀a,v=.ref a ->∃ob,s.heap.get? a=aa ob/\ob.dict=af:=by
 cases x with
 |str z =>
  obtain⟨t,rfl⟩:=r;cases (show T="str" from ty);exact⟨typeIs_str s z t,λ_ e=>nomatch e⟩
 |int i =>
  obtain⟨t,rfl⟩:=r;cases (show T="int" from ty);exact⟨Em s i t,λ_ e=>nomatch e⟩
 |ref p =>
  cases r;rcases ty with⟨rfl,xs,hq⟩|⟨rfl,o,hk,hc,hd⟩|⟨rfl,hk⟩|⟨rfl,S,n,hk⟩|⟨rfl,xs,hk⟩
  .obtain ⟨its,_,pl,_⟩:=I.list hq;refine⟨pl.isList.typeIs,λa e=>?_⟩;cases e;obtain⟨o,n,e,c,hd,_⟩:=pl;exact⟨o,e,hd⟩
  .refine ⟨⟨o,I.CY p o hk,hc⟩,λa e=>?_⟩;cases e;exact⟨o,I.CY _ o hk,hd⟩
  .have z:∃o,s.heap.get? p=aa o/\o.ExactDict:=by
    rcases hk with⟨kvs,hk⟩|⟨kvs,hk⟩
    .obtain ⟨_,_,_,_,o,_,_,e,ex,_⟩:=I.hok p _ hk;exact⟨o,e,ex⟩
    .obtain ⟨_,_,_,_,o,_,_,e,ex,_⟩:=I.hok p _ hk;exact⟨o,e,ex⟩
   obtain⟨o,e,ex⟩:=z;refine⟨⟨o,e,ex.1⟩,λa e2=>?_⟩;cases e2;exact⟨o,e,ex.2.1⟩
  .obtain ⟨o,_,_,_,e,ex,_⟩:=I.hok p _ hk;refine⟨⟨o,e,ex.1⟩,λa e2=>?_⟩;cases e2;exact⟨o,e,ex.2.1⟩
  .obtain ⟨_,_,_,⟨o,e,c,_⟩,nd⟩:=I.hok p _ hk;refine⟨⟨o,e,c⟩,λa e2=>?_⟩;cases e2;exact⟨o,e,nd _ e⟩
 |_=>exact ju ty
def Qn(K:aq)(T:String)(r:V->List V->Hp->VK->Prop)(to:TE):TE:=λσ H Q=>to σ H λx H1=>tyV K T x H1/\r x [] H1 Q
def zu(K:aq)(T:String)(r:V->List V->Hp->VK->Prop)(to:TE)(t:TA):TE:=λσ H Q=>to σ H λx H1=>tyV K T x H1/\t σ H1 λxs H2=>r x xs H2 Q
variable{o e:ar}{es:List ar}{to:TE}{t:TA}{name:ak}{apos cpos:bo}{T id:String}{r:V->List V->Hp->VK->Prop}
theorem aCi(pa:PlainAttrs T)(slot:Slot T name id)(hty:typeOf (.builtin id)=pure (.type "method_descriptor"))(hm:MtR X id r)(ho:PE X o to)
  (hbase:attributeBase o name X.env (eval o X.env)=eval o X.env:=by rfl) (hline:(apos.endLine == cpos.line)=ae:=by rfl):PE X (.Call (.Attribute o name apos) [] [] cpos) (Qn X.K T r to):=by
 intro pins s σ H Q I h;refine wpAny_Call_method0_late hbase hline (dR (ho pins s σ H _ I h) λv s1 ⟨x,H1,I1,r1,ty,q1⟩=>?_);obtain⟨h1,h2⟩:=T8 I1 r1 ty;exact⟨T,id,pa,slot,hty,h1,h2,Fl rfl (PySem.evalArgs_none (hm pins s1 σ H1 x [] v [] Q I1 r1 .nil q1))⟩
theorem Wi(pa:PlainAttrs T)(slot:Slot T name id)(hty:typeOf (.builtin id)=pure (.type "method_descriptor"))(hm:MtR X id r)(ho:PE X o to)(ha:PA X (e::es) t)
  (hbase:attributeBase o name X.env (eval o X.env)=eval o X.env:=by rfl)
  (hfew:((fq cpos (av (e::es) X.env)).all (λx=>!x.1)&&(backToKw cpos (mn [] X.env)).all (λx=>x.1.isSome)
   && Zv ((e::es).length+([]:List iw).length+(if([]:List iw).isEmpty then 0 else 1)<30))=ae:=by rfl)
  (hline:(apos.endLine == cpos.line)=ae:=by rfl) (hs:av (e::es) X.env=(ag,eval e X.env)::av es X.env:=by rfl) (hplain:(fq cpos (av es X.env)).any (·.1)=ag:=by rfl):
  PE X (.Call (.Attribute o name apos) (e::es) [] cpos) (zu X.K T r to t):=by
 intro pins s σ H Q I h;refine wpAny_Call_method_late hbase hfew hline rfl (dR (ho pins s σ H _ I h) λv s1 ⟨x,H1,I1,r1,ty,q1⟩=>?_);obtain⟨h1,h2⟩:=T8 I1 r1 ty;refine⟨T,id,pa,slot,hty,h1,h2,?_⟩;have hA:=ha cpos pins s1 σ H1 _ I1 q1;rw[hs] at hA ⊢;refine Fl (by show(ag||(fq cpos (av es X.env)).any (·.1))=ag;rw[hplain]<;>rfl) (a1n ?_);exact dR hA λus s2 hq7=>by obtain⟨vs,H2,I2,r2,q2⟩:=hq7;exact hm pins s2 σ H2 x vs v us Q I2 r1 r2 q2
end
def MtM(X:Cx)(id:String)(r:V->List V->Hp->VK->Prop):Prop :=
 ∀(pins:Q0b) (s:ao) (σ:St) (H:Hp) (x:V) (xs:List V) (v:ai) (us:Q0f) (Q:VK),Inv X pins σ H s->RelV x v->Vals xs us->r x xs H Q ->
  ax (ay X.prog X.w) X.A (call (.builtin id) (v::us)) (EP X pins σ Q) X.xe s
theorem Vals.one:∀{x:V} {us:Q0f},Vals [x] us ->∃u,us=[u]/\RelV x u
 |_,_,.cons r .nil=>⟨_,rfl,r⟩
theorem Vals.zero:∀{us:Q0f},Vals [] us->us=[]
 |_,.nil=>rfl
theorem Vals.dropLast{xs:List V}{us:Q0f}(h:Vals xs us):Vals xs.dropLast us.dropLast:=by
 induction h with
 |nil=>exact .nil
 |cons r t ih =>
  cases t with
  |nil=>exact .nil
  |cons q t'=>exact .cons r ih
theorem Vals.eraseIdx:∀{xs:List V} {us:Q0f} (i:Nat),Vals xs us->Vals (xs.eraseIdx i) (us.eraseIdx i)
 |_,_,_,.nil=>.nil
 |_,_,0,.cons _ t=>t
 |_,_,i+1,.cons r t=>.cons r (Vals.eraseIdx i t)
theorem Vals.rep(h:Vals xs us):∀k:Nat,Vals (dm k xs).flatten (dm k us).flatten
 |0=>.nil
 |k+1=>by rw[jg,jg,nu,nu];exact Vals.append h (Vals.rep h k)
theorem pM{α:Type}(l:List α):l.eraseIdx (l.length-1)=l.dropLast:=by
 induction l with
 |nil=>rfl
 |cons a r ih =>
  cases r with
  |nil=>rfl
  |cons b r =>
   have e:(a::b::r).length-1=((b::r).length-1)+1:=by have h1:(a::b::r).length=r.length+2:=rfl;have h2:(b::r).length=r.length+1:=rfl;omega
   rw[e,a2u,ih]
   all_goals rfl
theorem AW{α:Type}:∀(l:List α) (i:Nat),(l.eraseIdx i).length<=l.length
 |[],_=>bc _
 |_::_,0=>um _
 |_::r,i+1=>Nat.succ_le_succ (AW r i)
theorem foldl_rep(its:Q0f):∀(k:Nat) (acc:Q0f),
  Gz (λx1 x2=>x1++x2) acc.toArray (dm k its.toArray)=(acc++(dm k its).flatten).toArray
 |0,acc=>by simp
 |k+1,acc=>by
  have e:acc.toArray++its.toArray=(acc++its).toArray:=by simp
  have e2:(acc++its)++(dm k its).flatten=acc++(dm (k+1) its).flatten:=by rw[jg,nu,n_]
  rw[<- e2,<- foldl_rep its k (acc++its),<- e,jg,jk]
section
variable{X:Cx}{pins:Q0b}{σ:St}{H:Hp}{s:ao}{l b:ah}{xs ys zs:List V}
theorem Inv.we{its its':Q0f}{n:Nat}{f:Array ai->Array ai}{t':Nat}(I:Inv X pins σ H s)(hH:H l=aa (.lst xs))
  (e:s.heap.get? l=aa {cls:=.type "list",data:=.seq its.toArray n}) (hf:f its.toArray=its'.toArray) (hv:Vals ys its') (hz:ys.length<=bg):
  Inv X pins σ (upd H l (.lst ys)) {s with heap:=s.heap.update l (gz f),toks:=t' }:=by
 have q:=a3g e f;rw[hf] at q;refine I.write (x:=l) (e:=l) (by rw[hH];exact trivial) (.inl rfl) (λb' u hb hu=>(Fe s.heap (gz f) (e_ hb)).trans hu) ⟨_,q⟩ ?_;exact⟨hz,its',_,hv,q⟩
theorem Inv.Bf(I:Inv X pins σ H s)(hv:Vals ys its)(hz:ys.length<=bg):
  Inv X pins σ (upd H s.heap.objs.size (.lst ys)) {s with heap:=s.heap.push {cls:=.type "list",data:=.seq its.toArray},toks:=t' } :=
 I.laid (λ_ _ q=>di _ q) (bc _) ⟨hz,its,0,hv,gg _ rfl⟩
def Inv.fresh(I:Inv X pins σ H s):H s.heap.objs.size=af:=I.hok.fresh (bc _)
def Inv.N8(I:Inv X pins σ H s)(hH:H l=aa (.lst xs)):xs.length<=bg /\∃(its:Q0f) (n:Nat),Vals xs its/\xs.length=its.length/\s.heap.get? l=aa {cls:=.type "list",data:=.seq its.toArray n}:=by obtain⟨z,its,n,r,e⟩:=I.hok l _ hH;exact⟨z,its,n,r,r.length,e⟩
def T9{n:Nat}(h:n<=bg):Fo n=ag:=by unfold Fo;exact Zy (by omega)
end
section
variable{X:Cx}
def MG:V->List V->Hp->VK->Prop:=λx vs H Q=>∃l xs y,x=.ref l/\vs=[y]/\H l=aa (.lst xs)/\xs.length<bg/\Q .non (upd H l (.lst (xs++[y])))
def AX:MtM X "list.append" MG:=by intro pins s σ H x vs v us Q I rx rv h;obtain⟨l,xs,y,rfl,rfl,hH,hz,q⟩:=h;cases rx;obtain⟨u,rfl,ru⟩:=rv.one;obtain⟨z,its,n,r,hl,e⟩:=I.N8 hH;refine tu a06 ⟨_,e,rfl⟩ F.entry_list_append (F.args_list_append_2 _ _) (PySem.list_append l its.toArray n u (by rw[cf];omega)) ⟨e,?_⟩;refine⟨.non,_,I.we (its':=its++[u]) hH e (by simp) (r.append (.cons ru .nil)) ?_,rfl,q⟩;rw[bq,Gr];omega
def Qm:V->List V->Hp->VK->Prop:=λx vs H Q=>∃l xs y,x=.ref l/\vs=[]/\H l=aa (.lst xs)/\xs[xs.length-1]?=aa y/\Q y (upd H l (.lst xs.dropLast))
def aCk:MtM X "list.pop" Qm:=by
 intro pins s σ H x vs v us Q I rx rv h;obtain⟨l,xs,y,rfl,rfl,hH,hy,q⟩:=h;cases rx;have hus:=rv.zero;subst hus;obtain⟨z,its,n,r,hl,e⟩:=I.N8 hH;obtain⟨u,hu,ru⟩:=r.get hy;have hy':its.toArray[its.toArray.size-1]?=aa u:=by show its.toArray[its.length-1]?=aa u;rw[<- Hm,<- hl];exact hu
 refine tu yh ⟨_,e,rfl⟩ a1e (F.args_list_pop_1 _) (a3d l its.toArray n u hy' (by rw[cf];omega)) ⟨e,?_⟩;refine⟨y,_,I.we (its':=its.dropLast) hH e ?_ r.dropLast ?_,ru,q⟩
 .show its.toArray.eraseIdxIfInBounds (its.toArray.size-1)=its.dropLast.toArray;rw[cf,a2v,pM]
 .rw [List.length_dropLast];omega
def UA:V->List V->Hp->VK->Prop:=λx vs H Q=>∃l xs i k y,x=.ref l/\vs=[.int i]/\H l=aa (.lst xs) /\ -(2^63)<=i/\i<2^63/\seqIndex? i xs.length=aa k/\xs[k]?=aa y/\Q y (upd H l (.lst (xs.eraseIdx k)))
def UB:MtM X "list.pop" UA:=by
 intro pins s σ H x vs v us Q I rx rv h;obtain⟨l,xs,i,k,y,rfl,rfl,hH,h1,h2,hk,hy,q⟩:=h;cases rx;obtain⟨u,rfl,ru⟩:=rv.one;obtain⟨t,rfl⟩:=ru;obtain⟨z,its,n,r,hl,e⟩:=I.N8 hH;obtain⟨w,hw,wL⟩:=r.get hy;refine tu yh ⟨_,e,rfl⟩ a1e (F.args_list_pop_2 _ _)
  (a3e l its.toArray n i t k w (a0C h1 h2) (by rw[cf,<- hl];exact hk) (by rw[<- Hm];exact hw) (by rw[cf];omega)) ⟨e,?_⟩
 refine⟨y,_,I.we (its':=its.eraseIdx k) hH e ?_ (r.eraseIdx k) ?_,wL,q⟩
 .show its.toArray.eraseIdxIfInBounds k=(its.eraseIdx k).toArray;rw[a2v]
 .have:=AW xs k;omega
def Be:R2:=λx y H Q=>∃l b xs zs,x=.ref l/\y=.ref b/\H l=aa (.lst xs)/\H b=aa (.lst zs)/\xs.length+zs.length<=bg /\∀p,H p=af->Q (.ref p) (upd H p (.lst (xs++zs)))
def UC:j6 X (binaryOp .Add) Be:=by
 intro pins s σ H x y v u Q I rx ry h;obtain⟨l,b,xs,zs,rfl,rfl,hH,hB,hz,q⟩:=h;cases rx;cases ry;obtain⟨z,its,n,r,hl,e⟩:=I.N8 hH;obtain⟨z2,its2,n2,r2,hl2,e2⟩:=I.N8 hB;refine PySem.P.add_list e e2 ?_ (by rw[cf,cf];omega);have ea:its.toArray++its2.toArray=(its++its2).toArray:=by simp
 rw[ea];exact⟨.ref _,_,I.Bf (t':=s.toks) (r.append r2) (by rw[bq];omega),rfl,q _ I.fresh⟩
def Ql:R2:=λx y H Q=>∃l k xs,x=.ref l/\y=.int k/\H l=aa (.lst xs) /\ -(2^63)<=k/\k<2^63/\xs.length*k.toNat<=bg /\
 ∀p,H p=af->Q (.ref p) (upd H p (.lst (dm k.toNat xs).flatten))
theorem len_rep{α:Type}(xs:List α)(k:Nat):(dm k xs).flatten.length=k*xs.length:=by
 induction k with
 |zero=>simp
 |succ k ih=>rw[jg,nu,bq,ih,yz,Nat.add_comm]
def aCl:j6 X (binaryOp .Mult) Ql:=by
 intro pins s σ H x y v u Q I rx ry h;obtain⟨l,k,xs,rfl,rfl,hH,h1,h2,hz,q⟩:=h;cases rx;obtain⟨t,rfl⟩:=ry;obtain⟨z,its,n,r,hl,e⟩:=I.N8 hH;have hlen:its.toArray.size*k.toNat<=bg:=by rw[cf,<- hl];exact hz
 have hcap:¬ its.toArray.size*k.toNat>(2^63-1)/8:=by
  have:(bg:Nat)<=(2^63-1)/8:=by decide
  omega
 have hfit:¬ (!Builtin.List.listFitsIndex k)=ae:=by rw[a0C h1 h2];exact bt
 have Wh:¬ Fo (its.toArray.size*k.toNat)=ae:=by rw[T9 hlen];exact bt
 have hnew:Gz (λx1 x2=>x1++x2) #[] (dm (if its.toArray.isEmpty=ae then 0 else k.toNat) its.toArray)=(dm k.toNat its).flatten.toArray:=by
  have f0:∀m:Nat,Gz (λx1 x2=>x1++x2) #[] (dm m its.toArray)=(dm m its).flatten.toArray:=λm=>by have:=foldl_rep its m [];rw[k_] at this;exact this
  rw[f0]
  cases its with
  |nil=>simp
  |cons a r'=>rw[Zz (by simp)]
 refine wpAny_binaryOp_repeat_ref (T:="list") (U:="int") (by decide) ⟨_,e,rfl⟩ (λs'=>Em s' k t) noFill_list_mul F.fills_int_mul a07 repeat_list F.slot_int_index.lookup
  (tu a07 (Em s k t) F.entry_int_rmul (F.args_int_rmul_2 _ _) (int___rmul___int_list k t l its.toArray n)
   ⟨e,rfl,⟨_,e,rfl⟩,tu F.slot_list_mul ⟨_,e,rfl⟩ F.entry_list_mul (F.args_list_mul_2 _ _) (a3K l its.toArray n k t hfit hcap Wh) ⟨e,?_⟩⟩)
 rw[hnew];exact⟨.ref _,_,I.Bf (t':=s.toks) (r.rep k.toNat) (by rw[len_rep,Nat.mul_comm];exact hz),rfl,q _ I.fresh⟩
end
section
variable{prog:bh}{w:bb}{A:bp}{E:Q0c}{s:ao}
set_option maxRecDepth 100000 in
end
end L2
namespace Att
open PySem.W PySem.Calls PyProof.Rows
theorem uN:∀(ns:Q0e) (vs:Q0f),WellAll P h vs (ns.map a0R)->lp vs ns:=by
 intro ns
 induction ns with
 |nil =>
  intro vs w;rw[lh] at w;cases w;exact .nil
 |cons n ns ih =>
  intro vs w;rw[ba] at w
  cases w with
  |cons a b =>
   cases a;exact .cons _ _ (ih _ b)
theorem N9{l:ql}{n:Nat}(hn:l.most=aa n){P:Params}{h:bf}{args:List WData}{vals:Q0f}
  (hpre:l.row.toRowW.claim.pre args=ae) (hwl:WellAll P h vals args):
  ∃a vs ns,vals=[fu a]/\args=[WData.list (ns.map a0R)]/\h.get? a=aa {cls:=.type "list",data:=.seq vs.toArray}/\lp vs ns/\ns.length<=n:=by
 have hsh:WShape.hasAll [] args [.list .int]=ae:=(pre_splitW hpre).1;have hc:l.pre.holds [] {args:=args}=ae:=(pre_splitW hpre).2;obtain⟨d,r,rfl,h1,h2⟩:=hasAllW_cons hsh;obtain rfl:=hasAllW_nil h2;obtain⟨xs,rfl,h3⟩:=hasW_list h1;obtain⟨ns,rfl⟩:=items_int h3;have hlen:ns.length<=n:=by
  unfold OpenLaw.pre at hc;have h4:(WTm.not (.lt (.lit (.int (n:Int))) (.len (.arg 0)))).holds [] {args:=[.list (ns.map .int)]}=ae:=by have h4:=(holds_andW hc).1;rw[hn] at h4;exact h4
  have h5:=condW_of h4 (w_not (w_lt w_lit (w_len_list (w_arg rfl))));rw[az] at h5;refine Nat.le_of_not_lt λq=>?_;have q':(n:Int)<((ns.length:Nat):Int):=by omega
  first
   | (rw[Zx q'] at h5;exact Zw h5 (by decide))
   | (simp at h5;omega)
 cases hwl with
 |cons w1 w2 =>
  cases w2
  cases w1 with
  |list ho hall=>exact⟨_,_,ns,rfl,rfl,ho,uN ns _ hall,hlen⟩
def OA(l:ql)(args:List WData):l.row.toRowW.claim.post args (.bool ae) args=ae :=
 postW_of (r:=l.row.toRowW) (X:=(ae == ae))
  (show a0Q [] (.bool ae) .bool=ae by first|rfl|decide|simp[a0Q,WShape.arms,WShape.armsAll])
  (show(WTm.eq .res (.lit (.bool ae))).value [] {args:=args,res:=aa (.bool ae),after:=args}=aa (.bool (ae == ae)) from w_eq_bool (w_res rfl) w_lit) rfl
theorem FN{l:ql}{n:Nat}{q:bh}{loose:Q0g}{XP:(ak->Option ai)->bf->Prop}{YP:bb->bf->Prop}{d:DefRec}
  (hn:l.most=aa n) (hdf:d.params.defaults=[])
  (call:∀(w:bb) (s₀ s₁:ao) (mg mb:Q0d) (fa:ah) (o:aw) (pm cd doc:ai) (a:ah) (vs:Q0f) (ns:Q0e),
   Ground q loose [] XP w s₀ mg mb s₁.heap->YP w s₁.heap ->
   s₁.heap.get? fa=aa o->o.data=.func (docDef d.name d.params d.body d.scope pm cd doc)->s₁.heap.CodeRec cd d.name->mg d.name=aa (.ref fa) ->
   s₁.heap.get? a=aa {cls:=.type "list",data:=.seq vs.toArray}->lp vs ns->ns.length<=n->s₁.gens=#[] ->
   ou (ay l.prog w) callerA (.call (.ref fa) ⟨[.ref a],[]⟩) (λr s'=>r=.ok (.ret (.bool ae))/\OldK s₁.heap s'.heap/\s'.os=s₁.os/\lr s'.gens) s₁):
  Fc q loose XP YP l.row.toRowW d [] (λf vs=>Ex f vs):=by
 intro w s₀ s₁ mg mb G Y fa o pm cd doc dV kV ho hd hcd hD hmg hg args vals as hpre hlay hrd hwl hlo;obtain rfl:dV=.none:=Dflts.none hD hdf;obtain rfl:kV=.none:=Dflts.noKw hD;obtain⟨a,vs,ns,rfl,rfl,hobj,hints,hlen⟩:=N9 hn hpre hwl;refine enter_call (Ew (call w s₀ s₁ mg mb fa o pm cd doc a vs ns G Y ho (fd_plain hd) hcd hmg hobj hints hlen hg) λr s' hq=>?_);obtain⟨rfl,h2,h3,h4⟩:=hq;exact⟨.inl ⟨.bool ae,.bool ae,[],rfl,λ_=>rfl,.bool ae,OA l _,λ_=>⟨zj,λ_ hm=>(nomatch hm)⟩⟩,h2,h3,h4⟩
end Att
namespace L2
open PySem.Spec PyProof.Rows
theorem n6:∀{vs:Q0f} {ns:Q0e},lp vs ns->Vals (ns.map V.int) vs
 |_,_,.nil=>.nil
 |_,_,.cons n t h=>.cons ⟨t,rfl⟩ (n6 h)
def Only(H:Hp):Prop:=∀b,H b=af\/(∃o xs,H b=aa (.yP o (.lst xs))) \/∃q,H b=aa (.QL q)
structure TabsOk (K:aq) (q:bh):Prop where
 nd:((dQ K).map (·.2.2)).Nodup
 rc:∀t∈dQ K,∃e,(recsOf q).find? (λe=>e.name == t.1)=aa e
theorem IQ{K:aq}{t:ak×ah×ah}(h:t∈dQ K):tw K t.1=aa (t.2.1,t.2.2):=by
 obtain⟨x,_,e⟩:=zh.mp h
 cases q:tw K x with
 |none=>rw[q] at e;cases e
 |some p=>rw[q] at e;cases e;exact q
def IS(K:aq)(a:ah)(u:Option HO):Hp:=λb=>if b=a then u else((dQ K).find? λt=>t.2.2 == b).map λt=>.QL (mZ t.1)
theorem OB{l:List (ak×ah×ah)}(nd:(l.map (·.2.2)).Nodup){t:ak×ah×ah}(h:t∈l):l.find? (λu=>u.2.2 == t.2.2)=aa t:=by
 induction l with
 |nil=>cases h
 |cons u l ih =>
  rw[ba,gu] at nd;rw[ib];by_cases e:(u.2.2 == t.2.2)=ae
  .rw [e];rcases bu.1 h with z|z
   .rw [z]
   .exact Zw (gj.2 ⟨t,z,(eq_of_beq e).symm⟩) nd.1
  .rw [a2P] at e;rw[e];rcases bu.1 h with z|z
   .rw [z,beq_self_eq_true] at e;cases e
   .exact ih nd.2 z
theorem UD{P:bh}{w:bb}{K:aq}{mg mb:Q0d}{CX:MC}{k:Nat}{fa a:ah}{fd:gi}{x:ak}{sp:Sp}{s₁:ao}{vs:Q0f}{ns:Q0e}
  (KX:K.In s₁.heap) (hns:s₁.heap.Ns ie mg) (hb:s₁.heap.Ns builtinsNs mb) (hbb:∀x:ak,x ≠ "__name__"->mb x=bootBuiltins x) (hlim:s₁.heap.NoLimit)
  (hbm:∃bm ob,mg "__builtins__"=aa (.ref bm)/\bm≠builtinsNs/\s₁.heap.get? bm=aa ob/\ob.cls=.type "module" /\ob.dict=aa builtinsNs/\ob.data=.plain)
  (hT:∀t∈dQ K,CodeHd s₁.heap t.2.1 t.2.2/\s₁.heap.get? t.2.2=aa (tabObj #[])) (hnd:((dQ K).map (·.2.2)).Nodup) (hnt:noTabs K=ae) (hg:s₁.gens=#[])
  (ha:s₁.heap.get? a=aa {cls:=.type "list",data:=.seq vs.toArray}) (hi:lp vs ns) (hl:ns.length<=bg) (hr:fN k callerA)
  (F:∀base:bf,K.In base->base.Ns ie mg->lC P w K mg base CX k fa fd [x] sp) (hbind:∀(s:ao) (u:ai),pd s fd ⟨[u],[]⟩ [(x,u)])
  (hsp:∀H:Hp,Only H->eE K H a (ns.map V.int)->sp [.ref a] H (λv _=>v=.bl ae) λ_ _ _=>False)
  (vi:∀H e s',CX [] H s₁ (λ_ _ _=>False) e s'->False):
  ou (ay P w) callerA (.call (.ref fa) ⟨[.ref a],[]⟩) (λr s'=>r=.ok (.ret (.bool ae))/\OldK s₁.heap s'.heap/\s'.os=s₁.os/\lr s'.gens) s₁:=by
 have rv:=n6 hi;have lenV:=hi.length;have neA:∀t∈dQ K,t.2.2≠a:=λt ht z=>by have e:=(hT t ht).2;rw[z,ha] at e;cases e
 -- a tracked address: the script or a table
 have core:∀u:Option HO,(u=af \/∃o xs,u=aa (.yP o (.lst xs)))->eE K (IS K a u) a (ns.map V.int)->(∀v,u=aa v->dP P w (IS K a u) s₁.heap a v)->(u≠af->K.lookup a=af) ->
   ou (ay P w) callerA (.call (.ref fa) ⟨[.ref a],[]⟩) (λr s'=>r=.ok (.ret (.bool ae))/\OldK s₁.heap s'.heap/\s'.os=s₁.os/\lr s'.gens) s₁:=by
  intro u hu hS Bd hK;obtain⟨H,eH⟩:∃H,IS K a u=H:=⟨_,rfl⟩;have pW:∀t∈dQ K,H t.2.2=aa (.QL (mZ t.1)):=λt ht=>by rw[<- eH];unfold IS;rw[Zz (neA t ht),OB hnd ht];rfl
  have tG:∀b,H b=af\/(b=a/\H b=u/\u≠af) \/∃t∈dQ K,t.2.2=b/\H b=aa (.QL (mZ t.1)):=λb=>by
   by_cases hb:b=a
   .cases hu2:u with
    |none=>left;rw[<- eH];unfold IS;rw[Z_ hb,hu2]
    |some v=>right;left;refine⟨hb,?_,by simp⟩;rw[<- eH];unfold IS;rw[Z_ hb,hu2]
   .cases q:(dQ K).find? λt=>t.2.2 == b with
    |none=>left;rw[<- eH];unfold IS;rw[Zz hb,q];rfl
    |some t =>
     have e1:t.2.2=b:=eq_of_beq (List.find?_some (p:=λt:ak×ah×ah=>t.2.2 == b) q);have e2:=List.mem_of_find?_eq_some q;exact .inr (.inr ⟨t,e2,e1,by rw[<- e1];exact pW t e2⟩)
  rw[eH] at hS Bd;have hO:Only H:=λb=>by
   rcases tG b with z|⟨_,z,_⟩|⟨t,_,_,z⟩
   .exact .inl z
   .rcases hu with y|⟨o,xs,y⟩
    .exact .inl (z.trans y)
    .exact .inr (.inl ⟨o,xs,z.trans y⟩)
   .exact .inr (.inr ⟨_,z⟩)
  have hok:oI P w H s₁.heap:=λb v e=>by
   rcases tG b with z|⟨rfl,z,_⟩|⟨t,ht,rfl,z⟩
   .rw [z] at e;cases e
   .exact Bd v (by rw[<- z];exact e)
   .rw [z] at e;cases e;exact⟨#[],(hT t ht).2,trivial,λpos cv e=>by cases e⟩
  -- an object that is neither the script nor a table is not tracked
  have UE:∀{b:ah} {o:aw},s₁.heap.get? b=aa o->o.cls≠.none->(∀ys n,o.data≠.seq ys n)->H b=af:=λ{b o} e hc hs=>by
   rcases tG b with z|⟨rfl,_,_⟩|⟨t,ht,rfl,z⟩
   .exact z
   .rw [ha] at e;cases e;exact Zw rfl (hs _ _)
   .rw [(hT t ht).2] at e;cases e;exact Zw rfl hc
  have nsN:∀{b:ah} {o:aw} {es:Array yl} {ep:Nat},s₁.heap.get? b=aa o->o.data=.dict es ep->H b=af:=λ{b o es ep} e d=>by
   rcases tG b with z|⟨rfl,_,_⟩|⟨t,ht,rfl,z⟩
   .exact z
   .rw [ha] at e;cases e;cases d
   .rw [(hT t ht).2] at e;cases e;cases d
  have vA:∀{b:ah} {o:aw},s₁.heap.get? b=aa o->H b=af->(y9 s₁.heap H).get? b=aa o:=λe n=>TB e n;have nsK:∀{b:ah} {m:Q0d},s₁.heap.Ns b m->(y9 s₁.heap H).Ns b m:=λ{b m} ⟨o,es,ep,e,d,r⟩=>⟨o,es,ep,vA e (nsN e d),d,r⟩;have Af:K.In (y9 s₁.heap H):=λb o e=>vA (KX b o e) (by
   rcases tG b with z|⟨rfl,_,z⟩|⟨t,ht,rfl,z⟩
   .exact z
   .rw [hK z] at e;cases e
   .have e2:=KX _ o e;rw[(hT t ht).2] at e2;cases e2;have h2:=ke.mp hnt (t.2.2,tabObj #[]) (PySem.W.mem_of_lookupK e);exact Zw (show ag=ae from h2) bt)
  have hM:Mod K mg (y9 s₁.heap H):=⟨Af,nsK hns,⟨mb,nsK hb,hbb⟩,let ⟨mc,h1,h2⟩:=hlim;⟨mc,nsK h1,h2⟩,
   let ⟨bm,ob,b1,b2,b3,b4,b5,b6⟩:=hbm;⟨bm,ob,b1,b2,vA b3 (UE b3 (by rw[b4];nofun) λys n z=>by rw[b6] at z;cases z),b4,b5,b6⟩⟩
  have Qk:YN K (y9 s₁.heap H) H:=λt ht=>by obtain⟨o,vs',file,tf,flags,tg,inF,text,tt,e1,r1,r2,r3⟩:=(hT t ht).1;exact⟨⟨o,vs',file,tf,flags,tg,inF,text,tt,vA e1 (UE e1 (by rw[r1];nofun) λys n z=>by rw[r2] at z;cases z),r1,r2,r3⟩,pW t ht⟩
  have e0:Y2 P w K mg (y9 s₁.heap H) callerA [] s₁ H:=⟨rfl,hM,λb o e=>YM e,nc (NX _ _),trivial,λb hb=>Zw (show b∈([]:List ah) from hb) (by simp),hok,.of_eq hg,Qk⟩;refine Ew ((F _ Af (nsK hns)).run callerA [] s₁ H ⟨[.ref a],[]⟩ [.ref a] [.ref a] _ _ hr e0 (hbind s₁ (.ref a)) (.cons rfl .nil) (hsp H hO hS)) λr s' h=>?_
  cases r with
  |error e=>exact(vi H e s' h).elim
  |ok fl =>
   cases fl with
   |next=>exact ju h
   |brk=>exact ju h
   |cont=>exact ju h
   |ret v =>
    obtain⟨y,H',os,bare,un,hok',r',q⟩:=h;have q':y=.bl ae:=q;subst q';obtain rfl:v=yb ae:=r';have old:∀b o,s₁.heap.get? b=aa o->asItWas s₁.heap s'.heap b o /\∃o',s'.heap.get? b=aa o':=λb o e=>by
     rcases tG b with z|⟨rfl,z,hne⟩|⟨t,ht,rfl,z⟩
     .have k:=un.keep b o e z (by intro z;exact Zw (show b∈([]:List ah) from z) (by simp)) (by simp);exact⟨.inl k,o,k⟩
     .rcases hu with y|⟨ob,xs,y⟩
      .exact Zw y hne
      .have z1:=z.trans y;have z2:=un.sY b ob _ z1;obtain⟨e1,_⟩:=hok b _ z1;obtain⟨e2,_⟩:=hok' b _ z2;rw[e] at e1;cases e1;exact⟨.inl e2,o,e2⟩
     .obtain ⟨ps,e2,_⟩:=hok' _ _ (un.qO _ _ z);have e1:=(hT t ht).2;rw[e] at e1;cases e1;exact⟨.inr (.inl ⟨((hT t ht).1.tab (hT t ht).2).isCodeTable,rfl,#[],ps,rfl,by rw[e2,Array.empty_append]⟩),_,e2⟩
    exact⟨rfl,⟨λb o e=>(old b o e).1,λb o e=>(old b o e).2⟩,os,bare⟩
 cases hk:K.lookup a with
 |some o =>
  -- the script is one of the module's own objects
  have e:=KX a o hk;rw[ha] at e;cases e;exact core af (.inl rfl) (.inr ⟨_,vs.toArray,_,hk,rfl,rfl,rfl,by rw[cf,lenV];exact hl,by simpa using rv⟩) (λv z=>by cases z) λz=>Zw rfl z
 |none =>
  refine core (aa (.yP {cls:=.type "list",data:=.seq vs.toArray} (.lst (ns.map V.int)))) (.inr ⟨_,_,rfl⟩) (.inl (.inr ⟨{cls:=.type "list",data:=.seq vs.toArray},Z_ rfl⟩)) (λv z=>?_) λ_=>hk;cases z;exact⟨ha,by rw[az];exact hl,vs,_,rv,ha⟩
abbrev KOf{K:aq}{h:bf}(_:K.In h):aq:=K
theorem ZA{l:ql}{n k:Nat}{q:bh}{loose:Q0g}{XP:(ak->Option ai)->bf->Prop}{YP:bb->bf->Prop}{d:DefRec}{K:Params->aq}{CX:bb->MC}{sp:bb->Sp}{x:ak}
  (hn:l.most=aa n) (hn2:n<=bg) (hdf:d.params.defaults=[]) (hr:fN k callerA)
  (hY:∀(w:bb) (h:bf),YP w h->(K w.params).In h)
  (se:∀w:bb,TabsOk (K w.params) q) (hnt:∀w:bb,noTabs (K w.params)=ae)
  (F:∀(w:bb) (mg:Q0d) (fa:ah) (h:bf),(K w.params).In h->h.Ns ie mg->mg d.name=aa (.ref fa) ->
   ∃fd:gi,(∀(s:ao) (u:ai),pd s fd ⟨[u],[]⟩ [(x,u)]) /\
    ∀base:bf,(K w.params).In base->base.Ns ie mg->lC l.prog w (K w.params) mg base (CX w) k fa fd [x] (sp w))
  (hsp:∀(w:bb) (H:Hp) (a:ah) (ns:Q0e),ns.length<=n->Only H->eE (K w.params) H a (ns.map V.int)->sp w [.ref a] H (λv _=>v=.bl ae) λ_ _ _=>False)
  (vi:∀(w:bb) (H:Hp) (s:ao) (e:ai) (s':ao),CX w [] H s (λ_ _ _=>False) e s'->False):
  Fc q loose XP YP l.row.toRowW d [] (λf vs=>Ex f vs):=by
 refine Att.FN hn hdf λw s₀ s₁ mg mb fa o pm cd doc a vs ns G Y ho hd hcd hmg hobj hints hlen hg=>?_;have KX:=hY w _ Y;obtain⟨fd,hb,hF⟩:=F w mg fa _ KX G.T.g hmg;have hT:∀t∈dQ (K w.params),CodeHd s₁.heap t.2.1 t.2.2/\s₁.heap.get? t.2.2=aa (tabObj #[]):=λt ht=>by obtain⟨e,he⟩:=(se w).rc t ht;exact PySem.W.tab_of G.T KX he (IQ ht)
 exact UD KX G.T.g G.T.b G.T.builtins G.T.nolimit G.T.bmain hT (se w).nd (hnt w) hg hobj hints (gn hlen hn2) hr hF hb (λH hO hS=>hsp w H a ns hlen hO hS) λH e s'=>vi w H s₁ e s'
noncomputable def qW(s:de):Arguments:=match s with
 |.FunctionDef _ a _ _ _ _ _ _ _ _=>a
 |_=>{posonlyargs:=[],args:=[],vararg:=af,kwonlyargs:=[],kw_defaults:=[],kwarg:=af,defaults:=[]}
noncomputable def fJ(s:de):List de:=match s with
 |.FunctionDef _ _ b _ _ _ _ _ _ _=>b
 |_=>[]
noncomputable def bF(s:de):gf:=match s with
 |.FunctionDef _ _ _ _ _ _ sc _ _ _=>sc
 |_=>{kind:=.function,names:=[],isGenerator:=ag,isCoroutine:=ag}
abbrev dF:MC:=λ_ _ _ _ _ _=>False
abbrev E0:XK:=λ_ _ _=>False
def UG:Passes dF X E0:=λ_ _ _ _ _ _ _ h=>h.elim
structure ZC (K:aq) (x qual:ak) (st:de) (f:ah) (fd:gi):Prop where
 ex:∃(oc:ai) (od:Option ah) (kV doc pm:ai) (an:Option ah) (cdv ct:ai) (osl:Array (Option ai)),
  fd=fnOf x qual (qW st) (fJ st) (bF st) .none kV doc pm an cdv ct/\K.lookup f=aa ⟨oc,od,.func fd,osl⟩/\codeIn K cdv qual=ae
 kp:keepIn K (.ref f)=ae
section
variable{P:bh}{w:bb}{K:aq}{mg:Q0d}{base:bf}
theorem ZC.ok{x qual:ak}{st:de}{f:ah}{fd:gi}{N ps:Q0g}{k:Nat}{sp:Sp}(F:ZC K x qual st f fd)(S:gX N ps (bF st))(len:∀vs H Q E,sp vs H Q E->vs.length=ps.length)
  (hbody:∀(cdv:ai) (A:bp) (outer:List fm) (s:ao) (H:Hp) (vs:List V) (Q:VK) (E:XK),fN k (A.deeper (envOfC qual (bF st) s.heap.objs.size f cdv))->sp vs H Q E ->
   ∃t,yQ (tE dF P w K mg base N qual (bF st) f cdv A outer s H E).QM (fJ st) t/\t {nx:=λ_ H'=>Q .non H',rt:=Q} (start N vs) H):lC P w K mg base dF (k+1) f fd ps sp:=by
 obtain⟨oc,od,kV,doc,pm,an,cdv,ct,osl,rfl,lk,hcd⟩:=F.ex;refine Dc lk hcd S len λA outer s H vs Q E hr hsp=>?_;obtain⟨t,h,q⟩:=hbody cdv A outer s H vs Q E hr hsp;exact⟨t,h.QM,q⟩
theorem aCn{x qual:ak}{st:de}{f:ah}{oc:ai}{od an:Option ah}{osl:Array (Option ai)}{kV doc pm cdv ct:ai}(l:K.lookup f=aa ⟨oc,od,.func (fnOf x qual (qW st) (fJ st) (bF st) .none kV doc pm an cdv ct),osl⟩)
  (c:codeIn K cdv qual=ae) (k:keepIn K (.ref f)=ae):ZC K x qual st f (fnOf x qual (qW st) (fJ st) (bF st) .none kV doc pm an cdv ct):=⟨⟨oc,od,kV,doc,pm,an,cdv,ct,osl,rfl,l,c⟩,k⟩
end
def Same(H H':Hp):Prop:=∀b o,H b=aa o->H' b=aa o
def Same.refl(H:Hp):Same H H:=λ_ _ h=>h
def Same.trans{H H1 H2:Hp}(a:Same H H1)(b:Same H1 H2):Same H H2:=λc o h=>b c o (a c o h)
theorem Same.free{H H':Hp}(e:Same H H'){l:ah}(h:H' l=af):H l=af:=by
 cases q:H l with
 |none=>rfl
 |some o =>
  rw[e l o q] at h;cases h
section
variable{κ:Type}[DecidableEq κ]
def gI(kvs:List (κ×V))(k:κ):Option V:=(kvs.find? λkv=>Zv (kv.1=k)).map (·.2)
def putK(kvs:List (κ×V))(k:κ)(v:V):List (κ×V) :=
 if(kvs.any λkv=>Zv (kv.1=k))=ae then kvs.map (λkv=>if kv.1=k then(kv.1,v) else kv) else kvs++[(k,v)]
def fE{p:κ×V}{r:List (κ×V)}{k:κ}(e:p.1=k):gI (p::r) k=aa p.2:=by simp[gI,ib,e]
def fF{p:κ×V}{r:List (κ×V)}{k:κ}(e:¬ p.1=k):gI (p::r) k=gI r k:=by simp[gI,ib,e]
theorem m6(k:κ):∀kvs:List (κ×V),(kvs.any λkv=>Zv (kv.1=k))=(gI kvs k).isSome
 |[]=>rfl
 |p::r=>by
  rw[km];by_cases e:p.1=k
  .simp only[fE e,Zx e,Bool.true_or,Option.isSome_some]
  .rw [fF e,Zy e,vd];exact m6 k r
theorem FO(k j:κ)(y:V):∀kvs:List (κ×V),gI (kvs.map λkv=>if kv.1=k then(kv.1,y) else kv) j=(gI kvs j).map λx=>if j=k then y else x
 |[]=>rfl
 |p::r=>by
  have ih:=FO k j y r;rw[ba];by_cases h:p.1=k
  .rw [Z_ h];by_cases e:p.1=j
   .rw [fE (p:=(p.1,y)) e,fE e,kq,Z_ (e.symm.trans h)]
   .rw [fF (p:=(p.1,y)) e,fF e,ih]
  .rw [Zz h];by_cases e:p.1=j
   .rw [fE (p:=p) e,fE e,kq,Zz (λz=>h (e.trans z))]
   .rw [fF (p:=p) e,fF e,ih]
theorem AZ(k j:κ)(y:V):∀kvs:List (κ×V),gI kvs k=af->gI (kvs++[(k,y)]) j=if j=k then aa y else gI kvs j
 |[],_=>by
  by_cases e:k=j
  .rw [Z_ e.symm];exact fE (p:=(k,y)) e
  .rw [Zz (λz=>e z.symm)];exact fF (p:=(k,y)) e
 |p::r,hn=>by
  rw[kj];have hk:¬ p.1=k:=λz=>by rw[fE z] at hn;cases hn
  rw[fF hk] at hn;have ih:=AZ k j y r hn;by_cases e:p.1=j
  .rw [fE e,fE e,Zz (λz=>hk (e.trans z))]
  .rw [fF e,fF e,ih]
def UH(kvs:List (κ×V))(k j:κ)(y:V):gI (putK kvs k y) j=if j=k then aa y else gI kvs j:=by
 unfold putK;by_cases a:(kvs.any λkv=>Zv (kv.1=k))=ae
 .rw [Z_ a,FO];rw[m6] at a;by_cases e:j=k
  .obtain ⟨x,hx⟩:=yw.mp a;rw[Z_ e,e,hx,kq,Z_ rfl]
  .rw [Zz e]
   cases gI kvs j with
   |none=>rfl
   |some x=>rw[kq,Zz e]
 .rw [Zz a];refine AZ k j y kvs ?_;rw[m6] at a
  cases q:gI kvs k with
  |none=>rfl
  |some x=>rw[q] at a;exact(a rfl).elim
def uA(kvs:List (κ×V))(k:κ)(v:V):(putK kvs k v).length<=kvs.length+1:=by
 unfold putK;split
 .rw [az];omega
 .rw [bq,bx,fg];omega
def UI{kvs:List (κ×V)}{k:κ}(v:V)(h:gI kvs k=af):putK kvs k v=kvs++[(k,v)]:=by unfold putK;rw[m6,h];exact Zz (by decide)
theorem mX.n8(r:mX o u):o.isSome=u.isSome:=by
 cases o with
 |none=>cases u with
  |none=>rfl
  |some _=>exact(show False from r).elim
 |some _=>cases u with
  |none=>exact(show False from r).elim
  |some _=>rfl
theorem mX.getD{o:Option V}{u:Option ai}{d:V}{d':ai}(r:mX o u)(rd:RelV d d'):RelV (o.getD d) (u.getD d'):=by
 cases o with
 |none=>cases u with
  |none=>exact rd
  |some _=>exact(show False from r).elim
 |some _=>cases u with
  |none=>exact(show False from r).elim
  |some _=>exact r
theorem KV.val{kvs:List (κ×V)}{vs:List (κ×ai)}(r:KV kvs vs)(k:κ):mX (gI kvs k) (valueAt vs k):=by
 unfold KV at r
 induction r with
 |nil=>exact jn
 | @cons p q ps qs h t ih =>
  obtain⟨h1,h2⟩:=h;by_cases e:p.1=k
  .have e':q.1=k:=h1.symm.trans e;have b:valueAt (q::qs) k=aa q.2:=by simp[valueAt,ib,e']
   rw[fE e,b];exact h2
  .have e':¬ q.1=k:=λz=>e (h1.trans z);have b:valueAt (q::qs) k=valueAt qs k:=by simp[valueAt,ib,e']
   rw[fF e,b];exact ih
theorem KV.any{kvs:List (κ×V)}{vs:List (κ×ai)}(r:KV kvs vs)(k:κ):(kvs.any λkv=>Zv (kv.1=k))=vs.any λkv=>Zv (kv.1=k):=by
 unfold KV at r
 induction r with
 |nil=>rfl
 |cons h t ih=>rw[km,km,ih,h.1]
theorem KV.repl(r:KV kvs vs)(k:κ)(ry:RelV y u):
  KV (kvs.map λkv=>if kv.1=k then(kv.1,y) else kv) (vs.map λkv=>if kv.1=k then(kv.1,u) else kv):=by
 unfold KV at r ⊢
 induction r with
 |nil=>exact .nil
 | @cons p q ps qs h t ih =>
  rw[ba,ba];refine .cons ?_ ih;obtain⟨h1,h2⟩:=h;by_cases e:p.1=k
  .rw [Z_ e,Z_ (h1.symm.trans e)];exact⟨h1,ry⟩
  .rw [Zz e,Zz (λz=>e (h1.trans z))];exact⟨h1,h2⟩
def KV.put(r:KV kvs vs)(k:κ)(ry:RelV y u):KV (putK kvs k y) (stored vs k u):=by
 unfold putK stored;rw[r.any k];by_cases e:(vs.any λkv=>Zv (kv.1=k))=ae
 .rw [Z_ e,Z_ e];exact r.repl k ry
 .rw [Zz e,Zz e];exact yd r ⟨rfl,ry⟩
theorem KV.keys{kvs:List (κ×V)}{vs:List (κ×ai)}(r:KV kvs vs):kvs.map (·.1)=vs.map (·.1):=by
 unfold KV at r
 induction r with
 |nil=>rfl
 |cons h t ih=>rw[ba,ba,ih,h.1]
def KV.length{kvs:List (κ×V)}{vs:List (κ×ai)}(r:KV kvs vs):kvs.length=vs.length:=qq r
end
theorem oS(r:RelV (kV k) u):(bC P w).is k u=ae:=by
 cases k with
 |inl i=>obtain⟨t,e⟩:=(show ∃t,u=o_ i t from r);subst e;exact FE P w i t
 |inr x=>obtain⟨t,e⟩:=(show ∃t,u=ya x t from r);subst e;exact FF P w x t
theorem A1:∀{ks:List Key} {us:Q0f},Vals (ks.map kV) us->ItemsAre (bC P w) ks us
 |[],_,r=>by rw[lh] at r;cases r;exact .nil
 |k::ks,_,r=>by
  rw[ba] at r
  cases r with
  |cons h t=>exact .cons (oS h) (A1 t)
abbrev KT(H:Hp):List (List Key×V)->List (List Key×ah×ai)->Prop:=iu λp q=>p.1=q.1/\H q.2.1=aa (.tup (p.1.map kV))/\RelV p.2 q.2.2
theorem KT.val{H:Hp}{kvs:List (List Key×V)}{xs:List (List Key×ah×ai)}(r:KT H kvs xs)(k:List Key):mX (gI kvs k) ((atKey xs k).map (·.2)):=by
 induction r with
 |nil=>exact jn
 | @cons p q ps qs h t ih =>
  obtain⟨h1,_,h2⟩:=h;by_cases e:p.1=k
  .have e':q.1=k:=h1.symm.trans e;have b:atKey (q::qs) k=aa q.2:=by simp[atKey,ib,e']
   rw[fE e,b];exact h2
  .have e':¬ q.1=k:=λz=>e (h1.trans z);have b:atKey (q::qs) k=atKey qs k:=by simp[atKey,ib,e']
   rw[fF e,b];exact ih
theorem KT.repl(r:KT H kvs xs)(k:List Key)(ry:RelV y u):
  KT H (kvs.map λkv=>if kv.1=k then(kv.1,y) else kv) (xs.map (putAt k u)):=by
 induction r with
 |nil=>exact .nil
 | @cons p q ps qs h t ih =>
  rw[ba,ba];refine .cons ?_ ih;obtain⟨h1,h2,h3⟩:=h;unfold putAt;by_cases e:p.1=k
  .rw [Z_ e,Z_ (h1.symm.trans e)];exact⟨h1,h2,ry⟩
  .rw [Zz e,Zz (λz=>e (h1.trans z))];exact⟨h1,h2,h3⟩
theorem KT.put(r:KT H kvs xs)(k:List Key)(hb:H b=aa (.tup (k.map kV)))(ry:RelV y u):
  KT H (putK kvs k y) (storedH xs k b u):=by
 have e:(kvs.any λkv=>Zv (kv.1=k))=(atKey xs k).isSome:=by rw[m6,(r.val k).n8,ug]
 unfold putK storedH;rw[e];by_cases q:(atKey xs k).isSome=ae
 .rw [Z_ q,Z_ q];exact r.repl k ry
 .rw [Zz q,Zz q];exact yd r ⟨rfl,hb,ry⟩
def KT.keeps(r:KT H kvs xs)(ht:∀b ys,H b=aa (.tup ys)->H' b=aa (.tup ys)):KT H' kvs xs :=
 Paired.wo r λ_ _ z=>⟨z.1,ht _ _ z.2.1,z.2.2⟩
section
variable{P:bh}{w:bb}{H:Hp}{h:bf}{a:ah}
def C_(ok:oI P w H h)(e:Rd H a u):dP P w H h a u:=e.ok ok
def UJ(ok:oI P w H h)(e:Rd H a (.dK kvs)):kvs.length<=bg/\(a == sysModules)=ag /\∃vs,KV kvs vs/\h.DictOf (bC P w) a vs :=
 show dP P w H h a (.dK kvs) from C_ ok e
def Wg(ok:oI P w H h)(e:H a=aa (.dK kvs)):kvs.length<=bg/\(a == sysModules)=ag /\∃vs,KV kvs vs/\h.DictOf (bC P w) a vs:=UJ ok (.inl e)
def DF(ok:oI P w H h)(e:H a=aa (.tup (ks.map kV))):(tupleKind (bC P w)).is h ks a:=by obtain⟨_,its,r,⟨o,h1,h2,n,h3⟩,_⟩:=(show dP P w H h a (.tup (ks.map kV)) from ok a _ e);exact⟨o,its.toArray,n,h1,h2,h3,by simpa using A1 r⟩
theorem UK(ok:oI P w H h)(e:Rd H a (.dT kvs)):kvs.length<=bg/\(a == sysModules)=ag /\
  ∃xs,KT H kvs xs/\h.DictOfH (tupleKind (bC P w)) a xs:=by
 obtain⟨z,y,xs,r,o,es,ep,h1,h2,h3,h4,h5⟩:=(show dP P w H h a (.dT kvs) from C_ ok e);refine⟨z,y,xs,r,o,es,ep,h1,h2,h3,h4,λx hx=>?_,h5⟩;have all:∀{l:List (List Key×V)} {m:List (List Key×ah×ai)},KT H l m ->∀x∈m,(tupleKind (bC P w)).is h x.1 x.2.1:=by
  intro l m q
  induction q with
  |nil=>intro x hx;exact nomatch hx
  | @cons p q ps qs hq t ih =>
   intro x hx;rcases bu.mp hx with e|hx
   .subst e;exact DF ok (by rw[<- hq.1];exact hq.2.1)
   .exact ih x hx
 exact all r x hx
theorem We(ok:oI P w H h)(e:H a=aa (.dT kvs)):kvs.length<=bg/\(a == sysModules)=ag /\
  ∃xs,KT H kvs xs/\h.DictOfH (tupleKind (bC P w)) a xs:=UK ok (.inl e)
end
def FP(H:Hp)(a:ah)(y:V)(r:Option V):Prop :=
 (∃kvs k,Rd H a (.dK kvs)/\y=kV k/\r=gI kvs k) \/∃kvs k b,Rd H a (.dT kvs)/\y=.ref b/\H b=aa (.tup (k.map kV))/\r=gI kvs k
def IT(H:Hp)(a:ah)(y v:V)(H':Hp):Prop :=
 (∃kvs k,H a=aa (.dK kvs)/\y=kV k/\kvs.length<bg/\H'=upd H a (.dK (putK kvs k v))) \/
 ∃kvs k b,H a=aa (.dT kvs)/\y=.ref b/\H b=aa (.tup (k.map kV))/\kvs.length<bg/\H'=upd H a (.dT (putK kvs k v))
def FP.k{H:Hp}{a:ah}{kvs:List (Key×V)}{k:Key}(e:H a=aa (.dK kvs)):FP H a (kV k) (gI kvs k):=.inl ⟨kvs,k,.inl e,rfl,rfl⟩
def FP.t{H:Hp}{a b:ah}{kvs:List (List Key×V)}{k:List Key}(e:H a=aa (.dT kvs))(eb:H b=aa (.tup (k.map kV))):FP H a (.ref b) (gI kvs k):=.inr ⟨kvs,k,b,.inl e,rfl,eb,rfl⟩
def IT.k{H:Hp}{a:ah}{kvs:List (Key×V)}{k:Key}{v:V}(e:H a=aa (.dK kvs))(hl:kvs.length<bg):IT H a (kV k) v (upd H a (.dK (putK kvs k v))):=.inl ⟨kvs,k,e,rfl,hl,rfl⟩
theorem IT.t{H:Hp}{a b:ah}{kvs:List (List Key×V)}{k:List Key}{v:V}(e:H a=aa (.dT kvs))(eb:H b=aa (.tup (k.map kV)))(hl:kvs.length<bg):
  IT H a (.ref b) v (upd H a (.dT (putK kvs k v))):=.inr ⟨kvs,k,b,e,rfl,eb,hl,rfl⟩
section
variable{X:Cx}{pins:Q0b}{σ:St}{H:Hp}{s:ao}{a:ah}{y v:V}{u r:ai}{o:Option V}{A:bp}{E:Q0c}
def Inv.big(I:Inv X pins σ H s):sysModules<s.heap.objs.size:=by have h:ie<s.heap.objs.size:=(I.mod.glob.keeps I.bk).lt;exact a12 (by decide) h
theorem OC(hu:A.units+1<cx)(I:Inv X pins σ H s)(g:FP H a y (aa v))(ry:RelV y u)(h:∀w' s',Inv X pins σ H s'->RelV v w'->Q w' s'):
  ax (ay X.prog X.w) A (getItem (.ref a) u) Q E s:=by
 rcases g with⟨kvs,k,e,ey,l⟩|⟨kvs,k,b,e,ey,eb,l⟩
 .subst ey;obtain⟨z,hd,vs,rel,dd⟩:=UJ I.hok e;obtain⟨w',hw,wL⟩:=mX.some_of (v:=v) (o:=valueAt vs k) (by rw[l];exact rel.val k);exact a0m (oS ry) dd.mapOf hw (h w' _ (I.tok _) wL)
 .subst ey;cases (show u=fu b from ry);obtain⟨z,hd,xs,rel,dd⟩:=UK I.hok e;obtain⟨w',hw,wL⟩:=mX.some_of (v:=v) (o:=(atKey xs k).map (·.2)) (by rw[l];exact rel.val k);obtain⟨p,hp,hp2⟩:=mx.mp hw;refine a0n (a0u hu) (DF I.hok eb) dd hp ?_;rw[hp2];exact h w' _ (I.tok _) wL
theorem n9(I:Inv X pins σ H s)(mu:Mut (H a))(hs:pb a s.heap h')(he:∃q,h'.get? a=aa q)(new:dP X.prog X.w (upd H a ob) h' a ob):
  Inv X pins σ (upd H a ob) {s with heap:=h',toks:=t' } :=
 I.write (x:=a) (e:=a) mu (.inl rfl) (λb q hb z=>(hs.2 b hb).trans z) he new
theorem aCo(z:kvs.length<=bg)(hd:(a == sysModules)=ag)(rel:KV kvs vs)(dd:h'.DictOf (bC P w) a vs):
  dP P w H' h' a (.dK kvs):=⟨z,hd,vs,rel,dd⟩
theorem OD(hu:A.units+1<cx)(I:Inv X pins σ H s)(g:IT H a y v H')(ry:RelV y u)(rv:RelV v r)(h:∀s',Inv X pins σ H' s'->Q () s'):
  ax (ay X.prog X.w) A (setItem (.ref a) u r) Q E s:=by
 rcases g with⟨kvs,k,e,ey,l,eH⟩|⟨kvs,k,b,e,ey,eb,l,eH⟩
 .subst ey eH;obtain⟨z,hd,vs,rel,dd⟩:=Wg I.hok e;have hz:vs.length<=bg:=by rw[<- rel.length];exact z
  have hl:(putK kvs k v).length<=bg:=by have:=uA kvs k v;omega
  refine a0d (hsz:=hz) (oS ry) dd λh' QN hs=>h _ ?_;have he:∃q,h'.get? a=aa q:=let ⟨q,_,_,hq,_⟩:=QN;⟨q,hq⟩;exact n9 I (by rw[e];exact jn) hs he (aCo hl hd (rel.put k rv) QN)
 .subst ey eH;cases (show u=fu b from ry);obtain⟨z,hd,xs,rel,dd⟩:=We I.hok e;have hz:xs.length<=bg:=by rw[<- qq rel];exact z
  have hl:(putK kvs k v).length<=bg:=by have:=uA kvs k v;omega
  refine a0e (hsz:=hz) (a0u hu) (DF I.hok eb) dd λh' QN hs=>h _ ?_;obtain⟨q,es,ep,hq,h2,h3,h4,_,h5⟩:=QN;refine n9 I (by rw[e];exact jn) hs ⟨q,hq⟩ ⟨hl,hd,_,(rel.put k eb rv).keeps λc ys ec=>?_,q,es,ep,hq,h2,h3,h4,h5⟩;rw[bE (Dh ec e (λz=>nomatch z))];exact ec
end
def IU(i:ar):Prop:=∀ov iv,subscripted i ag ov iv=operate [ov,iv] (getItem ov iv)
theorem MH{prog:bh}{w:bb}{A:bp}{E:Q0c}{s:ao}{env:fm}{value slice:ar}{pos:bo}{T id:String}{Q:Q0c}
  (hl:typeLookup (.type T) "__getitem__"=pure (aa (.builtin id))) (hs:IU slice)
  (h:ax (ay prog w) A (eval value env) (λo s₁=>ax (ay prog w) A (eval slice env) (λi s₂=>s₂.TypeIs o T/\ax (ay prog w) A (getItem o i) Q E s₂) E s₁) E s):
  ax (ay prog w) A (eval (.Subscript value slice pos) env) Q E s:=by
 refine Fw (jx h (λo s₁ h₁=>jx h₁ (λi s₂ h₂=>?_) λ_ _ x=>x) λ_ _ x=>x);obtain⟨hT,h₂⟩:=h₂;unfold subscriptTail;refine au ?_;rw[getitemInPython_of_ne hT.not_modules];refine au (Ee hT hl ?_);have fin:ax (ay prog w) A (subscripted slice ag o i) (λr s₃=>ax (ay prog w) A (letTemporaryGo value o r >>= λ_=>pure r) Q E s₃) E s₂:=by rw[hs o i];exact wpAny_operating (jx h₂ (λr s₃ h₃=>au (wpAny_letTemporaryGo (a_ h₃))) λ_ _ x=>x)
 first
  |exact a_ (au fin)
  |exact au (a_ (au fin))
  |exact au fin
def FQ(I:Inv X pins σ H s)(g:FP H a y o):s.TypeIs (.ref a) "dict":=by
 rcases g with⟨kvs,k,e,_,_⟩|⟨kvs,k,b,e,_,_,_⟩
 .obtain ⟨_,_,vs,_,dd⟩:=UJ I.hok e;exact dd.typeIs
 .obtain ⟨_,_,xs,_,dd⟩:=UK I.hok e;exact dd.typeIs
def Wd(td ty:TE):TE:=λσ H Q=>td σ H λx H1=>ty σ H1 λy H2=>∃a v,x=.ref a/\FP H2 a y (aa v)/\Q v H2
def Wc(td ty tv:TE):TS:=λD σ H=>tv σ H λv H1=>td σ H1 λx H2=>ty σ H2 λy H3=>∃a H4,x=.ref a/\IT H3 a y v H4/\D.nx σ H4
section
variable{X:Cx}{o i e value:ar}{pos pos' tpos:bo}{td ty tv:TE}
def ZD(hu:X.A.units+1<cx)(ho:PE X o td)(hi:PE X i ty)(hs:IU i):PE X (.Subscript o i pos) (Wd td ty):=by intro pins s σ H Q I h;refine MH a09.lookup hs (dR (ho pins s σ H _ I h) λu s1 ⟨x,H1,I1,rx,q1⟩=>dR (hi pins s1 σ H1 _ I1 q1) λiv s2 ⟨y,H2,I2,ry,a,v,ex,g,q2⟩=>?_);subst ex;obtain rfl:u=fu a:=rx;exact⟨FQ I2 g,OC hu I2 g ry λw' s3 I3 wL=>⟨v,H2,I3,wL,q2⟩⟩
theorem ZE(hu:X.A.units+1<cx)(ho:PE X o td)(hi:PE X i ty)(hv:PE X value tv)(hs:fj value (aa (.Subscript o i pos')) pos.line X.env=pure ag):
  PS X (.Assign [.Subscript o i pos'] value pos) (Wc td ty tv):=by
 intro pins s σ H D I h;refine a0t (dR (hv pins s σ H _ I h) λr s1 ⟨v,H1,I1,rv,q1⟩=>dR (ho pins s1 σ H1 _ I1 q1) λu s2 ⟨x,H2,I2,rx,q2⟩=>dR (hi pins s2 σ H2 _ I2 q2) λiv s3 ⟨y,H3,I3,ry,a,H4,ex,g,q3⟩=>?_) hs;subst ex;obtain rfl:u=fu a:=rx;exact OD hu I3 g ry rv λs4 I4=>⟨σ,H4,I4,q3⟩
end
def UL(h:bf)(hb:sysModules<h.objs.size):dP P w H (h.push {cls:=.type "dict",data:=.dict #[]}) h.objs.size (.dK []) :=
 ⟨kr _,beq_eq_false_iff_ne.mpr (e_ (h_ hb)),[],.nil,a3i h⟩
def aCp:TE:=λ_ H Q=>∀p,H p=af->Q (.ref p) (upd H p (.dK []))
section
variable{X:Cx}{pos:bo}
def UM:PE X (.Dict [] [] pos) aCp:=λpins s σ H Q I h =>
 a0s ⟨.ref s.heap.objs.size,_,I.laid (a:=s.heap.objs.size) (o:=.dK []) (t':=s.toks) (λ_ _ q=>di _ q) (bc _) (UL s.heap I.big),rfl,h _ (I.hok.fresh (bc _))⟩
end
noncomputable def UN:List (TE×TE)->St->Hp->(List (V×V)->Hp->Prop)->Prop
 |[],_,H,Q=>Q [] H
 | (tk,tv)::r,σ,H,Q=>tk σ H λx H1=>tv σ H1 λy H2=>UN r σ H2 λps H3=>Q ((x,y)::ps) H3
abbrev VV:List (V×V)->List (ai×ai)->Prop:=iu λp q=>RelV p.1 q.1/\RelV p.2 q.2
def PPs(X:Cx)(pos:bo)(keys:List (Option ar))(values:List ar)(trs:List (TE×TE)):Prop :=
 ∀(pins:Q0b) (s:ao) (σ:St) (H:Hp) (Q:List (V×V)->Hp->Prop),Inv X pins σ H s->UN trs σ H Q ->
  ax (ay X.prog X.w) X.A (evalPairs (pairTrees keys values X.env pos)) (λvs s'=>∃ps H',Inv X pins σ H' s'/\VV ps vs/\Q ps H') X.xe s
def ZF:PPs X pos [] [] []:=λpins s σ H Q I h=>pairTrees_nil_walk ⟨[],H,I,.nil,h⟩
theorem UO(hk:PE X k tk)(hv:PE X v tv)(hr:PPs X pos ks vs trs):
  PPs X pos (aa k::ks) (v::vs) ((tk,tv)::trs):=λpins s σ H Q I h =>
 pairTrees_cons_walk (dR (hk pins s σ H _ I h) λu s1 ⟨x,H1,I1,rx,q1⟩=>dR (hv pins s1 σ H1 _ I1 q1) λw2 s2 ⟨y,H2,I2,ry,q2⟩ =>
  dR (hr pins s2 σ H2 _ I2 q2) λws s3 ⟨ps,H3,I3,rel,q3⟩=>⟨(x,y)::ps,H3,I3,.cons ⟨rx,ry⟩ rel,q3⟩)
structure M1 (X:Cx) (o:ar) (m:ak) (apos:bo) (e:ar) (cpos:bo):Prop where
 base:attributeBase o m X.env (eval o X.env)=eval o X.env
 few:((fq cpos (av [e] X.env)).all (λx=>!x.1)&&(backToKw cpos (mn [] X.env)).all (λx=>x.1.isSome)
  && Zv (([e]:List ar).length+([]:List iw).length+(if([]:List iw).isEmpty then 0 else 1)<30))=ae
 line:(apos.endLine == cpos.line)=ae
 trees:fq cpos (av [e] X.env)=[(ag,eval e X.env)]
structure M2 (X:Cx) (o:ar) (m:ak) (apos:bo) (e f:ar) (cpos:bo):Prop where
 base:attributeBase o m X.env (eval o X.env)=eval o X.env
 few:((fq cpos (av [e,f] X.env)).all (λx=>!x.1)&&(backToKw cpos (mn [] X.env)).all (λx=>x.1.isSome)
  && Zv (([e,f]:List ar).length+([]:List iw).length+(if([]:List iw).isEmpty then 0 else 1)<30))=ae
 line:(apos.endLine == cpos.line)=ae
 trees:fq cpos (av [e,f] X.env)=[(ag,eval e X.env),(ag,eval f X.env)]
end L2
end
namespace L3
open L2
def Scr(K:aq)(H:Hp)(a:ah)(ns:Q0e):Prop:=(∃o,H a=aa (.yP o (.lst (ns.map V.int))))\/eE K (λ_=>af) a (ns.map V.int)
def Rw(S:ah->Prop)(H:Hp)(xs:Q0a)(p:ah):Prop:=∃as:List ah,H p=aa (.lst (as.map V.ref))/\as.Nodup/\(∀a∈as,S a)/\as.map H=xs.map λx=>aa (.lst (x.map V.int))
mutual
noncomputable def Dn(K:aq)(S:ah->Prop)(H:Hp):D->V->Prop
 |.non,v=>v=.non
 |.bl b,v=>v=.bl b
 |.int i,v=>v=.int i
 |.str x,v=>v=.str x
 |.tup ds,v=>∃a xs,v=.ref a/\H a=aa (.tup xs)/\aX K S H ds xs
 |.lst ds,v=>∃a xs,v=.ref a/\H a=aa (.lst xs)/\S a/\aX K S H ds xs
 |.fX ns,v=>∃a,v=.ref a/\Scr K H a ns
 |.jR ks ds,v=>∃a xs,v=.ref a/\H a=aa (.dK (ks.zip xs))/\S a/\ks.length=xs.length/\aX K S H ds xs
 |.cD q ks ds,v=>∃a o kvs,v=.ref a/\H a=aa (.dX o kvs)/\S a/\(kvs.map (·.1)=ks/\q a o)/\aX K S H ds (kvs.map (·.2.2))
 |.exc _ a,v=>v=.ref a
 |.rws xs,v=>∃a,v=.ref a/\S a/\Rw S H xs a
noncomputable def aX(K:aq)(S:ah->Prop)(H:Hp):List D->List V->Prop
 |[],xs=>xs=[]
 |d::ds,xs=>∃v r,xs=v::r/\Dn K S H d v/\aX K S H ds r
end
structure Fits (K:aq) (S S':ah->Prop) (H H':Hp):Prop where
 t:∀a xs,H a=aa (.tup xs)->H' a=aa (.tup xs)
 s:∀a ns,Scr K H a ns->Scr K H' a ns
 l:∀a xs,H a=aa (.lst xs)->S a->H' a=aa (.lst xs)/\S' a
 d:∀a xs,H a=aa (.dK xs)->S a->H' a=aa (.dK xs)/\S' a
 e:∀a o xs,H a=aa (.dX o xs)->S a->H' a=aa (.dX o xs)/\S' a
section
variable{K:aq}{S S':ah->Prop}{H H':Hp}
def Rw.fits(f:Fits K S S' H H')(hp:∀ys,H p=aa (.lst ys)->H' p=aa (.lst ys))(h:Rw S H xs p):Rw S' H' xs p:=by
 obtain⟨as,h1,h2,h3,h4⟩:=h;have hl:as.length=xs.length:=by have:=congrArg rf h4;simpa using this
 have at1:∀i (hi:i<as.length),H as[i]=aa (.lst ((xs[i]'(hl▸hi)).map V.int)):=λi hi=>by have:=congrArg (λl=>l[i]?) h4;simpa[hi,hl▸hi] using this
 refine⟨as,hp _ h1,h2,λa ha=>?_,List.ext_getElem (by simpa using hl) λi hi hi2=>?_⟩
 .obtain ⟨i,hi,rfl⟩:=ur ha;exact(f.l _ _ (at1 i hi) (h3 _ ha)).2
 .rw [az] at hi;rw[Gv,Gv];exact(f.l _ _ (at1 i hi) (h3 _ (ni hi))).1
mutual
theorem Dn.fits(f:Fits K S S' H H'):∀(d:D) (v:V),Dn K S H d v->Dn K S' H' d v
 |.non,v,h=>by simpa only[Dn] using h
 |.bl b,v,h=>by simpa only[Dn] using h
 |.int i,v,h=>by simpa only[Dn] using h
 |.str x,v,h=>by simpa only[Dn] using h
 |.tup ds,v,h=>by simp only[Dn] at h ⊢;obtain⟨a,xs,e,q,r⟩:=h;exact⟨a,xs,e,f.t a xs q,aX.fits f ds xs r⟩
 |.lst ds,v,h=>by simp only[Dn] at h ⊢;obtain⟨a,xs,e,q,s,r⟩:=h;obtain⟨q',s'⟩:=f.l a xs q s;exact⟨a,xs,e,q',s',aX.fits f ds xs r⟩
 |.fX ns,v,h=>by simp only[Dn] at h ⊢;obtain⟨a,e,q⟩:=h;exact⟨a,e,f.s a ns q⟩
 |.jR ks ds,v,h=>by simp only[Dn] at h ⊢;obtain⟨a,xs,e,q,s,l,r⟩:=h;obtain⟨q',s'⟩:=f.d a _ q s;exact⟨a,xs,e,q',s',l,aX.fits f ds xs r⟩
 |.cD _ ks ds,v,h=>by simp only[Dn] at h ⊢;obtain⟨a,o,kvs,e,q,s,l,r⟩:=h;obtain⟨q',s'⟩:=f.e a _ _ q s;exact⟨a,o,kvs,e,q',s',l,aX.fits f ds _ r⟩
 |.exc _ _,v,h=>by simpa only[Dn] using h
 |.rws xs,v,h=>by simp only[Dn] at h ⊢;obtain⟨a,e,s,r⟩:=h;obtain⟨as,h1,h2⟩:=r;exact⟨a,e,(f.l a _ h1 s).2,Rw.fits f (λys e1=>(f.l a ys e1 s).1) ⟨as,h1,h2⟩⟩
theorem aX.fits(f:Fits K S S' H H'):∀(ds:List D) (xs:List V),aX K S H ds xs->aX K S' H' ds xs
 |[],xs,h=>by simpa only[aX] using h
 |d::ds,xs,h=>by simp only[aX] at h ⊢;obtain⟨v,r,e,h1,h2⟩:=h;exact⟨v,r,e,Dn.fits f d v h1,aX.fits f ds r h2⟩
end
mutual
theorem Dn.OE:∀(d:D) (v:V),d.tT=ae->Dn K S H d v->Dn K S' H d v
 |.non,v,_,h=>by simpa only[Dn] using h
 |.bl b,v,_,h=>by simpa only[Dn] using h
 |.int i,v,_,h=>by simpa only[Dn] using h
 |.str x,v,_,h=>by simpa only[Dn] using h
 |.tup ds,v,hi,h=>by simp only[Dn] at h ⊢;obtain⟨a,xs,e,q,r⟩:=h;exact⟨a,xs,e,q,aX.OE ds xs (by simpa only[D.tT] using hi) r⟩
 |.lst _,v,hi,h=>by simp only[D.tT] at hi;cases hi
 |.fX ns,v,_,h=>by simpa only[Dn] using h
 |.jR _ _,v,hi,h=>by simp only[D.tT] at hi;cases hi
 |.cD _ _ _,v,hi,h=>by simp only[D.tT] at hi;cases hi
 |.exc _ _,v,_,h=>by simpa only[Dn] using h
 |.rws _,v,hi,h=>by simp only[D.tT] at hi;cases hi
theorem aX.OE:∀(ds:List D) (xs:List V),jS ds=ae->aX K S H ds xs->aX K S' H ds xs
 |[],xs,_,h=>by simpa only[aX] using h
 |d::ds,xs,hi,h=>by simp only[jS,gw] at hi;simp only[aX] at h ⊢;obtain⟨v,r,e,h1,h2⟩:=h;exact⟨v,r,e,Dn.OE d v hi.1 h1,aX.OE ds r hi.2 h2⟩
end
def Dn.tT(hi:d.tT=ae)(h:Dn K S H d v):Dn K S' H d v:=Dn.OE d v hi h
def aX.tT(hi:jS ds=ae)(h:aX K S H ds xs):aX K S' H ds xs:=aX.OE ds xs hi h
def eE.some(h:eE K (λ_=>af) a xs):eE K H a xs:=by
 rcases h with(h|⟨o,h⟩)|h
 .cases h
 .cases h
 .exact .inr h
def Scr.sq(h:Scr K H a ns):eE K H a (ns.map V.int):=by
 rcases h with⟨o,h⟩|h
 .exact .inl (.inr ⟨o,h⟩)
 .exact eE.some h
def Wr(H:Hp)(p:ah):Prop:=(∃xs,H p=aa (.lst xs))\/(∃xs,H p=aa (.dK xs)) \/∃o xs,H p=aa (.dX o xs)
def Wr.tup(w:Wr H p)(h:H a=aa (.tup xs)):upd H p o a=aa (.tup xs):=by
 rw[bE]
 .exact h
 .intro e;subst e;rcases w with⟨ys,w⟩|⟨ys,w⟩|⟨_,ys,w⟩<;>rw[h] at w<;>cases w
def Wr.fX(w:Wr H p)(h:Scr K H a ns):Scr K (upd H p o) a ns:=by
 rcases h with⟨ob,h⟩|h
 .refine .inl ⟨ob,?_⟩;rw[bE]
  .exact h
  .intro e;subst e;rcases w with⟨ys,w⟩|⟨ys,w⟩|⟨_,ys,w⟩<;>rw[h] at w<;>cases w
 .exact .inr h
def Fits.same(e:Same H H'):Fits K S S H H' :=
 ⟨λa xs h=>e _ _ h,λa ns h=>h.elim (λ⟨o,h⟩=>.inl ⟨o,e _ _ h⟩) .inr,λa xs h s=>⟨e _ _ h,s⟩,λa xs h s=>⟨e _ _ h,s⟩,λa _ xs h s=>⟨e _ _ h,s⟩⟩
def Fits.mono(m:∀a,S a->S' a):Fits K S S' H H :=
 ⟨λ_ _ h=>h,λ_ _ h=>h,λa _ h s=>⟨h,m a s⟩,λa _ h s=>⟨h,m a s⟩,λa _ _ h s=>⟨h,m a s⟩⟩
def Fits.fresh(hp:H p=af):Fits K S (λa=>S a/\a≠p) H H :=
 ⟨λ_ _ h=>h,λ_ _ h=>h,λa _ h s=>⟨h,s,bH h hp⟩,λa _ h s=>⟨h,s,bH h hp⟩,λa _ _ h s=>⟨h,s,bH h hp⟩⟩
def Fits.upd(w:Wr H p)(hs:¬ S p):Fits K S S H (upd H p o):=by have ne:∀a,S a->a≠p:=λa s e=>hs (e▸s);exact⟨λa xs h=>w.tup h,λa ns h=>w.fX h,λa xs h s=>⟨by rw[bE (ne a s)];exact h,s⟩,λa xs h s=>⟨by rw[bE (ne a s)];exact h,s⟩,λa _ xs h s=>⟨by rw[bE (ne a s)];exact h,s⟩⟩
def Fits.trans(a:Fits K S S' H H')(b:Fits K S' S'' H' H''):Fits K S S'' H H'' :=
 ⟨λx xs h=>b.t x xs (a.t x xs h),λx ns h=>b.s x ns (a.s x ns h),λx xs h s=>let ⟨h1,s1⟩:=a.l x xs h s;b.l x xs h1 s1,λx xs h s=>let ⟨h1,s1⟩:=a.d x xs h s;b.d x xs h1 s1,λx o xs h s=>let ⟨h1,s1⟩:=a.e x o xs h s;b.e x o xs h1 s1⟩
def aZ(hp:H p=af):Same H (upd H p o):=λb u h=>by rw[bE (bH h hp)];exact h
theorem aX.len:∀{ds:List D} {xs:List V},aX K S H ds xs->ds.length=xs.length
 |[],xs,h=>by simp only[aX] at h;subst h;rfl
 |d::ds,xs,h=>by simp only[aX] at h;obtain⟨v,r,e,_,h2⟩:=h;subst e;simp[aX.len h2]
theorem aX.get:∀{ds:List D} {xs:List V} {i:Nat} {d:D},aX K S H ds xs->ds[i]?=aa d ->∃v,xs[i]?=aa v/\Dn K S H d v
 |[],xs,i,d,h,e=>by simp at e
 |d::ds,xs,i,d',h,e=>by
  simp only[aX] at h;obtain⟨v,r,e1,h1,h2⟩:=h;subst e1
  cases i with
  |zero=>simp at e;subst e;exact⟨v,by simp,h1⟩
  |succ i =>
   obtain⟨u,e2,q⟩:=aX.get (i:=i) (d:=d') h2 (by simpa using e);exact⟨u,by simpa using e2,q⟩
def aX.nil:aX K S H [] []:=by simp only[aX]
def aX.cons(h:Dn K S H d v)(t:aX K S H ds xs):aX K S H (d::ds) (v::xs):=by simp only[aX];exact⟨v,xs,rfl,h,t⟩
def aX.bO(h:aX K S H (d::ds) xs):∃v r,xs=v::r/\Dn K S H d v/\aX K S H ds r:=by simpa only[aX] using h
theorem aX.append:∀{ds es:List D} {xs ys:List V},aX K S H ds xs->aX K S H es ys->aX K S H (ds++es) (xs++ys)
 |[],es,xs,ys,h,g=>by simp only[aX] at h;subst h;exact g
 |d::ds,es,xs,ys,h,g=>by obtain⟨v,r,e,h1,h2⟩:=h.bO;subst e;exact aX.cons h1 (aX.append h2 g)
def aX.one(h:Dn K S H d v):aX K S H [d] [v]:=aX.cons h aX.nil
theorem aX.take:∀{ds:List D} {xs:List V} (n:Nat),aX K S H ds xs->aX K S H (ds.take n) (xs.take n)
 |_,_,0,_=>by simp[aX.nil]
 |[],xs,n+1,h=>by simp only[aX] at h;subst h;simp[aX.nil]
 |d::ds,xs,n+1,h=>by obtain⟨v,r,e,h1,h2⟩:=h.bO;subst e;simpa using aX.cons h1 (aX.take n h2)
theorem aX.drop:∀{ds:List D} {xs:List V} (n:Nat),aX K S H ds xs->aX K S H (ds.drop n) (xs.drop n)
 |_,_,0,h=>by simpa using h
 |[],xs,n+1,h=>by simp only[aX] at h;subst h;simp[aX.nil]
 |d::ds,xs,n+1,h=>by obtain⟨v,r,e,h1,h2⟩:=h.bO;subst e;simpa using aX.drop n h2
theorem aX.set:∀{ds:List D} {xs:List V} {d:D} {v:V} (n:Nat),Dn K S H d v->aX K S H ds xs->aX K S H (ds.set n d) (xs.set n v)
 |[],xs,d,v,n,h,g=>by simp only[aX] at g;subst g;simp[aX.nil]
 |d::ds,xs,d',v',n,h,g=>by
  obtain⟨v,r,e,h1,h2⟩:=g.bO;subst e
  cases n with
  |zero=>exact aX.cons h h2
  |succ n=>exact aX.cons h1 (aX.set n h h2)
theorem aX.erase:∀{ds:List D} {xs:List V} (n:Nat),aX K S H ds xs->aX K S H (ds.eraseIdx n) (xs.eraseIdx n)
 |[],xs,n,g=>by simp only[aX] at g;subst g;simp[aX.nil]
 |d::ds,xs,n,g=>by
  obtain⟨v,r,e,h1,h2⟩:=g.bO;subst e
  cases n with
  |zero=>exact h2
  |succ n=>exact aX.cons h1 (aX.erase n h2)
theorem aX.ints:∀{ns:Q0e} {xs:List V},aX K S H (ns.map D.int) xs↔xs=ns.map V.int
 |[],xs=>by simp[aX]
 |n::ns,xs=>by
  rw[ba,ba]
  constructor
  .intro h;obtain⟨v,r,e,h1,h2⟩:=h.bO;simp only[Dn] at h1;rw[e,h1,aX.ints.mp h2]
  .intro e;rw[e];exact aX.cons (by simp only[Dn]) (aX.ints.mpr rfl)
theorem i6:∀ns:Q0e,jS (ns.map D.int)=ae
 |[]=>rfl
 |n::ns=>by rw[ba,jS,i6 ns];rfl
end
def Sl(K:aq)(S:ah->Prop)(H:Hp)(ρ:dJ)(σ:St):Prop:=∀(i:Nat) (d:D),ρ[i]?=aa (aa d) ->∃v,σ[i]?=aa (aa v)/\Dn K S H d v
theorem Sl.fits{K:aq}{S S':ah->Prop}{H H':Hp}{ρ:dJ}{σ:St}(f:Fits K S S' H H')(h:Sl K S H ρ σ):Sl K S' H' ρ σ:=λi d e =>
 let ⟨v,e1,q⟩:=h i d e;⟨v,e1,Dn.fits f d v q⟩
def xN(K:aq)(S:ah->Prop)(H:Hp)(d:D)(p:ah):Prop :=
 match d with
 |.lst ds=>∃xs,H p=aa (.lst xs)/\aX K S H ds xs
 |.jR ks ds=>∃xs,H p=aa (.dK (ks.zip xs))/\ks.length=xs.length/\aX K S H ds xs
 |.cD q ks ds=>∃o kvs,H p=aa (.dX o kvs)/\(kvs.map (·.1)=ks/\q p o)/\aX K S H ds (kvs.map (·.2.2))
 |.rws xs=>Rw S H xs p
 |_=>False
def SO(S:ah->Prop)(w:Nat->ah)(ρ:bV):ah->Prop:=λa=>S a /\∀(i:Nat) (d:D),ρ[i]?=aa (Sv.ow d)->a≠w i
structure ST (K:aq) (H₀:Hp) (S:ah->Prop) (w:Nat->ah) (σ:St) (H:Hp) (ρ:bV) (G:List (D×V)):Prop where
 fc:∀a,H₀ a=af->S a
 sm:Same H₀ H
 own:∀(i:Nat) (d:D),ρ[i]?=aa (Sv.ow d)->σ[i]?=aa (aa (.ref (w i)))/\H₀ (w i)=af/\xN K (SO S w ρ) H d (w i)
 inj:∀(i j:Nat) (d e:D),ρ[i]?=aa (Sv.ow d)->ρ[j]?=aa (Sv.ow e)->w i=w j->i=j
 ro:∀(i:Nat) (d:D),ρ[i]?=aa (Sv.ro d) ->∃v,σ[i]?=aa (aa v)/\Dn K (SO S w ρ) H d v
 gh:∀g∈G,Dn K (SO S w ρ) H g.1 g.2
 rw:∀(i:Nat) (xs:Q0a),ρ[i]?=aa (Sv.ow (.rws xs)) ->∀ys,H (w i)=aa (.lst ys) ->∀a,V.ref a∈ys->H₀ a=af
section
variable{K:aq}{H₀ H H':Hp}{S S':ah->Prop}{w:Nat->ah}{σ:St}{ρ:bV}{G:List (D×V)}
theorem xN.wr(h:xN K S H d p):Wr H p:=by
 cases d with
 |lst ds=>obtain⟨xs,e,_⟩:=h;exact .inl ⟨_,e⟩
 |jR ks ds=>obtain⟨xs,e,_⟩:=h;exact .inr (.inl ⟨_,e⟩)
 |cD q0 ks ds=>obtain⟨o,kvs,e,_⟩:=h;exact .inr (.inr ⟨_,_,e⟩)
 |rws xs=>obtain⟨_,e,_⟩:=h;exact .inl ⟨_,e⟩
 |_=>exact ju h
theorem xN.dn{d:D}{p:ah}(h:xN K S H d p)(hs:S' p)(m:∀a,S a->S' a):Dn K S' H d (.ref p):=by
 cases d with
 |lst ds=>obtain⟨xs,e,q⟩:=h;simp only[Dn];exact⟨p,xs,rfl,e,hs,aX.fits (.mono m) ds xs q⟩
 |jR ks ds=>obtain⟨xs,e,l,q⟩:=h;simp only[Dn];exact⟨p,xs,rfl,e,hs,l,aX.fits (.mono m) ds xs q⟩
 |cD q0 ks ds=>obtain⟨o,kvs,e,l,q⟩:=h;simp only[Dn];exact⟨p,o,kvs,rfl,e,hs,l,aX.fits (.mono m) ds _ q⟩
 |rws xs=>simp only[Dn];exact⟨p,rfl,hs,Rw.fits (.mono (K:=K) m) (λ_ e=>e) h⟩
 |_=>exact ju h
theorem xN.fits{d:D}{p:ah}(f:Fits K S S' H H')(hp:∀o,H p=aa o->H' p=aa o)(h:xN K S H d p):xN K S' H' d p:=by
 cases d with
 |lst ds=>obtain⟨xs,e,q⟩:=h;exact⟨xs,hp _ e,aX.fits f ds xs q⟩
 |jR ks ds=>obtain⟨xs,e,l,q⟩:=h;exact⟨xs,hp _ e,l,aX.fits f ds xs q⟩
 |cD q0 ks ds=>obtain⟨o,kvs,e,l,q⟩:=h;exact⟨o,kvs,hp _ e,l,aX.fits f ds _ q⟩
 |rws xs=>exact Rw.fits f (λ_ e=>hp _ e) h
 |_=>exact ju h
def ST.rwN(h:ST K H₀ S w σ H ρ G)(q:ρ[i]?=aa (Sv.ow (.rws xs)))(hp:∀o,H (w i)=aa o->H' (w i)=aa o):∀ys,H' (w i)=aa (.lst ys) ->∀a,V.ref a∈ys->H₀ a=af:=λys hy=>by obtain⟨as,e,_⟩:=(h.own i _ q).2.2;rw[hp _ e] at hy;cases hy;exact h.rw i xs q _ e
def ST.XA(h:ST K H₀ S w σ H ρ G):∀a,H a=af->S a:=λa e=>h.fc a (h.sm.free e)
def ST.IV(h:ST K H₀ S w σ H ρ G):∀a,H a=af->SO S w ρ a:=λa e=>⟨h.XA a e,λi d q z=>by have wr:=(h.own i d q).2.2.wr;subst z;rcases wr with⟨xs,k⟩|⟨xs,k⟩|⟨_,xs,k⟩<;>rw[e] at k<;>cases k⟩
theorem zC{i:Nat}{d:D}(h:(bW ρ)[i]?=aa (aa d)):ρ[i]?=aa (Sv.ro d)\/ρ[i]?=aa (Sv.ow d):=by
 unfold bW at h;rw[cg] at h
 cases e:ρ[i]? with
 |none=>rw[e] at h;cases h
 |some s =>
  rw[e] at h
  cases s with
  |no=>cases h
  |ro d'=>cases h;exact .inl rfl
  |ow d'=>cases h;exact .inr rfl
theorem DG{i:Nat}{d:D}(h:(gJ ρ)[i]?=aa (aa d)):ρ[i]?=aa (Sv.ro d):=by
 unfold gJ at h;rw[cg] at h
 cases e:ρ[i]? with
 |none=>rw[e] at h;cases h
 |some s =>
  rw[e] at h
  cases s with
  |no=>cases h
  |ro d'=>cases h;rfl
  |ow d'=>cases h
def ST.all(h:ST K H₀ S w σ H ρ G):Sl K S H (bW ρ) σ:=λi d e=>by
 rcases zC e with e|e
 .obtain ⟨v,e1,q⟩:=h.ro i d e;exact⟨v,e1,Dn.fits (.mono λ_ z=>z.1) d v q⟩
 .obtain ⟨e1,e2,q⟩:=h.own i d e;exact⟨_,e1,q.dn (h.fc _ e2) λ_ z=>z.1⟩
def ST.rd(h:ST K H₀ S w σ H ρ G):Sl K (SO S w ρ) H (gJ ρ) σ:=λi d e=>h.ro i d (DG e)
def ST.same(h:ST K H₀ S w σ H ρ G)(e:Same H H'):ST K H₀ S w σ H' ρ G :=
 ⟨h.fc,h.sm.trans e,λi d q=>let ⟨a,b,c⟩:=h.own i d q;⟨a,b,c.fits (.same e) λo z=>e _ o z⟩,h.inj,λi d q=>let ⟨v,a,b⟩:=h.ro i d q;⟨v,a,Dn.fits (.same e) d v b⟩,λg hg=>Dn.fits (.same e) _ _ (h.gh g hg),λi xs q=>h.rwN q λo z=>e _ o z⟩
def SO.mono{ρ':bV}(hw:∀(i:Nat) (d:D),ρ'[i]?=aa (Sv.ow d) ->∃e,ρ[i]?=aa (Sv.ow e)):∀a,SO S w ρ a->SO S w ρ' a:=λa hq8=>by obtain⟨s,n⟩:=hq8;exact⟨s,λi d e=>let ⟨d',e'⟩:=hw i d e;n i d' e'⟩
def get_set{α:Type}{l:List α}{i j:Nat}{x y:α}(h:(l.set i x)[j]?=aa y):(j=i/\y=x/\i<l.length)\/(j≠i/\l[j]?=aa y):=by
 by_cases e:j=i
 .subst e;by_cases hl:j<l.length
  .rw [lj hl] at h;exact .inl ⟨rfl,(df h).symm,hl⟩
  .rw [kc (by simp;omega)] at h;cases h
 .rw [jj (e_ e)] at h;exact .inr ⟨e,h⟩
theorem ST.jO{i:Nat}{d:D}{v:V}(h:ST K H₀ S w σ H ρ G)(hi:i<σ.length)(q:Dn K (SO S w ρ) H d v):ST K H₀ S w (σ.set i (aa v)) H (ρ.set i (.ro d)) G:=by
 have hw:∀(j:Nat) (e:D),(ρ.set i (.ro d))[j]?=aa (Sv.ow e)->j≠i/\ρ[j]?=aa (Sv.ow e):=λj e he=>by
  rcases get_set he with⟨_,z,_⟩|z
  .cases z
  .exact z
 have m:∀a,SO S w ρ a->SO S w (ρ.set i (.ro d)) a:=SO.mono λj e he=>⟨e,(hw j e he).2⟩;refine⟨h.fc,h.sm,λj e he=>?_,λj k d' e' h1 h2=>h.inj j k d' e' (hw j d' h1).2 (hw k e' h2).2,λj e he=>?_,λg hg=>Dn.fits (.mono m) _ _ (h.gh g hg),λj xs hx=>h.rw j xs (hw j _ hx).2⟩
 .obtain ⟨hj,he'⟩:=hw j e he;obtain⟨a,b,c⟩:=h.own j e he';exact⟨by rw[jj (e_ hj)];exact a,b,c.fits (.mono m) λ_ z=>z⟩
 .rcases get_set he with⟨hj,z,_⟩|⟨hj,z⟩
  .cases z;subst hj;exact⟨v,lj hi,Dn.fits (.mono m) d v q⟩
  .obtain ⟨u,a,b⟩:=h.ro j e z;exact⟨u,by rw[jj (e_ hj)];exact a,Dn.fits (.mono m) e u b⟩
noncomputable def freeze(ρ:bV)(i:Nat):bV:=match ρ[i]? with
 |some (.ow d)=>ρ.set i (.ro d)
 |_=>ρ
theorem ST.frozen{i:Nat}(h:ST K H₀ S w σ H ρ G):ST K H₀ S w σ H (freeze ρ i) G:=by
 unfold freeze
 cases e:ρ[i]? with
 |none=>exact h
 |some s =>
  cases s with
  |no=>exact h
  |ro d=>exact h
  |ow d =>
   dsimp only;obtain⟨a,b,c⟩:=h.own i d e;have hi:i<σ.length:=(cn.mp a).1;have hw:∀(j:Nat) (e:D),(ρ.set i (.ro d))[j]?=aa (Sv.ow e)->j≠i/\ρ[j]?=aa (Sv.ow e):=λj e he=>by
    rcases get_set he with⟨_,z,_⟩|z
    .cases z
    .exact z
   have m:∀a,SO S w ρ a->SO S w (ρ.set i (.ro d)) a:=SO.mono λj e he=>⟨e,(hw j e he).2⟩;refine⟨h.fc,h.sm,λj f hf=>?_,λj k d' e' h1 h2=>h.inj j k d' e' (hw j d' h1).2 (hw k e' h2).2,λj f hf=>?_,λg hg=>Dn.fits (.mono m) _ _ (h.gh g hg),λj xs hx=>h.rw j xs (hw j _ hx).2⟩
   .obtain ⟨a,b,c⟩:=h.own j f (hw j f hf).2;exact⟨a,b,c.fits (.mono m) λ_ z=>z⟩
   .rcases get_set hf with⟨hj,z,_⟩|⟨hj,z⟩
    .cases z;subst hj;refine⟨_,a,c.dn ⟨h.fc _ b,λk f' hk z=>?_⟩ m⟩;obtain⟨hk1,hk2⟩:=hw k f' hk;exact hk1 (h.inj _ _ _ _ e hk2 z).symm
    .obtain ⟨u,a,b⟩:=h.ro j f z;exact⟨u,a,Dn.fits (.mono m) f u b⟩
theorem ST.xO{i:Nat}{d:D}{p:ah}(h:ST K H₀ S w σ H ρ G)(hi:i<σ.length)(e:Same H H')(hp:H p=af)(q:xN K (λa=>SO S w ρ a/\a≠p) H' d p)
  (hr:∀xs,d=.rws xs ->∀ys,H' p=aa (.lst ys) ->∀a,V.ref a∈ys->H₀ a=af:=by intro _ z;cases z):
  ST K H₀ S (λj=>if j=i then p else w j) (σ.set i (aa (.ref p))) H' (ρ.set i (.ow d)) G:=by
 have h0:H₀ p=af:=h.sm.free hp;have hw:∀(j:Nat) (e:D),j≠i->(ρ.set i (.ow d))[j]?=aa (Sv.ow e)->ρ[j]?=aa (Sv.ow e):=λj e hj he=>by
  rcases get_set he with⟨z,_,_⟩|⟨_,z⟩
  .exact Zw z hj
  .exact z
 have m:∀a,(SO S w ρ a/\a≠p)->SO S (λj=>if j=i then p else w j) (ρ.set i (.ow d)) a:=λa ⟨⟨s,n⟩,ne⟩=>⟨s,λj f hf=>by
  show a≠(if j=i then p else w j);by_cases hj:j=i
  .rw [Z_ hj];exact ne
  .rw [Zz hj];exact n j f (hw j f hj hf)⟩
 have F:Fits K (SO S w ρ) (SO S (λj=>if j=i then p else w j) (ρ.set i (.ow d))) H H':=((Fits.fresh hp).trans (.mono m)).trans (.same e);have wp:∀(j:Nat) (f:D),ρ[j]?=aa (Sv.ow f)->w j≠p:=λj f hf z=>by have wr:=(h.own j f hf).2.2.wr;rw[z] at wr;rcases wr with⟨xs,k⟩|⟨xs,k⟩|⟨_,xs,k⟩<;>rw[hp] at k<;>cases k
 refine⟨h.fc,h.sm.trans e,λj f hf=>?_,λj k d' e' h1 h2 z=>?_,λj f hf=>?_,λg hg=>Dn.fits F _ _ (h.gh g hg),λj xs hx=>?_⟩
 rotate_right
 .show ∀ys,H' (if j=i then p else w j)=aa (.lst ys)->_;by_cases hj:j=i
  .subst hj;rw[Z_ rfl];rcases get_set hx with⟨_,z,_⟩|⟨z,_⟩
   .exact hr xs (Sv.ow.inj z).symm
   .exact Zw rfl z
  .rw [Zz hj];exact h.rwN (hw j _ hj hx) λo z=>e _ o z
 .by_cases hj:j=i
  .subst hj;rcases get_set hf with⟨_,z,_⟩|⟨z,_⟩
   .cases z;rw[Z_ rfl];exact⟨lj hi,h0,q.fits (.mono m) λ_ z=>z⟩
   .exact Zw rfl z
  .rw [Zz hj];obtain⟨a,b,c⟩:=h.own j f (hw j f hj hf);exact⟨by rw[jj (e_ hj)];exact a,b,c.fits F λo z=>e _ o z⟩
 .have z:(if j=i then p else w j)=(if k=i then p else w k):=z;by_cases hj:j=i
  .by_cases hk:k=i
   .rw [hj,hk]
   .rw [Z_ hj,Zz hk] at z;exact Zw z.symm (wp k e' (hw k e' hk h2))
  .by_cases hk:k=i
   .rw [Zz hj,Z_ hk] at z;exact Zw z (wp j d' (hw j d' hj h1))
   .rw [Zz hj,Zz hk] at z;exact h.inj j k d' e' (hw j d' hj h1) (hw k e' hk h2) z
 .rcases get_set hf with⟨_,z,_⟩|⟨hj,z⟩
  .cases z
  .obtain ⟨u,a,b⟩:=h.ro j f z;exact⟨u,by rw[jj (e_ hj)];exact a,Dn.fits F f u b⟩
def ST.write{i:Nat}{d d':D}{o:HO}(h:ST K H₀ S w σ H ρ G)(e:ρ[i]?=aa (Sv.ow d))(q:xN K (SO S w ρ) (upd H (w i) o) d' (w i))(hr:∀xs,d'≠.rws xs:=by intro _ z;cases z):ST K H₀ S w σ (upd H (w i) o) (ρ.set i (.ow d')) G:=by
 obtain⟨a0,b0,c0⟩:=h.own i d e;have so:SO S w (ρ.set i (.ow d'))=SO S w ρ:=by
  funext a
  refine propext ⟨λ⟨s,n⟩=>⟨s,λj f hf=>?_⟩,λ⟨s,n⟩=>⟨s,λj f hf=>?_⟩⟩
  .by_cases hj:j=i
   .subst hj;exact n j d' (by rw[lj (cn.mp e).1])
   .exact n j f (by rw[jj (e_ hj)];exact hf)
  .by_cases hj:j=i
   .subst hj;exact n j d e
   .exact n j f (by rw[jj (e_ hj)] at hf;exact hf)
 have nS:¬ SO S w ρ (w i):=λ⟨_,n⟩=>n i d e rfl;have F:Fits K (SO S w ρ) (SO S w ρ) H (upd H (w i) o):=.upd c0.wr nS;refine⟨h.fc,λb u hb=>?_,λj f hf=>?_,λj k d1 e1 h1 h2 z=>?_,λj f hf=>?_,λg hg=>by rw[so];exact Dn.fits F _ _ (h.gh g hg),λj xs hx=>?_⟩
 rotate_right
 .rcases get_set hx with⟨_,z,_⟩|⟨hj,z⟩
  .exact Zw (Sv.ow.inj z).symm (hr xs)
  .exact h.rwN z λob hob=>by rw[bE λy=>hj (h.inj _ _ _ _ z e y)];exact hob
 .rw [bE (bH hb b0)];exact h.sm b u hb
 .rw [so];rcases get_set hf with⟨hj,z,_⟩|⟨hj,z⟩
  .cases z;subst hj;exact⟨a0,b0,q⟩
  .obtain ⟨a,b,c⟩:=h.own j f z;exact⟨a,b,c.fits F λob hob=>by rw[bE λy=>hj (h.inj _ _ _ _ z e y)];exact hob⟩
 .have g1:∃d2,ρ[j]?=aa (Sv.ow d2):=by
   rcases get_set h1 with⟨hj,_,_⟩|⟨_,z⟩
   .subst hj;exact⟨d,e⟩
   .exact ⟨_,z⟩
  have g2:∃d2,ρ[k]?=aa (Sv.ow d2):=by
   rcases get_set h2 with⟨hj,_,_⟩|⟨_,z⟩
   .subst hj;exact⟨d,e⟩
   .exact ⟨_,z⟩
  obtain⟨_,g1⟩:=g1;obtain⟨_,g2⟩:=g2;exact h.inj j k _ _ g1 g2 z
 .rw [so];rcases get_set hf with⟨_,z,_⟩|⟨hj,z⟩
  .cases z
  .obtain ⟨u,a,b⟩:=h.ro j f z;exact⟨u,a,Dn.fits F f u b⟩
def ST.ghost(h:ST K H₀ S w σ H ρ G)(hg:∀g∈G',Dn K (SO S w ρ) H g.1 g.2):ST K H₀ S w σ H ρ G':=⟨h.fc,h.sm,h.own,h.inj,h.ro,hg,h.rw⟩
end
open PySem.Spec PyProof.Rows
abbrev WE:=dJ->(D->Prop)->Prop
abbrev WT:=dJ->(Bool->Prop)->Prop
abbrev WA:=dJ->(List D->Prop)->Prop
def lift(K:aq)(t:WE):TE:=λσ H Q=>∃(S:ah->Prop) (ρ:dJ) (Q3:D->Prop),(∀a,H a=af->S a)/\Sl K S H ρ σ/\t ρ Q3 /\∀v H' d,Same H H'->Dn K S H' d v->Q3 d->Q v H'
def liftT(K:aq)(t:WT):TT:=λσ H Q=>∃(S:ah->Prop) (ρ:dJ) (Q3:Bool->Prop),(∀a,H a=af->S a)/\Sl K S H ρ σ/\t ρ Q3 /\∀b H',Same H H'->Q3 b->Q b H'
def UP(K:aq)(t:WA):TA:=λσ H Q=>∃(S:ah->Prop) (ρ:dJ) (Q3:List D->Prop),(∀a,H a=af->S a)/\Sl K S H ρ σ/\t ρ Q3 /\∀vs H' ds,Same H H'->aX K S H' ds vs->Q3 ds->Q vs H'
def UQ(K:aq)(t:WE):TE:=λσ H Q=>∃(S:ah->Prop) (ρ:dJ) (Q3:D->Prop),(∀a,H a=af->S a)/\Sl K S H ρ σ/\t ρ Q3 /\
 ∀p xs H' ds,H p=af->H' p=aa (.lst xs)->Same H H'->aX K (λa=>S a/\a≠p) H' ds xs->Q3 (.lst ds)->Q (.ref p) H'
def c9(X:Cx)(e:ar)(t:WE):Prop:=PE X e (lift X.K t)
def FR(X:Cx)(e:ar)(t:WE):Prop:=PE X e (UQ X.K t)
def vB(X:Cx)(e:ar)(t:WT):Prop:=PT X e (liftT X.K t)
def xP(X:Cx)(es:List ar)(t:WA):Prop:=PA X es (UP X.K t)
section
variable{X:Cx}
def imp(h:PE X e t)(f:∀σ H Q,t' σ H Q->t σ H Q):PE X e t':=λpins s σ H Q I q=>h pins s σ H Q I (f σ H Q q)
def OG(h:PT X e t)(f:∀σ H Q,t' σ H Q->t σ H Q):PT X e t':=λpins s σ H Q I q=>h pins s σ H Q I (f σ H Q q)
def UR(h:PA X e t)(f:∀σ H Q,t' σ H Q->t σ H Q):PA X e t':=λpos pins s σ H Q I q=>h pos pins s σ H Q I (f σ H Q q)
def bX{H H':Hp}{S:ah->Prop}(fc:∀a,H a=af->S a)(s:Same H H'):∀a,H' a=af->S a:=λa e=>fc a (s.free e)
theorem FR.pe(h:FR X e t):c9 X e t:=imp h λσ H Q hq9=>by obtain⟨S,ρ,Q3,fc,sl,ht,k⟩:=hq9;exact⟨S,ρ,Q3,fc,sl,ht,λp xs H' ds hp hp' s dn q=>k _ H' _ s (by simp only[Dn];exact⟨p,xs,rfl,hp',fc p hp,aX.fits (.mono λ_ z=>z.1) ds xs dn⟩) q⟩
noncomputable def ZG(i:Nat):WE:=λρ Q=>match ρ[i]? with
 |some (aa d)=>Q d
 |_=>False
def wC(d:D):WE:=λ_ Q=>Q d
def US{K:aq}{i:Nat}{σ:L2.St}{H:Hp}{Q:VK}(h:lift K (ZG i) σ H Q):YQ i σ H Q:=by
 obtain⟨S,ρ,Q3,fc,sl,ht,k⟩:=h;unfold ZG at ht;split at ht
 .rename_i d e;obtain⟨v,e1,q⟩:=sl i d e;exact⟨v,e1,k v H d (Same.refl H) q ht⟩
 .exact ht.elim
def x3(i:Nat)(hN:X.N[i]?=aa x:=by rfl)(hv:AN X.env.scope x:=by first|exact d_ rfl|exact cc (d_ rfl)|exact cc (cc rfl))(hd:(x == ("__debug__":ak))=ag:=by decide)
  (hcd:(x == ("__classdict__":ak))=ag:=by decide):c9 X (.Name x pos) (ZG i):=imp (lV hN hv hd hcd) λ_ _ _=>US
def DH{K:aq}{d:D}{v:V}{σ:L2.St}{H:Hp}{Q:VK}(hd:∀S H,Dn K S H d v)(h:lift K (wC d) σ H Q):tC v σ H Q:=by obtain⟨S,ρ,Q3,fc,sl,ht,k⟩:=h;exact k v H d (Same.refl H) (hd S H) ht
def i3{j pos}:c9 X (.Constant (.int i) j pos) (wC (.int i)):=imp aCJ λ_ _ _=>DH (λ_ _=>by simp only[Dn])
def b3{j pos}:c9 X (.Constant (.bool b) j pos) (wC (.bl b)):=imp Xm λ_ _ _=>DH (λ_ _=>by simp only[Dn])
def n3{j pos}:c9 X (.Constant .none j pos) (wC .non):=imp aCK λ_ _ _=>DH (λ_ _=>by simp only[Dn])
def g3(hg:Gl X x)(hm:X.mg x=aa (.int i t))(hd:(x == ("__debug__":ak))=ag:=by decide):c9 X (.Name x pos) (wC (.int i)) :=
 imp (YR hg hm (v:=.int i) ⟨t,rfl⟩ hd) λ_ _ _=>DH (λ_ _=>by simp only[Dn])
abbrev F2:=D->D->(D->Prop)->Prop
def g5(f:F2)(ta tb:WE):WE:=λρ Q=>ta ρ λx=>tb ρ λy=>f x y Q
def O3(K:aq)(r:R2)(f:F2):Prop:=∀(S:ah->Prop) (H:Hp) (x y:V) (dx dy:D) (Q3:D->Prop) (Q:VK),(∀a,H a=af->S a)->Dn K S H dx x->Dn K S H dy y->f dx dy Q3 ->
 (∀v H' d,Same H H'->Dn K S H' d v->Q3 d->Q v H')->r x y H Q
def qX{K:aq}{r:R2}{f:F2}{ta tb:WE}{σ:L2.St}{H:Hp}{Q:VK}(h3:O3 K r f)(h:lift K (g5 f ta tb) σ H Q):qg r (lift K ta) (lift K tb) σ H Q:=by obtain⟨S,ρ,Q3,fc,sl,ht,k⟩:=h;refine⟨S,ρ,_,fc,sl,ht,λv H1 d s1 d1 q1=>?_⟩;refine⟨S,ρ,_,bX fc s1,Sl.fits (.same s1) sl,q1,λu H2 d2 s2 d2' q2=>?_⟩;exact h3 S H2 v u d d2 Q3 Q (bX fc (s1.trans s2)) (Dn.fits (.same s2) _ _ d1) d2' q2 λv' H' d' s' dn' q'=>k v' H' d' ((s1.trans s2).trans s') dn' q'
theorem UT(ho:j6 X (binaryOp op) r)(h3:O3 X.K r f)(ha:c9 X a ta)(hb:c9 X b tb):c9 X (.BinOp a op b pos) (g5 f ta tb) :=
 imp (TY ho ha hb) λ_ _ _=>qX h3
def OH(C:Int->Int->Prop)(g:Int->Int->D):F2
 |.int i,.int j,Q=>C i j/\Q (g i j)
 |_,_,_=>False
theorem l3{K:aq}{C:Int->Int->Prop}{g:Int->Int->Int}:O3 K (rI C λi j=>.int (g i j)) (OH C λi j=>.int (g i j)):=by
 intro S H x y dx dy Q3 Q fc hx hy hf k;cases dx<;>cases dy<;>try exact hf.elim
 simp only[Dn] at hx hy;exact⟨_,_,hx,hy,hf.1,k _ H _ (Same.refl H) (by simp only[Dn]) hf.2⟩
noncomputable def uB(g:Int->Int->D):F2
 |.int i,.int j,Q=>Q (g i j)
 |_,_,_=>False
def ZH{K:aq}{g:Int->Int->Int}:O3 K (TX λi j=>.int (g i j)) (uB λi j=>.int (g i j)):=by
 intro S H x y dx dy Q3 Q fc hx hy hf k;cases dx<;>cases dy<;>try exact hf.elim
 simp only[Dn] at hx hy;exact⟨_,_,hx,hy,k _ H _ (Same.refl H) (by simp only[Dn]) hf⟩
def Qj:F2:=uB λi j=>.int (i-j)
def Qi:F2:=OH (λ_ j=>0<j) λi j=>.int (i%j)
def Qh:F2:=OH Bl λi j=>.int (i/j)
def Qg:F2:=OH wg λi j=>.int (i^j.toNat)
section
variable{a b:ar}{pos:bo}{ta tb:WE}
def Qf(ha:c9 X a ta)(hb:c9 X b tb):c9 X (.BinOp a .Sub b pos) (g5 Qj ta tb):=UT aCZ ZH ha hb
def Qd(ha:c9 X a ta)(hb:c9 X b tb):c9 X (.BinOp a .Mod b pos) (g5 Qi ta tb):=UT aC0 l3 ha hb
def Pp(ha:c9 X a ta)(hb:c9 X b tb):c9 X (.BinOp a .FloorDiv b pos) (g5 Qh ta tb):=UT YY l3 ha hb
def Po(ha:c9 X a ta)(hb:c9 X b tb):c9 X (.BinOp a .Pow b pos) (g5 Qg ta tb):=UT aC1 l3 ha hb
end
def Cz(K:aq):R2:=λx y H Q=>∃a b xs ys,x=.ref a/\y=.ref b/\fT K H a xs/\fT K H b ys/\xs.length+ys.length<=bg /\
 (xs=[]->Q (.ref b) H)/\(xs≠[]->ys=[]->Q (.ref a) H)/\(xs≠[]->ys≠[] ->∀p,H p=af->Q (.ref p) (upd H p (.tup (xs++ys))))
theorem UU{prog:bh}{w:bb}{A:bp}{E:Q0c}{s:ao}{t b:ah}{ws:Q0f}{Q:Q0c}(ht:jz s.heap t #[])(hb:jz s.heap b ws.toArray)
  (h1:Q (.ref b) s):ax (ay prog w) A (binaryOp .Add (.ref t) (.ref b)) Q E s:=by
 obtain⟨⟨cls,dd,data,sl⟩,ho,hc,n,hd⟩:=id ht;obtain⟨⟨cls2,dd2,data2,sl2⟩,ho2,hc2,n2,hd2⟩:=id hb;simp only at hc hd hc2 hd2;subst hc hd hc2 hd2;exact Eu ⟨_,ho,rfl⟩ ⟨_,ho2,rfl⟩ Et Eo Ff Fh (Fi _ _)
   (tuple_addW0 t b #[] ws.toArray n n2 dd dd2 sl sl2 (by simp)) ⟨ho,ho2,h1⟩
theorem UW:j6 X (binaryOp .Add) (Cz X.K):=by
 intro pins s σ H x y v u Q I rx ry h;obtain⟨a,b,xs,ys,rfl,rfl,ha,hb,hz,q0,q1,q2⟩:=h;by_cases hx:xs=[]
 .cases rx;cases ry;subst hx;obtain⟨its,r1,p1,_⟩:=I.tuple ha;obtain⟨its2,r2,p2,_⟩:=I.tuple hb;cases r1;exact UU p1 p2 ⟨.ref b,H,I,rfl,q0 rfl⟩
 .exact Y7 pins s σ H _ _ v u Q I rx ry ⟨a,b,xs,ys,rfl,rfl,ha,hb,hx,hz,q1 hx,q2 hx⟩
noncomputable def wd:F2
 |.int i,.int j,Q=>Q (.int (i+j))
 |.lst a,.lst b,Q=>a.length+b.length<=bg/\Q (.lst (a++b))
 |.tup a,.tup b,Q=>a.length+b.length<=bg/\Q (.tup (a++b))
 |.str a,.str b,Q=>a.length+b.length<=bg/\Q (.str (a++b))
 |_,_,_=>False
def Bc(K:aq):R2:=λx y H Q=>(TX λi j=>.int (i+j)) x y H Q\/(Be x y H Q\/(Cz K x y H Q \/∃i j,x=.str i/\y=.str j/\i.length+j.length<=bg/\Q (.str (i++j)) H))
theorem aCr{K:aq}:O3 K (Bc K) wd:=by
 intro S H x y dx dy Q3 Q fc hx hy hf k
 cases dx with
 |int i =>
  cases dy with
  |int j=>simp only[Dn] at hx hy;exact .inl ⟨_,_,hx,hy,k _ H _ (Same.refl H) (by simp only[Dn]) hf⟩
  |_=>exact hf.elim
 |str i =>
  cases dy with
  |str j=>simp only[Dn] at hx hy;exact .inr (.inr (.inr ⟨_,_,hx,hy,hf.1,k _ H _ (Same.refl H) (by simp only[Dn]) hf.2⟩))
  |_=>exact hf.elim
 |lst ds =>
  cases dy with
  |lst es =>
   simp only[Dn] at hx hy;obtain⟨a,xs,rfl,ha,sa,da⟩:=hx;obtain⟨b,ys,rfl,hb,sb,db⟩:=hy;refine .inr (.inl ⟨a,b,xs,ys,rfl,rfl,ha,hb,by rw[<- da.len,<- db.len];exact hf.1,λp hp=>k _ _ _ (aZ hp) ?_ hf.2⟩);simp only[Dn];exact⟨p,_,rfl,aU,fc p hp,aX.fits (.same (aZ hp)) _ _ (da.append db)⟩
  |_=>exact hf.elim
 |tup ds =>
  cases dy with
  |tup es =>
   simp only[Dn] at hx hy;obtain⟨a,xs,rfl,ha,da⟩:=hx;obtain⟨b,ys,rfl,hb,db⟩:=hy;refine .inr (.inr (.inl ⟨a,b,xs,ys,rfl,rfl,fT.of ha,fT.of hb,by rw[<- da.len,<- db.len];exact hf.1,λe=>?_,λ_ e=>?_,λ_ _ p hp=>?_⟩))
   .subst e;have e2:ds=[]:=q_.mp da.len;subst e2;exact k _ H _ (Same.refl H) (by simp only[Dn];exact⟨b,ys,rfl,hb,db⟩) hf.2
   .subst e;have e2:es=[]:=q_.mp db.len;subst e2;have q:=hf.2;rw[kl] at q;exact k _ H _ (Same.refl H) (by simp only[Dn];exact⟨a,xs,rfl,ha,da⟩) q
   .refine k _ _ _ (aZ hp) ?_ hf.2;simp only[Dn];exact⟨p,_,rfl,aU,aX.fits (.same (aZ hp)) _ _ (da.append db)⟩
  |_=>exact hf.elim
 |_=>cases dy<;>exact hf.elim
def ZI:j6 X (binaryOp .Add) (Bc X.K):=j6.or aCY (j6.or UC (j6.or UW IJ))
theorem Pn(ha:c9 X a ta)(hb:c9 X b tb):c9 X (.BinOp a .Add b pos) (g5 wd ta tb):=UT ZI aCr ha hb
noncomputable def Bb:F2
 |.lst a,.lst b,Q=>a.length+b.length<=bg/\Q (.lst (a++b))
 |_,_,_=>False
def Wb{a b:ar}{pos:bo}{ta tb:WE}(ha:c9 X a ta)(hb:c9 X b tb):FR X (.BinOp a .Add b pos) (g5 Bb ta tb):=imp (TY UC ha hb) λσ H Q h=>by
 obtain⟨S,ρ,Q3,fc,sl,ht,k⟩:=h;refine⟨S,ρ,_,fc,sl,ht,λv H1 d s1 d1 q1=>?_⟩;refine⟨S,ρ,_,bX fc s1,Sl.fits (.same s1) sl,q1,λu H2 d2 s2 d2' q2=>?_⟩;cases d<;>cases d2<;>try exact q2.elim
 simp only[Dn] at d1 d2';obtain⟨a,xs,rfl,ha,sa,da⟩:=d1;obtain⟨b,ys,rfl,hb,sb,db⟩:=d2';have da':=aX.fits (.same s2) _ _ da;refine⟨a,b,xs,ys,rfl,rfl,s2 _ _ ha,hb,by rw[<- da.len,<- db.len];exact q2.1,λp hp=>k p _ _ _ ((s1.trans s2).free hp) aU ((s1.trans s2).trans (aZ hp)) ?_ q2.2⟩;exact aX.fits ((Fits.fresh hp).trans (.same (aZ hp))) _ _ (da'.append db)
def Pm:WA:=λ_ Q=>Q []
def Xb(ta:WE)(t:WA):WA:=λρ Q=>ta ρ λd=>t ρ λds=>Q (d::ds)
def Pl:xP X [] Pm:=UR sZ λσ H Q Pk=>by obtain⟨S,ρ,Q3,fc,sl,ht,k⟩:=Pk;exact k [] H [] (Same.refl H) aX.nil ht
def Xa{e:ar}{es:List ar}{te:WE}{t:WA}(ha:c9 X e te)(hr:xP X es t)(hs:av (e::es) X.env=(ag,eval e X.env)::av es X.env:=by rfl):xP X (e::es) (Xb te t) :=
 UR (j8 ha hr hs) λσ H Q Pj=>by obtain⟨S,ρ,Q3,fc,sl,ht,k⟩:=Pj;refine⟨S,ρ,_,fc,sl,ht,λv H1 d s1 d1 q1=>?_⟩;refine⟨S,ρ,_,bX fc s1,Sl.fits (.same s1) sl,q1,λus H2 ds s2 d2 q2=>?_⟩;exact k _ H2 _ (s1.trans s2) (aX.cons (Dn.fits (.same s2) _ _ d1) d2) q2
def Ph(t:WA):WE:=λρ Q=>t ρ λds=>ds.length<=bg/\Q (.tup ds)
def Pg(t:WA):WE:=λρ Q=>t ρ λds=>ds.length<=bg/\Q (.lst ds)
def Pe{x1}(h:xP X es t):c9 X (.Tuple es x1 pos) (Ph t):=imp (aC8 h) λσ H Q Pd=>by obtain⟨S,ρ,Q3,fc,sl,ht,k⟩:=Pd;refine⟨S,ρ,_,fc,sl,ht,λvs H1 ds s1 d1 q1=>⟨by rw[<- d1.len];exact q1.1,λp hp=>k _ _ _ (s1.trans (aZ hp)) ?_ q1.2⟩⟩;simp only[Dn];exact⟨p,_,rfl,aU,aX.fits (.same (aZ hp)) _ _ d1⟩
def Pc(h:xP X es t):FR X (.List es pos) (Pg t):=imp (aC9 h) λσ H Q Pa=>by obtain⟨S,ρ,Q3,fc,sl,ht,k⟩:=Pa;refine⟨S,ρ,_,fc,sl,ht,λvs H1 ds s1 d1 q1=>⟨by rw[<- d1.len];exact q1.1,λp hp=>k p vs _ ds (s1.free hp) aU (s1.trans (aZ hp)) ?_ q1.2⟩⟩;exact aX.fits ((Fits.fresh hp).trans (.same (aZ hp))) _ _ d1
end
section
variable{X:Cx}
noncomputable def mB(t:WE):WT:=λρ Q=>t ρ λd=>match d with
 |.bl b=>Q b
 |_=>False
theorem OJ{K:aq}{t:WE}{σ:L2.St}{H:Hp}{Q:Bool->Hp->Prop}(h:liftT K (mB t) σ H Q):MB (lift K t) σ H Q:=by
 obtain⟨S,ρ,Q3,fc,sl,ht,k⟩:=h;refine⟨S,ρ,_,fc,sl,ht,λv H1 d s1 d1 q1=>?_⟩
 cases d with
 |bl b=>simp only[Dn] at d1;exact⟨b,d1,k b H1 s1 q1⟩
 |_=>exact q1.elim
def IW(f:∀σ H Q,t' σ H Q->t σ H Q)(h:MB t' σ H Q):MB t σ H Q:=f σ H _ h
def wc(ho:j6 X (compareOp op) r)(h3:O3 X.K r f)(ha:c9 X a ta)(hb:c9 X b tb)(hm:behindInMarks op b=ag):c9 X (.Compare a [op] [b] pos) (g5 f ta tb) :=
 imp (YZ ho ha hb hm) λ_ _ _=>qX h3
def oU(ho:j6 X (compareOp op) r)(h3:O3 X.K r f)(ha:c9 X a ta)(hb:c9 X b tb)(hm:behindInMarks op b=ag):vB X (.Compare a [op] [b] pos) (mB (g5 f ta tb)) :=
 OG (Y0 ho ha hb hm) λ_ _ _ h=>IW (λ_ _ _=>qX h3) (OJ h)
theorem DI{K:aq}{g:Int->Int->Bool}:O3 K (TX λi j=>.bl (g i j)) (uB λi j=>.bl (g i j)):=by
 intro S H x y dx dy Q3 Q fc hx hy hf k;cases dx<;>cases dy<;>try exact hf.elim
 simp only[Dn] at hx hy;exact⟨_,_,hx,hy,k _ H _ (Same.refl H) (by simp only[Dn]) hf⟩
noncomputable def UX:D->D->Bool
 |.non,.non=>ae | .non,.int _=>ae | .int _,.non=>ae | .non,.bl _=>ae | .bl _,.non=>ae | .non,.str _=>ae | .str _,.non=>ae
 |.int _,.int _=>ae | .bl _,.bl _=>ae | .str _,.str _=>ae | .int _,.str _=>ae | .str _,.int _=>ae | .bl _,.str _=>ae | .str _,.bl _=>ae
 |_,_=>ag
noncomputable def eqS:D->D->Bool
 |.non,.non=>ae
 |.int i,.int j=>Zv (i=j)
 |.bl i,.bl j=>Zv (i=j)
 |.str i,.str j=>Zv (i=j)
 |_,_=>ag
def ZJ:F2:=λx y Q=>UX x y=ae/\Q (.bl (eqS x y))
def wb:F2:=λx y Q=>UX x y=ae/\Q (.bl (!eqS x y))
def MI{K:aq}{S:ah->Prop}{H:Hp}{x y:V}{dx dy:D}(hx:Dn K S H dx x)(hy:Dn K S H dy y)(h:UX dx dy=ae):wu x y=ae/\Zv (x=y)=eqS dx dy:=by
 cases dx<;>first
  | (exact Zw (show ag=ae from h) bt)
  |skip
 all_goals (cases dy<;>first
  | (exact Zw (show ag=ae from h) bt)
  | (simp only[Dn] at hx hy;subst hx;subst hy;exact⟨rfl,by first|exact C4|exact IH|exact C5|exact Zy (λh=>by cases h)|exact Zx rfl⟩))
def xQ{K:aq}:O3 K r9 ZJ:=by intro S H x y dx dy Q3 Q fc hx hy hf k;obtain⟨h1,h2⟩:=MI hx hy hf.1;exact⟨h1,k _ H _ (Same.refl H) (by simp only[Dn];rw[h2]) hf.2⟩
theorem aCu{K:aq}:O3 K zv wb:=by intro S H x y dx dy Q3 Q fc hx hy hf k;obtain⟨h1,h2⟩:=MI hx hy hf.1;exact⟨h1,k _ H _ (Same.refl H) (by simp only[Dn];rw[h2]) hf.2⟩
noncomputable def allI:List D->Bool
 |[]=>ae
 |.int _::r=>allI r
 |_::_=>ag
noncomputable def zD(i:Int):List D->Bool
 |[]=>ag
 |.int j::r=>j == i||zD i r
 |_::r=>zD i r
theorem A2:∀ns:Q0e,allI (ns.map D.int)=ae
 |[]=>rfl
 |n::ns=>by rw[ba];exact A2 ns
theorem A3(i:Int):∀ns:Q0e,zD i (ns.map D.int)=ns.contains i
 |[]=>rfl
 |n::ns=>by rw[ba,zD,A3 i ns,List.contains_cons];congr 1;exact Bool.beq_comm
theorem DJ:∀{ds:List D},allI ds=ae ->∃ns:Q0e,ds=ns.map D.int
 |[],_=>⟨[],rfl⟩
 |.int n::r,h=>by obtain⟨ns,e⟩:=DJ (ds:=r) h;exact⟨n::ns,by rw[e];rfl⟩
 |.non::r,h=>Zw (show ag=ae from h) bt
 |.bl _::r,h=>Zw (show ag=ae from h) bt
 |.str _::r,h=>Zw (show ag=ae from h) bt
 |.tup _::r,h=>Zw (show ag=ae from h) bt
 |.lst _::r,h=>Zw (show ag=ae from h) bt
 |.fX _::r,h=>Zw (show ag=ae from h) bt
 |.jR _ _::r,h=>Zw (show ag=ae from h) bt
 |.cD _ _ _::r,h=>Zw (show ag=ae from h) bt
def inF(neg:Bool):F2
 |.int i,.tup ds,Q=>allI ds=ae/\Q (.bl (if neg then !zD i ds else zD i ds))
 |.int i,.lst ds,Q=>allI ds=ae/\Q (.bl (if neg then !zD i ds else zD i ds))
 |_,_,_=>False
theorem xR(i:Int):∀ns:Q0e,inV (.int i) (ns.map V.int)=zD i (ns.map D.int)
 |[]=>rfl
 |n::ns=>by have e:=xR i ns;unfold inV at e ⊢;rw[ba,ba,km,zD,e];rfl
theorem tH:∀ns:Q0e,(ns.map V.int).all qU=ae
 |[]=>rfl
 |n::ns=>by rw[ba,og,tH ns];rfl
theorem UY{K:aq}{neg:Bool}:O3 K (vg K neg) (inF neg):=by
 intro S H x y dx dy Q3 Q fc hx hy hf k
 cases dx with
 |int i =>
  simp only[Dn] at hx;subst hx
  cases dy with
  |tup ds =>
   simp only[Dn] at hy;obtain⟨a,xs,rfl,ha,da⟩:=hy;obtain⟨h1,h2⟩:=hf;obtain⟨ns,rfl⟩:=DJ h1;have e:=aX.ints.mp da;subst e;refine⟨a,_,rfl,.inr (fT.of ha),rfl,tH ns,k _ H _ (Same.refl H) ?_ h2⟩;simp only[Dn];rw[xR]
  |lst ds =>
   simp only[Dn] at hy;obtain⟨a,xs,rfl,ha,_,da⟩:=hy;obtain⟨h1,h2⟩:=hf;obtain⟨ns,rfl⟩:=DJ h1;have e:=aX.ints.mp da;subst e;refine⟨a,_,rfl,.inl (eE.of ha),rfl,tH ns,k _ H _ (Same.refl H) ?_ h2⟩;simp only[Dn];rw[xR]
  |_=>exact hf.elim
 |_=>cases dy<;>exact hf.elim
section
variable{a b:ar}{pos:bo}{ta tb:WE}
def ltF:F2:=uB λi j=>.bl (Zv (i<j))
def leF:F2:=uB λi j=>.bl (Zv (i<=j))
def gtF:F2:=uB λi j=>.bl (Zv (i>j))
def geF:F2:=uB λi j=>.bl (Zv (i >= j))
def O_(ha:c9 X a ta)(hb:c9 X b tb):c9 X (.Compare a [.Eq] [b] pos) (g5 ZJ ta tb):=wc TZ xQ ha hb (kJ _)
def in3(ha:c9 X a ta)(hb:c9 X b tb)(hm:behindInMarks .In b=ag:=by with_unfolding_all rfl):c9 X (.Compare a [.In] [b] pos) (g5 (inF ag) ta tb):=wc AV UY ha hb hm
def Oz(ha:c9 X a ta)(hb:c9 X b tb):vB X (.Compare a [.Lt] [b] pos) (mB (g5 ltF ta tb)):=oU Ws DI ha hb (kJ _)
def Oy(ha:c9 X a ta)(hb:c9 X b tb):vB X (.Compare a [.LtE] [b] pos) (mB (g5 leF ta tb)):=oU Wq DI ha hb (kJ _)
def Ox(ha:c9 X a ta)(hb:c9 X b tb):vB X (.Compare a [.Gt] [b] pos) (mB (g5 gtF ta tb)):=oU Wo DI ha hb (kJ _)
def Ow(ha:c9 X a ta)(hb:c9 X b tb):vB X (.Compare a [.GtE] [b] pos) (mB (g5 geF ta tb)):=oU Wn DI ha hb (kJ _)
def W_(ha:c9 X a ta)(hb:c9 X b tb):vB X (.Compare a [.Eq] [b] pos) (mB (g5 ZJ ta tb)):=oU TZ xQ ha hb (kJ _)
def Wz(ha:c9 X a ta)(hb:c9 X b tb):vB X (.Compare a [.NotEq] [b] pos) (mB (g5 wb ta tb)):=oU Wt aCu ha hb (kJ _)
def Ov(ha:c9 X a ta)(hb:c9 X b tb)(hm:behindInMarks .In b=ag:=by with_unfolding_all rfl):vB X (.Compare a [.In] [b] pos) (mB (g5 (inF ag) ta tb)):=oU AV UY ha hb hm
def Wy(ha:c9 X a ta)(hb:c9 X b tb)(hm:behindInMarks .NotIn b=ag:=by with_unfolding_all rfl):vB X (.Compare a [.NotIn] [b] pos) (mB (g5 (inF ae) ta tb)):=oU DB UY ha hb hm
end
noncomputable def isD:D->Bool
 |.non=>ae
 |_=>ag
def ZK:F2:=λx y Q=>isD y=ae/\Q (.bl (isD x))
def UZ{K:aq}:O3 K (λx y H Q=>y=.non/\Q (.bl (Zv (x=.non))) H) ZK:=by
 intro S H x y dx dy Q3 Q fc hx hy hf k;obtain⟨h1,h2⟩:=hf;cases dy<;>try exact Zw (show ag=ae from h1) bt
 simp only[Dn] at hy;refine⟨hy,k _ H _ (Same.refl H) ?_ h2⟩;cases dx<;>simp only[Dn] at hx ⊢
 all_goals first
  | (subst hx;simp[isD])
  | (obtain⟨a,xs,rfl,_⟩:=hx;simp[isD])
  | (obtain⟨a,_,xs,rfl,_⟩:=hx;simp[isD])
  | (obtain⟨a,rfl,_⟩:=hx;simp[isD])
def Wx(ha:c9 X a ta)(hb:c9 X b tb):vB X (.Compare a [.Is] [b] pos) (mB (g5 ZK ta tb)):=oU T2 UZ ha hb (kJ _)
def Ou(ha:c9 X a ta)(hb:c9 X b tb):c9 X (.Compare a [.Is] [b] pos) (g5 ZK ta tb):=wc T2 UZ ha hb (kJ _)
def Ww(t:WT):WT:=λρ Q=>t ρ λb=>Q (!b)
def Wv(t u:WT):WT:=λρ Q=>t ρ λb=>if b=ae then u ρ Q else Q ag
def Ot(t u:WT):WT:=λρ Q=>t ρ λb=>if b=ae then Q ae else u ρ Q
def QO(X:Cx)(e:ar)(t:WT):Prop:=PW X e (liftT X.K t)
def wa(h:PW X e t)(f:∀σ H Q,t' σ H Q->t σ H Q):PW X e t':=λwh pins s σ H Q I q=>h wh pins s σ H Q I (f σ H Q q)
section
variable{a b:ar}{rest:List ar}{pos:bo}{ta tb:WT}
def QO.pt(h:QO X e t):vB X e t:=PW.pt h
def Wu(ha:vB X a ta):vB X (.UnaryOp .Not a pos) (Ww ta):=OG (aCN ha) λσ H Q Oq=>by obtain⟨S,ρ,Q3,fc,sl,ht,k⟩:=Oq;exact⟨S,ρ,_,fc,sl,ht,λb H1 s1 q1=>k (!b) H1 s1 q1⟩
def Oo(ha:vB X a ta):QO X (.BoolOp .And [a] pos) ta:=YT ha
def or1(ha:vB X a ta):QO X (.BoolOp .Or [a] pos) ta:=aCL ha
theorem Wa(ha:vB X a ta)(hb:QO X (.BoolOp .And (b::rest) pos) tb):QO X (.BoolOp .And (a::b::rest) pos) (Wv ta tb):=wa (aCM ha hb) λσ H Q Om=>by
 obtain⟨S,ρ,Q3,fc,sl,ht,k⟩:=Om;refine⟨S,ρ,_,fc,sl,ht,λc H1 s1 q1=>?_⟩
 cases c with
 |true=>rw[Z_ rfl] at q1 ⊢;exact⟨S,ρ,Q3,bX fc s1,Sl.fits (.same s1) sl,q1,λb' H2 s2 q2=>k b' H2 (s1.trans s2) q2⟩
 |false=>rw[Zz bt] at q1 ⊢;exact k ag H1 s1 q1
theorem Ol(ha:vB X a ta)(hb:QO X (.BoolOp .Or (b::rest) pos) tb):QO X (.BoolOp .Or (a::b::rest) pos) (Ot ta tb):=wa (Xl ha hb) λσ H Q Qb=>by
 obtain⟨S,ρ,Q3,fc,sl,ht,k⟩:=Qb;refine⟨S,ρ,_,fc,sl,ht,λc H1 s1 q1=>?_⟩
 cases c with
 |false=>rw[Zz bt] at q1 ⊢;exact⟨S,ρ,Q3,bX fc s1,Sl.fits (.same s1) sl,q1,λb' H2 s2 q2=>k b' H2 (s1.trans s2) q2⟩
 |true=>rw[Z_ rfl] at q1 ⊢;exact k ae H1 s1 q1
end
noncomputable def Qa(ta tb:WE):WE:=λρ Q=>ta ρ λx=>match x with
 |.bl ae=>tb ρ Q
 |.bl ag=>Q (.bl ag)
 |_=>False
noncomputable def P_(ta:WE):WE:=λρ Q=>ta ρ λx=>match x with
 |.bl b=>Q (.bl (!b))
 |_=>False
def Ho(t:WT)(ta tb:WE):WE:=λρ Q=>t ρ λb=>if b=ae then ta ρ Q else tb ρ Q
section
variable{a b c:ar}{rest:List ar}{pos:bo}{ta tb:WE}{tc:WT}
def Pz{op}(ha:c9 X a ta):c9 X (.BoolOp op [a] pos) ta:=aCO ha
theorem Py(ha:c9 X a ta)(hb:c9 X (.BoolOp .And (b::rest) pos) tb):c9 X (.BoolOp .And (a::b::rest) pos) (Qa ta tb):=imp (aCP ha hb) λσ H Q Px=>by
 obtain⟨S,ρ,Q3,fc,sl,ht,k⟩:=Px;refine⟨S,ρ,_,fc,sl,ht,λv H1 d s1 d1 q1=>?_⟩
 cases d with
 |bl c =>
  simp only[Dn] at d1;refine⟨c,d1,?_⟩
  cases c with
  |true=>rw[Z_ rfl];exact⟨S,ρ,Q3,bX fc s1,Sl.fits (.same s1) sl,q1,λv' H2 d' s2 d2 q2=>k v' H2 d' (s1.trans s2) d2 q2⟩
  |false=>rw[Zz bt];exact k _ H1 (.bl ag) s1 (by simp only[Dn]) q1
 |_=>exact q1.elim
theorem Pw(ha:c9 X a ta):c9 X (.UnaryOp .Not a pos) (P_ ta):=imp (aCQ ha) λσ H Q Pu=>by
 obtain⟨S,ρ,Q3,fc,sl,ht,k⟩:=Pu;refine⟨S,ρ,_,fc,sl,ht,λv H1 d s1 d1 q1=>?_⟩
 cases d with
 |bl c=>simp only[Dn] at d1;exact⟨c,d1,k _ H1 (.bl (!c)) s1 (by simp only[Dn]) q1⟩
 |_=>exact q1.elim
theorem if3(hc:vB X c tc)(ha:c9 X a ta)(hb:c9 X b tb):c9 X (.IfExp c a b pos) (Ho tc ta tb):=imp (TK hc ha hb) λσ H Q Pr=>by
 obtain⟨S,ρ,Q3,fc,sl,ht,k⟩:=Pr;refine⟨S,ρ,_,fc,sl,ht,λc H1 s1 q1=>?_⟩
 cases c with
 |true=>rw[Z_ rfl] at q1 ⊢;exact⟨S,ρ,Q3,bX fc s1,Sl.fits (.same s1) sl,q1,λv' H2 d' s2 d2 q2=>k v' H2 d' (s1.trans s2) d2 q2⟩
 |false=>rw[Zz bt] at q1 ⊢;exact⟨S,ρ,Q3,bX fc s1,Sl.fits (.same s1) sl,q1,λv' H2 d' s2 d2 q2=>k v' H2 d' (s1.trans s2) d2 q2⟩
noncomputable def Pq(ta:WE):WE:=λρ Q=>ta ρ λx=>match x with
 |.int i=>Q (.int (-i))
 |_=>False
theorem Oj(ha:c9 X a ta):c9 X (.UnaryOp .USub a pos) (Pq ta):=imp (Xc aC4 ha) λσ H Q Oi=>by
 obtain⟨S,ρ,Q3,fc,sl,ht,k⟩:=Oi;refine⟨S,ρ,_,fc,sl,ht,λv H1 d s1 d1 q1=>?_⟩
 cases d with
 |int i=>simp only[Dn] at d1;exact⟨i,d1,k _ H1 (.int (-i)) s1 (by simp only[Dn]) q1⟩
 |_=>exact q1.elim
end
noncomputable def ixF:F2
 |.lst ds,.int i,Q=>(match uM ds i with|some d=>Q d|none=>False)
 |.tup ds,.int i,Q=>(match uM ds i with|some d=>Q d|none=>False)
 |.fX ns,.int i,Q=>(match uM ns i with|some n=>Q (.int n)|none=>False)
 |_,_,_=>False
theorem aX.at{K:aq}{S:ah->Prop}{H:Hp}{ds:List D}{xs:List V}{i:Int}{d:D}(h:aX K S H ds xs)(e:uM ds i=aa d):∃v,uM xs i=aa v/\Dn K S H d v:=by
 unfold uM at e ⊢;rw[<- h.len]
 cases q:N7 ds.length i with
 |none=>rw[q] at e;cases e
 |some j =>
  rw[q] at e;obtain⟨v,e1,dn⟩:=h.get (i:=j) (d:=d) e;exact⟨v,e1,dn⟩
theorem ZL{α β:Type}(f:α->β)(xs:List α)(i:Int):uM (xs.map f) i=(uM xs i).map f:=by
 unfold uM;rw[az]
 cases N7 xs.length i with
 |none=>rfl
 |some j=>simp
theorem V_{K:aq}:O3 K (λx y H Q=>Bi K x y H Q\/Bh K x y H Q) ixF:=by
 intro S H x y dx dy Q3 Q fc hx hy hf k
 cases dx with
 |lst ds =>
  cases dy with
  |int i =>
   simp only[Dn] at hx hy;obtain⟨a,xs,rfl,ha,sa,da⟩:=hx;have hf:(match uM ds i with|some d=>Q3 d|none=>False):=hf
   cases e:uM ds i with
   |none=>rw[e] at hf;exact hf.elim
   |some d =>
    rw[e] at hf;obtain⟨v,e1,dv⟩:=da.at e;exact .inl ⟨a,xs,i,v,rfl,hy,eE.of ha,e1,k v H d (Same.refl H) dv hf⟩
  |_=>exact hf.elim
 |tup ds =>
  cases dy with
  |int i =>
   simp only[Dn] at hx hy;obtain⟨a,xs,rfl,ha,da⟩:=hx;have hf:(match uM ds i with|some d=>Q3 d|none=>False):=hf
   cases e:uM ds i with
   |none=>rw[e] at hf;exact hf.elim
   |some d =>
    rw[e] at hf;obtain⟨v,e1,dv⟩:=da.at e;exact .inr ⟨a,xs,i,v,rfl,hy,(fT.of ha),e1,k v H d (Same.refl H) dv hf⟩
  |_=>exact hf.elim
 |fX ns =>
  cases dy with
  |int i =>
   simp only[Dn] at hx hy;obtain⟨a,rfl,ha⟩:=hx;have hf:(match uM ns i with|some n=>Q3 (.int n)|none=>False):=hf
   cases e:uM ns i with
   |none=>rw[e] at hf;exact hf.elim
   |some n =>
    rw[e] at hf;exact .inl ⟨a,_,i,.int n,rfl,hy,ha.sq,by rw[ZL,e];rfl,k _ H (.int n) (Same.refl H) (by simp only[Dn]) hf⟩
  |_=>exact hf.elim
 |_=>cases dy<;>exact hf.elim
def ix3(ha:c9 X a ta)(hb:c9 X b tb)(hs:C9 b:=by intro _ _;rfl):c9 X (.Subscript a b pos) (g5 ixF ta tb) :=
 imp (Wk (Y8.or aCf) ha hb hs) λ_ _ _=>qX V_
abbrev F1:=List D->(D->Prop)->Prop
def OK(f:F1)(t:WA):WE:=λρ Q=>t ρ λds=>f ds Q
def C3(K:aq)(r:List V->Hp->VK->Prop)(f:F1):Prop:=∀(S:ah->Prop) (H:Hp) (xs:List V) (ds:List D) (Q3:D->Prop) (Q:VK),(∀a,H a=af->S a)->aX K S H ds xs->f ds Q3 ->
 (∀v H' d,Same H H'->Dn K S H' d v->Q3 d->Q v H')->r xs H Q
def C3F(K:aq)(r:List V->Hp->VK->Prop)(f:F1):Prop:=∀(S:ah->Prop) (H:Hp) (xs:List V) (ds:List D) (Q3:D->Prop) (Q:VK),(∀a,H a=af->S a)->aX K S H ds xs->f ds Q3 ->
 (∀p ys H' es,H p=af->H' p=aa (.lst ys)->Same H H'->aX K (λa=>S a/\a≠p) H' es ys->Q3 (.lst es)->Q (.ref p) H')->r xs H Q
def MJ{K:aq}{r:List V->Hp->VK->Prop}{f:F1}{t:WA}{σ:L2.St}{H:Hp}{Q:VK}(h3:C3 K r f)(h:lift K (OK f t) σ H Q):r6 r (UP K t) σ H Q:=by obtain⟨S,ρ,Q3,fc,sl,ht,k⟩:=h;refine⟨S,ρ,_,fc,sl,ht,λvs H1 ds s1 d1 q1=>?_⟩;exact h3 S H1 vs ds Q3 Q (bX fc s1) d1 q1 λv H' d s' d' q'=>k v H' d (s1.trans s') d' q'
def FT{K:aq}{r:List V->Hp->VK->Prop}{f:F1}{t:WA}{σ:L2.St}{H:Hp}{Q:VK}(h3:C3F K r f)(h:UQ K (OK f t) σ H Q):r6 r (UP K t) σ H Q:=by obtain⟨S,ρ,Q3,fc,sl,ht,k⟩:=h;refine⟨S,ρ,_,fc,sl,ht,λvs H1 ds s1 d1 q1=>?_⟩;exact h3 S H1 vs ds Q3 Q (bX fc s1) d1 q1 λp ys H' es hp hp' s' d' q'=>k p ys H' es (s1.free hp) hp' (s1.trans s') d' q'
def xS{x:ak}{p pos:bo}{e:ar}{es:List ar}{t:WA}{id:String}{r:List V->Hp->VK->Prop}{f:F1}(hc:iS X (.builtin id) r)(h3:C3 X.K r f)(hv:bootBuiltins x=aa (.builtin id))(hg:Gl X x)(hm:X.mg x=af)(ha:xP X (e::es) t)(hn:x ≠ "__name__":=by decide)(hdb:(x == ("__debug__":ak))=ag:=by decide)
  (he:av (e::es) X.env=(ag,eval e X.env)::av es X.env:=by rfl) (hpl:(fq pos (av es X.env)).any (·.1)=ag:=by rfl):c9 X (.Call (.Name x p) (e::es) [] pos) (OK f t) :=
 imp (qS hc hg hm hv ha hn hdb he hpl) λ_ _ _=>MJ h3
def ZM{x:ak}{p pos:bo}{e:ar}{es:List ar}{t:WA}{id:String}{r:List V->Hp->VK->Prop}{f:F1}(hc:iS X (.builtin id) r)(h3:C3F X.K r f)(hv:bootBuiltins x=aa (.builtin id))(hg:Gl X x)(hm:X.mg x=af)(ha:xP X (e::es) t)(hn:x ≠ "__name__":=by decide)(hdb:(x == ("__debug__":ak))=ag:=by decide)
  (he:av (e::es) X.env=(ag,eval e X.env)::av es X.env:=by rfl) (hpl:(fq pos (av es X.env)).any (·.1)=ag:=by rfl):FR X (.Call (.Name x p) (e::es) [] pos) (OK f t) :=
 imp (qS hc hg hm hv ha hn hdb he hpl) λ_ _ _=>FT h3
def ZN(hc:iS X (.type T) r)(h3:C3 X.K r f)(hv:bootBuiltins x=aa (.type T))(hg:Gl X x)(hm:X.mg x=af)(ha:xP X (e::es) t)(hn:x ≠ "__name__":=by decide)(hdb:(x == ("__debug__":ak))=ag:=by decide)
  (he:av (e::es) X.env=(ag,eval e X.env)::av es X.env:=by rfl) (hpl:(fq pos (av es X.env)).any (·.1)=ag:=by rfl):c9 X (.Call (.Name x p) (e::es) [] pos) (OK f t) :=
 imp (tF hc hg hm hv ha hn hdb he hpl) λ_ _ _=>MJ h3
theorem U0(hc:iS X (.type T) r)(h3:C3F X.K r f)(hv:bootBuiltins x=aa (.type T))(hg:Gl X x)(hm:X.mg x=af)(ha:xP X (e::es) t)(hn:x ≠ "__name__":=by decide)(hdb:(x == ("__debug__":ak))=ag:=by decide)
  (he:av (e::es) X.env=(ag,eval e X.env)::av es X.env:=by rfl) (hpl:(fq pos (av es X.env)).any (·.1)=ag:=by rfl):FR X (.Call (.Name x p) (e::es) [] pos) (OK f t) :=
 imp (tF hc hg hm hv ha hn hdb he hpl) λ_ _ _=>FT h3
noncomputable def xT:F1
 |[.lst ds],Q=>Q (.int ds.length)
 |[.tup ds],Q=>Q (.int ds.length)
 |[.fX ns],Q=>Q (.int ns.length)
 |_,_=>False
theorem aCw{K:aq}:C3 K (λxs H Q=>∃p ys,xs=[.ref p]/\(eE K H p ys\/fT K H p ys)/\Q (.int ys.length) H) xT:=by
 intro S H xs ds Q3 Q fc hd hf k
 match ds,hf with
 |[.lst es],hf =>
  obtain⟨v,r,rfl,h1,h2⟩:=hd.bO;simp only[aX] at h2;subst h2;simp only[Dn] at h1;obtain⟨a,ys,rfl,ha,sa,da⟩:=h1;exact⟨a,ys,rfl,.inl (eE.of ha),k _ H _ (Same.refl H) (by simp only[Dn];rw[da.len]) hf⟩
 |[.tup es],hf =>
  obtain⟨v,r,rfl,h1,h2⟩:=hd.bO;simp only[aX] at h2;subst h2;simp only[Dn] at h1;obtain⟨a,ys,rfl,ha,da⟩:=h1;exact⟨a,ys,rfl,.inr (fT.of ha),k _ H _ (Same.refl H) (by simp only[Dn];rw[da.len]) hf⟩
 |[.fX ns],hf =>
  obtain⟨v,r,rfl,h1,h2⟩:=hd.bO;simp only[aX] at h2;subst h2;simp only[Dn] at h1;obtain⟨a,rfl,ha⟩:=h1;exact⟨a,_,rfl,.inl ha.sq,k _ H _ (Same.refl H) (by simp only[Dn];rw[az]) hf⟩
theorem Oh(hm:X.mg "len"=af)(ha:xP X [e] t)(hg:Gl X "len":=by rfl)
  (he:av [e] X.env=(ag,eval e X.env)::av [] X.env:=by rfl):c9 X (.Call (.Name "len" p) [e] [] pos) (OK xT t):=xS DC aCw PySem.boot_len hg hm ha (by decide) (by decide) he (by rfl)
noncomputable def IX:F1
 |[.lst ds],Q=>Q (.tup ds)
 |[.tup ds],Q=>Q (.tup ds)
 |_,_=>False
theorem U1{K:aq}:C3 K (λxs H Q=>∃p ys,xs=[.ref p]/\((eE K H p ys /\∀l,H l=af->Q (.ref l) (upd H l (.tup ys)))\/(fT K H p ys/\Q (.ref p) H))) IX:=by
 intro S H xs ds Q3 Q fc hd hf k
 match ds,hf with
 |[.lst es],hf =>
  obtain⟨v,r,rfl,h1,h2⟩:=hd.bO;simp only[aX] at h2;subst h2;simp only[Dn] at h1;obtain⟨a,ys,rfl,ha,sa,da⟩:=h1;refine⟨a,ys,rfl,.inl ⟨eE.of ha,λl hl=>k _ _ _ (aZ hl) ?_ hf⟩⟩;simp only[Dn];exact⟨l,ys,rfl,aU,aX.fits (.same (aZ hl)) _ _ da⟩
 |[.tup es],hf =>
  obtain⟨v,r,rfl,h1,h2⟩:=hd.bO;simp only[aX] at h2;subst h2;have h1':=h1;simp only[Dn] at h1;obtain⟨a,ys,rfl,ha,da⟩:=h1;exact⟨a,ys,rfl,.inr ⟨(fT.of ha),k _ H _ (Same.refl H) h1' hf⟩⟩
theorem aCx(hm:X.mg "tuple"=af)(hv:bootBuiltins "tuple"=aa (.type "tuple"))(ha:xP X [e] t)(hg:Gl X "tuple":=by rfl)
  (he:av [e] X.env=(ag,eval e X.env)::av [] X.env:=by rfl):c9 X (.Call (.Name "tuple" p) [e] [] pos) (OK IX t):=ZN zB U1 hv hg hm ha (by decide) (by decide) he (by rfl)
noncomputable def U2:F1
 |[.lst ds],Q=>Q (.lst ds)
 |[.tup ds],Q=>Q (.lst ds)
 |_,_=>False
theorem ZO{K:aq}:C3F K (λxs H Q=>∃p ys,xs=[.ref p]/\(eE K H p ys\/fT K H p ys) /\∀l,H l=af->Q (.ref l) (upd H l (.lst ys))) U2:=by
 intro S H xs ds Q3 Q fc hd hf k
 match ds,hf with
 |[.lst es],hf =>
  obtain⟨v,r,rfl,h1,h2⟩:=hd.bO;simp only[aX] at h2;subst h2;simp only[Dn] at h1;obtain⟨a,ys,rfl,ha,sa,da⟩:=h1;exact⟨a,ys,rfl,.inl (eE.of ha),λl hl=>k l ys _ es hl aU (aZ hl) (aX.fits ((Fits.fresh hl).trans (.same (aZ hl))) _ _ da) hf⟩
 |[.tup es],hf =>
  obtain⟨v,r,rfl,h1,h2⟩:=hd.bO;simp only[aX] at h2;subst h2;simp only[Dn] at h1;obtain⟨a,ys,rfl,ha,da⟩:=h1;exact⟨a,ys,rfl,.inr (fT.of ha),λl hl=>k l ys _ es hl aU (aZ hl) (aX.fits ((Fits.fresh hl).trans (.same (aZ hl))) _ _ da) hf⟩
def Vz(hm:X.mg "list"=af)(hv:bootBuiltins "list"=aa (.type "list"))(ha:xP X [e] t)(hg:Gl X "list":=by rfl)
  (he:av [e] X.env=(ag,eval e X.env)::av [] X.env:=by rfl):FR X (.Call (.Name "list" p) [e] [] pos) (OK U2 t):=U0 DD ZO hv hg hm ha (by decide) (by decide) he (by rfl)
abbrev Spec:=List D->(D->Prop)->Prop
def sp3(K:aq)(R:Spec):Sp:=λvs H Q _=>∃(S:ah->Prop) (ds:List D) (Q3:D->Prop),(∀a,H a=af->S a)/\aX K S H ds vs/\R ds Q3 /\∀v H' d,Same H H'->Dn K S H' d v->Q3 d->Q v H'
theorem Vy(F:lC X.prog X.w X.K X.mg X.base dF k f fd ps (sp3 X.K R))(hr:fN k X.A)(hm:X.mg x=aa (.ref f))(hk:keepIn X.K (.ref f)=ae)(hb:Binds X.K fd ps [])
  (ha:xP X (e::es) t) (hg:Gl X x:=by rfl) (hdb:(x == ("__debug__":ak))=ag:=by decide) (he:av (e::es) X.env=(ag,eval e X.env)::av es X.env:=by rfl) (hpl:(fq pos (av es X.env)).any (·.1)=ag:=by rfl):
  c9 X (.Call (.Name x p) (e::es) [] pos) (OK R t):=imp (C6 F hr hg hm hk hb .nil UG ha hdb he hpl) λσ H Q Og=>by
 obtain⟨S,ρ,Q3,fc,sl,ht,k⟩:=Og;refine⟨S,ρ,_,fc,sl,ht,λvs H1 ds s1 d1 q1=>?_⟩;show sp3 X.K R (vs++[]) H1 Q E0;rw[kl];exact⟨S,ds,Q3,bX fc s1,d1,q1,λv H' d s' d' q'=>k v H' d (s1.trans s') d' q'⟩
end
structure DE where
 nx:bV->Prop
 rt:D->Prop
 bk:bV->Prop:=λ_=>False
 ct:bV->Prop:=λ_=>False
 ex:ak->Prop:=λ_=>False
abbrev WS:=DE->bV->Prop
structure aCy (X:Cx) (pins:Q0b) (H:Hp) (s:ao) (e:ah) (cls a0:ai) (P:List ah):Prop where
 mem:e∈P
 free:∀q∈P,H q=af
 new:∀q∈P,X.s₀.heap.get? q=af
 fld:∀q∈P,∃o vs,s.heap.get? q=aa o/\o.data=.fields vs
 pin:∀q∈P,∀p∈X.pn++pins,p.1≠q
 tr:(∃oe vs,s.heap.get? e=aa oe/\oe.cls=cls/\oe.data=.fields vs/\vs[1]?=aa .none/\vs[0]?=aa a0) \/
  (∃oe vs T oT ts,s.heap.get? e=aa oe/\(oe.cls=cls/\vs[0]?=aa a0)/\oe.data=.fields vs/\vs[1]?=aa (.ref T)/\T∈P/\T≠e/\s.heap.get? T=aa oT/\oT.data=.fields ts/\ts[3]?=aa .none)
def XC(X:Cx)(c:ak)(H:Hp):Prop:=∃C:ah,X.mg c=aa (.ref C) /\∀(pins:Q0b) (σ:L2.St) (s:ao) (e:ah) (a0:ai) (P:List ah),Inv X pins σ H s->aCy X pins H s e (.ref C) a0 P->X.xe (.ref e) s
structure aCz (K:aq) (xc:ak->Hp->Prop) (n:Nat) (H₀:Hp) (S:ah->Prop) (G:List (D×V)) (E:DE) (B:Ends):Prop where
 nx:∀w σ H ρ,σ.length=n->ST K H₀ S w σ H ρ G->E.nx ρ->B.nx σ H
 rt:∀v H d,Same H₀ H->Dn K S H d v->E.rt d->B.rt v H
 bk:∀w σ H ρ,σ.length=n->ST K H₀ S w σ H ρ G->E.bk ρ->B.bk σ H
 ct:∀w σ H ρ,σ.length=n->ST K H₀ S w σ H ρ G->E.ct ρ->B.ct σ H
 ex:∀c H,Same H₀ H->E.ex c->xc c H
def xU(K:aq)(xc:ak->Hp->Prop)(n:Nat)(t:WS):TS:=λB σ H=>∃(H₀:Hp) (S:ah->Prop) (w:Nat->ah) (ρ:bV) (G:List (D×V)) (E:DE),σ.length=n/\ST K H₀ S w σ H ρ G/\t E ρ/\aCz K xc n H₀ S G E B
def A4(X:Cx)(st:de)(t:WS):Prop:=PS X st (xU X.K (XC X) X.N.length t)
def uO(X:Cx)(st:List de)(t:WS):Prop:=yQ X st (xU X.K (XC X) X.N.length t)
section
variable{X:Cx}
def iT{e:de}{t t':TS}(h:PS X e t)(f:∀B σ H,t' B σ H->t B σ H):PS X e t':=λpins s σ H B I q=>h pins s σ H B I (f B σ H q)
def FU(h:yQ X e t)(f:∀B σ H,t' B σ H->t B σ H):yQ X e t':=λpins s σ H B I q=>h pins s σ H B I (f B σ H q)
def Vx:WS:=λE ρ=>E.nx ρ
def vy(t u:WS):WS:=λE ρ=>t {E with nx:=u E} ρ
def Of:uO X [] Vx:=FU YU λB σ H Oe=>by obtain⟨H₀,S,w,ρ,G,E,hl,st,ht,ok⟩:=Oe;exact ok.nx w σ H ρ hl st ht
def Od{st:de}{rest:List de}{t u:WS}(h1:A4 X st t)(h2:uO X rest u):uO X (st::rest) (vy t u):=FU (xI h1 h2) λB σ H Oc=>by obtain⟨H₀,S,w,ρ,G,E,hl,sT,ht,ok⟩:=Oc;exact⟨H₀,S,w,ρ,G,{E with nx:=u E},hl,sT,ht,⟨λw' σ' H' ρ' hl' st' q=>⟨H₀,S,w',ρ',G,E,hl',st',q,ok⟩,ok.rt,ok.bk,ok.ct,ok.ex⟩⟩
def Vw{st:de}{t:WS}(h1:A4 X st t):uO X [st] t:=FU (LX h1) λ_ _ _ h=>h
def Ob(t:WE):WS:=λE ρ=>t (bW ρ) E.rt
def Oa(h:c9 X e t):A4 X (.Return (aa e) pos) (Ob t):=iT (TL h) λB σ H N_=>by obtain⟨H₀,S,w,ρ,G,E,hl,st,ht,ok⟩:=N_;exact⟨S,bW ρ,E.rt,st.XA,st.all,ht,λv H' d s' d' q'=>ok.rt v H' d (st.sm.trans s') d' q'⟩
def Nz(c:WT)(t u:WS):WS:=λE ρ=>c (bW ρ) λb=>if b=ae then t E ρ else u E ρ
theorem Ny(hc:vB X c tc)(ha:uO X a t)(hb:uO X b u):A4 X (.If c a b pos) (Nz tc t u):=iT (Xg hc ha hb) λB σ H Nw=>by
 obtain⟨H₀,S,w,ρ,G,E,hl,st,ht,ok⟩:=Nw;refine⟨S,bW ρ,_,st.XA,st.all,ht,λd H1 s1 q1=>?_⟩
 cases d with
 |true=>rw[Z_ rfl] at q1 ⊢;exact⟨H₀,S,w,ρ,G,E,hl,st.same s1,q1,ok⟩
 |false=>rw[Zz bt] at q1 ⊢;exact⟨H₀,S,w,ρ,G,E,hl,st.same s1,q1,ok⟩
def vx(i:Nat)(t:WE):WS:=λE ρ=>t (gJ ρ) λd=>E.nx (ρ.set i (.ro d))
def vw(i:Nat)(t:WE):WS:=λE ρ=>t (gJ ρ) λd=>E.nx (ρ.set i (.ow d))
section
variable{i:Nat}{x:ak}{e:ar}{t:WE}{pos pos':bo}
def gH{N:Q0g}{i:Nat}{x:ak}(h:N[i]?=aa x):i<N.length:=(cn.mp h).1
def Nv(hN:X.N.Nodup)(he:c9 X e t)(hi:X.N[i]?=aa x:=by rfl)(hx:Loc X.env.scope x:=by first|exact .inl rfl|exact .inr rfl)(hs:fj e (aa (.Name x pos')) pos.line X.env=pure ag:=by rfl)(hf:X.fn x=ae\/X.env.scope.names.lookup x=aa .local:=by first|exact .inl rfl|exact .inr rfl):
  A4 X (.Assign [.Name x pos'] e pos) (vx i t):=iT (lX hN hi hx he hs hf) λB σ H Nu=>by
 obtain⟨H₀,S,w,ρ,G,E,hl,st,ht,ok⟩:=Nu;exact⟨_,gJ ρ,_,st.IV,st.rd,ht,λv H' d s' d' q'=>ok.nx w _ H' _ (by rw[ia];exact hl) ((st.same s').jO (by rw[hl];exact gH hi) d') q'⟩
def Nt(hN:X.N.Nodup)(he:FR X e t)(hi:X.N[i]?=aa x:=by rfl)(hx:Loc X.env.scope x:=by first|exact .inl rfl|exact .inr rfl)(hs:fj e (aa (.Name x pos')) pos.line X.env=pure ag:=by rfl)(hf:X.fn x=ae\/X.env.scope.names.lookup x=aa .local:=by first|exact .inl rfl|exact .inr rfl):
  A4 X (.Assign [.Name x pos'] e pos) (vw i t):=iT (lX hN hi hx he hs hf) λB σ H Nr=>by
 obtain⟨H₀,S,w,ρ,G,E,hl,st,ht,ok⟩:=Nr;exact⟨_,gJ ρ,_,st.IV,st.rd,ht,λp xs H' ds hp hp' s' d' q'=>ok.nx _ _ H' _ (by rw[ia];exact hl) (st.xO (d:=.lst ds) (by rw[hl];exact gH hi) s' hp ⟨xs,hp',d'⟩) q'⟩
end
def kK(N:Q0g)(ds:List D):bV:=ds.map Sv.ro++dm (N.length-ds.length) Sv.no
def FV{K:aq}{H:Hp}{S:ah->Prop}{N:Q0g}{ds:List D}{vs:List V}(fc:∀a,H a=af->S a)(h:aX K S H ds vs):ST K H S (λ_=>0) (L2.start N vs) H (kK N ds) []:=by
 have no:∀(i:Nat) (d:D),(kK N ds)[i]?≠aa (Sv.ow d):=λi d e=>by
  unfold kK at e;by_cases hi:i<ds.length
  .rw [ik (by simpa using hi),cg] at e
   cases q:ds[i]? with
   |none=>rw[q] at e;cases e
   |some a=>rw[q] at e;cases e
  .rw [ic (by simpa using hi),kb] at e;split at e<;>cases e
 have so:∀a,S a->SO S (λ_=>0) (kK N ds) a:=λa s=>⟨s,λi d e=>Zw e (no i d)⟩;refine⟨fc,Same.refl H,λi d e=>Zw e (no i d),λi j d e h1=>Zw h1 (no i d),λi d e=>?_,λg hg=>(nomatch hg),λi _ e=>Zw e (no i _)⟩;unfold kK at e;by_cases hi:i<ds.length
 .rw [ik (by simpa using hi),cg] at e
  cases q:ds[i]? with
  |none=>rw[q] at e;cases e
  |some a =>
   rw[q] at e;cases e;obtain⟨v,e1,dv⟩:=h.get q;refine⟨v,?_,Dn.fits (.mono so) _ _ dv⟩;unfold L2.start;have hv:i<vs.length:=(cn.mp e1).1;rw[ik (by simpa using hv),cg,e1];rfl
 .rw [ic (by simpa using hi),kb] at e;split at e<;>cases e
theorem Nq{P:bh}{w:bb}{K:aq}{mg:Q0d}{base:bf}{x qual:ak}{st:de}{f:ah}{fd:gi}{N ps:Q0g}{k:Nat}{R:Spec}(F:ZC K x qual st f fd)(S:gX N ps (bF st))(len:∀ds Q,R ds Q->ds.length=ps.length)
  (hbody:∀(cdv:ai) (A:bp) (outer:List fm) (s:ao) (H:Hp) (E:XK),fN k (A.deeper (envOfC qual (bF st) s.heap.objs.size f cdv)) ->
   ∃t:WS,uO (tE dF P w K mg base N qual (bF st) f cdv A outer s H E).QM (fJ st) t /\∀ds Q,R ds Q->t {nx:=λ_=>Q .non,rt:=Q} (kK N ds)):lC P w K mg base dF (k+1) f fd ps (sp3 K R):=by
 refine F.ok S (λvs H Q E h=>?_) λcdv A outer s H vs Q E hr h=>?_
 .obtain ⟨S',ds,Q3,fc,dn,r,_⟩:=h;rw[<- dn.len];exact len ds Q3 r
 .obtain ⟨t,ht,hq⟩:=hbody cdv A outer s H E hr;obtain⟨S',ds,Q3,fc,dn,r,kk⟩:=h;refine⟨_,ht,H,S',λ_=>0,kK N ds,[],{nx:=λ_=>Q3 .non,rt:=Q3},?_,FV fc dn,hq ds Q3 r,⟨λw' σ' H' ρ' _ st' q=>?_,λv H' d s' d' q=>kk v H' d s' d' q,λ_ _ _ _ _ _ q=>q,λ_ _ _ _ _ _ q=>q,λ_ _ _ q=>q.elim⟩⟩
  .have hl:=len ds Q3 r;have hl2:=dn.len;have hp:ps.length<=N.length:=by have:=congrArg rf S.pre;rw[ji] at this;omega
   unfold L2.start;show _=N.length;rw[bq,az,lz];omega
  .exact kk .non H' .non st'.sm (by simp only[Dn]) q
end
abbrev WX:=bV->(bV->D->Prop)->Prop
def U3(K:aq)(n:Nat)(t:WX):TE:=λσ H Q=>∃(H₀:Hp) (S:ah->Prop) (w:Nat->ah) (ρ:bV) (G:List (D×V)) (Q3:bV->D->Prop),σ.length=n/\ST K H₀ S w σ H ρ G/\t ρ Q3 /\
 ∀w' v H' ρ' d,ST K H₀ S w' σ H' ρ' G->Dn K (SO S w' ρ') H' d v->Q3 ρ' d->Q v H'
def G6(X:Cx)(e:ar)(t:WX):Prop:=PE X e (U3 X.K X.N.length t)
def Vv(t:WE):WX:=λρ Q=>t (bW ρ) λd=>d.tT=ae/\Q ρ d
def Zk(t:WE):WX:=λρ Q=>t (gJ ρ) λd=>Q ρ d
section
variable{X:Cx}
def px3(h:c9 X e t):G6 X e (Vv t):=imp h λσ H Q Np=>by obtain⟨H₀,S,w,ρ,G,Q3,hl,st,ht,k⟩:=Np;exact⟨S,bW ρ,_,st.XA,st.all,ht,λv H' d s' d' q'=>k w v H' ρ d (st.same s') (Dn.tT q'.1 d') q'.2⟩
def Nm(h:c9 X e t):G6 X e (Zk t):=imp h λσ H Q Nl=>by obtain⟨H₀,S,w,ρ,G,Q3,hl,st,ht,k⟩:=Nl;exact⟨_,gJ ρ,_,st.IV,st.rd,ht,λv H' d s' d' q'=>k w v H' ρ d (st.same s') d' q'⟩
def Vu(i:Nat)(t:WX):WS:=λE ρ=>t ρ λρ' d=>E.nx (ρ'.set i (.ro d))
def Vt(hN:X.N.Nodup)(he:G6 X e t)(hi:X.N[i]?=aa x:=by rfl)(hx:Loc X.env.scope x:=by first|exact .inl rfl|exact .inr rfl)(hs:fj e (aa (.Name x pos')) pos.line X.env=pure ag:=by rfl)(hf:X.fn x=ae\/X.env.scope.names.lookup x=aa .local:=by first|exact .inl rfl|exact .inr rfl):
  A4 X (.Assign [.Name x pos'] e pos) (Vu i t):=iT (lX hN hi hx he hs hf) λB σ H Nk=>by
 obtain⟨H₀,S,w,ρ,G,E,hl,st,ht,ok⟩:=Nk;exact⟨H₀,S,w,ρ,G,_,hl,st,ht,λw' v H' ρ' d st' d' q'=>ok.nx w' _ H' _ (by rw[ia];exact hl) (st'.jO (by rw[hl];exact gH hi) d') q'⟩
def Vs(t:WX):WS:=λE ρ=>t ρ λρ' _=>E.nx ρ'
theorem Vr(he:G6 X e t)(hs:fj e af pos.line X.env=pure ag:=by rfl):A4 X (.Expr e pos) (Vs t):=iT (LY he hs) λB σ H Ni=>by obtain⟨H₀,S,w,ρ,G,E,hl,st,ht,ok⟩:=Ni;exact⟨H₀,S,w,ρ,G,_,hl,st,ht,λw' v H' ρ' d st' d' q'=>ok.nx w' _ H' _ hl st' q'⟩
noncomputable def qe(i:Nat)(f:List D->D->(List D->D->Prop)->Prop)(t:WX):WX:=λρ Q=>(match ρ[i]? with|some (.ow (.lst _))=>True|_=>False)/\t ρ λρ' d=>match ρ'[i]? with
 |some (.ow (.lst ds))=>f ds d λds' r=>Q (ρ'.set i (.ow (.lst ds'))) r
 |_=>False
def M3(K:aq)(r:V->List V->Hp->VK->Prop)(f:List D->D->(List D->D->Prop)->Prop):Prop:=∀(S:ah->Prop) (H:Hp) (p:ah) (xs:List V) (ds:List D) (y:V) (d:D) (Q3:List D->D->Prop) (Q:VK),
 H p=aa (.lst xs)->aX K S H ds xs->Dn K S H d y->f ds d Q3->(∀ys ds' v d',aX K S H ds' ys->Dn K S H d' v->Q3 ds' d'->Q v (upd H p (.lst ys)))->r (.ref p) [y] H Q
theorem ZP{K:aq}{n i:Nat}{r:V->List V->Hp->VK->Prop}{f:List D->D->(List D->D->Prop)->Prop}{t:WX}{σ:L2.St}{H:Hp}{Q:VK}(h3:M3 K r f)(h:U3 K n (qe i f t) σ H Q):
  zu K "list" r (YQ i) (Dg (U3 K n t) Bj) σ H Q:=by
 obtain⟨H₀,S,w,ρ,G,Q3,hl,st,⟨h0,ht⟩,k⟩:=h;split at h0
 .rename_i ds e;obtain⟨a,b,c⟩:=st.own i _ e;obtain⟨xs,hp,dn⟩:=c;refine⟨_,a,.inl ⟨rfl,xs,eE.of hp⟩,H₀,S,w,ρ,G,_,hl,st,ht,λw' v H' ρ' d st' d' q'=>?_⟩;split at q'
  .rename_i ds' e';obtain⟨a',b',c'⟩:=st'.own i _ e';obtain⟨xs',hp',dn'⟩:=c';have ew:w i=w' i:=by have z:=a.symm.trans a';have z1:=df (df z);injection z1
   rw[ew];refine h3 _ H' (w' i) xs' ds' v d _ Q hp' dn' d' q' λys ds2 v2 d2 DX dv2 q2=>?_;have nS:¬ SO S w' ρ' (w' i):=λ⟨_,z⟩=>z i _ e' rfl;have F:Fits K (SO S w' ρ') (SO S w' ρ') H' (upd H' (w' i) (.lst ys)):=.upd (.inl ⟨_,hp'⟩) nS;have so:∀a,SO S w' ρ' a->SO S w' (ρ'.set i (.ow (.lst ds2))) a:=SO.mono λj f hf=>by
    rcases get_set hf with⟨hj,_,_⟩|⟨_,z⟩
    .subst hj;exact⟨_,e'⟩
    .exact ⟨_,z⟩
   exact k w' v2 _ _ d2 (st'.write (d':=.lst ds2) e' ⟨ys,aU,aX.fits F _ _ DX⟩) (Dn.fits (F.trans (.mono so)) _ _ dv2) q2
  .exact q'.elim
 .exact h0.elim
theorem m1{i:Nat}{x:ak}{id:String}{name:ak}{e:ar}{p apos cpos:bo}{r:V->List V->Hp->VK->Prop}{f:List D->D->(List D->D->Prop)->Prop}{t:WX}(slot:Slot "list" name id)(hty:typeOf (.builtin id)=pure (.type "method_descriptor"))(hm:MtR X id r)(h3:M3 X.K r f)(he:G6 X e t)
  (hN:X.N[i]?=aa x:=by rfl) (hv:AN X.env.scope x:=by first|exact d_ rfl|exact cc (d_ rfl)|exact cc (cc rfl)) (hd:(x == ("__debug__":ak))=ag:=by decide) (hcd:(x == ("__classdict__":ak))=ag:=by decide)
  (hbase:attributeBase (.Name x p) name X.env (eval (.Name x p) X.env)=eval (.Name x p) X.env:=by rfl)
  (hfew:((fq cpos (av [e] X.env)).all (λx=>!x.1)&&(backToKw cpos (mn [] X.env)).all (λx=>x.1.isSome)
   && Zv ([e].length+([]:List iw).length+(if([]:List iw).isEmpty then 0 else 1)<30))=ae:=by rfl)
  (hline:(apos.endLine == cpos.line)=ae:=by rfl) (hs:av [e] X.env=(ag,eval e X.env)::av [] X.env:=by rfl):
  G6 X (.Call (.Attribute (.Name x p) name apos) [e] [] cpos) (qe i f t) :=
 imp (Wi a1b slot hty hm (lV hN hv hd hcd) (j8 he sZ hs) hbase hfew hline hs (by rfl)) λ_ _ _ h=>ZP h3 h
def vv:List D->D->(List D->D->Prop)->Prop:=λds d Q=>ds.length<bg/\Q (ds++[d]) .non
theorem Zj{K:aq}:M3 K MG vv:=by intro S H p xs ds y d Q3 Q hp dn dy hf k;exact⟨p,xs,y,rfl,rfl,hp,by rw[<- dn.len];exact hf.1,k _ _ _ _ (dn.append (aX.one dy)) (by simp only[Dn]) hf.2⟩
noncomputable def vt:List D->D->(List D->D->Prop)->Prop
 |ds,.int k,Q=>(-(2^63)<=k/\k<2^63)/\(match N7 ds.length k with|some j=>(match ds[j]? with|some d=>Q (ds.eraseIdx j) d|none=>False)|none=>False)
 |_,_,_=>False
theorem Zi{K:aq}:M3 K UA vt:=by
 intro S H p xs ds y d Q3 Q hp dn dy hf k
 cases d with
 |int i =>
  simp only[Dn] at dy;subst dy;obtain⟨⟨h1,h2⟩,hf⟩:=hf;split at hf
  .rename_i j ej;split at hf
   .rename_i dd ed;obtain⟨v,ev,dv⟩:=dn.get ed;obtain⟨g1,_⟩:=C8 ej;exact⟨p,xs,i,j,v,rfl,rfl,hp,h1,h2,by rw[<- dn.len];exact g1,ev,k _ _ _ _ (dn.erase j) dv hf⟩
   .exact hf.elim
  .exact hf.elim
 |_=>exact hf.elim
section
variable{i:Nat}{x:ak}{e:ar}{p apos cpos:bo}{t:WX}
def My(he:G6 X e t)(hN:X.N[i]?=aa x:=by rfl)(hv:AN X.env.scope x:=by first|exact d_ rfl|exact cc (d_ rfl)|exact cc (cc rfl))(hd:(x == ("__debug__":ak))=ag:=by decide)(hcd:(x == ("__classdict__":ak))=ag:=by decide)
  (hbase:attributeBase (.Name x p) "append" X.env (eval (.Name x p) X.env)=eval (.Name x p) X.env:=by rfl)
  (hfew:((fq cpos (av [e] X.env)).all (λx=>!x.1)&&(backToKw cpos (mn [] X.env)).all (λx=>x.1.isSome)
   && Zv ([e].length+([]:List iw).length+(if([]:List iw).isEmpty then 0 else 1)<30))=ae:=by rfl)
  (hline:(apos.endLine == cpos.line)=ae:=by rfl) (hs:av [e] X.env=(ag,eval e X.env)::av [] X.env:=by rfl):
  G6 X (.Call (.Attribute (.Name x p) "append" apos) [e] [] cpos) (qe i vv t):=m1 a06 PySem.F.type_list_append AX Zj he hN hv hd hcd hbase hfew hline hs
def Mx(he:G6 X e t)(hN:X.N[i]?=aa x:=by rfl)(hv:AN X.env.scope x:=by first|exact d_ rfl|exact cc (d_ rfl)|exact cc (cc rfl))(hd:(x == ("__debug__":ak))=ag:=by decide)(hcd:(x == ("__classdict__":ak))=ag:=by decide)
  (hbase:attributeBase (.Name x p) "pop" X.env (eval (.Name x p) X.env)=eval (.Name x p) X.env:=by rfl)
  (hfew:((fq cpos (av [e] X.env)).all (λx=>!x.1)&&(backToKw cpos (mn [] X.env)).all (λx=>x.1.isSome)
   && Zv ([e].length+([]:List iw).length+(if([]:List iw).isEmpty then 0 else 1)<30))=ae:=by rfl)
  (hline:(apos.endLine == cpos.line)=ae:=by rfl) (hs:av [e] X.env=(ag,eval e X.env)::av [] X.env:=by rfl):
  G6 X (.Call (.Attribute (.Name x p) "pop" apos) [e] [] cpos) (qe i vt t):=m1 yh a04 UB Zi he hN hv hd hcd hbase hfew hline hs
end
def vp(ρ:bV)(i:Nat):Prop:=match ρ[i]? with
 |some (.ow (.lst _))=>True
 |_=>False
def Mw(i:Nat)(t:WX)(tk:WE):WS:=λE ρ=>t ρ λρ' d=>vp ρ' i/\tk (bW ρ') λk=>match ρ'[i]?,k with
 |some (.ow (.lst ds)),.int k=>(match N7 ds.length k with|some j=>E.nx (ρ'.set i (.ow (.lst (ds.set j d))))|none=>False)
 |_,_=>False
theorem put3(he:G6 X e t)(hk:c9 X k tk)
  (hN:X.N[i]?=aa x:=by rfl) (hv:AN X.env.scope x:=by first|exact d_ rfl|exact cc (d_ rfl)|exact cc (cc rfl)) (hd:(x == ("__debug__":ak))=ag:=by decide) (hcd:(x == ("__classdict__":ak))=ag:=by decide)
  (ha:∀v,assign (.Subscript (.Name x p) k pos') X.env v=(do
   let ov <- holding [v] (eval (.Name x p) X.env)
   let iv <- holding [v,ov] (eval k X.env)
   standAt pos'
   holding [v,ov,iv] (setItem ov iv v)
   release [v,ov,iv] []):=by intro _;rfl)
  (hs:swapsWithSole [.Subscript (.Name x p) k pos'] e pos.line X.env=pure ag:=by rfl) (hw:swappedStores [.Subscript (.Name x p) k pos'] e X.env=pure af:=by rfl)
  (h1:(ee [.Subscript (.Name x p) k pos'] X.env).map (·.2)=[assign (.Subscript (.Name x p) k pos') X.env]:=by rfl):
  A4 X (.Assign [.Subscript (.Name x p) k pos'] e pos) (Mw i t tk):=iT (TR he (aCR (lV hN hv hd hcd) hk set_list ha) hs hw h1) λB σ H Mv=>by
 obtain⟨H₀,S,w,ρ,G,E,hl,st,ht,ok⟩:=Mv;refine⟨H₀,S,w,ρ,G,_,hl,st,ht,λw' v H' ρ' d st' d' q'=>?_⟩;obtain⟨q0,q'⟩:=q';unfold vp at q0;split at q0
 .rename_i ds0 e0;obtain⟨a0,_,_⟩:=st'.own i _ e0;refine⟨_,a0,S,bW ρ',_,st'.XA,st'.all,q',λkv H2 dk s2 dk2 q2=>?_⟩;split at q2
  .rename_i ds k' e1;simp only[Dn] at dk2;split at q2
   .rename_i j ej;have st2:=st'.same s2;obtain⟨a,b,c⟩:=st2.own i _ e1;obtain⟨xs,hp,dn⟩:=c;have nS:¬ SO S w' ρ' (w' i):=λ⟨_,z⟩=>z i _ e1 rfl;have F:Fits X.K (SO S w' ρ') (SO S w' ρ') H2 (upd H2 (w' i) (.lst (xs.set j v))):=.upd (.inl ⟨_,hp⟩) nS;exact⟨w' i,xs,k',j,rfl,dk2,hp,by rw[<- dn.len];exact ej,ok.nx w' σ _ _ hl (st2.write (d':=.lst (ds.set j d)) e1 ⟨_,aU,aX.fits F _ _ (dn.set j (Dn.fits (.same s2) _ _ d'))⟩) q2⟩
   .exact q2.elim
  .exact q2.elim
 .exact q0.elim
end
structure Wlk (K:aq) (J:It) (ds:List D) (G:List (D×V)):Prop where
 go:∀(S:ah->Prop) (H:Hp),(∀a,H a=af->S a)->(∀g∈G,Dn K S H g.1 g.2) ->∀(i:Nat) (d:D),ds[i]?=aa d->J.go i H /\∀x H',J.yld i H x H'->Same H H'/\Dn K S H' d x
 stop:∀(S:ah->Prop) (H:Hp),(∀g∈G,Dn K S H g.1 g.2) ->∀i:Nat,ds.length=i->J.stop i H
abbrev WI:=dJ->(List D->Prop)->Prop
def Cy(K:aq)(t:WI):TI:=λσ H R=>∃(S:ah->Prop) (ρ:dJ) (Q3:List D->Prop),(∀a,H a=af->S a)/\Sl K S H ρ σ/\t ρ Q3 /\
 ∀J H' ds G,Same H H'->(∀g∈G,Dn K S H' g.1 g.2)->Wlk K J ds G->Q3 ds->R J H'
def OL(X:Cx)(tg iter:ar)(t:WI):Prop:=PI X tg iter (Cy X.K t)
section
variable{X:Cx}{tg:ar}
theorem IY(h:PI X tg e t)(f:∀σ H R,t' σ H R->t σ H R):PI X tg e t':=λpins s σ H R I q=>h pins s σ H R I (f σ H R q)
noncomputable def Vq(t:WE):WI:=λρ Q=>t ρ λd=>match d with
 |.lst ds=>Q ds
 |.tup ds=>Q ds
 |_=>False
theorem U4{K:aq}{a:ah}{ds:List D}:Wlk K (Itl K a) ds [(.lst ds,.ref a)] where
 go:=λS H fc hg i d e=>by have h:=hg _ (br.mpr rfl);simp only[Dn] at h;obtain⟨b,xs,eb,hb,sb,dn⟩:=h;injection eb with eb;subst eb;obtain⟨v,ev,dv⟩:=dn.get e;refine⟨⟨xs,v,eE.of hb,ev⟩,λx H' y=>?_⟩;obtain⟨e1,y⟩:=y;subst e1;have ex:=y xs (eE.of hb);rw[ev] at ex;cases ex;exact⟨Same.refl _,dv⟩
 stop:=λS H hg i hi=>by have h:=hg _ (br.mpr rfl);simp only[Dn] at h;obtain⟨b,xs,eb,hb,sb,dn⟩:=h;injection eb with eb;subst eb;exact⟨xs,eE.of hb,by rw[<- dn.len];exact nc hi⟩
theorem ZQ{K:aq}{a:ah}{ds:List D}:Wlk K (Itt K a) ds [(.tup ds,.ref a)] where
 go:=λS H fc hg i d e=>by have h:=hg _ (br.mpr rfl);simp only[Dn] at h;obtain⟨b,xs,eb,hb,dn⟩:=h;injection eb with eb;subst eb;obtain⟨v,ev,dv⟩:=dn.get e;refine⟨⟨xs,v,(fT.of hb),ev⟩,λx H' y=>?_⟩;obtain⟨e1,y⟩:=y;subst e1;have ex:=y xs (fT.of hb);rw[ev] at ex;cases ex;exact⟨Same.refl _,dv⟩
 stop:=λS H hg i hi=>by have h:=hg _ (br.mpr rfl);simp only[Dn] at h;obtain⟨b,xs,eb,hb,dn⟩:=h;injection eb with eb;subst eb;exact⟨xs,(fT.of hb),by rw[<- dn.len];exact nc hi⟩
def Zh(hl:PE X l tl):PI X tg l (λσ H R=>tl σ H λx H1=>∃a,x=.ref a/\(((∃xs,eE X.K H1 a xs)/\R (Itl X.K a) H1)\/((∃xs,fT X.K H1 a xs)/\R (Itt X.K a) H1))):=by
 intro pins s σ H R I h;refine dR (hl pins s σ H _ I h) λv s1 Mu=>?_;obtain⟨x,H1,I1,r1,q1⟩:=Mu;obtain⟨a,e,q⟩:=q1;subst e;cases r1;rcases q with⟨⟨xs,hq⟩,q⟩|⟨⟨xs,hq⟩,q⟩
 .obtain ⟨its,rv,p,hz⟩:=I1.list hq;refine Eg p.isList ?_;refine⟨s1.heap.objs.size,[s1.heap.objs.size],_,_,H1,rfl,I1.kept (t':=s1.toks) λb o e=>di _ e,NZ a _,⟨_,gg _ rfl,rfl,rfl⟩,λb hb=>?_,q⟩;have e:b=s1.heap.objs.size:=by simpa using hb
  subst e;exact I1.C2 (bc _) (I1.hok.fresh (bc _))
 .obtain ⟨its,rv,p,hz⟩:=I1.tuple hq;refine xk (show s1.heap.IsTuple a its.toArray from p) ?_;refine⟨s1.heap.objs.size,[s1.heap.objs.size],_,_,H1,rfl,I1.kept (t':=s1.toks) λb o e=>di _ e,IE a _,⟨_,gg _ rfl,rfl,rfl⟩,λb hb=>?_,q⟩;have e:b=s1.heap.objs.size:=by simpa using hb
  subst e;exact I1.C2 (bc _) (I1.hok.fresh (bc _))
theorem Vp(h:c9 X l t):OL X tg l (Vq t):=IY (Zh h) λσ H R Mt=>by
 obtain⟨S,ρ,Q3,fc,sl,ht,k⟩:=Mt;refine⟨S,ρ,_,fc,sl,ht,λv H1 d s1 d1 q1=>?_⟩
 cases d with
 |lst ds =>
  have d1':=d1;simp only[Dn] at d1;obtain⟨a,xs,rfl,ha,sa,da⟩:=d1;exact⟨a,rfl,.inl ⟨⟨xs,eE.of ha⟩,k _ H1 ds [(.lst ds,.ref a)] s1 (λg hg=>by cases br.mp hg;exact d1') U4 q1⟩⟩
 |tup ds =>
  have d1':=d1;simp only[Dn] at d1;obtain⟨a,xs,rfl,ha,da⟩:=d1;exact⟨a,rfl,.inr ⟨⟨xs,(fT.of ha)⟩,k _ H1 ds [(.tup ds,.ref a)] s1 (λg hg=>by cases br.mp hg;exact d1') ZQ q1⟩⟩
 |_=>exact q1.elim
def lE(lo:Int)(n:Nat):List Int:=(dj n).map λk:Nat=>lo+(k:Int)
def m7(lo:Int)(n:Nat):(lE lo n).length=n:=by simp[lE]
def U5{lo:Int}{n i:Nat}:(lE lo n)[i]?=if i<n then aa (lo+(i:Int)) else af:=by
 unfold lE;rw[cg];by_cases h:i<n
 .rw [Z_ h,rh h];rfl
 .rw [Zz h,kc (by simpa using h)];rfl
theorem A5{K:aq}{lo:Int}{n:Nat}:Wlk K (Itr lo n) ((lE lo n).map D.int) [] where
 go:=λS H fc hg i d e=>by
  rw[cg,U5] at e;by_cases h:i<n
  .rw [Z_ h] at e;cases e;refine⟨h,λx H' y=>?_⟩;obtain⟨e1,e2⟩:=y;subst e1;exact⟨Same.refl _,by simp only[Dn];exact e2⟩
  .rw [Zz h] at e;cases e
 stop:=λS H hg i hi=>by rw[az,m7] at hi;exact nc hi
noncomputable def Zg(t:WA):WI:=λρ Q=>t ρ λds=>match ds with
 |[.int j]=>(-(2^62)<=j/\j<2^62)/\Q ((lE 0 j.toNat).map D.int)
 |_=>False
noncomputable def ZR(t:WA):WI:=λρ Q=>t ρ λds=>match ds with
 |[.int i,.int j]=>(-(2^62)<=i/\i<2^62 /\ -(2^62)<=j/\j<2^62)/\Q ((lE i (j-i).toNat).map D.int)
 |_=>False
def Zf(hm:X.mg "range"=af)(ha:xP X [a] t)(hg:Gl X "range":=by rfl)(hs:av [a] X.env=[(ag,eval a X.env)]:=by rfl):OL X tg (.Call (.Name "range" p) [a] [] pos) (Zg t) :=
 IY (N0 hg hm ha hs) λσ H R Ms=>by
  obtain⟨S,ρ,Q3,fc,sl,ht,k⟩:=Ms;refine⟨S,ρ,_,fc,sl,ht,λvs H1 ds s1 d1 q1=>?_⟩;split at q1
  .rename_i j;obtain⟨v,r,rfl,h1,h2⟩:=d1.bO;simp only[aX] at h2;subst h2;simp only[Dn] at h1;subst h1;exact⟨j,rfl,q1.1.1,q1.1.2,k _ H1 _ [] s1 (λg hg=>nomatch hg) A5 q1.2⟩
  .exact q1.elim
def ZS(hm:X.mg "range"=af)(ha:xP X [a,b] t)(hg:Gl X "range":=by rfl)(hs:av [a,b] X.env=[(ag,eval a X.env),(ag,eval b X.env)]:=by rfl)(hs2:av [b] X.env=[(ag,eval b X.env)]:=by rfl):OL X tg (.Call (.Name "range" p) [a,b] [] pos) (ZR t) :=
 IY (N2 hg hm ha hs hs2) λσ H R Mr=>by
  obtain⟨S,ρ,Q3,fc,sl,ht,k⟩:=Mr;refine⟨S,ρ,_,fc,sl,ht,λvs H1 ds s1 d1 q1=>?_⟩;split at q1
  .rename_i i j;obtain⟨v,r,rfl,h1,h2⟩:=d1.bO;obtain⟨v2,r2,rfl,h3,h4⟩:=h2.bO;simp only[aX] at h4;subst h4;simp only[Dn] at h1 h3;subst h1 h3;exact⟨i,j,rfl,q1.1,k _ H1 _ [] s1 (λg hg=>nomatch hg) A5 q1.2⟩
  .exact q1.elim
abbrev WG:=D->bV->(bV->Prop)->Prop
def Vo(K:aq)(n:Nat)(g:WG):TG:=λv σ H Q=>∃(H₀:Hp) (S:ah->Prop) (w:Nat->ah) (ρ:bV) (G:List (D×V)) (d:D) (Q3:bV->Prop),σ.length=n/\ST K H₀ S w σ H ρ G/\Dn K (SO S w ρ) H d v/\g d ρ Q3 /\
 ∀σ' H' ρ',σ'.length=n->ST K H₀ S w σ' H' ρ' G->Q3 ρ'->Q σ' H'
def ZT(X:Cx)(tg:ar)(g:WG):Prop:=PG X tg (Vo X.K X.N.length g)
def OM(h:PG X e t)(f:∀v σ H Q,t' v σ H Q->t v σ H Q):PG X e t':=λpins s σ H v u Q I r q=>h pins s σ H v u Q I r (f v σ H Q q)
def gN(i:Nat):WG:=λd ρ Q=>Q (ρ.set i (.ro d))
theorem Vn(hN:X.N.Nodup)(hi:X.N[i]?=aa x:=by rfl)(hx:Loc X.env.scope x:=by first|exact .inl rfl|exact .inr rfl)(hf:X.fn x=ae\/X.env.scope.names.lookup x=aa .local:=by first|exact .inl rfl|exact .inr rfl):ZT X (.Name x pos) (gN i) :=
 OM (n5 hN hi hx hf) λv σ H Q Mq=>by obtain⟨H₀,S,w,ρ,G,d,Q3,hl,st,dn,hg,k⟩:=Mq;exact k _ H _ (by rw[ia];exact hl) (st.jO (by rw[hl];exact gH hi) dn) hg
noncomputable def g2(i j:Nat):WG:=λd ρ Q=>match d with
 |.tup [d1,d2]=>Q ((ρ.set i (.ro d1)).set j (.ro d2))
 |_=>False
def Vm(hc:X.calm=ae)(hN:X.N.Nodup)(hi:X.N[i]?=aa x:=by rfl)(hj:X.N[j]?=aa y:=by rfl)(hx:Loc X.env.scope x:=by first|exact .inl rfl|exact .inr rfl)(hy:Loc X.env.scope y:=by first|exact .inl rfl|exact .inr rfl)
  (hf:X.fn x=ae\/X.env.scope.names.lookup x=aa .local:=by first|exact .inl rfl|exact .inr rfl) (hf2:X.fn y=ae\/X.env.scope.names.lookup y=aa .local:=by first|exact .inl rfl|exact .inr rfl)
  (hn:(ee [.Name x px,.Name y py] X.env).length=2:=by rfl) (hst:(ee [.Name x px,.Name y py] X.env).findIdx? (·.1)=af:=by rfl)
  (hs1:(ee [.Name x px,.Name y py] X.env).map (·.2)=assign (.Name x px) X.env::(ee [.Name y py] X.env).map (·.2):=by rfl) (hs2:(ee [.Name y py] X.env).map (·.2)=assign (.Name y py) X.env::(ee [] X.env).map (·.2):=by rfl):
  ZT X (.Tuple [.Name x px,.Name y py] k pos) (g2 i j) :=
 OM (TQ (n:=2) hc (qQ (n5 hN hi hx hf) (qQ (n5 hN hj hy hf2) LZ hs2) hs1) hn hst) λv σ H Q Mp=>by
  obtain⟨H₀,S,w,ρ,G,d,Q3,hl,st,dn,hg,k⟩:=Mp;unfold g2 at hg;split at hg
  .rename_i d1 d2;simp only[Dn] at dn;obtain⟨a,xs,rfl,ha,da⟩:=dn;obtain⟨v1,r1,rfl,h1,h2⟩:=da.bO;obtain⟨v2,r2,rfl,h3,h4⟩:=h2.bO;simp only[aX] at h4;subst h4;refine⟨a,_,rfl,(fT.of ha),rfl,v1,[v2],rfl,v2,[],rfl,rfl,?_⟩;have st1:=st.jO (i:=i) (by rw[hl];exact gH hi) h1;have m:∀a,SO S w ρ a->SO S w (ρ.set i (.ro d1)) a:=SO.mono λn f hf=>by
    rcases get_set hf with⟨_,z,_⟩|⟨_,z⟩
    .cases z
    .exact ⟨_,z⟩
   have st2:=st1.jO (i:=j) (d:=d2) (v:=v2) (by rw[ia,hl];exact gH hj) (Dn.fits (.mono m) _ _ h3);exact k _ H _ (by rw[ia,ia];exact hl) st2 hg
  .exact hg.elim
def Mo(ti:WI)(g:WG)(tb:WS):WS:=λE ρ=>ti (gJ ρ) λds=>∃Inv:Nat->bV->Prop,Inv 0 ρ /\
 (∀(i:Nat) (d:D) (ρ':bV),ds[i]?=aa d->Inv i ρ'->g d ρ' λρ2=>tb {E with nx:=Inv (i+1),ct:=Inv (i+1),bk:=E.nx} ρ2) /\∀ρ',Inv ds.length ρ'->E.nx ρ'
theorem Mn(hc:X.calm=ae)(hp:qp (ay X.prog X.w) X.A X.env X.xe)(hi:OL X tg iter ti)(hg:ZT X tg g)(hb:uO X body tb)
  (hs:∀x,foldedSetIterable iter X.env x=pure x:=by intro _;rfl):A4 X (.For tg iter body [] pos) (Mo ti g tb):=iT (aCV hp hc hi hg hb hs) λB σ H Mm=>by
 obtain⟨H₀,S,w,ρ,G,E,hl,st,ht,ok⟩:=Mm;refine⟨_,gJ ρ,_,st.IV,st.rd,ht,λJ H1 ds G1 s1 hg1 wk q1=>?_⟩;obtain⟨Iv,h0,turn,fin⟩:=q1;have stG:∀{w σ H ρ},ST X.K H₀ S w σ H ρ (G1++G)->ST X.K H₀ S w σ H ρ G:=λst=>st.ghost λg hg=>st.gh g (gc _ hg);refine⟨λi m σ H=>m=ds.length-i/\i<=ds.length/\σ.length=X.N.length /\∃w ρ,ST X.K H₀ S w σ H ρ (G1++G)/\Iv i ρ,
  ⟨_,rfl,kr _,hl,w,ρ,(st.same s1).ghost λg hg=>(ft.mp hg).elim (λz=>hg1 g z) λz=>(st.same s1).gh g z,h0⟩,?_⟩
 rintro i m σ2 H2 ⟨rfl,hi2,hl2,w2,ρ2,st2,iv⟩;by_cases hlt:i<ds.length
 .refine .inr ?_;obtain⟨g1,g2⟩:=wk.go _ H2 st2.IV (λg hg=>st2.gh g (jh _ hg)) i ds[i] (by simp[hlt]);refine⟨g1,λσ' H'=>σ'.length=X.N.length /\∃w ρ,ST X.K H₀ S w σ' H' ρ (G1++G)/\Iv (i+1) ρ,λσ' H' ⟨hl',w',ρ',st',iv'⟩=>⟨ds.length-(i+1),by omega,rfl,hlt,hl',w',ρ',st',iv'⟩,λx H' y=>?_⟩;obtain⟨s3,dx⟩:=g2 x H' y;refine⟨H₀,S,w2,ρ2,G1++G,ds[i],_,hl2,st2.same s3,dx,turn i ds[i] ρ2 (by simp[hlt]) iv,λσ4 H4 ρ4 hl4 st4 q4=>?_⟩;exact⟨H₀,S,w2,ρ4,G1++G,_,hl4,st4,q4,⟨λw' σ' H' ρ' hl' st' q=>⟨hl',w',ρ',st',q⟩,λv H' d s' d' q=>ok.rt v H' d s' d' q,λw' σ' H' ρ' hl' st' q=>ok.nx w' σ' H' ρ' hl' (stG st') q,λw' σ' H' ρ' hl' st' q=>⟨hl',w',ρ',st',q⟩,ok.ex⟩⟩
 .have e:i=ds.length:=by omega
  subst e;exact .inl ⟨wk.stop _ H2 (λg hg=>st2.gh g (jh _ hg)) _ rfl,ok.nx w2 σ2 H2 ρ2 hl2 (stG st2) (fin ρ2 iv)⟩
end
theorem xV(h:∀x∈scope.names,x.2=.free ->∃c,env.cells.lookup x.1=aa c):
  ∃cl,closureFor scope env=pure cl/\(∀x∈scope.names,x.2=.free->cl.lookup x.1=env.cells.lookup x.1) /\∀x c,cl.lookup x=aa c->env.cells.lookup x=aa c:=by
 have go:∀(l:List (ak×jf)) (acc:List (ak×ah)),(∀x∈l,x.2=.free ->∃c,env.cells.lookup x.1=aa c)->(∀x c,acc.lookup x=aa c->env.cells.lookup x=aa c) ->
   ∃cl,(forIn l acc λ(x:ak×jf) (cs:List (ak×ah))=>(match x with|(name,kind)=>if(kind == jm)=ae then(do let c <- cellOf env name;pure (md ((name,c)::cs))) else pure (md cs):Sem (ForInStep (List (ak×ah)))))=pure cl /\
    (∀x c,acc.lookup x=aa c->cl.lookup x=aa c)/\(∀x∈l,x.2=.free->cl.lookup x.1=env.cells.lookup x.1) /\∀x c,cl.lookup x=aa c->env.cells.lookup x=aa c:=by
  intro l
  induction l with
  |nil=>intro acc _ ha;exact⟨acc,by rw[uv],λ_ _ z=>z,λx hx=>(nomatch hx),ha⟩
  |cons y l ih =>
   intro acc hf ha;by_cases hk:y.2=.free
   .obtain ⟨c,hc⟩:=hf y b_ hk;have ha':∀x c',((y.1,c)::acc).lookup x=aa c'->env.cells.lookup x=aa c':=λx c' hx=>by
     rw[pq] at hx;split at hx
     .rename_i e;cases hx;rw[eq_of_beq e];exact hc
     .exact ha x c' hx
    obtain⟨cl,e,h1,h2,h3⟩:=ih ((y.1,c)::acc) (λx hx=>hf x (dg _ hx)) ha';refine⟨cl,?_,λx c' hx=>?_,λx hx hfx=>?_,h3⟩
    .rw [nq,<- e];have e1:(y.2 == jm)=ae:=by rw[hk];rfl
     have e2:cellOf env y.1=pure c:=by unfold cellOf;rw[hc]
     obtain⟨yn,yk⟩:=y;dsimp only at e1 e2 ⊢;rw[Z_ e1,e2];rfl
    .by_cases hxy:x=y.1
     .subst hxy;have e3:((y.1,c)::acc).lookup y.1=aa c:=by simp
      have e4:=ha _ _ hx;rw[hc] at e4;cases e4;exact h1 _ _ e3
     .refine h1 x c' ?_;rw[pq];have:(x == y.1)=ag:=by simpa using hxy
      rw[this];exact hx
    .rcases bu.mp hx with rfl|hx
     .rw [hc];exact h1 _ _ (by simp)
     .exact h2 x hx hfx
   .obtain ⟨cl,e,h1,h2,h3⟩:=ih acc (λx hx=>hf x (dg _ hx)) ha;refine⟨cl,?_,h1,λx hx hfx=>?_,h3⟩
    .rw [nq,<- e];have e1:¬ (y.2 == jm)=ae:=by simpa using hk
     obtain⟨yn,yk⟩:=y;dsimp only at e1 ⊢;rw[Zz e1];rfl
    .rcases bu.mp hx with rfl|hx
     .exact Zw hfx hk
     .exact h2 x hx hfx
 obtain⟨cl,e,_,h2,h3⟩:=go scope.names [] h (λx c z=>by simp at z);refine⟨cl,?_,h2,h3⟩;have e':=congrArg (λt=>t >>= λr=>(pure r:Sem (List (ak×ah)))) e;exact e'
theorem iH:∀(l:List (ak×jf)) (n:Nat) (own cl:List (ak×ah)),cellsFrom n l (own++cl)=cellsFrom n l own++cl
 |[],_,_,_=>rfl
 | (x,k)::r,n,own,cl=>by
  unfold cellsFrom;split
  .exact iH r (n+1) ((x,n)::own) cl
  .exact iH r n own cl
theorem jP:∀(l:List (ak×jf)) (n:Nat) (own:List (ak×ah)) (p:ak×ah),p∈cellsFrom n l own->p∈own\/(p.1,kg)∈l
 |[],_,_,_,h=>.inl h
 | (x,k)::r,n,own,p,h=>by
  unfold cellsFrom at h;split at h
  .rename_i hk;rcases jP r _ _ p h with h|h
   .rcases bu.1 h with rfl|h
    .exact .inr (by rw[<- eq_of_beq hk];exact b_)
    .exact .inl h
   .exact .inr (dg _ h)
  .rcases jP r _ _ p h with h|h
   .exact .inl h
   .exact .inr (dg _ h)
theorem kL:∀(l:List (ak×jf)) (n:Nat) (own:List (ak×ah)) (x:ak),((∃c,own.lookup x=aa c)\/(x,kg)∈l) ->∃c,(cellsFrom n l own).lookup x=aa c
 |[],_,_,_,h=>h.elim id λz=>(nomatch z)
 | (y,k)::r,n,own,x,h=>by
  unfold cellsFrom;split
  .refine kL r _ _ x ?_;by_cases e:x=y
   .exact .inl ⟨n,by rw[e,pq,beq_self_eq_true]⟩
   .rcases h with⟨c,h⟩|h
    .exact .inl ⟨c,by rw[pq,beq_eq_false_iff_ne.mpr e];exact h⟩
    .rcases bu.mp h with z|z
     .exact Zw (a1P z).1 e
     .exact .inr z
  .rename_i hk;refine kL r _ _ x (h.imp_right λz=>?_);rcases bu.mp z with z|z
   .rw [<- (a1P z).2] at hk;exact Zw rfl hk
   .exact z
theorem ON{M:Model}{A:bp}{E:Q0c}{s:ao}{sc:gf}{g:ah}{cl:List (ak×ah)}{q:ak}{f:Option ah}{code:ai}{env:fm}{bl:ah}{Q:fm->ao->Prop}
  (h:∀h4:bf,h4.Ns s.heap.objs.size (λ_=>af)->(∀b o,s.heap.get? b=aa o->h4.get? b=aa o)->CellsOk h4 (s.heap.objs.size+1) (cellsFrom (s.heap.objs.size+1) sc.names []) ->
   Q (newEnv sc s.heap.objs.size g (cellsFrom (s.heap.objs.size+1) sc.names cl) q f code (aa env) bl) {s with heap:=h4}):
  ax M A (newFunctionEnv sc g cl [] q f code (aa env) bl) Q E s:=by
 unfold newFunctionEnv;refine au (a0r (au (wpAny_layCells _ (λx k c=>by cases e:k == kg<;>simp[e]) _ _ _ _ ?_)));have hz:∀o:aw,(s.heap.push o).objs.size=s.heap.objs.size+1:=λo=>uc ..;have ok:=λo=>cellsFrom_ok sc.names (s.heap.push o) (s.heap.objs.size+1) [] ⟨λ_ _ z=>(nomatch z),.nil⟩ (by rw[hz];exact bc _);simp only[hz] at ok ⊢;rw[uv];exact au (a_ (a_ (h _ ((Heap.Ns.new s.heap _).keeps (a0w _ _)) (λb o e=>a0w _ _ b o (di _ e)) (ok _))))
def blk(X:Cx)(N:Q0g)(sc:gf)(cl:List (ak×ah))(C:ah)(pn:Q0b)(ex:List ah)(s₀:ao)(H₀:Hp):Cx :=
 {X with N:=N,s₀:=s₀,H₀:=H₀,env:=compEnvC sc cl C X.env,outer:=X.stack,stack:=X.stack,ex:=ex,fn:=λx=>sc.names.lookup x == aa kg,pn:=pn,xe:=λ_ _=>False}
def FW(nl:Nat)(fr:List Nat)(σ:L2.St):L2.St:=dm nl af++fr.map λj=>(σ[j]?).join
structure FX (X:Cx) (ls fs:Q0g) (fr:List Nat) (sc:gf):Prop where
 kind:sc.kind=.function
 nd:(ls++fs).Nodup
 uniq:∀x∈sc.names,sc.names.lookup x.1=aa x.2
 free:∀x∈sc.names,x.2=.free->X.env.kindOf x.1=aa .cell\/X.env.kindOf x.1=aa .free
 slot:∀(k:Nat) (x:ak),fs[k]?=aa x ->∃j,fr[k]?=aa j/\X.N[j]?=aa x/\(x,jm)∈sc.names/\sc.names.lookup x=aa .free
 xT:fr.length=fs.length
section
variable{X:Cx}
theorem uC(t:ak->jf->jf)(x:ak):∀l:List (ak×jf),(l.map λp=>(p.1,t p.1 p.2)).lookup x=(l.lookup x).map (t x)
 |[]=>rfl
 | (n,k)::r=>by
  rw[ba,pq,pq];by_cases hx:(x == n)=ae
  .rw [hx,eq_of_beq hx];rfl
  .rw [a2P] at hx;rw[hx];exact uC t x r
theorem xW{sc:gf}{env:fm}{x:ak}{l:List (ak×jf)}:(l.map λ(n,k)=>if(k == jm&&env.scope.kind == .function&&env.kindOf n == aa .cell) then(n,kg) else(n,k)).lookup x =
  (l.lookup x).map λk=>if(k == jm&&env.scope.kind == .function&&env.kindOf x == aa .cell) then kg else k:=by
 rw[<- uC (λy k=>if(k == jm&&env.scope.kind == .function&&env.kindOf y == aa .cell) then kg else k) x l];refine congrArg (List.lookup x) (gd λp _=>?_);dsimp only;split<;>rfl
def ne_size{b c:ah}{h:bf}{o:aw}(e:h.get? b=aa o)(hc:c=h.objs.size):b≠c:=λz=>j7 _ (by have q:=cb e;rw[z,hc] at q;exact q)
def FY{b c:ah}{n:Nat}(h:b<n)(hc:n<=c):b≠c:=λz=>j7 c (fz (z▸h) hc)
theorem ZU{ls fs:Q0g}{fr:List Nat}{sc:gf}{cl:List (ak×ah)}{C:ah}{pins:Q0b}{ex:List ah}{σ:L2.St}{H:Hp}{s s4:ao}(B:FX X ls fs fr sc)(I:Inv X pins σ H s)
  (hcl:∀x∈sc.names,x.2=.free->cl.lookup x.1=X.env.cells.lookup x.1) (lF:∀x c,cl.lookup x=aa c->X.env.cells.lookup x=aa c\/(C<c/\s4.heap.IsCell c af)) (Ba:∀x∈sc.names,x.2=.cell ->∃c,cl.lookup x.1=aa c/\C<c)
  (hinj:∀x y c,cl.lookup x=aa c->cl.lookup y=aa c->x=y) (hex:∀b∈ex,pL X pins H b/\b<s.heap.objs.size)
  (hC:C=s.heap.objs.size) {m:Q0d} (hn:s4.heap.Ns C m) (hk:∀b o,s.heap.get? b=aa o->s4.heap.get? b=aa o) (ho:s4.os=s.os) (hg:s4.gens=s.gens):
  Inv (blk X (ls++fs) sc cl C (X.pn++pins) ex s H) [] (FW ls.length fr σ) H s4:=by
 have ltC:∀{b:ah} {o:aw},s.heap.get? b=aa o->b≠C:=λe=>ne_size e hC;have aM2:∀x c,cl.lookup x=aa c->c≠C:=λx c e=>by
  rcases lF x c e with e|⟨e,_⟩
  .obtain ⟨v,o,ho,_⟩:=I.cell x c e;exact ltC ho
  .exact m_ e
 have Ab:∀x,(compEnvC sc cl C X.env).kindOf x=(sc.names.lookup x).map λk=>if(k == jm&&X.env.scope.kind == .function&&X.env.kindOf x == aa .cell) then kg else k:=λx=>xW (sc:=sc)
 have okX:(blk X (ls++fs) sc cl C (X.pn++pins) ex s H).Ok:=by
  refine⟨I.ok.mod,B.kind,I.ok.glob,I.ok.blt,(by show s.heap.objs.size<=C;rw[hC];exact bc _),hinj,λx hx=>?_,λx c hf hl=>?_,I.ok.hd,I.ok.frames,.inl rfl,λb hb=>?_,λb o e=>I.bs b o e,gn I.ok.W9 I.sz,λb o e hb=>?_,λb hb=>?_,I.stack,I.CZ,I.tab⟩
  ·-- a cell or free name of the block
   have hx':∃k,sc.names.lookup x=aa k/\((if(k == jm&&X.env.scope.kind == .function&&X.env.kindOf x == aa .cell) then kg else k)=.cell\/(if(k == jm&&X.env.scope.kind == .function&&X.env.kindOf x == aa .cell) then kg else k)=.free):=by
    have hx:(compEnvC sc cl C X.env).kindOf x=aa .cell\/(compEnvC sc cl C X.env).kindOf x=aa .free:=hx;rw[Ab] at hx
    cases e:sc.names.lookup x with
    |none=>rw[e] at hx;rcases hx with hx|hx<;>cases hx
    |some k=>rw[e] at hx;exact⟨k,rfl,hx.imp (λz=>df z) λz=>df z⟩
   obtain⟨k,e,hk'⟩:=hx';have hm:=jy e;by_cases kf:k=.free
   .subst kf;have q:=hcl _ hm rfl;obtain⟨c,hc⟩:=I.ok.has x (B.free _ hm rfl);exact⟨c,q.trans hc⟩
   .have e2:(k == jm)=ag:=by simpa using kf
    rw[e2] at hk';simp only[zr,oj,if_false] at hk';rcases hk' with z|z
    .obtain ⟨c,hc,_⟩:=Ba _ hm z;exact⟨c,hc⟩
    .exact Zw z kf
  ·-- an own cell is new
   obtain⟨c',hc',hlt⟩:=Ba _ (jy (eq_of_beq hf)) rfl;have hc':cl.lookup x=aa c':=hc';have hl:cl.lookup x=aa c:=hl;rw[hl] at hc';cases hc';rw[hC] at hlt;exact ku hlt
  .refine ⟨FY (hex b hb).2 (nc hC.symm),λx c e=>?_⟩;rcases lF x c e with e|⟨e,_⟩
   .exact (hex b hb).1.2.2.2.2.1 x c e
   .exact e_ (FY (hex b hb).2 (by rw[<- hC];exact ku e))
  .obtain ⟨⟨_,_,_,f3,_,_⟩,_⟩:=hex b hb;rcases f3 with f3|f3
   .exact I.ok.TC b o e f3
   .exact Zw (fz (cb e) (gn I.ok.W9 f3)) (j7 _)
  .intro z;obtain⟨⟨_,f1,f2,_,_,_⟩,_⟩:=hex b hb;rcases bu.mp (I.xH b z) with z|z
   .exact f1 z
   .exact f2 z
 refine⟨okX,ho,by rw[hg];exact I.bare,Un.kept hk,⟨m,hn,λi x v h1 h2 h3=>?_⟩,λx c e=>?_,?_,λx c e=>?_,λp hp=>?_,I.hok.kept hk,?_⟩
 ·-- a name with a value is one from around
  have hi:¬ i<ls.length:=λhi=>by unfold FW at h2;rw[ik (by simpa using hi),kb,Z_ hi] at h2;cases h2
  have e1:fs[i-ls.length]?=aa x:=by have h1:(ls++fs)[i]?=aa x:=h1;rw[ic (by omega)] at h1;exact h1
  obtain⟨j,ej,eN,hm,hlk⟩:=B.slot _ _ e1;have e2:(σ[j]?).join=aa v:=by unfold FW at h2;rw[ic (by simpa using hi),cg,lz,ej] at h2;exact df h2
  have e3:σ[j]?=aa (aa v):=by
   cases q:σ[j]? with
   |none=>rw[q] at e2;cases e2
   |some o=>rw[q] at e2;rw[show o=aa v from e2]
  have hfr:=B.free _ hm rfl;have vis:AN X.env.scope x:=.inr hfr;obtain⟨mm,hnm,hl⟩:=I.loc;obtain⟨u,r,l⟩:=hl j x v eN e3 vis;refine⟨u,r,?_⟩;rcases l with⟨k1,_⟩|⟨k1,c,ec,zc⟩
  .have k1:X.env.kindOf x=aa .local:=k1;rcases hfr with z|z<;>rw[k1] at z<;>cases z
  .refine .inr ⟨?_,c,(hcl _ hm rfl).trans ec,?_⟩
   .show (compEnvC sc cl C X.env).kindOf x=aa .cell\/(compEnvC sc cl C X.env).kindOf x=aa .free;rw[Ab,hlk];dsimp only[Option.map];split
    .exact .inl rfl
    .exact .inr rfl
   .obtain ⟨oc,hoc,hd⟩:=zc;exact⟨oc,hk _ _ hoc,hd⟩
 .rcases lF x c e with e|⟨_,e⟩
  .obtain ⟨v,oc,hoc,hd⟩:=I.cell x c e;exact⟨v,oc,hk _ _ hoc,hd⟩
  .exact ⟨af,e⟩
 .show H C=af;rw[hC];exact I.hok.fresh (bc _)
 .rcases lF x c e with e|⟨e,_⟩
  .exact I.l9 x c e
  .exact I.hok.fresh (by rw[<- hC];exact ku e)
 .have hp:p∈(X.pn++pins)++[]:=hp;rw[kl] at hp;obtain⟨e,n,ne,nf,d⟩:=I.pin p hp;refine⟨hk _ _ e,n,ltC e,λz=>?_,d⟩;rcases bu.mp (I.xH _ z) with z|z
  .exact ne z
  .exact nf z
 .show (FW ls.length fr σ).length=(ls++fs).length;unfold FW;rw[bq,bq,lz,az,B.xT]
theorem U6{ls fs:Q0g}{sc:gf}{cl:List (ak×ah)}{C:ah}{pins TH:Q0b}{ex:List ah}{σ σ':L2.St}{H H':Hp}{s s':ao}{h':bf}(I:Inv X pins σ H s)
  (J:Inv (blk X (ls++fs) sc cl C (X.pn++pins) ex s H) TH σ' H' s') (hex:∀b∈ex,pL X pins H b) (hC:C=s.heap.objs.size) (hs:pb C s'.heap h'):Inv X pins σ H' {s' with heap:=h' }:=by
 have ltC:∀{b:ah} {o:aw},s.heap.get? b=aa o->b≠C:=λe=>ne_size e hC;have fr:H' C=af:=J.free;have un:Un (frs X.stack) ex H H' s.heap s'.heap:=J.base;refine I.call' (s':={s' with heap:=h' }) (ch:=ex) J.os ⟨λb o e n hb hx=>(hs.2 b (ltC e)).trans (un.keep b o e n hb hx),λb o e n hb hx=>?_,un.free,λb o e hx=>?_,un.tups,un.sY,un.qO⟩ ?_ J.bare λb hb=>?_
 .obtain ⟨sl,q⟩:=un.slot b o e n hb hx;exact⟨sl,(hs.2 b (ltC e)).trans q⟩
 .obtain ⟨o',q⟩:=un.there b o e hx;exact⟨o',(hs.2 b (ltC e)).trans q⟩
 .intro b ob e;refine(J.hok b ob e).stay (λc u hc q=>(hs.2 c ?_).trans q) (λ_ q=>q) λ_ _ q=>q;intro z;rcases hc with hc|hc
  .rw [z] at hc;rw[<- hc,fr] at e;cases e
  .rw [z,fr] at hc;cases hc
 .obtain ⟨_,f1,_,f3,f4,f5⟩:=hex b hb;exact⟨f3,f1,f4,f5⟩
abbrev Ze(ifs:List ar)(env:fm):Sem Bool:=forIn ifs ae λc r=>if r=ae then(do let b <- isTrue c env (eval c env);pure (md b)) else pure (md r)
abbrev Calm(prog:bh)(w:bb)(A:bp){α:Type}(t:Sem α)(Q:α->ao->Prop)(s:ao):Prop:=ax (ay prog w) A t Q (λ_ _=>False) s
theorem m8(Iv:Nat->ao->Prop)
  (turn:∀n s,Iv n s->Calm prog w A (pyNext it) (λgot s1=>match got with
   |none=>R (.ok .next) s1
   |some v=>Calm prog w A (letOwnedTupleGo tg it v) (λ_ s2=>Calm prog w A (assign tg env v) (λ_ s3=>Calm prog w A (Ze ifs env) (λok s4 =>
     if ok=ae then Calm prog w A (eval el env) (λx s5=>Calm prog w A (call (.builtin "list.append") [acc,x]) (λ_ s6=>∃m,m<n/\Iv m s6) s5) s4 else ∃m,m<n/\Iv m s4) s3) s2) s1) s)
  (n:Nat) (h:Iv n s):ou (ay prog w) A (.compLoop (.ListComp el [⟨tg,src,ifs,0⟩] bs at_) 0 it acc env) R s:=by
 have no:∀{α:Type} {E:Q0c} {t:Sem α} {Q Q':α->ao->Prop} {s:ao},Calm prog w A t Q s->(∀a s,Q a s->Q' a s)->ax (ay prog w) A t Q' E s:=λh f=>jx h f λ_ _ z=>z.elim;refine codeAny_loop rfl Iv (λn s hI=>?_) n h;refine wpAny_noted (m:=compTurn (.ListComp el [⟨tg,src,ifs,0⟩] bs at_) 0 it acc env) ?_;rw[compTurn_list];refine au (tq (au (no (turn n s hI) λgot s1 h1=>?_)))
 match got,h1 with
 |none,h1=>exact a_ h1
 |some v,h1 =>
  refine au (no h1 λ_ _ h2=>au (no h2 λ_ _ h3=>au (no h3 λok s4 h4=>?_)))
  match ok,h4 with
  |false,h4=>exact a_ (zt rfl h4)
  |true,h4=>exact au (au (no h4 λ_ _ h5=>au (no h5 λ_ _ h6=>a_ (a_ (zt rfl h6)))))
abbrev TFk:=L2.St->Hp->(Bool->Hp->Prop)->Prop
def PIf(X:Cx)(ifs:List ar)(t:TFk):Prop :=
 ∀(pins:Q0b) (s:ao) (σ:L2.St) (H:Hp) (Q:Bool->Hp->Prop),Inv X pins σ H s->t σ H Q ->
  ax (ay X.prog X.w) X.A (forIn ifs ae λc r=>if r=ae then do let ok <- isTrue c X.env (eval c X.env);pure (md ok) else pure (md r)) (TP X pins σ Q) X.xe s
def ZV:PIf X [] (λ_ H Q=>Q ae H):=λpins s σ H Q I h=>by rw[uv];exact a_ ⟨H,I,h⟩
def Zd(h:PT X c t):PIf X [c] t:=λpins s σ H Q I hw=>by rw[nq];refine au ?_;rw[Z_ rfl];refine au (dR (h pins s σ H Q I hw) λb s1 q=>a_ ?_);dsimp only;rw[uv];exact a_ q
def MK(nl:Nat)(fr:List Nat)(wi:TI)(g:TG)(tf:TFk)(te:TE):TE:=λσ H Q=>wi σ H λJ H1=>∀acc,H1 acc=af ->∃W:Nat->Nat->Hp->List V->Prop,(∃m,W 0 m (upd H1 acc (.lst [])) []) /\
 ∀i m H ys,W i m H ys->H acc=aa (.lst ys)/\((J.stop i H/\Q (.ref acc) H)\/(J.go i H /\∀x H',J.yld i H x H'->g x (FW nl fr σ) H' λσ2 H2=>(σ2.drop nl=fr.map λj=>(σ[j]?).join)/\tf σ2 H2 λb H3 =>
  if b=ae then te σ2 H3 λy H4=>H4 acc=aa (.lst ys)/\ys.length<bg /\∃m',m'<m/\W (i+1) m' (upd H4 acc (.lst (ys++[y]))) (ys++[y]) else ∃m',m'<m/\W (i+1) m' H3 ys))
theorem FZ{ls fs:Q0g}{fr:List Nat}{sc:gf}{tg iter elt:ar}{ifs:List ar}{pos p2:bo}{wi:TI}{g:TG}{tf:TFk}{te:TE}{pins:Q0b}{σ:L2.St}{H:Hp}{s:ao}{Qe:VK}{use:Option (ai->Sem Unit)}{Qv:Q0c}
  (hc:X.calm=ae) (B:FX X ls fs fr sc) (hi:PI X tg iter wi) (hg:∀cl C pn ex s H,PG (blk X (ls++fs) sc cl C pn ex s H) tg g) (hf:∀cl C pn ex s H,PIf (blk X (ls++fs) sc cl C pn ex s H) ifs tf) (he:∀cl C pn ex s H,PE (blk X (ls++fs) sc cl C pn ex s H) elt te)
  (hs:∀x,foldedSetIterable iter X.env x=pure x) (I:Inv X pins σ H s) (h:MK ls.length fr wi g tf te σ H Qe)
  (fin:∀acc C s' H',Inv X pins σ H' s'->(∃m,s'.heap.Ns C m)->pL X pins H' C->Qe (.ref acc) H'->compPost (ay X.prog X.w) X.A X.xe use Qv (.ref acc) C (.ok .next) s'):
  ax (ay X.prog X.w) X.A (comprehension (.ListComp elt [⟨tg,iter,ifs,0⟩] sc pos) sc X.env p2 (newList []) ag (eval iter X.env) use) Qv X.xe s:=by
 obtain⟨cl,ecl,hcl,lF⟩:=xV (scope:=sc) (env:=X.env) λx hx hf=>I.ok.has x.1 (B.free x hx hf);refine wpAny_comprehension_free (g:=⟨tg,iter,ifs,0⟩) (gs:=[]) rfl hs ecl B.kind (λx hx e=>(B.uniq x hx).trans (congrArg aa e)) ?_;refine dR (hi pins s σ H _ I h) λv s1 h1=>dR h1 λitv s2 h2=>?_;obtain⟨it,fp,tn,J,H2,e,I2,T,st2,f2,h2⟩:=h2;subst e;refine qi ?_ (by show([]:Q0f).toArray.size<=bg;simp);have hacc:H2 s2.heap.objs.size=af:=I2.hok.fresh (bc _);have I3:Inv X pins σ (upd H2 s2.heap.objs.size (.lst [])) {s2 with heap:=s2.heap.push {cls:=.type "list",data:=.seq ([]:Q0f).toArray} } :=
  I2.laid (t':=s2.toks) (λb o e=>di _ e) (bc _) ⟨by simp,[],0,.nil,gg _ rfl⟩
 have hfp:∀b∈fp,b<s2.heap.objs.size:=λb hb=>by obtain⟨o,e,_⟩:=T.obj _ _ st2 b hb;exact cb e
 obtain⟨W,⟨m0,w0⟩,turn⟩:=h2 _ hacc;generalize F4:s2.heap.objs.size=acc at hacc I3 w0 turn ⊢;have Ml:∀b∈fp,b≠acc:=λb hb=>FY (hfp b hb) (nc F4);have f3:∀b∈fp,pL X pins (upd H2 acc (.lst [])) b:=λb hb=>⟨by rw[bE (Ml b hb)];exact(f2 b hb).1,(f2 b hb).2⟩;generalize hs3:({s2 with heap:=s2.heap.push {cls:=.type "list",data:=.seq ([]:Q0f).toArray} }:ao)=s3 at I3;have hsz3:s3.heap.objs.size=acc+1:=by rw[<- hs3];show(s2.heap.push _).objs.size=_;rw[uc,F4]
 have st3:tn 0 s3.heap:=T.keep _ _ _ st2 λb hb o e=>by rw[<- hs3];exact di _ e
 refine ON λh4 hn4 hk4 co=>?_;generalize hC:s3.heap.objs.size=C at hn4 co ⊢;have eC:cellsFrom (C+1) sc.names cl=cellsFrom (C+1) sc.names []++cl:=iH sc.names (C+1) [] cl;generalize hcs:cellsFrom (C+1) sc.names []=cs at co eC;have own:∀x c,cs.lookup x=aa c->(x,kg)∈sc.names/\C<c/\h4.IsCell c af:=λx c e=>by
  have m:=jy e;refine⟨?_,(co.empty x c m).2,(co.empty x c m).1⟩;rw[<- hcs] at m;rcases jP _ _ _ _ m with z|z
  .cases z
  .exact z
 generalize hdl:cellsFrom (C+1) sc.names cl=dl at eC ⊢;have two:∀x c,dl.lookup x=aa c->cs.lookup x=aa c\/(cs.lookup x=af/\cl.lookup x=aa c):=λx c e=>by
  rw[eC,Gq] at e
  cases q:cs.lookup x with
  |none=>rw[q] at e;exact .inr ⟨rfl,e⟩
  |some d=>rw[q] at e;exact .inl e
 have Mj:∀x∈sc.names,x.2=.free->dl.lookup x.1=X.env.cells.lookup x.1:=λx hx e=>by
  rw[<- hcl x hx e,eC,Gq]
  cases q:cs.lookup x.1 with
  |none=>rfl
  |some d =>
   have z:=B.uniq _ (own _ _ q).1;rw[B.uniq x hx,e] at z;cases z
 have A_:∀x c,dl.lookup x=aa c->X.env.cells.lookup x=aa c\/(C<c/\h4.IsCell c af):=λx c e=>by
  rcases two x c e with e|⟨_,e⟩
  .exact .inr (own x c e).2
  .exact .inl (lF x c e)
 have Mi:∀x∈sc.names,x.2=.cell ->∃c,dl.lookup x.1=aa c/\C<c:=λx hx e=>by obtain⟨c,hc⟩:=kL sc.names (C+1) [] x.1 (.inr (by rw[<- e];exact hx));rw[hcs] at hc;exact⟨c,by rw[eC,Gq,hc];rfl,(own _ _ hc).2.1⟩
 have low:∀x c,cl.lookup x=aa c->c<C:=λx c e=>by obtain⟨v,o,ho,_⟩:=I3.cell x c (lF x c e);rw[<- hC];exact cb ho
 have Mh:∀x y c,dl.lookup x=aa c->dl.lookup y=aa c->x=y:=λx y c e e'=>by
  rcases two x c e with e|⟨_,e⟩<;>rcases two y c e' with e' | ⟨_,e'⟩
  .exact a0y co.apart (jy e) (jy e')
  .exact Zw (own _ _ e).2.1 (a15 (low _ _ e'))
  .exact Zw (own _ _ e').2.1 (a15 (low _ _ e))
  .exact I3.ok.inj x y c (lF x c e) (lF y c e')
 have I4:Inv (blk X (ls++fs) sc dl C (X.pn++pins) fp s3 (upd H2 acc (.lst []))) [] (FW ls.length fr σ) (upd H2 acc (.lst [])) {s3 with heap:=h4} :=
  ZU B I3 Mj A_ Mi Mh (λb hb=>⟨f3 b hb,by rw[hsz3,<- F4];exact qw (hfp b hb)⟩) hC.symm hn4 hk4 rfl rfl
 generalize hX:blk X (ls++fs) sc dl C (X.pn++pins) fp s3 (upd H2 acc (.lst []))=Y at I4;have pY:Y.prog=X.prog:=by rw[<- hX];rfl
 have wY:Y.w=X.w:=by rw[<- hX];rfl
 have kY:Y.K=X.K:=by rw[<- hX];rfl
 have AY:Y.A=X.A:=by rw[<- hX];rfl
 have cY:Y.calm=ae:=by rw[<- hX];exact hc
 have eY:Y.env=compEnvC sc dl C X.env:=by rw[<- hX];rfl
 have xY:Y.xe=λ_ _=>False:=by rw[<- hX];rfl
 have U7:∀{H':Hp},(∀b∈fp,H' b=af) ->∀b∈fp,pL Y [] H' b:=λhn b hb=>by
  rw[<- hX];obtain⟨_,f1,f2',_,f4,f5⟩:=f3 b hb;refine⟨hn b hb,λz=>?_,λz=>?_,.inl hb,λx c e=>?_,λp hp=>f5 p ?_⟩
  .exact Zw z (FY (hfp b hb) (by rw[<- hC,hsz3,F4];exact um _))
  .rcases bu.mp (I3.xH b z) with z|z
   .exact f1 z
   .exact f2' z
  .rcases A_ x c e with e|⟨e,_⟩
   .exact f4 x c e
   .exact e_ (FY (hfp b hb) (by rw[F4];exact ku (a12 (by rw[<- hC,hsz3];exact za _) e)))
  .have hp:p∈(X.pn++pins)++[]:=hp;rw[kl] at hp;exact hp
 have st4:tn 0 h4:=T.keep _ _ _ st3 λb hb o e=>hk4 b o e;have loop:∀s5:ao,(∃i H',Inv Y [] (FW ls.length fr σ) H' s5/\tn i s5.heap/\(∀b∈fp,H' b=af) /\∃m ys,W i m H' ys)->ou (ay X.prog X.w) X.A (.compLoop (.ListComp elt [⟨tg,iter,ifs,0⟩] sc pos) 0 (.ref it) (.ref acc) (compEnvC sc dl C X.env)) (compPost (ay X.prog X.w) X.A X.xe use Qv (.ref acc) C) s5:=by
  rintro s5 ⟨i,H',I5,st5,fr5,m,ys,w5⟩;refine m8 (λn s'=>∃i H' ys,Inv Y [] (FW ls.length fr σ) H' s'/\tn i s'.heap/\(∀b∈fp,H' b=af)/\W i n H' ys) ?_ m ⟨i,H',ys,I5,st5,fr5,w5⟩;rintro n s6 ⟨i,H6,ys,I6,st6,fr6,w6⟩;obtain⟨ha6,alt⟩:=turn i n H6 ys w6;rcases alt with⟨stop,qn⟩|⟨go,step⟩
  .have q:=T.done Y pY wY kY cY i [] s6 _ H6 (λ_ _=>False) I6 (U7 fr6) st6 stop;rw[AY] at q;refine dR q λr s7 Mg=>?_;obtain⟨hr,I7⟩:=Mg;subst hr;have fr7:H6 C=af:=by have:=I7.free;rw[eY] at this;exact this
   refine fin acc C s7 H6 ?_ ?_ (I3.C2 (nc hC) fr7) qn
   .rw [<- hX] at I7;exact U6 I3 I7 (λb hb=>f3 b hb) hC.symm (.refl ..)
   .obtain ⟨m,hm,_⟩:=I7.loc;rw[eY] at hm;exact⟨m,hm⟩
  .have q:=T.item Y pY wY kY cY i [] s6 _ H6 (λ_ _=>False) I6 (U7 fr6) st6 go;rw[AY] at q;refine dR q λr s7 Mf=>?_;obtain⟨u,hr,h7⟩:=Mf;subst hr;refine dR h7 λ_ s8 Me=>?_;obtain⟨x,H8,I8,r8,y8,st8,fr8⟩:=Me;have I8':=I8.pinned (U7 fr8) (T.obj _ _ st8);have hgY:=hg dl C (X.pn++pins) fp s3 (upd H2 acc (.lst []));have hfY:=hf dl C (X.pn++pins) fp s3 (upd H2 acc (.lst []));have heY:=he dl C (X.pn++pins) fp s3 (upd H2 acc (.lst []));rw[hX] at hgY hfY heY;have q8:=hgY _ s8 _ H8 x u _ I8' r8 (step x H8 y8);rw[pY,wY,AY,eY,xY] at q8;refine dR q8 λ_ s9 Md=>?_;obtain⟨σ9,H9,I9,hσ9,q9⟩:=Md;have mf:=hfY _ s9 σ9 H9 _ I9 q9;rw[pY,wY,AY,eY,xY] at mf;refine dR mf λok QK Mc=>?_;obtain⟨H10,I10,mf⟩:=Mc;have bl:∀{H7:Hp} {s7:ao},Inv Y ([]++xJ fp s8.heap) σ9 H7 s7->(∃m',m'<n /\∃ys',W (i+1) m' H7 ys') ->∃m,m<n /\∃i H' ys,Inv Y [] (FW ls.length fr σ) H' s7/\tn i s7.heap/\(∀b∈fp,H' b=af)/\W i m H' ys:=λ{H7 s7} I7 ⟨m',hm,ys',w7⟩=>by
    refine⟨m',hm,i+1,H7,ys',?_,T.keep _ _ _ st8 λb hb o e=>(I7.pin (b,o) (gc _ (gc _ (lY hb e)))).1,λb hb=>?_,w7⟩
    .refine I7.iR.weak ?_ λk v e=>?_
     .rw [I7.len,<- I6.len]
     .by_cases hk:k<ls.length
      .unfold FW at e;rw[ik (by simpa using hk),kb,Z_ hk] at e;cases e
      .have e2:(σ9.drop ls.length)[k-ls.length]?=aa (aa v):=by rw[hσ9];unfold FW at e;rw[ic (by simpa using hk),lz] at e;exact e
       rw[List.getElem?_drop] at e2;rw[show ls.length+(k-ls.length)=k by omega] at e2;exact e2
    .obtain ⟨o,e,d⟩:=T.obj _ _ st8 b hb;exact(I7.pin (b,o) (gc _ (gc _ (lY hb e)))).2.1
   cases ok with
   |false =>
    rw[Zz bt] at mf ⊢;obtain⟨m',hm,w'⟩:=mf;exact bl I10 ⟨m',hm,ys,w'⟩
   |true =>
    rw[Z_ rfl] at mf ⊢;have zx:=heY _ QK σ9 H10 _ I10 mf;rw[pY,wY,AY,eY,xY] at zx;refine dR zx λyv sO Mb=>?_;obtain⟨y,H11,I11,Hy,Zc,Nh,m',hm,w'⟩:=Mb;have zw:=(AX (X:=Y)) _ sO σ9 H11 (.ref acc) [y] (.ref acc) [yv] (λ_ H'=>H'=upd H11 acc (.lst (ys++[y]))) I11 rfl (.cons Hy .nil) ⟨acc,ys,y,rfl,rfl,Zc,Nh,rfl⟩;rw[pY,wY,AY,xY] at zw;refine dR zw λ_ ij Ng=>?_;obtain⟨_,H12,I12,_,Jb⟩:=Ng;subst Jb;exact bl I12 ⟨m',hm,_,w'⟩
 have L0:=loop _ ⟨0,_,I4,st4,λb hb=>(f3 b hb).1,m0,[],w0⟩;refine codeAny_compStart_list L0 (T.self _ 0 _ _ _ st4 L0)
theorem ZW
  (hc:X.calm=ae) (B:FX X ls fs fr sc) (hi:PI X tg iter wi) (hg:∀cl C pn ex s H,PG (blk X (ls++fs) sc cl C pn ex s H) tg g) (hf:∀cl C pn ex s H,PIf (blk X (ls++fs) sc cl C pn ex s H) ifs tf) (he:∀cl C pn ex s H,PE (blk X (ls++fs) sc cl C pn ex s H) elt te)
  (hs:∀x,foldedSetIterable iter X.env x=pure x:=by intro _;rfl):PE X (.ListComp elt [⟨tg,iter,ifs,0⟩] sc pos) (MK ls.length fr wi g tf te):=by
 intro pins s σ H Q I h;rw[eval_ListComp];refine FZ (use:=af) hc B hi hg hf he hs I h λacc C s' H' I' hm fp q=>?_;obtain⟨m,hm⟩:=hm;obtain⟨f0,f1,_,f3,f4,f5⟩:=fp;exact⟨m,hm,λh' hsb=>⟨.ref acc,H',I'.turned (t':=s'.toks) (λb o hb e=>(hsb.2 b hb).trans e) f0 f1 f3 f4 f5,rfl,q⟩⟩
theorem pN(hN:X.N.Nodup)(hx0:X.N[i]?=aa x)(hx:X.env.scope.names.lookup x=aa .local)
  (hc:X.calm=ae) (B:FX X ls fs fr sc) (hi:PI X tg iter wi) (hg:∀cl C pn ex s H,PG (blk X (ls++fs) sc cl C pn ex s H) tg g) (hf:∀cl C pn ex s H,PIf (blk X (ls++fs) sc cl C pn ex s H) ifs tf) (he:∀cl C pn ex s H,PE (blk X (ls++fs) sc cl C pn ex s H) elt te)
  (hsw:fj (.ListComp elt [⟨tg,iter,ifs,0⟩] sc pos) (aa (.Name x pos')) spos.line X.env=pure ae)
  (hs:∀x,foldedSetIterable iter X.env x=pure x:=by intro _;rfl):PS X (.Assign [.Name x pos'] (.ListComp elt [⟨tg,iter,ifs,0⟩] sc pos) spos) (wm (MK ls.length fr wi g tf te) (TN i)):=by
 intro pins s σ H D I h;rw[exec_Assign_Name_used _ _ _ _ hsw];refine au (tq (au ?_));show ax _ X.A (do let _ <- comprehension (.ListComp elt [⟨tg,iter,ifs,0⟩] sc pos) sc X.env _ (newList []) ag (eval iter X.env) (aa (assign (.Name x pos') X.env))) _ _ s;refine au (jx (FZ (use:=aa (assign (.Name x pos') X.env)) (Qv:=λ_ s'=>SP X pins D .next s') hc B hi hg hf he hs I h λacc C s' H' I' hm fp q=>?_) (λ_ s' hq=>a_ (a_ hq)) λ_ _ e=>e);obtain⟨m,hm⟩:=hm;obtain⟨f0,f1,_,f3,f4,f5⟩:=fp;refine a0q (AO I' hN hx0 (.inl hx) (v:=.ref acc) rfl (λs'' I'' hsb=>?_) (.inr hx));obtain⟨a,hsb,ha⟩:=hsb;have haC:a≠C:=by
  rcases ha with rfl|ha
  .exact e_ f1
  .exact f4 x a ha
 exact⟨m,hm.sameBut hsb (e_ haC),λh' hs'=>⟨_,H',I''.turned (t':=s''.toks) (λb o hb e=>(hs'.2 b hb).trans e) f0 f1 f3 f4 f5,q⟩⟩
end
def XB(outer:List (ak×jf))(sc:gf)(N ls fs:Q0g)(fr:List Nat):Bool :=
 (sc.kind == .function)&&Zv (ls++fs).Nodup&&sc.names.all (λx=>Zv (sc.names.lookup x.1=aa x.2)) &&
 sc.names.all (λx=>Zv (x.2=.free->(outer.lookup x.1=aa .cell\/outer.lookup x.1=aa .free)))&&Zv (fr.length=fs.length) &&
 (fs.zip fr).all (λx=>Zv (N[x.2]?=aa x.1)&&sc.names.contains (x.1,jm)&&Zv (sc.names.lookup x.1=aa .free))
def iU(h:XB X.env.scope.names sc X.N ls fs fr=ae):FX X ls fs fr sc:=by
 unfold XB at h;simp only[gw,ke,decide_eq_true_eq] at h;obtain⟨⟨⟨⟨⟨h1,h2⟩,h3⟩,h5⟩,h6⟩,h7⟩:=h;refine⟨eq_of_beq h1,h2,h3,h5,λk x e=>?_,h6⟩;have hk:k<fs.length:=(cn.mp e).1;have hm:(x,fr[k]'(by omega))∈fs.zip fr:=by
  have:(fs.zip fr)[k]?=aa (x,fr[k]'(by omega)):=by rw[uu];exact⟨e,by simp⟩
  exact jt this
 obtain⟨⟨a,b⟩,c⟩:=h7 _ hm;exact⟨fr[k]'(by omega),by simp,a,by simpa using b,c⟩
abbrev GE:=D->dJ->(dJ->Prop)->Prop
def tJ(K:aq)(nl n:Nat)(g:GE):TG:=λv σ H Q=>∃(S:ah->Prop) (ρ:dJ) (d:D) (Q3:dJ->Prop),σ.length=n/\(∀a,H a=af->S a)/\Sl K S H ρ σ/\Dn K S H d v/\g d ρ Q3 /\
 ∀σ' ρ',Sl K S H ρ' σ'->σ'.drop nl=σ.drop nl->Q3 ρ'->Q σ' H
def ZX(X:Cx)(nl:Nat)(tg:ar)(g:GE):Prop:=PG X tg (tJ X.K nl X.N.length g)
theorem Sl.set{K:aq}{S:ah->Prop}{H:Hp}{ρ:dJ}{σ:L2.St}{i:Nat}{d:D}{v:V}(h:Sl K S H ρ σ)(hi:i<σ.length)(q:Dn K S H d v):Sl K S H (ρ.set i (aa d)) (σ.set i (aa v)):=λj e he=>by
 rcases get_set he with⟨hj,z,_⟩|⟨hj,z⟩
 .cases z;subst hj;exact⟨v,lj hi,q⟩
 .obtain ⟨u,a,b⟩:=h j e z;exact⟨u,by rw[jj (e_ hj)];exact a,b⟩
def hN(i:Nat):GE:=λd ρ Q=>Q (ρ.set i (aa d))
noncomputable def h2(i j:Nat):GE:=λd ρ Q=>match d with
 |.tup [d1,d2]=>Q ((ρ.set i (aa d1)).set j (aa d2))
 |_=>False
def drop_set{α:Type}{l:List α}{i n:Nat}{x:α}(h:i<n):(l.set i x).drop n=l.drop n:=by rw[List.drop_set,Z_ h]
section
variable{X:Cx}
def Vl{nl i:Nat}{x:ak}{pos:bo}(nd:X.N.Nodup)(hil:i<nl)(hi:X.N[i]?=aa x:=by rfl)(hx:Loc X.env.scope x:=by first|exact .inl rfl|exact .inr rfl)(hfx:X.fn x=ae\/X.env.scope.names.lookup x=aa .local:=by first|exact .inr rfl|exact .inl rfl):ZX X nl (.Name x pos) (hN i) :=
 OM (n5 nd hi hx hfx) λv σ H Q Nf=>by obtain⟨S,ρ,d,Q3,hl,fc,sl,dn,hg,k⟩:=Nf;exact k _ _ (sl.set (by rw[hl];exact gH hi) dn) (drop_set hil) hg
def Vk{nl i j:Nat}{x y:ak}{kk:Nat}{pos px py:bo}(hc:X.calm=ae)(nd:X.N.Nodup)(hil:i<nl)(hjl:j<nl)(hi:X.N[i]?=aa x:=by rfl)(hj:X.N[j]?=aa y:=by rfl)(hx:Loc X.env.scope x:=by first|exact .inl rfl|exact .inr rfl)(hfx:X.fn x=ae\/X.env.scope.names.lookup x=aa .local:=by first|exact .inr rfl|exact .inl rfl)(hy:Loc X.env.scope y:=by first|exact .inl rfl|exact .inr rfl)(hfy:X.fn y=ae\/X.env.scope.names.lookup y=aa .local:=by first|exact .inr rfl|exact .inl rfl)
  (hn:(ee [.Name x px,.Name y py] X.env).length=2:=by rfl) (hst:(ee [.Name x px,.Name y py] X.env).findIdx? (·.1)=af:=by rfl)
  (hs1:(ee [.Name x px,.Name y py] X.env).map (·.2)=assign (.Name x px) X.env::(ee [.Name y py] X.env).map (·.2):=by rfl) (hs2:(ee [.Name y py] X.env).map (·.2)=assign (.Name y py) X.env::(ee [] X.env).map (·.2):=by rfl):
  ZX X nl (.Tuple [.Name x px,.Name y py] kk pos) (h2 i j) :=
 OM (TQ (n:=2) hc (qQ (n5 nd hi hx hfx) (qQ (n5 nd hj hy hfy) LZ hs2) hs1) hn hst) λv σ H Q Nd=>by
  obtain⟨S,ρ,d,Q3,hl,fc,sl,dn,hg,k⟩:=Nd;unfold h2 at hg;split at hg
  .rename_i d1 d2;simp only[Dn] at dn;obtain⟨a,xs,rfl,ha,da⟩:=dn;obtain⟨v1,r1,rfl,h1,h2⟩:=da.bO;obtain⟨v2,r2,rfl,h3,h4⟩:=h2.bO;simp only[aX] at h4;subst h4;refine⟨a,_,rfl,(fT.of ha),rfl,v1,[v2],rfl,v2,[],rfl,rfl,?_⟩;exact k _ _ ((sl.set (by rw[hl];exact gH hi) h1).set (by rw[ia,hl];exact gH hj) h3) (by rw[drop_set hjl,drop_set hil]) hg
  .exact hg.elim
def IZ(X:Cx)(ifs:List ar)(t:WT):Prop:=PIf X ifs (liftT X.K t)
def Vi:WT:=λ_ Q=>Q ae
def Nc:IZ X [] Vi:=λpins s σ H Q I Nb=>by obtain⟨S,ρ,Q3,fc,sl,ht,k⟩:=Nb;exact ZV pins s σ H Q I (k ae H (Same.refl H) ht)
theorem Vh(h:vB X c t):IZ X [c] t:=Zd h
noncomputable def qY(g:GE)(tf:WT)(te:WE)(ρ:dJ):List D->List D->(D->Prop)->Prop
 |[],acc,Q=>Q (.lst acc)
 |d::r,acc,Q=>g d ρ λρ2=>tf ρ2 λb=>if b=ae then te ρ2 λy=>acc.length<bg/\qY g tf te ρ r (acc++[y]) Q else qY g tf te ρ r acc Q
def benv(nl:Nat)(fr:List Nat)(ρ:dJ):dJ:=dm nl af++fr.map λj=>(ρ[j]?).join
def A6(nl:Nat)(fr:List Nat)(ti:WI)(g:GE)(tf:WT)(te:WE):WE:=λρ Q=>ti ρ λds=>qY g tf te (benv nl fr ρ) ds [] Q
def ZY{K:aq}{S:ah->Prop}{H:Hp}{ρ:dJ}{σ:L2.St}{nl:Nat}{fr:List Nat}(h:Sl K S H ρ σ):Sl K S H (benv nl fr ρ) (FW nl fr σ):=λi d e=>by
 unfold benv at e;unfold FW;by_cases hi:i<nl
 .rw [ik (by simpa using hi),kb,Z_ hi] at e;cases e
 .rw [ic (by simpa using hi),cg,lz] at e ⊢
  cases q:fr[i-nl]? with
  |none=>rw[q] at e;cases e
  |some j =>
   rw[q] at e;have e1:(ρ[j]?).join=aa d:=df e;have e2:ρ[j]?=aa (aa d):=by
    cases z:ρ[j]? with
    |none=>rw[z] at e1;cases e1
    |some o=>rw[z] at e1;rw[show o=aa d from e1]
   obtain⟨v,ev,dv⟩:=h j d e2;exact⟨v,by show aa ((σ[j]?).join)=_;rw[ev];rfl,dv⟩
def oB{K:aq}{nl n:Nat}{fr:List Nat}{ti:WI}{g:GE}{tf:WT}{te:WE}{σ:L2.St}{H:Hp}{Q:VK}(hn:nl+fr.length=n)(h:UQ K (A6 nl fr ti g tf te) σ H Q):MK nl fr (Cy K ti) (tJ K nl n g) (liftT K tf) (lift K te) σ H Q:=by
 obtain⟨S,ρ,Q3,fc,sl,ht,k⟩:=h;refine⟨S,ρ,_,fc,sl,ht,λJ H1 ds G s1 hG wk q1=>?_⟩;intro acc hacc;have h0:H acc=af:=s1.free hacc;have fc1:=bX fc s1;have ok:∀{H2:Hp},Same H1 H2->(∃ys,H2 acc=aa (.lst ys))->(∀a,H2 a=af->S a/\a≠acc)/\Sl K (λa=>S a/\a≠acc) H2 (benv nl fr ρ) (FW nl fr σ) /\∀g∈G,Dn K (λa=>S a/\a≠acc) H2 g.1 g.2:=λ{H2} s2 hy=>by
  refine⟨λa e=>⟨bX fc1 s2 a e,λz=>?_⟩,?_,λg hg=>Dn.fits ((Fits.fresh hacc).trans (.same s2)) _ _ (hG g hg)⟩
  .subst z;obtain⟨ys,hy⟩:=hy;rw[e] at hy;cases hy
  .exact ZY (Sl.fits ((Fits.fresh h0).trans (.same (s1.trans s2))) sl)
 refine⟨λi m H2 ys=>m=ds.length-i/\i<=ds.length/\Same H1 H2/\H2 acc=aa (.lst ys) /\∃aD,aX K (λa=>S a/\a≠acc) H2 aD ys/\qY g tf te (benv nl fr ρ) (ds.drop i) aD Q3,
  ⟨_,rfl,kr _,aZ hacc,aU,[],aX.nil,q1⟩,?_⟩
 rintro i m H2 ys ⟨rfl,hi,s2,hy,aD,dn,cw⟩;obtain⟨fc2,sl2,gh2⟩:=ok s2 ⟨ys,hy⟩;refine⟨hy,?_⟩;by_cases hlt:i<ds.length
 .refine .inr ?_;obtain⟨g1,g2⟩:=wk.go _ H2 fc2 gh2 i ds[i] (by simp[hlt]);refine⟨g1,λx H' y=>?_⟩;obtain⟨s3,dx⟩:=g2 x H' y;rw[zi hlt,qY] at cw;refine⟨λa=>S a/\a≠acc,benv nl fr ρ,ds[i],_,?_,bX fc2 s3,Sl.fits (.same s3) sl2,dx,cw,λσ' ρ' sl' hd q'=>?_⟩
  .unfold FW;rw[bq,lz,az];exact hn
  .refine ⟨by rw[hd];unfold FW;rw[List.drop_append_of_le_length (by simp),List.drop_replicate];simp,λa=>S a/\a≠acc,ρ',_,bX fc2 s3,sl',q',λb H3 s4 q4=>?_⟩
   cases b with
   |false =>
    rw[Zz bt] at q4 ⊢;exact⟨_,by omega,rfl,hlt,(s2.trans s3).trans s4,(s3.trans s4) _ _ hy,aD,aX.fits (.same (s3.trans s4)) _ _ dn,q4⟩
   |true =>
    rw[Z_ rfl] at q4 ⊢;refine⟨λa=>S a/\a≠acc,ρ',_,bX fc2 (s3.trans s4),Sl.fits (.same s4) sl',q4,λv H4 d s5 d5 q5=>?_⟩;have hy4:H4 acc=aa (.lst ys):=((s3.trans s4).trans s5) _ _ hy;have F:Fits K (λa=>S a/\a≠acc) (λa=>S a/\a≠acc) H4 (upd H4 acc (.lst (ys++[v]))):=.upd (.inl ⟨_,hy4⟩) λz=>z.2 rfl;refine⟨hy4,by rw[<- dn.len];exact q5.1,_,by omega,rfl,hlt,λb u hb=>?_,aU,aD++[d],aX.fits F _ _ ((aX.fits (.same ((s3.trans s4).trans s5)) _ _ dn).append (aX.one d5)),q5.2⟩;rw[bE (bH hb hacc)];exact(((s2.trans s3).trans s4).trans s5) _ _ hb
 .have e:i=ds.length:=by omega
  subst e;rw[a2z,qY] at cw;exact .inl ⟨wk.stop _ H2 gh2 _ rfl,k acc ys H2 aD h0 hy (s1.trans s2) dn cw⟩
theorem Vg{ls fs:Q0g}{fr:List Nat}{sc:gf}{tg iter elt:ar}{ifs:List ar}{pos:bo}{ti:WI}{g:GE}{tf:WT}{te:WE}(hc:X.calm=ae)(hi:OL X tg iter ti)
  (hg:∀cl C pn ex s H,(blk X (ls++fs) sc cl C pn ex s H).N.Nodup->ZX (blk X (ls++fs) sc cl C pn ex s H) ls.length tg g) (hf:∀cl C pn ex s H,IZ (blk X (ls++fs) sc cl C pn ex s H) ifs tf) (he:∀cl C pn ex s H,c9 (blk X (ls++fs) sc cl C pn ex s H) elt te)
  (B:XB X.env.scope.names sc X.N ls fs fr=ae:=by rfl) (hs:∀x,foldedSetIterable iter X.env x=pure x:=by intro _;rfl):FR X (.ListComp elt [⟨tg,iter,ifs,0⟩] sc pos) (A6 ls.length fr ti g tf te) :=
 imp (ZW (g:=tJ X.K ls.length (ls++fs).length g) (tf:=liftT X.K tf) (te:=lift X.K te) hc (iU B) hi (λcl C pn ex s H=>hg cl C pn ex s H (iU B).nd) hf he hs) λσ H Q h=>oB (n:=(ls++fs).length) (by rw[bq,(iU B).xT]) h
theorem U8(nd:X.N.Nodup)(hc:X.calm=ae)(hi:OL X tg iter ti)
  (hg:∀cl C pn ex s H,(blk X (ls++fs) sc cl C pn ex s H).N.Nodup->ZX (blk X (ls++fs) sc cl C pn ex s H) ls.length tg g) (hf:∀cl C pn ex s H,IZ (blk X (ls++fs) sc cl C pn ex s H) ifs tf) (he:∀cl C pn ex s H,c9 (blk X (ls++fs) sc cl C pn ex s H) elt te)
  (hx0:X.N[i]?=aa x:=by rfl) (hx:X.env.scope.names.lookup x=aa .local:=by rfl) (hsw:fj (.ListComp elt [⟨tg,iter,ifs,0⟩] sc pos) (aa (.Name x pos')) spos.line X.env=pure ae:=by rfl)
  (B:XB X.env.scope.names sc X.N ls fs fr=ae:=by rfl) (hs:∀x,foldedSetIterable iter X.env x=pure x:=by intro _;rfl):A4 X (.Assign [.Name x pos'] (.ListComp elt [⟨tg,iter,ifs,0⟩] sc pos) spos) (vw i (A6 ls.length fr ti g tf te)) :=
 iT (pN (g:=tJ X.K ls.length (ls++fs).length g) (tf:=liftT X.K tf) (te:=lift X.K te) nd hx0 hx hc (iU B) hi (λcl C pn ex s H=>hg cl C pn ex s H (iU B).nd) hf he hsw hs) λBd σ H Na=>by
 obtain⟨H₀,S,w,ρ,G,E,hl,st,ht,ok⟩:=Na;exact oB (n:=(ls++fs).length) (by rw[bq,(iU B).xT]) ⟨_,gJ ρ,_,st.IV,st.rd,ht,λp xs H' ds hp hp' s' d' q'=>ok.nx _ _ H' _ (by rw[ia];exact hl) (st.xO (d:=.lst ds) (by rw[hl];exact gH hx0) s' hp ⟨xs,hp',d'⟩) q'⟩
theorem OO{i:Nat}{x:ak}{ls fs:Q0g}{fr:List Nat}{sc:gf}{tg iter elt:ar}{ifs:List ar}{pos spos pos':bo}{ti:WI}{g:GE}{tf:WT}{te:WE}(nd:X.N.Nodup)(hc:X.calm=ae)(hi:OL X tg iter ti)
  (hg:∀cl C pn ex s H,(blk X (ls++fs) sc cl C pn ex s H).N.Nodup->ZX (blk X (ls++fs) sc cl C pn ex s H) ls.length tg g) (hf:∀cl C pn ex s H,IZ (blk X (ls++fs) sc cl C pn ex s H) ifs tf) (he:∀cl C pn ex s H,c9 (blk X (ls++fs) sc cl C pn ex s H) elt te)
  (hx0:X.N[i]?=aa x:=by rfl) (hx:X.env.scope.names.lookup x=aa .local:=by rfl) (hsw:fj (.ListComp elt [⟨tg,iter,ifs,0⟩] sc pos) (aa (.Name x pos')) spos.line X.env=pure ae:=by rfl)
  (B:XB X.env.scope.names sc X.N ls fs fr=ae:=by rfl) (hs:∀x,foldedSetIterable iter X.env x=pure x:=by intro _;rfl):A4 X (.Assign [.Name x pos'] (.ListComp elt [⟨tg,iter,ifs,0⟩] sc pos) spos) (vx i (A6 ls.length fr ti g tf te)) :=
 iT (pN (g:=tJ X.K ls.length (ls++fs).length g) (tf:=liftT X.K tf) (te:=lift X.K te) nd hx0 hx hc (iU B) hi (λcl C pn ex s H=>hg cl C pn ex s H (iU B).nd) hf he hsw hs) λBd σ H M_=>by
 obtain⟨H₀,S,w,ρ,G,E,hl,st,ht,ok⟩:=M_;exact oB (n:=(ls++fs).length) (by rw[bq,(iU B).xT]) ⟨_,gJ ρ,_,st.IV,st.rd,ht,λp xs H' ds hp hp' s' d' q'=>ok.nx w _ H' _ (by rw[ia];exact hl) ((st.same s').jO (d:=.lst ds) (by rw[hl];exact gH hx0) (by simp only[Dn];exact⟨p,xs,rfl,hp',st.IV p hp,aX.fits (.mono λ_ z=>z.1) _ _ d'⟩)) q'⟩
end
section
variable{X:Cx}
noncomputable def tyD:D->String
 |.non => "NoneType"
 |.bl _ => "bool"
 |.int _ => "int"
 |.str _ => "str"
 |.tup _ => "tuple"
 |.lst _ => "list"
 |.fX _ => "list"
 |.jR _ _ => "dict"
 |.cD _ _ _ => "dict"
 |.exc _ _ => "NoneType"
 |.rws _ => "NoneType"
inductive JA:String->Prop
 |t:JA "tuple"
 |b:JA "bool"
 |i:JA "int"
 |s:JA "str"
def isT(T:String)(d:D):Bool:=tyD d == T||(T == "int"&&tyD d == "bool")
def Mz(K:aq)(T:String):List V->Hp->VK->Prop:=λxs H Q=>∃x t b,xs=[x,.ty T]/\(qR K H x t\/(t=.type "tuple" /\∃a ys,x=.ref a/\fT K H a ys)\/(t=.type "list" /\∃a ys,x=.ref a/\eE K H a ys))/\E_ K t (.type T)=aa b/\Q (.bl b) H
theorem U9:iS X (.builtin "isinstance") (Mz X.K T):=by
 intro pins s σ H xs us Q I r h;obtain⟨x,t,b,rfl,ty,e,q⟩:=h;obtain⟨u,w',rfl,r1,r2⟩:=vals2 r;obtain rfl:w'=x_ T:=r2;rcases ty with ty|⟨rfl,a,ys,rfl,hq⟩|⟨rfl,a,ys,rfl,hq⟩
 .exact N5 I r1 ty e λtk=>⟨.bl b,H,I.tok tk,rfl,q⟩
 .cases r1;obtain⟨its,_,p,_⟩:=I.tuple hq;obtain⟨o,h1,h2,_⟩:=p;exact jq a0M I.CY ⟨o,h1,h2⟩ e (λz=>nomatch z) λtk=>⟨.bl b,H,I.tok tk,rfl,q⟩
 .cases r1;obtain⟨its,_,p,_⟩:=I.list hq;obtain⟨o,n,h1,h2,_⟩:=p;exact jq Ez I.CY ⟨o,h1,h2⟩ e (λz=>nomatch z) λtk=>⟨.bl b,H,I.tok tk,rfl,q⟩
noncomputable def Cw:D->Prop
 |.exc _ _=>False
 |.cD _ _ _=>False
 |.rws _=>False
 |_=>True
def Ma(T:String)(t:WE):WE:=λρ Q=>t ρ λd=>Cw d/\Q (.bl (isT T d))
def L_{K:aq}{T:String}(h:JA T)(d:D):E_ K (.type (tyD d)) (.type T)=aa (isT T d):=by cases h<;>cases d<;>with_unfolding_all rfl
def Uy{K:aq}{S:ah->Prop}{H:Hp}{d:D}{v:V}(hne:Cw d)(h:Dn K S H d v):∃t,t=x_ (tyD d)/\(qR K H v t\/(t=.type "tuple" /\∃a ys,v=.ref a/\fT K H a ys)\/(t=.type "list" /\∃a ys,v=.ref a/\eE K H a ys)):=by
 refine⟨_,rfl,?_⟩;cases d<;>simp only[Dn] at h
 .subst h;exact .inl .non
 .subst h;exact .inl (.bl _)
 .subst h;exact .inl (.int _)
 .subst h;exact .inl (.str _)
 .obtain ⟨a,xs,rfl,hq,_⟩:=h;exact .inr (.inl ⟨rfl,a,xs,rfl,(fT.of hq)⟩)
 .obtain ⟨a,xs,rfl,hq,_⟩:=h;exact .inl (.lst hq)
 .obtain ⟨a,rfl,hq⟩:=h;exact .inr (.inr ⟨rfl,a,_,rfl,hq.sq⟩)
 .obtain ⟨a,xs,rfl,hq,_⟩:=h;exact .inl (.dK hq)
 .exact hne.elim
 .exact hne.elim
 .exact hne.elim
theorem Lz{T:String}{x:ak}{e:ar}{t:WE}{p p2 pos:bo}(hT:JA T)(hm:X.mg "isinstance"=af)(hmT:X.mg x=af)(hv:bootBuiltins x=aa (.type T))(he:c9 X e t)(hg:Gl X "isinstance":=by rfl)(hgT:Gl X x:=by rfl)(hn:x ≠ "__name__":=by decide)(hdb:(x == ("__debug__":ak))=ag:=by decide)
  (hs:av [e,.Name x p2] X.env=(ag,eval e X.env)::av [.Name x p2] X.env:=by rfl) (hs2:av [.Name x p2] X.env=(ag,eval (.Name x p2) X.env)::av [] X.env:=by rfl) (hpl:(fq pos (av [.Name x p2] X.env)).any (·.1)=ag:=by rfl):
  c9 X (.Call (.Name "isinstance" p) [e,.Name x p2] [] pos) (Ma T t) :=
 imp (qS (U9 (T:=T)) hg hm a3O (j8 he (j8 (YS (v:=.ty T) hgT hmT hv rfl hn hdb) sZ hs2) hs) (by decide) (by decide) hs hpl) λσ H Q Ly=>by obtain⟨S,ρ,Q3,fc,sl,ht,k⟩:=Ly;refine⟨S,ρ,_,fc,sl,ht,λv H1 d s1 d1 q1=>?_⟩;obtain⟨tt,e1,e2⟩:=Uy q1.1 d1;refine⟨v,tt,isT T d,rfl,e2,?_,k _ H1 (.bl _) s1 (by simp only[Dn]) q1.2⟩;rw[e1];exact L_ hT d
noncomputable def Cv:List D->Option (List Bool)
 |[]=>aa []
 |.bl b::r=>(Cv r).map (b :: ·)
 |_::_=>af
theorem range_all(bs:List Bool):(dj bs.length).all (λi=>bs.getD i ae)=bs.all id:=by
 induction bs with
 |nil=>rfl
 |cons b bs ih=>rw[bx,Gn,og,uz,og,<- ih];rfl
def blF(f:List Bool->Bool):F1
 |[.lst ds],Q=>(match Cv ds with|some bs=>Q (.bl (f bs))|none=>False)
 |_,_=>False
def Cu:List V->Hp->VK->Prop:=λxs H Q=>∃a ns,xs=[.ref a]/\H a=aa (.lst (ns.map V.int))/\ns.length<64 /\∀ns':Q0e,ns'.Perm ns->ns'.Pairwise (· <= ·) ->∀p,H p=af->Q (.ref p) (upd H p (.lst (ns'.map V.int)))
theorem DK:iS X (.builtin "sorted") Cu:=by
 intro pins s σ H xs us Q I r h;obtain⟨a,ns,rfl,ha,jb,q⟩:=h;obtain⟨u,rfl,ru⟩:=vals1 r;cases ru;obtain⟨its,rv,p,hz⟩:=I.list (eE.of ha);have hi:=intsAre_of rv;have hlen:its.length=ns.length:=by have:=rv.length;rw[az] at this;exact this.symm
 refine sorted_ints p.isList hi (by omega) λout ns' a1 a2 a3=>?_;have hfr:H (s.heap.objs.size+1)=af:=I.hok.fresh (um _);obtain⟨e1,hat⟩:=sortedAll_at s.heap its out;have hz2:ns'.length<=bg:=by rw[a2.length_eq,gx];omega
 have I1:Inv X pins σ (upd H (s.heap.objs.size+1) (.lst (ns'.map V.int))) {s with heap:=sortedAll s.heap its out} :=
  I.laid (t':=s.toks) (λb o e=>sortedAll_old e) (um _) ⟨by rw[az];exact hz2,out.toList,e1,n6 a1,by simpa[seqObj] using hat⟩
 exact⟨.ref _,_,I1,rfl,q ns' a2 a3 _ hfr⟩
def intsOf:List D->Option (List Int)
 |[]=>aa []
 |.int b::r=>(intsOf r).map (b :: ·)
 |_::_=>af
theorem dM:∀bs:Q0e,intsOf (bs.map D.int)=aa bs
 |[]=>rfl
 |b::bs=>by rw[ba,intsOf,dM bs];rfl
theorem tK:∀{ds:List D} {bs:Q0e},intsOf ds=aa bs->ds=bs.map D.int
 |[],bs,h=>by cases h;rfl
 |.int b::r,bs,h=>by
  rw[intsOf] at h
  cases q:intsOf r with
  |none=>rw[q] at h;cases h
  |some cs=>rw[q] at h;cases h;rw[ba,tK q]
 |.non::r,bs,h=>by cases h
 |.bl _::r,bs,h=>by cases h
 |.str _::r,bs,h=>by cases h
 |.tup _::r,bs,h=>by cases h
 |.lst _::r,bs,h=>by cases h
 |.fX _::r,bs,h=>by cases h
 |.jR _ _::r,bs,h=>by cases h
 |.cD _ _ _::r,bs,h=>by cases h
def VA:F1
 |[.lst ds],Q=>(match intsOf ds with|some ns=>ns.length<64 /\∀ns':Q0e,ns'.Perm ns->ns'.Pairwise (· <= ·)->Q (.lst (ns'.map D.int))|none=>False)
 |_,_=>False
theorem ZZ{K:aq}:C3F K Cu VA:=by
 intro S H xs ds Q3 Q fc hd hf k
 match ds,hf with
 |[.lst es],hf =>
  obtain⟨v,r,rfl,h1,h2⟩:=hd.bO;simp only[aX] at h2;subst h2;simp only[Dn] at h1;obtain⟨a,ys,rfl,ha,sa,da⟩:=h1;have hf2:(match intsOf es with|some ns=>ns.length<64 /\∀ns':Q0e,ns'.Perm ns->ns'.Pairwise (· <= ·)->Q3 (.lst (ns'.map D.int))|none=>False):=hf
  clear hf
  cases q:intsOf es with
  |none=>rw[q] at hf2;exact hf2.elim
  |some ns =>
   rw[q] at hf2;have e:=tK q;subst e;have e2:=aX.ints.mp da;subst e2;exact⟨a,ns,rfl,ha,hf2.1,λns' h1 h2 p hp=>k p _ _ _ hp aU (aZ hp) (aX.ints.mpr rfl) (hf2.2 ns' h1 h2)⟩
def Z0(hm:X.mg "sorted"=af)(ha:xP X [e] t)(hg:Gl X "sorted":=by rfl)
  (he:av [e] X.env=(ag,eval e X.env)::av [] X.env:=by rfl):FR X (.Call (.Name "sorted" p) [e] [] pos) (OK VA t):=ZM DK ZZ Fs hg hm ha (by decide) (by decide) he (by rfl)
end
section
variable{X:Cx}
def A7(hg:Gl X "range")(hm:X.mg "range"=af)(ha:PA X [a] ta)(hs:av [a] X.env=[(ag,eval a X.env)]:=by rfl):
  PE X (.Call (.Name "range" p) [a] [] pos) (λσ H Q=>ta σ H λvs H1=>∃j:Int,vs=[.int j] /\∀p,H1 p=af->Q (.ref p) (upd H1 p (.rng 0 j))):=by
 intro pins s σ H Q I h;refine uf (lW I hg hm Ft (qu (dR (ha pos pins s σ H _ I h) λus s1 ⟨vs,H1,I1,r1,q1⟩=>?_) hs rfl));obtain⟨j,e,q⟩:=q1;subst e;obtain⟨u,rfl,ru⟩:=vals1 r1;obtain⟨t,rfl⟩:=ru;refine a0F ?_;exact⟨.ref s1.heap.objs.size,_,I1.laid (o:=.rng 0 j) (λb o e=>di _ e) (bc _) ⟨_,_,_,gg _ rfl⟩,rfl,q _ (I1.hok.fresh (bc _))⟩
def F5{lo:Int}{n:Nat}{acc:Array ai}(h:ItemsOf (λi v=>∃t,v=.int (lo+(i:Nat)*1) t) acc n):Vals ((lE lo n).map V.int) acc.toList:=by
 obtain⟨hz,hv⟩:=h;have key:∀(l:Q0f) (k:Nat) (m:Nat),l.length=m->(∀(j:Nat) (v:ai),l[j]?=aa v ->∃t,v=o_ (lo+((k+j:Nat):Int)) t)->Vals (((List.range' k m).map λi:Nat=>lo+(i:Int)).map V.int) l:=by
  intro l
  induction l with
  |nil=>intro k m hm _;subst hm;exact .nil
  |cons v l ih =>
   intro k m hm hh;subst hm;rw[bx,List.range'_succ,ba,ba];refine .cons ?_ (ih (k+1) l.length rfl λj w e=>?_)
   .obtain ⟨t,e⟩:=hh 0 v (by simp);exact⟨t,by simpa using e⟩
   .obtain ⟨t,e2⟩:=hh (j+1) w (by simpa using e);exact⟨t,by rw[e2];congr 1;congr 1;congr 1;omega⟩
 have:=key acc.toList 0 n (by simpa using hz) λj v e=>by obtain⟨t,e2⟩:=hv j v (by simpa using e);exact⟨t,by rw[e2];simp⟩
 unfold lE;rw[List.range_eq_range'];exact this
theorem zE(hc:X.calm=ae):iS X (.type "list") (λxs H Q=>∃p j,xs=[.ref p]/\H p=aa (.rng 0 j) /\ -(2^62)<=j/\j<=16777216 /\∀l,H l=af->Q (.ref l) (upd H l (.lst ((lE 0 j.toNat).map V.int)))):=by
 intro pins s σ H xs us Q I r h;obtain⟨p,j,rfl,hp,h0,h1,q⟩:=h;obtain⟨u,rfl,ru⟩:=vals1 r;cases ru;obtain⟨t,u,v,e⟩:=I.hok p _ hp;have hsz:yp 0 j 1=(j.toNat:Int):=by rw[Er];split<;>omega
 refine call_list_range (a:=0) (b:=j) (c:=1) (n:=j.toNat) (I.ok.hd hc) e (En (by omega) (by omega) (by omega) (by omega)) hsz (by omega) λh' tk acc' c' kp hn hit=>?_;have hfr:H s.heap.objs.size=af:=I.hok.fresh (bc _);have hv:Vals ((lE 0 j.toNat).map V.int) acc'.toList:=F5 hit;refine⟨.ref s.heap.objs.size,_,I.laid (o:=.lst ((lE 0 j.toNat).map V.int)) kp (bc _) ⟨?_,acc'.toList,c',hv,by simpa using hn⟩,rfl,q _ hfr⟩;rw[az,m7,gx];omega
noncomputable def Zb(t:WA):WE:=λρ Q=>t ρ λds=>match ds with
 |[.int j]=>(-(2^62)<=j/\j<=16777216)/\Q (.lst ((lE 0 j.toNat).map D.int))
 |_=>False
def JB(hc:X.calm=ae)(hm:X.mg "list"=af)(hmr:X.mg "range"=af)(ha:xP X [a] t)(hg:Gl X "list":=by rfl)(hgr:Gl X "range":=by rfl)(hs:av [a] X.env=[(ag,eval a X.env)]:=by rfl)
  (he:av [.Call (.Name "range" p2) [a] [] pos2] X.env=(ag,eval (.Call (.Name "range" p2) [a] [] pos2) X.env)::av [] X.env:=by rfl):
  FR X (.Call (.Name "list" p) [.Call (.Name "range" p2) [a] [] pos2] [] pos) (Zb t) :=
 imp (tF (zE hc) hg hm a1L (j8 (A7 hgr hmr ha hs) sZ he) (by decide) (by decide) he (by rfl)) λσ H Q Lx=>by
  obtain⟨S,ρ,Q3,fc,sl,ht,k⟩:=Lx;refine⟨S,ρ,_,fc,sl,ht,λvs H1 ds s1 d1 q1=>?_⟩;split at q1
  .rename_i j;obtain⟨v,r,rfl,h1,h2⟩:=d1.bO;simp only[aX] at h2;subst h2;simp only[Dn] at h1;subst h1;refine⟨j,rfl,λp hp=>⟨p,j,rfl,aU,q1.1.1,q1.1.2,λl hl=>?_⟩⟩;have hl1:H1 l=af:=(aZ hp).free hl;exact k l _ _ _ (s1.free hl1) aU ((s1.trans (aZ hp)).trans (aZ hl)) (aX.ints.mpr rfl) q1.2
  .exact q1.elim
def j9(ks:List Key)(ds:List D)(k:Key):Option D:=((ks.zip ds).find? λkv=>Zv (kv.1=k)).map (·.2)
theorem xX{K:aq}{S:ah->Prop}{H:Hp}{k:Key}:∀{ks:List Key} {ds:List D} {xs:List V},ks.length=xs.length->aX K S H ds xs ->
  (∀d,j9 ks ds k=aa d ->∃v,gI (ks.zip xs) k=aa v/\Dn K S H d v)/\(j9 ks ds k=af->gI (ks.zip xs) k=af)
 |[],ds,xs,_,_=>by
  refine⟨λd e=>?_,λ_=>?_⟩
  .simp [j9] at e
  .simp [gI]
 |q::ks,ds,xs,hl,dn=>by
  cases ds with
  |nil=>simp only[aX] at dn;subst dn;simp at hl
  |cons d0 ds =>
   obtain⟨v,r,rfl,h1,h2⟩:=dn.bO;have ih:=xX (k:=k) (ks:=ks) (ds:=ds) (xs:=r) (by simpa using hl) h2;by_cases e:q=k
   .refine ⟨λd ed=>?_,λed=>?_⟩
    .simp only[j9,uo,ib,e,decide_true,kq] at ed;cases ed;exact⟨v,by simp[gI,e],h1⟩
    .simp [j9,e] at ed
   .refine ⟨λd ed=>?_,λed=>?_⟩
    .have ed':j9 ks ds k=aa d:=by simpa[j9,e] using ed
     obtain⟨u,eu,du⟩:=ih.1 d ed';exact⟨u,by simpa[gI,e] using eu,du⟩
    .have ed':j9 ks ds k=af:=by simpa[j9,e] using ed
     simpa[gI,e] using ih.2 ed'
theorem VB(hN:X.N.Nodup)(hi:X.N[i]?=aa x:=by rfl)(hx:Loc X.env.scope x:=by first|exact .inl rfl|exact .inr rfl)(hs:fj (.Dict [] [] p) (aa (.Name x pos')) pos.line X.env=pure ag:=by rfl)(hf:X.fn x=ae\/X.env.scope.names.lookup x=aa .local:=by first|exact .inl rfl|exact .inr rfl):
  A4 X (.Assign [.Name x pos'] (.Dict [] [] p) pos) (λE ρ=>E.nx (ρ.set i (.ow (.jR [] [])))):=iT (lX hN hi hx UM hs hf) λB σ H ⟨H₀,S,w,ρ,G,E,hl,st,ht,ok⟩=>λp hp =>
 ok.nx _ _ _ _ (by rw[ia];exact hl) (st.xO (d:=.jR [] []) (by rw[hl];exact gH hi) (aZ hp) hp ⟨[],aU,rfl,aX.nil⟩) ht
noncomputable def F6:D->Option Key
 |.int i=>aa (.inl i)
 |.str x=>aa (.inr x)
 |_=>af
theorem VC{K:aq}{S:ah->Prop}{H:Hp}{d:D}{v:V}{k:Key}(h:Dn K S H d v)(e:F6 d=aa k):v=kV k:=by cases d<;>simp only[F6] at e<;>cases e<;>simp only[Dn] at h<;>exact h
def vn:F2:=λx y Q=>match x,F6 y with
 |.jR ks ds,aa k=>(match j9 ks ds k with|some d=>Q d|none=>False)
 |_,_=>False
theorem Lw{o i:ar}{pos:bo}{to ti:WE}(hu:X.A.units+1<cx)(ho:c9 X o to)(hi:c9 X i ti)(hs:IU i:=by intro _ _;rfl):c9 X (.Subscript o i pos) (g5 vn to ti):=imp (ZD hu ho hi hs) λσ H Q Lv=>by
 obtain⟨S,ρ,Q3,fc,sl,ht,k⟩:=Lv;refine⟨S,ρ,_,fc,sl,ht,λv H1 d s1 d1 q1=>?_⟩;refine⟨S,ρ,_,bX fc s1,Sl.fits (.same s1) sl,q1,λu H2 d2 s2 DX q2=>?_⟩;unfold vn at q2;split at q2
 .rename_i ks ds kk ek;have d1':=Dn.fits (.same s2) _ _ d1;simp only[Dn] at d1';obtain⟨a,xs,rfl,ha,sa,hl,da⟩:=d1';split at q2
  .rename_i d3 e3;obtain⟨v3,ev,dv⟩:=(xX hl da).1 d3 e3;have eu:=VC DX ek;subst eu;refine⟨a,v3,rfl,?_,k v3 H2 d3 (s1.trans s2) dv q2⟩;have g:=FP.k (k:=kk) ha;rw[ev] at g;exact g
  .exact q2.elim
 .exact q2.elim
def Ux(i:Nat)(t:WX)(tk:WE):WS:=λE ρ=>t ρ λρ' d=>(match ρ'[i]? with|some (.ow (.jR _ _))=>True|_=>False)/\tk (bW ρ') λkd=>match ρ'[i]?,F6 kd with
 |some (.ow (.jR ks ds)),aa k=>(j9 ks ds k=af/\ds.length<bg)/\E.nx (ρ'.set i (.ow (.jR (ks++[k]) (ds++[d]))))
 |_,_=>False
theorem Uw{i:Nat}{x:ak}{e k:ar}{t:WX}{tk:WE}{pos pos' p:bo}(hu:X.A.units+1<cx)(he:G6 X e t)(hk:c9 X k tk)
  (hN:X.N[i]?=aa x:=by rfl) (hv:AN X.env.scope x:=by first|exact d_ rfl|exact cc (d_ rfl)|exact cc (cc rfl)) (hd:(x == ("__debug__":ak))=ag:=by decide) (hcd:(x == ("__classdict__":ak))=ag:=by decide)
  (hs:fj e (aa (.Subscript (.Name x p) k pos')) pos.line X.env=pure ag:=by rfl):
  A4 X (.Assign [.Subscript (.Name x p) k pos'] e pos) (Ux i t tk):=iT (ZE hu (lV hN hv hd hcd) hk he hs) λB σ H Lu=>by
 obtain⟨H₀,S,w,ρ,G,E,hl,st,ht,ok⟩:=Lu;refine⟨H₀,S,w,ρ,G,_,hl,st,ht,λw' v H' ρ' d st' d' q'=>?_⟩;obtain⟨q0,q'⟩:=q';split at q0
 .rename_i ks0 ds0 e0;obtain⟨a0,_,_⟩:=st'.own i _ e0;refine⟨_,a0,S,bW ρ',_,st'.XA,st'.all,q',λkv H2 dk s2 dk2 q2=>?_⟩;split at q2
  .rename_i ks ds kk e1 ek;have st2:=st'.same s2;obtain⟨a,b,c⟩:=st2.own i _ e1;obtain⟨xs,hp,hlen,dn⟩:=c;have eu:=VC dk2 ek;subst eu;have hno:=(xX (k:=kk) hlen dn).2 q2.1.1;have nS:¬ SO S w' ρ' (w' i):=λ⟨_,z⟩=>z i _ e1 rfl;have hz:(ks.zip xs).length<bg:=by rw[a2j,hlen,Nat.min_self,<- dn.len];exact q2.1.2
   have Ls:putK (ks.zip xs) kk v=(ks++[kk]).zip (xs++[v]):=by rw[UI v hno,a2a hlen];rfl
   have F:Fits X.K (SO S w' ρ') (SO S w' ρ') H2 (upd H2 (w' i) (.dK (putK (ks.zip xs) kk v))):=.upd (.inr (.inl ⟨_,hp⟩)) nS;refine⟨w' i,_,rfl,IT.k hp hz,ok.nx w' σ _ _ hl (st2.write (d':=.jR (ks++[kk]) (ds++[d])) e1 ⟨xs++[v],?_,by simp[hlen],aX.fits F _ _ (dn.append (aX.one (Dn.fits (.same s2) _ _ d')))⟩) q2.2⟩;rw[aU,Ls]
  .exact q2.elim
 .exact q0.elim
def Ct(i:Nat)(t:WE):WS:=λE ρ=>t (bW ρ) λd=>(match d with | .lst ds=>jS ds=ae|_=>False)/\E.nx (ρ.set i (.ro d))
def Uv(hN:X.N.Nodup)(he:FR X e t)(hi:X.N[i]?=aa x:=by rfl)(hx:Loc X.env.scope x:=by first|exact .inl rfl|exact .inr rfl)(hs:fj e (aa (.Name x pos')) pos.line X.env=pure ag:=by rfl)(hf:X.fn x=ae\/X.env.scope.names.lookup x=aa .local:=by first|exact .inl rfl|exact .inr rfl):
  A4 X (.Assign [.Name x pos'] e pos) (Ct i t):=iT (lX hN hi hx he hs hf) λB σ H Lq=>by
 obtain⟨H₀,S,w,ρ,G,E,hl,st,ht,ok⟩:=Lq;exact⟨_,bW ρ,_,st.XA,st.all,ht,λp xs H' ds hp hp' s' d' q'=>ok.nx w _ H' _ (by rw[ia];exact hl) ((st.same s').jO (d:=.lst ds) (by rw[hl];exact gH hi) (by simp only[Dn];exact⟨p,xs,rfl,hp',st.IV p hp,aX.tT q'.1 d'⟩)) q'.2⟩
def Za(c:WT)(tb:WS):WS:=λE ρ=>∃(Inv:bV->Prop) (μ:bV->Nat),Inv ρ /\∀ρ',Inv ρ'->c (bW ρ') λb=>if b=ae then tb {E with nx:=λρ2=>Inv ρ2/\μ ρ2<μ ρ',ct:=λρ2=>Inv ρ2/\μ ρ2<μ ρ',bk:=E.nx} ρ' else E.nx ρ'
theorem Y_(hp:qp (ay X.prog X.w) X.A X.env X.xe)(hc:vB X c tc)(hb:uO X body tb):A4 X (.While c body [] pos) (Za tc tb):=iT (TV hp hc hb) λB σ H Lp=>by
 obtain⟨H₀,S,w,ρ,G,E,hl,st,⟨Iv,μ,h0,turn⟩,ok⟩:=Lp;refine⟨λm σ H=>∃w ρ,σ.length=X.N.length/\ST X.K H₀ S w σ H ρ G/\Iv ρ/\m=μ ρ,⟨_,w,ρ,hl,st,h0,rfl⟩,?_⟩;rintro m σ2 H2 ⟨w2,ρ2,hl2,st2,iv,rfl⟩;refine⟨S,bW ρ2,_,st2.XA,st2.all,turn ρ2 iv,λb H3 s3 q3=>?_⟩
 cases b with
 |false=>rw[Zz bt] at q3 ⊢;exact ok.nx w2 σ2 H3 ρ2 hl2 (st2.same s3) q3
 |true =>
  rw[Z_ rfl] at q3 ⊢;refine⟨λσ' H'=>∃w ρ,σ'.length=X.N.length/\ST X.K H₀ S w σ' H' ρ G/\Iv ρ/\μ ρ<μ ρ2,λσ' H' ⟨w',ρ',hl',st',iv',hm⟩=>⟨_,hm,w',ρ',hl',st',iv',rfl⟩,?_⟩;exact⟨H₀,S,w2,ρ2,G,_,hl2,st2.same s3,q3,⟨λw' σ' H' ρ' hl' st' q=>⟨w',ρ',hl',st',q.1,q.2⟩,λv H' d s' d' q=>ok.rt v H' d s' d' q,λw' σ' H' ρ' hl' st' q=>ok.nx w' σ' H' ρ' hl' st' q,λw' σ' H' ρ' hl' st' q=>⟨w',ρ',hl',st',q.1,q.2⟩,ok.ex⟩⟩
section
variable{i:Nat}{x:ak}{e:ar}{p apos cpos:bo}{t:WX}
noncomputable def Cs(i:Nat):WX:=λρ Q=>match ρ[i]? with
 |some (.ow (.lst ds))=>(match ds[ds.length-1]? with|some d=>Q (ρ.set i (.ow (.lst ds.dropLast))) d|none=>False)
 |_=>False
def aX.dropLast{K:aq}{S:ah->Prop}{H:Hp}{ds:List D}{xs:List V}(h:aX K S H ds xs):aX K S H ds.dropLast xs.dropLast:=by rw[<- pM,<- pM,<- h.len];exact h.erase _
def Uu(hN:X.N[i]?=aa x:=by rfl)(hv:AN X.env.scope x:=by first|exact d_ rfl|exact cc (d_ rfl)|exact cc (cc rfl))(hd:(x == ("__debug__":ak))=ag:=by decide)(hcd:(x == ("__classdict__":ak))=ag:=by decide)
  (hbase:attributeBase (.Name x p) "pop" X.env (eval (.Name x p) X.env)=eval (.Name x p) X.env:=by rfl) (hline:(apos.endLine == cpos.line)=ae:=by rfl):
  G6 X (.Call (.Attribute (.Name x p) "pop" apos) [] [] cpos) (Cs i) :=
 imp (aCi a1b yh a04 aCk (lV hN hv hd hcd) hbase hline) λσ H Q Lo=>by
  obtain⟨H₀,S,w,ρ,G,Q3,hl,st,ht,k⟩:=Lo;unfold Cs at ht;split at ht
  .rename_i ds e;split at ht
   .rename_i d ed;obtain⟨a,b,c⟩:=st.own i _ e;obtain⟨xs,hp,dn⟩:=c;obtain⟨v,ev,dv⟩:=dn.get ed;have nS:¬ SO S w ρ (w i):=λ⟨_,z⟩=>z i _ e rfl;have F:Fits X.K (SO S w ρ) (SO S w ρ) H (upd H (w i) (.lst xs.dropLast)):=.upd (.inl ⟨_,hp⟩) nS;have so:∀a,SO S w ρ a->SO S w (ρ.set i (.ow (.lst ds.dropLast))) a:=SO.mono λj f hf=>by
     rcases get_set hf with⟨hj,_,_⟩|⟨_,z⟩
     .subst hj;exact⟨_,e⟩
     .exact ⟨_,z⟩
    refine⟨_,a,.inl ⟨rfl,xs,eE.of hp⟩,w i,xs,v,rfl,rfl,hp,by rw[<- dn.len];exact ev,?_⟩;exact k w v _ _ d (st.write (d':=.lst ds.dropLast) e ⟨_,aU,aX.fits F _ _ dn.dropLast⟩) (Dn.fits (F.trans (.mono so)) _ _ dv) ht
   .exact ht.elim
  .exact ht.elim
end
end
section
variable{X:Cx}{pins:Q0b}{σ:L2.St}{H:Hp}{s:ao}{h':bf}
theorem turnT{t':Nat}{ch:List ah}{T:ah}{xs:List V}{its:Q0f}(I:Inv X pins σ H s)(k:∀b o,b∉ch->s.heap.get? b=aa o->h'.get? b=aa o)(hf:∀b∈ch,pL X pins H b)
  (hT:s.heap.objs.size<=T) (hv:Vals xs its) (hz:xs.length<=bg) (ht:jz h' T its.toArray) (nd:FG h' T):Inv X pins σ (upd H T (.tup xs)) {s with heap:=h',toks:=t' }:=by
 have fr:H T=af:=I.hok.fresh hT;have nT:∀{b:ah} {o:aw},s.heap.get? b=aa o->b≠T:=λ{b} {o} e z=>j7 _ (fz (cb e) (z▸hT));have live:∀{b:ah} {u:HO},H b=aa u->b∉ch:=λ{b} {u} e z=>by rw[(hf _ z).1] at e;cases e
 refine I.call' (s':={s with heap:=h',toks:=t' }) (ch:=ch) rfl ⟨λb o e _ _ hx=>k b o hx e,λb o e _ _ hx=>⟨o.slots,k b o hx e⟩,λb o e n _=>by rw[bE (nT e)];exact n,λb o e hx=>⟨o,k b o hx e⟩,
  λb ys e=>by rw[bE (bH e fr)];exact e,λb o u e=>by rw[bE (bH e fr)];exact e,λb ps e=>by rw[bE (bH e fr),e]⟩ ?_ I.bare λb hb=>?_
 .intro b u e;by_cases hb:b=T
  .subst hb;rw[aU] at e;cases e;exact⟨hz,its,hv,ht,nd⟩
  .rw [bE hb] at e;refine(I.hok b u e).stay (λc v hc q=>k c v ?_ q) (λc q=>by rw[bE (bH q fr)];exact q) (λc ys q=>by rw[bE (bH q fr)];exact q) λc o u q=>by rw[bE (bH q fr)];exact q
   rcases hc with rfl|hc
   .exact live e
   .exact live hc
 .obtain ⟨_,f1,_,f3,f4,f5⟩:=hf b hb;exact⟨f3,f1,f4,f5⟩
def VD{t':Nat}{ch:List ah}(I:Inv X pins σ H s)(k:∀b o,b∉ch->s.heap.get? b=aa o->h'.get? b=aa o)(hf:∀b∈ch,pL X pins H b):Inv X pins σ H {s with heap:=h',toks:=t' }:=by
 have live:∀{b:ah} {u:HO},H b=aa u->b∉ch:=λ{b} {u} e z=>by rw[(hf _ z).1] at e;cases e
 refine I.call' (s':={s with heap:=h',toks:=t' }) (ch:=ch) rfl ⟨λb o e _ _ hx=>k b o hx e,λb o e _ _ hx=>⟨o.slots,k b o hx e⟩,λb o e n _=>n,λb o e hx=>⟨o,k b o hx e⟩,
  λb ys e=>e,λb o u e=>e,λb ps e=>e⟩ ?_ I.bare λb hb=>?_
 .intro b u e;refine(I.hok b u e).stay (λc v hc q=>k c v ?_ q) (λc q=>q) λc ys q=>q;rcases hc with rfl|hc
  .exact live e
  .exact live hc
 .obtain ⟨_,f1,_,f3,f4,f5⟩:=hf b hb;exact⟨f3,f1,f4,f5⟩
end
def Itp(go:Nat->Hp->Prop)(Y:Nat->Hp->List V->Prop)(stop:Nat->Hp->Prop):It:=⟨go,λi H x H'=>∃T vs,x=.ref T/\H T=af/\H'=upd H T (.tup vs)/\Y i H vs,stop⟩
def ML(P:bh)(w:bb)(A:bp)(it:ah)(wr:List ah)(n:Nat)(Pt:Nat->Array ai->Prop)(St:Nat->bf->Prop)(Mid:Nat->ah->bf->Prop):Prop :=
 ∀i (s:ao) (Q:Option ai->ao->Prop) (E:Q0c),i<n->St i s.heap ->
  (∀T vals h' tk,Pt i vals->s.heap.objs.size<=T->h'.IsTuple T vals->FG h' T->Mid i T h'->(∀b o,b∉wr->s.heap.get? b=aa o->h'.get? b=aa o)->Q (aa (.ref T)) {s with heap:=h',toks:=tk}) ->
  ax (ay P w) A (pyNext (.ref it)) Q E s
theorem pO{P:bh}{w:bb}{K:aq}{es:List ar}{kk:Nat}{tp:bo}{go:Nat->Hp->Prop}{Y:Nat->Hp->List V->Prop}{stop:Nat->Hp->Prop}{fp:List ah}{it:ah}{tn:Nat->bf->Prop}(mem:it∈fp)
  (obj:∀i h,tn i h ->∀b∈fp,∃o,h.get? b=aa o /\∀v,o.data≠.cell v) (keep:∀i h h',tn i h->(∀b∈fp,∀o,h.get? b=aa o->h'.get? b=aa o)->tn i h')
  (wk:∀(X:Cx),X.prog=P->X.w=w->X.K=K->X.calm=ae ->∀(i:Nat) (pins:Q0b) (s:ao) (σ:L2.St) (H:Hp),Inv X pins σ H s->tn i s.heap->go i H\/stop i H ->
   ∃fp2 wr n Pt St Mid,(WalksT P w X.A it fp2 wr n Pt St Mid/\ML P w X.A it wr n Pt St Mid)/\St i s.heap/\(∀b∈wr,b∈fp)/\(∀h,St (i+1) h->tn (i+1) h) /\
    (go i H->i<n /\∀vals,Pt i vals ->∃vs,vs.length<=bg/\Vals vs vals.toList/\Y i H vs)/\(stop i H->i=n))
  (self:∀(A:bp) (i:Nat) (s:ao) (Q:Q0c) (E:Q0c),tn i s.heap->Q (.ref it) s->ax (ay P w) A (pyIter (.ref it)) Q E s):
  Turn P w K (.Tuple es kk tp) (Itp go Y stop) fp it tn where
 mem:=mem
 obj:=obj
 keep:=keep
 self:=self
 item:=by intro X hP hw hK hc i pins s σ H E I hf st hg;obtain⟨fp2,wr,n,Pt,St,Mid,⟨W,J2⟩,hs,sub,nx,ok,_⟩:=wk X hP hw hK hc i pins s σ H I st (.inl hg);obtain⟨hi,ok⟩:=ok hg;refine J2 i s _ _ hi hs λT vals h1 tk hp hT ht nd hm k1=>⟨.ref T,rfl,W.go es kk tp i T _ _ _ hm λh2 s2 k2=>?_⟩;obtain⟨vs,hz,hv,hy⟩:=ok vals hp;obtain⟨o,eo,c,d⟩:=ht;have ht2:jz h2 T vals.toList.toArray:=⟨o,k2 T o (W.apart i T _ hm) eo,c,by simpa using d⟩;have I2:Inv X pins σ (upd H T (.tup vs)) {s with heap:=h2,toks:=tk}:=turnT (t':=tk) (ch:=wr) I (λb o hb e=>k2 b o hb (k1 b o hb e)) (λb hb=>hf b (sub b hb)) hT hv hz ht2 (nd.at eo (k2 T o (W.apart i T _ hm) eo));refine⟨.ref T,upd H T (.tup vs),I2,rfl,⟨T,vs,rfl,I.hok.fresh hT,rfl,hy⟩,nx h2 s2,λb hb=>?_⟩;obtain⟨ob,eb,_⟩:=obj _ _ st b hb;have nb:b≠T:=λz=>j7 _ (fz (cb eb) (z▸hT));rw[bE nb];exact(hf b hb).1
 done:=by intro X hP hw hK hc i pins s σ H E I hf st hg;obtain⟨fp2,wr,n,Pt,St,Mid,⟨W,_⟩,hs,sub,nx,_,ok⟩:=wk X hP hw hK hc i pins s σ H I st (.inr hg);obtain rfl:=ok hg;exact W.done s _ _ hs λh2 tk k2=>⟨rfl,VD (t':=tk) (ch:=wr) I k2 λb hb=>hf b (sub b hb)⟩
def Iel(K:aq)(l:ah):It:=Itp (λi H=>∃xs v,eE K H l xs/\xs[i]?=aa v) (λi H vs=>∃v,vs=[.int i,v] /\∀xs,eE K H l xs->xs[i]?=aa v) (λi H=>∃xs,eE K H l xs/\xs.length=i)
def Iet(K:aq)(l:ah):It:=Itp (λi H=>∃xs v,fT K H l xs/\xs[i]?=aa v) (λi H vs=>∃v,vs=[.int i,v] /\∀xs,fT K H l xs->xs[i]?=aa v) (λi H=>∃xs,fT K H l xs/\xs.length=i)
def xZ:[V.int 0,V.int 0].length<=bg:=by rw[gx];decide
theorem F7(e it l:ah)(hei:e≠it)(hle:l≠e)(hli:l≠it)(items:Array ai):ML prog w A e [e,it] items.size (λi vals=>∃t x,items[i]?=aa x/\vals=#[.int i t,x])
  (λi h=>(∃old,ua h e it i old)/\h.IsListIter it l i/\h.IsList l items) (λi T h=>(∃x,IsEnumOut h e it ((i:Int)+1) x T)/\h.IsListIter it l (i+1)/\h.IsList l items/\T≠e/\T≠it):=by
 intro i s Q E hi ⟨⟨old,a1⟩,a2,a3⟩ q;have ix:items[i]?=aa items[i]:=me hi;refine wpAny_pyNext_enum_item a1 a2 a3 ix hei λg b1 b2 b3 _ kp=>?_;have l1:e<s.heap.objs.size:=cb a1;have l2:it<s.heap.objs.size:=by obtain⟨_,y,_⟩:=a2;exact cb y
 refine q s.heap.objs.size #[.int i s.toks,items[i]] g (s.toks+1) ⟨_,_,ix,rfl⟩ (bc _) ⟨_,b3,rfl,_,rfl⟩ (FG.is b3 rfl) ⟨⟨_,b1⟩,b2,a3.at λo y=>kp l o hle hli y,m_ l1,m_ l2⟩ λb o hb y=>?_;simp only[bu,nh,or_false,not_or] at hb;exact kp b o hb.1 hb.2 y
theorem F8{prog:bh}{w:bb}{A:bp}{it:ah}{fp:List ah}{n:Nat}{P:Nat->ai->Prop}{St:Nat->bf->Prop}(D:Draws prog w A.in1 it fp n P St)(e:ah)(hei:e≠it)(hef:e∉fp):
  ML prog w A e [e,it] n (λi vals=>∃t x,P i x/\vals=#[.int i t,x]) (λi h=>(∃old,ua h e it i old)/\St i h) (λi T h=>(∃x,IsEnumOut h e it ((i:Int)+1) x T)/\St (i+1) h/\T≠e/\T≠it):=by
 intro i s Q E hi ⟨⟨old,a1⟩,a2⟩ q;refine wpAny_pyNext_enum_itemD D a1 a2 hi hei hef λx g tk px b1 b2 b3 _ kp=>?_;have l1:e<s.heap.objs.size:=cb a1;have l2:it<s.heap.objs.size:=by obtain⟨_,y⟩:=D.live _ _ a2;exact cb y
 refine q s.heap.objs.size #[.int i tk,x] g (tk+1) ⟨_,_,px,rfl⟩ (bc _) ⟨_,b3,rfl,_,rfl⟩ (FG.is b3 rfl) ⟨⟨_,b1⟩,b2,m_ l1,m_ l2⟩ λb o hb y=>?_;simp only[bu,nh,or_false,not_or] at hb;exact kp b o hb.1 hb.2 y
theorem JC(z TI TO i1 i2 l1 l2:ah)(D:ZipApart z TI TO i1 i2 l1 l2)(xs ys:Array ai):
  ML prog w A z [z,TO,i1,i2] (min xs.size ys.size) (λi vals=>∃x y,xs[i]?=aa x/\ys[i]?=aa y/\vals=#[x,y])
   (λi h=>IsZip h z TI TO .none/\qr h TI (.ref i1) (.ref i2)/\(∃a b,qr h TO a b)/\h.IsListIter i1 l1 i/\h.IsListIter i2 l2 i/\h.IsList l1 xs/\h.IsList l2 ys)
   (λi T h=>IsZip h z TI TO (rawInt T)/\qr h TI (.ref i1) (.ref i2)/\(∃a b,qr h TO a b)/\h.IsListIter i1 l1 (i+1)/\h.IsListIter i2 l2 (i+1)/\h.IsList l1 xs/\h.IsList l2 ys/\T≠z/\T≠TO/\T≠i1/\T≠i2):=by
 intro i s Q E hi ⟨a1,a2,⟨x,y,a3⟩,a4,a5,a6,a7⟩ q;have n1:i<xs.size:=by omega
 have n2:i<ys.size:=by omega
 refine wpAny_pyNext_zip_item D a1 a2 a3 a4 a5 a6 a7 (me n1) (me n2) λg b1 b2 b3 b4 b5 _ kp=>?_;have fresh:∀{c:ah} {o:aw},s.heap.get? c=aa o->s.heap.objs.size≠c:=λe=>m_ (cb e);refine q s.heap.objs.size #[xs[i],ys[i]] g s.toks ⟨_,_,me n1,me n2,rfl⟩ (bc _) ⟨_,b5,rfl,_,rfl⟩ (FG.is b5 rfl)
  ⟨b1,kp _ _ D.TIz D.TITO D.TIi1 D.TIi2 a2,⟨_,_,b2⟩,b3,b4,a6.at λo e=>kp _ o D.l1z D.l1TO D.l1i1 D.l1i2 e,a7.at λo e=>kp _ o D.l2z D.l2TO D.l2i1 D.l2i2 e,fresh a1,fresh a3,(by obtain⟨_,e,_⟩:=a4;exact fresh e),(by obtain⟨_,e,_⟩:=a5;exact fresh e)⟩ λb o hb e=>?_
 simp only[bu,nh,or_false,not_or] at hb;exact kp b o hb.1 hb.2.1 hb.2.2.1 hb.2.2.2 e
theorem JD{P:bh}{w:bb}{K:aq}{es:List ar}{kk:Nat}{tp:bo}{e it l:ah}(hei:e≠it)(hle:l≠e)(hli:l≠it):
  Turn P w K (.Tuple es kk tp) (Iel K l) [e,it] e (λi h=>(∃old,ua h e it i old)/\h.IsListIter it l i):=by
 refine pO (by simp) (λi h st b hb=>?_) (λi h h2 st k=>?_) (λX hP hw hK hc i pins s σ H I st hg=>?_) (λA i s Q E st q=>?_)
 .obtain ⟨⟨old,a⟩,o,c,d1,d2⟩:=st;rcases bu.mp hb with rfl|hq
  .exact ⟨_,a,λv z=>by cases z⟩
  .rw [br.mp hq];exact⟨o,c,λv z=>by rw[d2] at z;cases z⟩
 .obtain ⟨⟨old,a⟩,b⟩:=st;exact⟨⟨old,k e (by simp) _ a⟩,b.at λo q=>k it (by simp) o q⟩
 .subst hP hw hK;have hq:∃xs,eE X.K H l xs:=by rcases hg with⟨xs,_,a,_⟩|⟨xs,a,_⟩<;>exact⟨xs,a⟩
  obtain⟨xs,hq⟩:=hq;obtain⟨its,rv,p,hz⟩:=I.list hq;have hl:=rv.length;refine⟨_,_,_,_,_,_,⟨WalksT.enumerate (I.ok.hd hc) e it l hei hle hli its.toArray,F7 e it l hei hle hli its.toArray⟩,⟨st.1,st.2,p.isList⟩,λb hb=>hb,λh q=>⟨q.1,q.2.1⟩,λg=>?_,λg=>?_⟩
  .obtain ⟨ys,v,hy,hv⟩:=g;obtain rfl:=I.fU hy hq;obtain⟨u,hu,ru⟩:=rv.get hv;have hlt:i<ys.length:=(cn.mp hv).1;refine⟨by rw[cf,<- hl];exact hlt,λvals q=>?_⟩;obtain⟨t,x,hx,rfl⟩:=q;have ex:x=u:=by
    have:its[i]?=aa x:=by simpa using hx
    rw[hu] at this;exact(df this).symm
   subst ex;exact⟨[.int i,v],xZ,.cons ⟨t,rfl⟩ (.cons ru .nil),v,rfl,λzs hzs=>by rw[I.fU hzs hq];exact hv⟩
  .obtain ⟨ys,hy,e2⟩:=g;obtain rfl:=I.fU hy hq;rw[cf,<- hl,e2]
 .obtain ⟨⟨old,a⟩,b⟩:=st;exact xm a q
def Izl(K:aq)(l m:ah):It:=Itp (λi H=>∃xs ys v u,eE K H l xs/\eE K H m ys/\xs[i]?=aa v/\ys[i]?=aa u) (λi H vs=>∃v u,vs=[v,u]/\(∀xs,eE K H l xs->xs[i]?=aa v) /\∀ys,eE K H m ys->ys[i]?=aa u)
 (λi H=>∃xs ys,eE K H l xs/\eE K H m ys/\min xs.length ys.length=i)
theorem VE{P:bh}{w:bb}{K:aq}{es:List ar}{kk:Nat}{tp:bo}{z TI TO i1 i2 l m:ah}(D:ZipApart z TI TO i1 i2 l m):
  Turn P w K (.Tuple es kk tp) (Izl K l m) [z,TI,TO,i1,i2] z (λi h=>IsZip h z TI TO .none/\qr h TI (.ref i1) (.ref i2)/\(∃a b,qr h TO a b)/\h.IsListIter i1 l i/\h.IsListIter i2 m i):=by
 refine pO (by simp) (λi h st b hb=>?_) (λi h h2 st k=>?_) (λX hP hw hK hc i pins s σ H I st hg=>?_) (λA i s Q E st q=>?_)
 .obtain ⟨a1,a2,⟨x,y,a3⟩,⟨o4,c4,_,d4⟩,o5,c5,_,d5⟩:=st;simp only[bu,or_false,nh] at hb;rcases hb with rfl|rfl|rfl|rfl|rfl
  .exact ⟨_,a1,λv z=>by cases z⟩
  .exact ⟨_,a2,λv z=>by cases z⟩
  .exact ⟨_,a3,λv z=>by cases z⟩
  .exact ⟨o4,c4,λv z=>by rw[d4] at z;cases z⟩
  .exact ⟨o5,c5,λv z=>by rw[d5] at z;cases z⟩
 .obtain ⟨a1,a2,⟨x,y,a3⟩,a4,a5⟩:=st;exact⟨k z (by simp) _ a1,k TI (by simp) _ a2,⟨x,y,k TO (by simp) _ a3⟩,a4.at λo q=>k i1 (by simp) o q,a5.at λo q=>k i2 (by simp) o q⟩
 .subst hP hw hK;have hq:∃xs ys,eE X.K H l xs/\eE X.K H m ys:=by rcases hg with⟨xs,ys,_,_,a,b,_⟩|⟨xs,ys,a,b,_⟩<;>exact⟨xs,ys,a,b⟩
  obtain⟨xs,ys,hq,hq2⟩:=hq;obtain⟨its,rv,p,hz⟩:=I.list hq;obtain⟨its2,rv2,p2,hz2⟩:=I.list hq2;have hl:=rv.length;have hl2:=rv2.length;refine⟨_,_,_,_,_,_,⟨WalksT.zip2 (I.ok.hd hc) z TI TO i1 i2 l m D its.toArray its2.toArray,JC z TI TO i1 i2 l m D its.toArray its2.toArray⟩,⟨st.1,st.2.1,st.2.2.1,st.2.2.2.1,st.2.2.2.2,p.isList,p2.isList⟩,λb hb=>?_,λh q=>⟨q.1,q.2.1,q.2.2.1,q.2.2.2.1,q.2.2.2.2.1⟩,λg=>?_,λg=>?_⟩
  .simp only[bu,nh,or_false] at hb ⊢;rcases hb with rfl|rfl|rfl|rfl<;>simp
  .obtain ⟨x',y',v,u,hy,hy2,hv,hu⟩:=g;obtain rfl:=I.fU hy hq;obtain rfl:=I.fU hy2 hq2;obtain⟨r,er,rr⟩:=rv.get hv;obtain⟨r2,er2,rr2⟩:=rv2.get hu;have hlt:i<x'.length:=(cn.mp hv).1;have hlt2:i<y'.length:=(cn.mp hu).1;refine⟨by rw[cf,cf,<- hl,<- hl2];omega,λvals q=>?_⟩;obtain⟨x,y,hx,hy',rfl⟩:=q;have ex:x=r:=by
    have:its[i]?=aa x:=by simpa using hx
    rw[er] at this;exact(df this).symm
   have ey:y=r2:=by
    have:its2[i]?=aa y:=by simpa using hy'
    rw[er2] at this;exact(df this).symm
   subst ex ey;exact⟨[v,u],xZ,.cons rr (.cons rr2 .nil),v,u,rfl,λzs hzs=>by rw[I.fU hzs hq];exact hv,λzs hzs=>by rw[I.fU hzs hq2];exact hu⟩
  .obtain ⟨x',y',hy,hy2,e2⟩:=g;obtain rfl:=I.fU hy hq;obtain rfl:=I.fU hy2 hq2;rw[cf,cf,<- hl,<- hl2,e2]
 .exact a0i st.1 q
section
variable{prog:bh}{w:bb}{A:bp}{E:Q0c}{s:ao}
theorem VF(hit:s.heap.IsTupleIter it t i)(ht:s.heap.IsTuple t items)(hx:items[i]?=aa x)
  (hQ:∀h',h'.IsTupleIter it t (i+1)->pb it s.heap h'->Q x {s with heap:=h' }):ax (ay prog w) A (a1t (.ref it)) Q E s:=by
 obtain⟨⟨ol,hol,_,nl,hdl⟩,o,ho,hc,hd⟩:=zt ht hit;refine au (m:=callSpecial? _ _) (qj hit.typeIs yg (kn yg hit.typeIs a1c ?_ (a1j _)));refine au (m:=field _ 0) (oq ho hd (x:=.ref t) rfl ?_);show ax _ _ (if ag=ae then _ else _) _ _ s;rw[Zz bt];refine au (m:=field _ 1) (oq ho hd (x:=.int i 0) rfl (au (m:=seqItems? _) (Ef hol hdl ?_)));simp only[hx,gk];refine au (a0f ho hd (by simp) (a_ ⟨x,rfl,a_ (hQ _ ⟨_,ud _ ho (a0Y (ye hd _)),(a0Z ..).trans hc,?_⟩ (mw ..))⟩));rw[ye hd];simp[rawInt]
theorem OP(hh:A.handled=af)(hit:s.heap.IsTupleIter it t i)(ht:s.heap.IsTuple t items)(hx:items[i]?=af)
  (hE:∀h' e,a01 it s.heap h'->(∃o,h'.get? e=aa o/\o.cls=.type "StopIteration")->E (.ref e) {s with heap:=h' }):ax (ay prog w) A (a1t (.ref it)) Q E s:=by
 obtain⟨⟨ol,hol,_,nl,hdl⟩,o,ho,hc,hd⟩:=zt ht hit;refine au (m:=callSpecial? _ _) (qj hit.typeIs yg (kn yg hit.typeIs a1c ?_ (a1j _)));refine au (m:=field _ 0) (oq ho hd (x:=.ref t) rfl ?_);show ax _ _ (if ag=ae then _ else _) _ _ s;rw[Zz bt];refine au (m:=field _ 1) (oq ho hd (x:=.int i 0) rfl (au (m:=seqItems? _) (Ef hol hdl ?_)));simp only[hx,gk];refine au (om (au (m:=setField _ _ _) (a0f ho hd (by simp) ?_)));have hh2:A.in1.handled=af:=hh
 wp_walk
 unfold raiseNew;apply au;apply a0l;rw[hh2];exact au (a_ (a0c (hE _ _ (((mw ..).extBut.push _).push _) ⟨_,gg _ rfl,rfl⟩)))
theorem Yz(hh:A.handled=af)(it t:ah)(hne:t≠it)(items:Array ai):Draws prog w A it [it,t] items.size (λi v=>items[i]?=aa v) (λi h=>h.IsTupleIter it t i/\h.IsTuple t items) where
 live:=λi h st=>by obtain⟨⟨o,ho,_⟩,_⟩:=st;exact⟨o,ho⟩
 frame:=λi h h' st k=>by obtain⟨⟨o,ho,r⟩,o2,ho2,r2⟩:=st;exact⟨⟨o,k it (by simp) o ho,r⟩,o2,k t (by simp) o2 ho2,r2⟩
 item:=λi s Q E hi st q=>VF st.1 st.2 (x:=items[i]) (me hi) λh' a b=>q _ h' s.toks (me hi) ⟨a,st.2.extBut b.extBut hne⟩ b
 done:=λs Q E st q=>OP hh st.1 st.2 (a2T (bc _)) q
theorem OQ(l:ah)(items:Array ai):Meets (Builtin.«enumerate.__new__» ⟨[.type "enumerate",.ref l],[]⟩) (λ_ R s=>s.heap.IsTuple l items /\
  R (.ok (.ret (.ref (s.heap.push {cls:=.type "tuple_iterator",data:=.fields #[.ref l,.int 0 0]}).objs.size))) {s with heap:=(s.heap.push {cls:=.type "tuple_iterator",data:=.fields #[.ref l,.int 0 0]}).push {cls:=.type "enumerate",data:=.fields #[.none,.bool ag,.ref s.heap.objs.size,rawInt 0,.none,.none]} }):=by
 refine .of_wp λp0 w0 A0 R0 s h=>?_;obtain⟨hl,h⟩:=h;obtain⟨hp0,g0,d,tk,os⟩:=s;have hsub:=sub_enumerate
 wp_walk using xk hl
 refine wpAny_stack_any λ_=>a_ ?_;split<;>first
  | (rename_i c _ _ _ _ _;cases (c == x_ "enumerate")<;>(wp_walk using xk hl;exact⟨_,rfl,h⟩))
  | (wp_walk using xk hl;exact⟨_,rfl,h⟩)
theorem JE(hT:s.heap.IsTuple l items)
  (h:∀h',ua h' (s.heap.objs.size+1) s.heap.objs.size 0 .none->h'.IsTupleIter s.heap.objs.size l 0->(∀b o,s.heap.get? b=aa o->h'.get? b=aa o)->Q (.ref (s.heap.objs.size+1)) {s with heap:=h' }):ax (ay prog w) A (call (.type "enumerate") [.ref l]) Q E s:=by
 refine callType_new F.called_enumerate (by decide) (F.typeCall_enumerate_1 _) (F.newCall_enumerate_1 _) (λobj=>F.args_object_init_2 obj _) F.entry_enumerate_new (OQ l items) ⟨hT,?_⟩;generalize hh1:s.heap.push {cls:=.type "tuple_iterator",data:=.fields #[.ref l,.int 0 0]}=h1;have e1:h1.objs.size=s.heap.objs.size+1:=by rw[<- hh1,uc]
 have g1:h1.get? s.heap.objs.size=aa {cls:=.type "tuple_iterator",data:=.fields #[.ref l,.int 0 0]}:=by rw[<- hh1];exact gg _ rfl
 have k1:∀b o,s.heap.get? b=aa o->h1.get? b=aa o:=λb o e=>by rw[<- hh1];exact di _ e
 generalize hh2:h1.push {cls:=.type "enumerate",data:=.fields #[.none,.bool ag,.ref s.heap.objs.size,rawInt 0,.none,.none]}=h2;have g2:h2.get? h1.objs.size=aa {cls:=.type "enumerate",data:=.fields #[.none,.bool ag,.ref s.heap.objs.size,rawInt 0,.none,.none]}:=by rw[<- hh2];exact gg _ rfl
 have k2:∀b o,h1.get? b=aa o->h2.get? b=aa o:=λb o e=>by rw[<- hh2];exact di _ e
 refine⟨⟨_,g2,rfl⟩,?_⟩;rw[e1] at g2 ⊢;exact h h2 g2 ⟨_,k2 _ _ g1,rfl,rfl⟩ λb o e=>k2 b o (k1 b o e)
end
theorem JF{P:bh}{w:bb}{K:aq}{es:List ar}{kk:Nat}{tp:bo}{e it l:ah}(hei:e≠it)(hle:l≠e)(hli:l≠it):
  Turn P w K (.Tuple es kk tp) (Iet K l) [e,it] e (λi h=>(∃old,ua h e it i old)/\h.IsTupleIter it l i):=by
 refine pO (by simp) (λi h st b hb=>?_) (λi h h2 st k=>?_) (λX hP hw hK hc i pins s σ H I st hg=>?_) (λA i s Q E st q=>?_)
 .obtain ⟨⟨old,a⟩,o,c,d1,d2⟩:=st;rcases bu.mp hb with rfl|hq
  .exact ⟨_,a,λv z=>by cases z⟩
  .rw [br.mp hq];exact⟨o,c,λv z=>by rw[d2] at z;cases z⟩
 .obtain ⟨⟨old,a⟩,o,b,r⟩:=st;exact⟨⟨old,k e (by simp) _ a⟩,o,k it (by simp) o b,r⟩
 .subst hP hw hK;have hq:∃xs,fT X.K H l xs:=by rcases hg with⟨xs,_,a,_⟩|⟨xs,a,_⟩<;>exact⟨xs,a⟩
  obtain⟨xs,hq⟩:=hq;obtain⟨its,rv,p,hz⟩:=I.tuple hq;have hl:=rv.length;have D:Draws X.prog X.w X.A.in1 it [it,l] its.toArray.size (λi v=>its.toArray[i]?=aa v) (λi h=>h.IsTupleIter it l i/\h.IsTuple l its.toArray):=Yz (show X.A.in1.handled=af from I.ok.hd hc) it l hli its.toArray;have hef:e∉[it,l]:=λz=>by
   rcases bu.mp z with z1|z1
   .exact hei z1
   .exact hle (br.mp z1).symm
  refine⟨_,_,_,_,_,_,⟨WalksT.enumerateD D e hei hef (by simp),F8 D e hei hef⟩,⟨st.1,st.2,p⟩,λb hb=>hb,λh q=>⟨q.1,q.2.1⟩,λg=>?_,λg=>?_⟩
  .obtain ⟨ys,v,hy,hv⟩:=g;obtain rfl:=I.lB hy hq;obtain⟨u,hu,ru⟩:=rv.get hv;have hlt:i<ys.length:=(cn.mp hv).1;refine⟨by rw[cf,<- hl];exact hlt,λvals q=>?_⟩;obtain⟨t,x,hx,rfl⟩:=q;have ex:x=u:=by
    have:its[i]?=aa x:=by simpa using hx
    rw[hu] at this;exact(df this).symm
   subst ex;exact⟨[.int i,v],xZ,.cons ⟨t,rfl⟩ (.cons ru .nil),v,rfl,λzs hzs=>by rw[I.lB hzs hq];exact hv⟩
  .obtain ⟨ys,hy,e2⟩:=g;obtain rfl:=I.lB hy hq;rw[cf,<- hl,e2]
 .obtain ⟨⟨old,a⟩,b⟩:=st;exact xm a q
section
variable{X:Cx}{es:List ar}{kk:Nat}{tp:bo}
def Z1{a:ar}{ta:TA}{p pos:bo}(hg:Gl X "enumerate")(hm:X.mg "enumerate"=af)(ha:PA X [a] ta)(hs:av [a] X.env=[(ag,eval a X.env)]:=by rfl):
  PI X (.Tuple es kk tp) (.Call (.Name "enumerate" p) [a] [] pos) (λσ H R=>ta σ H λvs H1=>∃l,vs=[.ref l]/\(((∃xs,eE X.K H1 l xs)/\R (Iel X.K l) H1)\/((∃xs,fT X.K H1 l xs)/\R (Iet X.K l) H1))):=by
 intro pins s σ H R I h;refine uf (lW I hg hm boot_enumerate (qu (dR (ha pos pins s σ H _ I h) λus s1 ⟨vs,H1,I1,r1,q1⟩=>?_) hs rfl));obtain⟨l,e,q⟩:=q1;subst e;obtain⟨u,rfl,ru⟩:=vals1 r1;cases ru;have fo:∀b∈[s1.heap.objs.size+1,s1.heap.objs.size],pL X pins H1 b:=λb hb=>by
  have hle:s1.heap.objs.size<=b:=by
   simp only[bu,or_false,nh] at hb;rcases hb with rfl|rfl
   .exact um _
   .exact bc _
  exact I1.C2 hle (I1.hok.fresh hle)
 rcases q with⟨⟨xs,hq⟩,q⟩|⟨⟨xs,hq⟩,q⟩
 .obtain ⟨its,rv,pl,hz⟩:=I1.list hq;have hlt:l<s1.heap.objs.size:=by obtain⟨o,n,e,_⟩:=pl;exact cb e
  refine call_enumerate_list pl.isList λh' he hi hsz hk=>xm he ?_;exact⟨s1.heap.objs.size+1,_,_,_,H1,rfl,I1.kept (t':=s1.toks) hk,JD (a1V _) (h_ (qw hlt)) (h_ hlt),⟨⟨_,he⟩,hi⟩,fo,q⟩
 .obtain ⟨its,rv,pl,hz⟩:=I1.tuple hq;have hlt:l<s1.heap.objs.size:=pl.lt;refine JE (items:=its.toArray) pl λh' he hi hk=>xm he ?_;exact⟨s1.heap.objs.size+1,_,_,_,H1,rfl,I1.kept (t':=s1.toks) hk,JF (a1V _) (h_ (qw hlt)) (h_ hlt),⟨⟨_,he⟩,hi⟩,fo,q⟩
def Yy{a b:ar}{ta:TA}{p pos:bo}(hg:Gl X "zip")(hm:X.mg "zip"=af)(ha:PA X [a,b] ta)(hs:av [a,b] X.env=[(ag,eval a X.env),(ag,eval b X.env)]:=by rfl)(hs2:av [b] X.env=[(ag,eval b X.env)]:=by rfl):
  PI X (.Tuple es kk tp) (.Call (.Name "zip" p) [a,b] [] pos) (λσ H R=>ta σ H λvs H1=>∃l m xs ys,vs=[.ref l,.ref m]/\eE X.K H1 l xs/\eE X.K H1 m ys/\R (Izl X.K l m) H1):=by
 intro pins s σ H R I h;refine uf (lW I hg hm boot_zip (qu (dR (ha pos pins s σ H _ I h) λus s1 ⟨vs,H1,I1,r1,q1⟩=>?_) (by rw[hs,hs2]) (by rw[hs2];rfl)));obtain⟨l,m,xs,ys,e,hq,hq2,q⟩:=q1;subst e;obtain⟨u,u2,rfl,ru,ru2⟩:=vals2 r1;cases ru;cases ru2;obtain⟨its,rv,pl,hz⟩:=I1.list hq;obtain⟨its2,rv2,pl2,hz2⟩:=I1.list hq2;have hlt:l<s1.heap.objs.size:=by obtain⟨o,n,e,_⟩:=pl;exact cb e
 have hlt2:m<s1.heap.objs.size:=by obtain⟨o,n,e,_⟩:=pl2;exact cb e
 refine call_zip_2 pl.isList pl2.isList λh' hZ Iy Iw hi1 hi2 hsz hk=>a0i hZ ?_;refine⟨s1.heap.objs.size+4,_,_,_,H1,rfl,I1.kept (t':=s1.toks) hk,VE (zipApart_new hlt hlt2),⟨hZ,Iy,⟨_,_,Iw⟩,hi1,hi2⟩,λb hb=>?_,q⟩;have hle:s1.heap.objs.size<=b:=by
  simp only[bu,or_false,nh] at hb;rcases hb with rfl|rfl|rfl|rfl|rfl
  .exact lx _ 4
  .exact lx _ 2
  .exact lx _ 3
  .exact bc _
  .exact lx _ 1
 exact I1.C2 hle (I1.hok.fresh hle)
def uD(ds:List D):List D:=ds.zipIdx.map λp=>.tup [.int (p.2:Int),p.1]
def VG(a b:List D):List D:=(a.zip b).map λp=>.tup [p.1,p.2]
theorem A8{ds:List D}{i:Nat}{d:D}(h:(uD ds)[i]?=aa d):∃d0,ds[i]?=aa d0/\d=.tup [.int (i:Int),d0]:=by
 unfold uD at h;rw[cg,Gw] at h
 cases q:ds[i]? with
 |none=>rw[q] at h;cases h
 |some d0 =>
  rw[q] at h;simp at h;exact⟨d0,rfl,h.symm⟩
theorem VH{a b:List D}{i:Nat}{d:D}(h:(VG a b)[i]?=aa d):∃x y,a[i]?=aa x/\b[i]?=aa y/\d=.tup [x,y]:=by
 unfold VG at h;rw[cg] at h
 cases q:(a.zip b)[i]? with
 |none=>rw[q] at h;cases h
 |some xy =>
  rw[q] at h;obtain⟨h1,h2⟩:=uu.mp q;exact⟨xy.1,xy.2,h1,h2,(df h).symm⟩
def DL{K:aq}{S:ah->Prop}{H:Hp}{T:ah}{x y:V}{dx dy:D}(fr:H T=af)(hx:Dn K S H dx x)(hy:Dn K S H dy y):Dn K S (upd H T (.tup [x,y])) (.tup [dx,dy]) (.ref T):=by simp only[Dn];exact⟨T,[x,y],rfl,aU,aX.fits (.same (aZ fr)) _ _ (aX.cons hx (aX.one hy))⟩
theorem OR{K:aq}{a:ah}{ds:List D}:Wlk K (Iel K a) (uD ds) [(.lst ds,.ref a)] where
 go:=λS H fc hg i d e=>by have h:=hg _ (br.mpr rfl);simp only[Dn] at h;obtain⟨b,xs,eb,hb,sb,dn⟩:=h;injection eb with eb;subst eb;obtain⟨d0,e0,rfl⟩:=A8 e;obtain⟨v,ev,dv⟩:=dn.get e0;refine⟨⟨xs,v,eE.of hb,ev⟩,λx H' y=>?_⟩;obtain⟨T,vs,rfl,fr,rfl,v',rfl,hy⟩:=y;have ex:=hy xs (eE.of hb);rw[ev] at ex;cases ex;exact⟨aZ fr,DL fr (by simp only[Dn]) dv⟩
 stop:=λS H hg i hi=>by have h:=hg _ (br.mpr rfl);simp only[Dn] at h;obtain⟨b,xs,eb,hb,sb,dn⟩:=h;injection eb with eb;subst eb;exact⟨xs,eE.of hb,by rw[<- dn.len,<- hi];simp[uD]⟩
theorem OS{K:aq}{a:ah}{ds:List D}:Wlk K (Iet K a) (uD ds) [(.tup ds,.ref a)] where
 go:=λS H fc hg i d e=>by have h:=hg _ (br.mpr rfl);simp only[Dn] at h;obtain⟨b,xs,eb,hb,dn⟩:=h;injection eb with eb;subst eb;obtain⟨d0,e0,rfl⟩:=A8 e;obtain⟨v,ev,dv⟩:=dn.get e0;refine⟨⟨xs,v,(fT.of hb),ev⟩,λx H' y=>?_⟩;obtain⟨T,vs,rfl,fr,rfl,v',rfl,hy⟩:=y;have ex:=hy xs (fT.of hb);rw[ev] at ex;cases ex;exact⟨aZ fr,DL fr (by simp only[Dn]) dv⟩
 stop:=λS H hg i hi=>by have h:=hg _ (br.mpr rfl);simp only[Dn] at h;obtain⟨b,xs,eb,hb,dn⟩:=h;injection eb with eb;subst eb;exact⟨xs,(fT.of hb),by rw[<- dn.len,<- hi];simp[uD]⟩
theorem Z2{K:aq}{a c:ah}{ds es:List D}:Wlk K (Izl K a c) (VG ds es) [(.lst ds,.ref a),(.lst es,.ref c)] where
 go:=λS H fc hg i d e=>by have h:=hg (.lst ds,.ref a) (by simp);have h2:=hg (.lst es,.ref c) (by simp);simp only[Dn] at h h2;obtain⟨b,xs,eb,hb,sb,dn⟩:=h;obtain⟨b2,ys,eb2,hb2,sb2,DX⟩:=h2;injection eb with eb;injection eb2 with eb2;subst eb eb2;obtain⟨x0,y0,e0,e1,rfl⟩:=VH e;obtain⟨v,ev,dv⟩:=dn.get e0;obtain⟨u,eu,du⟩:=DX.get e1;refine⟨⟨xs,ys,v,u,eE.of hb,eE.of hb2,ev,eu⟩,λx H' y=>?_⟩;obtain⟨T,vs,rfl,fr,rfl,v',u',rfl,hy,hy2⟩:=y;have ex:=hy xs (eE.of hb);have ex2:=hy2 ys (eE.of hb2);rw[ev] at ex;rw[eu] at ex2;cases ex;cases ex2;exact⟨aZ fr,DL fr dv du⟩
 stop:=λS H hg i hi=>by have h:=hg (.lst ds,.ref a) (by simp);have h2:=hg (.lst es,.ref c) (by simp);simp only[Dn] at h h2;obtain⟨b,xs,eb,hb,sb,dn⟩:=h;obtain⟨b2,ys,eb2,hb2,sb2,DX⟩:=h2;injection eb with eb;injection eb2 with eb2;subst eb eb2;exact⟨xs,ys,eE.of hb,eE.of hb2,by rw[<- dn.len,<- DX.len,<- hi];simp[VG]⟩
noncomputable def Ut(t:WA):WI:=λρ Q=>t ρ λds=>match ds with
 |[.lst es]=>Q (uD es)
 |[.tup es]=>Q (uD es)
 |_=>False
noncomputable def Ln(t:WA):WI:=λρ Q=>t ρ λds=>match ds with
 |[.lst a,.lst b]=>Q (VG a b)
 |_=>False
def JG(hm:X.mg "enumerate"=af)(ha:xP X [a] t)(hg:Gl X "enumerate":=by rfl)(hs:av [a] X.env=[(ag,eval a X.env)]:=by rfl):OL X (.Tuple es kk tp) (.Call (.Name "enumerate" p) [a] [] pos) (Ut t) :=
 IY (Z1 hg hm ha hs) λσ H R Lm=>by
  obtain⟨S,ρ,Q3,fc,sl,ht,k⟩:=Lm;refine⟨S,ρ,_,fc,sl,ht,λvs H1 ds s1 d1 q1=>?_⟩;split at q1
  .obtain ⟨v,r,rfl,h1,h2⟩:=d1.bO;simp only[aX] at h2;subst h2;have h1':=h1;simp only[Dn] at h1;obtain⟨l,xs,rfl,hl,sl',da⟩:=h1;exact⟨l,rfl,.inl ⟨⟨xs,eE.of hl⟩,k _ H1 _ [(_,.ref l)] s1 (λg hg=>by cases br.mp hg;exact h1') OR q1⟩⟩
  .obtain ⟨v,r,rfl,h1,h2⟩:=d1.bO;simp only[aX] at h2;subst h2;have h1':=h1;simp only[Dn] at h1;obtain⟨l,xs,rfl,hl,da⟩:=h1;exact⟨l,rfl,.inr ⟨⟨xs,(fT.of hl)⟩,k _ H1 _ [(_,.ref l)] s1 (λg hg=>by cases br.mp hg;exact h1') OS q1⟩⟩
  .exact q1.elim
def Lk{a b:ar}{t:WA}{p pos:bo}(hm:X.mg "zip"=af)(ha:xP X [a,b] t)(hg:Gl X "zip":=by rfl)(hs:av [a,b] X.env=[(ag,eval a X.env),(ag,eval b X.env)]:=by rfl)(hs2:av [b] X.env=[(ag,eval b X.env)]:=by rfl):
  OL X (.Tuple es kk tp) (.Call (.Name "zip" p) [a,b] [] pos) (Ln t) :=
 IY (Yy hg hm ha hs hs2) λσ H R Lj=>by
  obtain⟨S,ρ,Q3,fc,sl,ht,k⟩:=Lj;refine⟨S,ρ,_,fc,sl,ht,λvs H1 ds s1 d1 q1=>?_⟩;split at q1
  .obtain ⟨v,r,rfl,h1,h2⟩:=d1.bO;obtain⟨v2,r2,rfl,h3,h4⟩:=h2.bO;simp only[aX] at h4;subst h4;have h1':=h1;have h3':=h3;simp only[Dn] at h1 h3;obtain⟨l,xs,rfl,hl,sl',da⟩:=h1;obtain⟨m,ys,rfl,hl2,sl2,da2⟩:=h3;refine⟨l,m,xs,ys,rfl,eE.of hl,eE.of hl2,k _ H1 _ [(_,.ref l),(_,.ref m)] s1 (λg hg=>?_) Z2 q1⟩;rcases bu.mp hg with rfl|hg
   .exact h1'
   .cases br.mp hg;exact h3'
  .exact q1.elim
end
section
variable{X:Cx}{a b:ar}{pos:bo}{ta tb:WE}
def Z3:j6 X (binaryOp .Mult) (rI ub λi j=>.int (i*j)):=YV λ_ _ _ _ _ _ _ hc q=>mul_int q hc
def Us:F2:=OH ub λi j=>.int (i*j)
def Ur(ha:c9 X a ta)(hb:c9 X b tb):c9 X (.BinOp a .Mult b pos) (g5 Us ta tb):=UT Z3 l3 ha hb
end
theorem Z4(hi:i.natAbs<2^m)(hj:j.natAbs<2^n)(h:m+n<=134217728):ub i j:=by exact mulOk_of_bits (intBits_le hi) (intBits_le hj) h
section
variable{X:Cx}
noncomputable def aMj(t:WE):WT:=λρ Q=>t ρ λd=>match d with
 |.lst ds=>Q (!ds.isEmpty)
 |.tup ds=>Q (!ds.isEmpty)
 |_=>False
def aX.empty{K:aq}{S:ah->Prop}{H:Hp}{ds:List D}{xs:List V}(h:aX K S H ds xs):ds.isEmpty=xs.isEmpty:=by have:=h.len;cases ds<;>cases xs<;>simp at this ⊢
def Ax:List V->Hp->VK->Prop:=λxs H Q=>∃(a:ah) (ns:Q0e),xs=[.ref a]/\H a=aa (.lst (ns.map V.int))/\Q (.int ns.sum) H
theorem OT(hc:X.calm=ae):iS X (.builtin "sum") Ax:=by
 intro pins s σ H xs us Q I r h;obtain⟨a,ns,rfl,ha,q⟩:=h;obtain⟨u,rfl,ru⟩:=vals1 r;cases ru;obtain⟨its,rv,p,hz⟩:=I.list (eE.of ha);have hi:=intsAre_of rv;obtain⟨zs,ez⟩:=hi.allInts.items;have en:zs.toList.map (·.1)=ns:=by rw[<- a0x,<- ez];exact hi.numsOf
 have ev:preSum (numAt zs) zs.size=ns.sum:=by rw[preSum_eq,ph (by simp),en]
 refine sum_intListG (I.ok.hd hc) (ez▸p.isList) λh' tk t' hk=>⟨.int ns.sum,H,I.kept hk,⟨t',by rw[ev]⟩,q⟩
def sumF:F1
 |[.lst ds],Q=>(match intsOf ds with|some ns=>Q (.int ns.sum)|none=>False)
 |_,_=>False
def OU{ns:Q0e}{Q:D->Prop}:sumF [.lst (ns.map D.int)] Q=Q (.int ns.sum):=by show(match intsOf (ns.map D.int) with|some ns=>Q (.int ns.sum)|none=>False)=_;rw[dM]
theorem Yx{K:aq}:C3 K Ax sumF:=by
 intro S H xs ds Q3 Q fc hd hf k
 match ds,hf with
 |[.lst es],hf =>
  obtain⟨v,r,rfl,h1,h2⟩:=hd.bO;simp only[aX] at h2;subst h2;simp only[Dn] at h1;obtain⟨a,ys,rfl,ha,sa,da⟩:=h1;have hf2:(match intsOf es with|some ns=>Q3 (.int ns.sum)|none=>False):=hf
  clear hf
  cases q:intsOf es with
  |none=>rw[q] at hf2;exact hf2.elim
  |some ns =>
   rw[q] at hf2;have e:=tK q;subst e;have e2:=aX.ints.mp da;subst e2;exact⟨a,ns,rfl,ha,k _ H _ (Same.refl H) (by simp only[Dn]) hf2⟩
theorem Li(hc:X.calm=ae)(hm:X.mg "sum"=af)(ha:xP X [e] t)(hg:Gl X "sum":=by rfl)
  (he:av [e] X.env=(ag,eval e X.env)::av [] X.env:=by rfl):c9 X (.Call (.Name "sum" p) [e] [] pos) (OK sumF t):=xS (OT hc) Yx a3M hg hm ha (by decide) (by decide) he (by rfl)
abbrev WO:=dJ->(Option Int->Prop)->Prop
def Uq(K:aq)(t:WO):TO:=λσ H Q=>∃(S:ah->Prop) (ρ:dJ) (Q3:Option Int->Prop),(∀a,H a=af->S a)/\Sl K S H ρ σ/\t ρ Q3 /\∀o H',Same H H'->Q3 o->Q o H'
def PO3(X:Cx)(e:Option ar)(t:WO):Prop:=PO X e (Uq X.K t)
def Z5:WO:=λ_ Q=>Q af
noncomputable def Uo(t:WE):WO:=λρ Q=>t ρ λd=>match d with
 |.int i=>Q (aa i)
 |_=>False
def Lh:PO3 X af Z5:=λpins s σ H Q I Kx=>by obtain⟨S,ρ,Q3,fc,sl,ht,k⟩:=Kx;exact Y5 pins s σ H Q I (k af H (Same.refl H) ht)
theorem po3(h:c9 X e t):PO3 X (aa e) (Uo t):=λpins s σ H Q I Kw=>by
 obtain⟨S,ρ,Q3,fc,sl,ht,k⟩:=Kw;refine Y6 h pins s σ H Q I ⟨S,ρ,_,fc,sl,ht,λv H1 d s1 d1 q1=>?_⟩
 cases d with
 |int i=>simp only[Dn] at d1;exact⟨i,d1,k _ H1 s1 q1⟩
 |_=>exact q1.elim
def cutD(xs:List D)(lo hi:Option Int):List D:=(xs.drop (HT.gL xs.length 0 lo)).take (HT.gL xs.length xs.length hi-HT.gL xs.length 0 lo)
def aX.cut{K:aq}{S:ah->Prop}{H:Hp}{ds:List D}{xs:List V}{lo hi:Option Int}(h:aX K S H ds xs):aX K S H (cutD ds lo hi) (FL xs lo hi):=by unfold cutD FL;rw[h.len];exact(h.drop _).take _
theorem VI{prog:bh}{w:bb}{A:bp}{E:Q0c}{s:ao}{t sl:ah}{items:Array ai}{vl vu:ai}{lo hi:Option Int}{Q:Q0c}(ht:jz s.heap t items)(hs:s.heap.IsSliceOf sl vl vu .none)(pl:ko vl lo)(pu:ko vu hi)
  (h0:HT.gL items.size 0 lo=0) (h1:HT.gL items.size items.size hi=items.size) (h:Q (.ref t) s):ax (ay prog w) A (getItem (.ref t) (.ref sl)) Q E s:=by
 have hT:s.TypeIs (.ref sl) "slice":=by obtain⟨o,a,b,_⟩:=hs;exact⟨o,a,b⟩
 unfold getItem
 try with_reducible refine jo ?_
 first|refine au (a_ ?_)|skip
 apply au;refine a0g ht.typeIs (by decide) (au (qj ht.typeIs pf (kn pf ht.typeIs a1G ?_ (a1O _ _))));refine au (m:=a1r _) (a1x ht (au (Ed hT ?_)));rw[Z_ (by decide)];refine au (HT.lD (n:=items.size) hs pl pu ?_);rw[h0,h1];show ax _ _ (if((((0:Nat):Int) == 0)&&((1:Int) == 1)&&((items.size-0) == items.size))=ae then _ else _) _ _ s;rw[Z_ (by simp)];refine au (m:=a3G _) (au (Ed ht.typeIs (a_ ?_)));show ax _ _ (if ae=ae then _ else _) _ _ s;rw[Z_ rfl];exact au (om (a_ ⟨_,rfl,a_ h⟩))
def Kv(K:aq):V->Option Int->Option Int->Hp->VK->Prop:=λx lo hi H Q=>∃a xs,x=.ref a/\fT K H a xs/\(HT.gL xs.length 0 lo=0/\HT.gL xs.length xs.length hi=xs.length)/\Q (.ref a) H
theorem Z6:SlR X (Kv X.K):=by
 intro pins s σ H x v vl vu lo hi sl Q I rx hs pl pu h;obtain⟨a,xs,rfl,hx,hw,q⟩:=h;cases rx;obtain⟨its,r,ht,hz⟩:=I.tuple hx;have hlen:its.toArray.size=xs.length:=by rw[cf];exact r.length.symm
 exact⟨"tuple",_,pf.lookup,ht.typeIs,VI ht hs pl pu (by rw[hlen];exact hw.1) (by rw[hlen];exact hw.2) ⟨.ref a,H,I,rfl,q⟩⟩
def Hn(te:WE)(tl th:WO):WE:=λρ Q=>te ρ λd=>tl ρ λlo=>th ρ λhi=>match d with
 |.lst ds=>Q (.lst (cutD ds lo hi))
 |.tup ds=>Q (.tup (cutD ds lo hi))
 |_=>False
def sl3{e:ar}{lo hi:Option ar}{p2 pos:bo}{te:WE}{tl th:WO}(he:c9 X e te)(hl:PO3 X lo tl)(hh:PO3 X hi th):c9 X (.Subscript e (.Slice lo hi af p2) pos) (Hn te tl th) :=
 imp (T6 (Y9.or (aCd.or Z6)) he hl hh) λσ H Q Ku=>by
  obtain⟨S,ρ,Q3,fc,sl,ht,k⟩:=Ku;refine⟨S,ρ,_,fc,sl,ht,λv H1 d s1 d1 q1=>?_⟩;refine⟨S,ρ,_,bX fc s1,Sl.fits (.same s1) sl,q1,λo H2 s2 q2=>?_⟩;refine⟨S,ρ,_,bX fc (s1.trans s2),Sl.fits (.same (s1.trans s2)) sl,q2,λo2 H3 s3 q3=>?_⟩;have d3:=Dn.fits (.same (s2.trans s3)) _ _ d1;have sa:=(s1.trans s2).trans s3
  cases d with
  |lst ds =>
   simp only[Dn] at d3;obtain⟨a,xs,rfl,ha,sa',da⟩:=d3;refine .inl ⟨a,xs,rfl,eE.of ha,λp hp=>k _ _ _ (sa.trans (aZ hp)) ?_ q3⟩;simp only[Dn];exact⟨p,_,rfl,aU,bX fc sa p hp,aX.fits (.same (aZ hp)) _ _ da.cut⟩
  |tup ds =>
   simp only[Dn] at d3;obtain⟨a,xs,rfl,ha,da⟩:=d3;have hl:=da.len;by_cases hw:HT.gL xs.length 0 o=0/\HT.gL xs.length xs.length o2=xs.length
   .refine .inr (.inr ⟨a,xs,rfl,(fT.of ha),hw,k _ _ _ sa ?_ q3⟩);have e:cutD ds o o2=ds:=by unfold cutD;rw[hl,hw.1,hw.2,pz,ui,ph (nc hl)]
    rw[e];simp only[Dn];exact⟨a,xs,rfl,ha,da⟩
   .refine .inr (.inl ⟨a,xs,rfl,(fT.of ha),hw,λp hp=>k _ _ _ (sa.trans (aZ hp)) ?_ q3⟩);simp only[Dn];exact⟨p,_,rfl,aU,aX.fits (.same (aZ hp)) _ _ da.cut⟩
  |_=>exact q3.elim
end
end L3
namespace L4
open PySem.Spec PyProof.Rows L2 L3
def wE(f:EF):WE:=λρ Q=>∃d,f ρ=aa d/\Q d
def wT(f:TF):WT:=λρ Q=>∃d,f ρ=aa d/\Q d
def wA(f:AF):WA:=λρ Q=>∃d,f ρ=aa d/\Q d
def wI(f:AF):WI:=λρ Q=>∃d,f ρ=aa d/\Q d
def wO(f:OF):WO:=λρ Q=>∃d,f ρ=aa d/\Q d
def wX(f:XF):WX:=λρ Q=>∃p,f ρ=aa p/\Q p.1 p.2
noncomputable def wS(f:SF):WS:=λE ρ=>match f ρ with
 |.nx ρ'=>E.nx ρ'
 |.rt d=>E.rt d
 |.ex c=>E.ex c
 |.no=>False
def wG(g:GSF):WG:=λd ρ Q=>∃ρ',g d ρ=aa ρ'/\Q ρ'
def vf(g:GEF):GE:=λd ρ Q=>∃ρ',g d ρ=aa ρ'/\Q ρ'
abbrev b8(X:Cx)(e:ar)(f:EF):Prop:=c9 X e (wE f)
abbrev kB(X:Cx)(e:ar)(f:EF):Prop:=FR X e (wE f)
abbrev vC(X:Cx)(e:ar)(f:TF):Prop:=vB X e (wT f)
abbrev JH(X:Cx)(e:ar)(f:TF):Prop:=QO X e (wT f)
abbrev A9(X:Cx)(es:List ar)(f:AF):Prop:=xP X es (wA f)
abbrev VJ(X:Cx)(tg e:ar)(f:AF):Prop:=OL X tg e (wI f)
abbrev PO4(X:Cx)(e:Option ar)(f:OF):Prop:=PO3 X e (wO f)
abbrev OV(X:Cx)(e:ar)(f:XF):Prop:=G6 X e (wX f)
abbrev pV(X:Cx)(st:de)(f:SF):Prop:=A4 X st (wS f)
abbrev tL(X:Cx)(st:List de)(f:SF):Prop:=uO X st (wS f)
section
variable{X:Cx}
def cE{e:ar}{t t':WE}(h:c9 X e t)(c:∀ρ Q,t' ρ Q->t ρ Q):c9 X e t':=imp h λ_ _ _ Kt=>by obtain⟨S,ρ,Q3,fc,sl,ht,k⟩:=Kt;exact⟨S,ρ,Q3,fc,sl,c ρ Q3 ht,k⟩
def cF(h:FR X e t)(c:∀ρ Q,t' ρ Q->t ρ Q):FR X e t':=imp h λ_ _ _ Ks=>by obtain⟨S,ρ,Q3,fc,sl,ht,k⟩:=Ks;exact⟨S,ρ,Q3,fc,sl,c ρ Q3 ht,k⟩
def cT{e:ar}{t t':WT}(h:vB X e t)(c:∀ρ Q,t' ρ Q->t ρ Q):vB X e t':=OG h λ_ _ _ Kr=>by obtain⟨S,ρ,Q3,fc,sl,ht,k⟩:=Kr;exact⟨S,ρ,Q3,fc,sl,c ρ Q3 ht,k⟩
def cW{e:ar}{t t':WT}(h:QO X e t)(c:∀ρ Q,t' ρ Q->t ρ Q):QO X e t':=wa h λ_ _ _ Kq=>by obtain⟨S,ρ,Q3,fc,sl,ht,k⟩:=Kq;exact⟨S,ρ,Q3,fc,sl,c ρ Q3 ht,k⟩
def cA(h:xP X e t)(c:∀ρ Q,t' ρ Q->t ρ Q):xP X e t':=UR h λ_ _ _ Kp=>by obtain⟨S,ρ,Q3,fc,sl,ht,k⟩:=Kp;exact⟨S,ρ,Q3,fc,sl,c ρ Q3 ht,k⟩
def cI(h:OL X tg e t)(c:∀ρ Q,t' ρ Q->t ρ Q):OL X tg e t':=IY h λ_ _ _ Ko=>by obtain⟨S,ρ,Q3,fc,sl,ht,k⟩:=Ko;exact⟨S,ρ,Q3,fc,sl,c ρ Q3 ht,k⟩
def cX(h:G6 X e t)(c:∀ρ Q,t' ρ Q->t ρ Q):G6 X e t':=imp h λ_ _ _ Kn=>by obtain⟨H₀,S,w,ρ,G,Q3,hl,st,ht,k⟩:=Kn;exact⟨H₀,S,w,ρ,G,Q3,hl,st,c ρ Q3 ht,k⟩
def cS(h:A4 X e t)(c:∀E ρ,t' E ρ->t E ρ):A4 X e t':=iT h λ_ _ _ Km=>by obtain⟨H₀,S,w,ρ,G,E,hl,st,ht,ok⟩:=Km;exact⟨H₀,S,w,ρ,G,E,hl,st,c E ρ ht,ok⟩
def Ak(h:uO X e t)(c:∀E ρ,t' E ρ->t E ρ):uO X e t':=FU h λ_ _ _ Kk=>by obtain⟨H₀,S,w,ρ,G,E,hl,st,ht,ok⟩:=Kk;exact⟨H₀,S,w,ρ,G,E,hl,st,c E ρ ht,ok⟩
def JH.pt(h:JH X e f):vC X e f:=QO.pt h
def kB.pe(h:kB X e f):b8 X e f:=FR.pe h
theorem bnd{α β:Type}{o:Option α}{f:α->Option β}{b:β}(h:o.bind f=aa b):∃a,o=aa a/\f a=aa b:=by
 cases o with
 |none=>cases h
 |some a=>exact⟨a,rfl,h⟩
theorem qZ{α β:Type}{o:Option α}{f:α->β}{b:β}(h:o.map f=aa b):∃a,o=aa a/\f a=b:=by
 cases o with
 |none=>cases h
 |some a=>exact⟨a,rfl,df h⟩
theorem x4(i:Nat)(hN:X.N[i]?=aa x:=by rfl)(hv:AN X.env.scope x:=by first|exact d_ rfl|exact cc (d_ rfl)|exact cc (cc rfl))(hd:(x == ("__debug__":ak))=ag:=by decide)
  (hcd:(x == ("__classdict__":ak))=ag:=by decide):b8 X (.Name x pos) (aB i):=cE (x3 i hN hv hd hcd) λρ Q Kj=>by
 obtain⟨d,e,q⟩:=Kj;unfold aB at e;unfold ZG
 cases h:ρ[i]? with
 |none=>rw[h] at e;cases e
 |some o =>
  rw[h] at e
  cases o with
  |none=>cases e
  |some d'=>cases e;exact q
def i4{j pos}:b8 X (.Constant (.int i) j pos) (eC (.int i)):=cE i3 λ_ _ Ki=>by obtain⟨_,e,q⟩:=Ki;cases e;exact q
def b4{j pos}:b8 X (.Constant (.bool b) j pos) (eC (.bl b)):=cE b3 λ_ _ Kh=>by obtain⟨_,e,q⟩:=Kh;cases e;exact q
def n4{j pos}:b8 X (.Constant .none j pos) (eC .non):=cE n3 λ_ _ Kg=>by obtain⟨_,e,q⟩:=Kg;cases e;exact q
def Tells(f:F2)(g:D->D->Option D):Prop:=∀(x y d:D) (Q:D->Prop),g x y=aa d->Q d->f x y Q
def g8{f:F2}{g:D->D->Option D}(h:Tells f g){fa fb:EF}(ρ:dJ)(Q:D->Prop)(w:wE (aC g fa fb) ρ Q):g5 f (wE fa) (wE fb) ρ Q:=by obtain⟨d,e,q⟩:=w;obtain⟨x,ex,e⟩:=bnd e;obtain⟨y,ey,e⟩:=bnd e;exact⟨x,ex,y,ey,h x y d Q e q⟩
def lG:Tells (uB g) (G8 g):=λx y d Q e q=>by
 cases x<;>first|(cases e;done)|skip
 all_goals (cases y<;>first|(cases e;done)|skip)
 cases e;exact q
def eL(h:∀i j,c i j=ae->C i j):Tells (OH C g) (iV c g):=λx y d Q e q=>by
 cases x<;>first|(cases e;done)|skip
 all_goals (cases y<;>first|(cases e;done)|skip)
 rename_i i j;have e:(if c i j=ae then aa (g i j) else af)=aa d:=e;by_cases hc:c i j=ae
 .rw [Z_ hc] at e;cases e;exact⟨h i j hc,q⟩
 .rw [Zz hc] at e;cases e
def szl{n:Nat}{α:Type}{x d:α}{Q:α->Prop}(e:(if n<=oN then aa x else af)=aa d)(q:Q d):n<=bg/\Q x:=by
 by_cases h:n<=oN
 .rw [Z_ h] at e;cases e;exact⟨by rw[gx];exact h,q⟩
 .rw [Zz h] at e;cases e
def OW:Tells wd bA:=λx y d Q e q=>by
 cases x<;>first|(cases e;done)|skip
 all_goals (cases y<;>first|(cases e;done)|skip)
 .cases e;exact q
 .exact szl (x:=D.str _) e q
 .exact szl (x:=D.tup _) e q
 .exact szl (x:=D.lst _) e q
def OX:Tells Bb DZ:=λx y d Q e q=>by
 cases x<;>first|(cases e;done)|skip
 all_goals (cases y<;>first|(cases e;done)|skip)
 exact szl (x:=D.lst _) e q
def aD0(h:vH i j=ae):ub i j:=by
 unfold vH at h;simp only[Hk,decide_eq_true_eq] at h;rcases h with(h|h)|h
 .exact YX.ok (.inl ⟨by omega,by omega⟩)
 .exact YX.ok (.inr ⟨by omega,by omega⟩)
 .refine Z4 (m:=i.natAbs.log2+1) (n:=j.natAbs.log2+1) ?_ ?_ (by omega)
  .exact a14
  .exact a14
section
variable{a b:ar}{pos:bo}{fa fb:EF}
def eA(ha:b8 X a fa)(hb:b8 X b fb):b8 X (.BinOp a .Add b pos) (aC bA fa fb):=cE (Pn ha hb) (g8 OW)
def x5(ha:b8 X a fa)(hb:b8 X b fb):b8 X (.BinOp a .Sub b pos) (aC dS fa fb):=cE (Qf ha hb) (g8 lG)
def rA(ha:b8 X a fa)(hb:b8 X b fb):b8 X (.BinOp a .Mult b pos) (aC mulM fa fb):=cE (Ur ha hb) (g8 (eL λ_ _ h=>aD0 h))
def iI(ha:b8 X a fa)(hb:b8 X b fb):b8 X (.BinOp a .Mod b pos) (aC cZ fa fb):=cE (Qd ha hb) (g8 (eL λ_ _ h=>by simpa using h))
def F9(ha:b8 X a fa)(hb:b8 X b fb):b8 X (.BinOp a .FloorDiv b pos) (aC kT fa fb):=cE (Pp ha hb) (g8 (eL λi j h=>by simp only[gw,decide_eq_true_eq] at h;exact⟨h.1,by omega⟩))
def v_(ha:b8 X a fa)(hb:b8 X b fb):b8 X (.BinOp a .Pow b pos) (aC uH fa fb):=cE (Po ha hb) (g8 (eL λi j h=>by simp only[gw,decide_eq_true_eq] at h;exact⟨h.1.1,by omega,h.2⟩))
def Cr(ha:b8 X a fa)(hb:b8 X b fb):kB X (.BinOp a .Add b pos) (aC DZ fa fb):=cF (Wb ha hb) (g8 OX)
def tells_eq:Tells ZJ gM:=λx y d Q e q=>by
 cases x<;>first|(cases e;done)|skip
 all_goals (cases y<;>first|(cases e;done)|skip)
 all_goals (cases e;exact⟨rfl,q⟩)
def VL:Tells wb W2:=λx y d Q e q=>by
 cases x<;>first|(cases e;done)|skip
 all_goals (cases y<;>first|(cases e;done)|skip)
 all_goals (cases e;exact⟨rfl,q⟩)
theorem ints_of:∀{ds:List D} {ns:Q0e},intsOf ds=aa ns->ds=ns.map D.int
 |[],ns,h=>by cases h;rfl
 |d::ds,ns,h=>by
  cases d<;>first|cases h;done|skip
  obtain⟨m,e,rfl⟩:=qZ h;rw[ints_of e];rfl
def x6{neg:Bool}:Tells (inF neg) (oO neg):=λx y d Q e q=>by
 cases x<;>first|(cases e;done)|skip
 all_goals (cases y<;>first|(cases e;done)|skip)
 all_goals
  obtain⟨ns,e1,rfl⟩:=qZ e;have:=ints_of e1;subst this;exact⟨A2 ns,by rw[A3];exact q⟩
def GA:Tells ZK XG:=λx y d Q e q=>by
 unfold XG at e;split at e
 .rename_i h;cases e;refine⟨(by cases y<;>first|rfl|cases h),?_⟩;have:isD x=vI x:=by cases x<;>rfl
  rw[this];exact q
 .cases e
def eq4(ha:b8 X a fa)(hb:b8 X b fb):b8 X (.Compare a [.Eq] [b] pos) (aC gM fa fb):=cE (O_ ha hb) (g8 tells_eq)
def in4(ha:b8 X a fa)(hb:b8 X b fb)(hm:behindInMarks .In b=ag:=by with_unfolding_all rfl):b8 X (.Compare a [.In] [b] pos) (aC (oO ag) fa fb):=cE (in3 ha hb hm) (g8 x6)
def is4(ha:b8 X a fa)(hb:b8 X b fb):b8 X (.Compare a [.Is] [b] pos) (aC XG fa fb):=cE (Ou ha hb) (g8 GA)
def oV{f:F2}{g:D->D->Option D}(h:Tells f g)(hb:∀x y d,g x y=aa d ->∃b,d=.bl b){fa fb:EF}(ρ:dJ)(Q:Bool->Prop)(w:wT (tV (aC g fa fb)) ρ Q):mB (g5 f (wE fa) (wE fb)) ρ Q:=by obtain⟨b,e,q⟩:=w;obtain⟨d,e1,e2⟩:=bnd e;obtain⟨x,ex,e1⟩:=bnd e1;obtain⟨y,ey,e1⟩:=bnd e1;obtain⟨c,rfl⟩:=hb x y d e1;cases e2;exact⟨x,ex,y,ey,h x y _ _ e1 q⟩
def DM{g:Int->Int->Bool}(x y d:D)(e:G8 (λi j=>.bl (g i j)) x y=aa d):∃b,d=.bl b:=by
 cases x<;>first|(cases e;done)|skip
 all_goals (cases y<;>first|(cases e;done)|skip)
 cases e;exact⟨_,rfl⟩
def Um(x y d:D)(e:gM x y=aa d):∃b,d=.bl b:=by obtain⟨b,_,rfl⟩:=qZ e;exact⟨_,rfl⟩
def Ul(x y d:D)(e:W2 x y=aa d):∃b,d=.bl b:=by obtain⟨b,_,rfl⟩:=qZ e;exact⟨_,rfl⟩
def Cq{neg:Bool}(x y d:D)(e:oO neg x y=aa d):∃b,d=.bl b:=by
 cases x<;>first|(cases e;done)|skip
 all_goals (cases y<;>first|(cases e;done)|skip)
 all_goals (obtain⟨b,_,rfl⟩:=qZ e;exact⟨_,rfl⟩)
def Uk(x y d:D)(e:XG x y=aa d):∃b,d=.bl b:=by
 unfold XG at e;split at e
 .cases e;exact⟨_,rfl⟩
 .cases e
def Kf(ha:b8 X a fa)(hb:b8 X b fb):vC X (.Compare a [.Lt] [b] pos) (tV (aC ltM fa fb)):=cT (Oz ha hb) (oV lG DM)
def Ke(ha:b8 X a fa)(hb:b8 X b fb):vC X (.Compare a [.LtE] [b] pos) (tV (aC leM fa fb)):=cT (Oy ha hb) (oV lG DM)
def zF(ha:b8 X a fa)(hb:b8 X b fb):vC X (.Compare a [.Gt] [b] pos) (tV (aC rN fa fb)):=cT (Ox ha hb) (oV lG DM)
def Aw(ha:b8 X a fa)(hb:b8 X b fb):vC X (.Compare a [.GtE] [b] pos) (tV (aC geM fa fb)):=cT (Ow ha hb) (oV lG DM)
def pP(ha:b8 X a fa)(hb:b8 X b fb):vC X (.Compare a [.Eq] [b] pos) (tV (aC gM fa fb)):=cT (W_ ha hb) (oV tells_eq Um)
def Kd(ha:b8 X a fa)(hb:b8 X b fb):vC X (.Compare a [.NotEq] [b] pos) (tV (aC W2 fa fb)):=cT (Wz ha hb) (oV VL Ul)
def Kc(ha:b8 X a fa)(hb:b8 X b fb)(hm:behindInMarks .In b=ag:=by with_unfolding_all rfl):vC X (.Compare a [.In] [b] pos) (tV (aC (oO ag) fa fb)):=cT (Ov ha hb hm) (oV x6 Cq)
def GB(ha:b8 X a fa)(hb:b8 X b fb)(hm:behindInMarks .NotIn b=ag:=by with_unfolding_all rfl):vC X (.Compare a [.NotIn] [b] pos) (tV (aC (oO ae) fa fb)):=cT (Wy ha hb hm) (oV x6 Cq)
def Kb(ha:b8 X a fa)(hb:b8 X b fb):vC X (.Compare a [.Is] [b] pos) (tV (aC XG fa fb)):=cT (Wx ha hb) (oV GA Uk)
end
section
variable{a b c:ar}{rest:List ar}{pos:bo}{fa fb:EF}{ta tb tc:TF}
def VM(ha:vC X a ta):vC X (.UnaryOp .Not a pos) (jC ta):=cT (Wu ha) λρ Q Ka=>by obtain⟨b,e,q⟩:=Ka;obtain⟨c,ec,rfl⟩:=qZ e;exact⟨c,ec,q⟩
def GC(ha:vC X a ta):JH X (.BoolOp .And [a] pos) ta:=Oo ha
def Au(ha:vC X a ta):JH X (.BoolOp .Or [a] pos) ta:=or1 ha
theorem GD(ha:vC X a ta)(hb:JH X (.BoolOp .And (b::rest) pos) tb):JH X (.BoolOp .And (a::b::rest) pos) (kD ta tb):=cW (Wa ha hb) λρ Q J_=>by
 obtain⟨d,e,q⟩:=J_;obtain⟨c,ec,e⟩:=bnd e;refine⟨c,ec,?_⟩
 cases c with
 |true=>rw[Z_ rfl] at e ⊢;exact⟨d,e,q⟩
 |false=>rw[Zz bt] at e ⊢;cases e;exact q
theorem As(ha:vC X a ta)(hb:JH X (.BoolOp .Or (b::rest) pos) tb):JH X (.BoolOp .Or (a::b::rest) pos) (yN ta tb):=cW (Ol ha hb) λρ Q Jz=>by
 obtain⟨d,e,q⟩:=Jz;obtain⟨c,ec,e⟩:=bnd e;refine⟨c,ec,?_⟩
 cases c with
 |true=>rw[Z_ rfl] at e ⊢;cases e;exact q
 |false=>rw[Zz bt] at e ⊢;exact⟨d,e,q⟩
def Z7{op}(ha:b8 X a fa):b8 X (.BoolOp op [a] pos) fa:=Pz ha
theorem OY(ha:b8 X a fa)(hb:b8 X (.BoolOp .And (b::rest) pos) fb):b8 X (.BoolOp .And (a::b::rest) pos) (jD fa fb):=cE (Py ha hb) λρ Q Lg=>by
 obtain⟨d,e,q⟩:=Lg;obtain⟨x,ex,e1⟩:=bnd e;obtain⟨c,ec,e⟩:=bnd e1
 clear e1
 refine⟨x,ex,?_⟩;cases x<;>first|cases ec;done|skip
 cases ec
 cases c with
 |true=>rw[Z_ rfl] at e;exact⟨d,e,q⟩
 |false=>rw[Zz bt] at e;cases e;exact q
def Lf(ha:b8 X a fa):b8 X (.UnaryOp .Not a pos) (yR fa):=cE (Pw ha) λρ Q Le=>by
 obtain⟨d,e,q⟩:=Le;obtain⟨x,ex,e⟩:=bnd e;obtain⟨c,ec,rfl⟩:=qZ e;refine⟨x,ex,?_⟩;cases x<;>first|cases ec;done|skip
 cases ec;exact q
theorem if4(hc:vC X c tc)(ha:b8 X a fa)(hb:b8 X b fb):b8 X (.IfExp c a b pos) (M0 tc fa fb):=cE (if3 hc ha hb) λρ Q Ld=>by
 obtain⟨d,e,q⟩:=Ld;obtain⟨c,ec,e⟩:=bnd e;refine⟨c,ec,?_⟩
 cases c with
 |true=>rw[Z_ rfl] at e ⊢;exact⟨d,e,q⟩
 |false=>rw[Zz bt] at e ⊢;exact⟨d,e,q⟩
def zG(ha:b8 X a fa):b8 X (.UnaryOp .USub a pos) (jE fa):=cE (Oj ha) λρ Q Lc=>by
 obtain⟨d,e,q⟩:=Lc;obtain⟨x,ex,e⟩:=bnd e;refine⟨x,ex,?_⟩;cases x<;>first|cases e;done|skip
 cases e;exact q
def DN{e:ar}{f:EF}(h:b8 X e f)(he:∀whole,isTrue e X.env whole=(do let v <- whole;standAt e.pos;holding [v] (truthy v)):=by intro _;rfl):vC X e (tV f) :=
 OG (T4 h he) λσ H Q Lb=>by
  obtain⟨S,ρ,Q3,fc,sl,⟨b,hb,q3⟩,k⟩:=Lb;obtain⟨d0,ed,et⟩:=bnd hb;refine⟨S,ρ,λd=>d=d0,fc,sl,⟨d0,ed,rfl⟩,λv H1 d s1 d1 q1=>?_⟩;subst q1
  cases d with
  |bl c=>cases et;simp only[Dn] at d1;subst d1;exact⟨_,rfl,k _ H1 s1 q3⟩
  |lst ds =>
   cases et;simp only[Dn] at d1;obtain⟨a,xs,rfl,ha,sa,da⟩:=d1;exact⟨_,.inl ⟨xs,eE.of ha,by rw[<- da.empty]⟩,k _ H1 s1 q3⟩
  |tup ds =>
   cases et;simp only[Dn] at d1;obtain⟨a,xs,rfl,ha,da⟩:=d1;exact⟨_,.inr (.inl ⟨xs,(fT.of ha),by rw[<- da.empty]⟩),k _ H1 s1 q3⟩
  |_=>cases et
end
end
section
variable{X:Cx}
def aM:A9 X [] aE:=cA Pl λ_ _ La=>by obtain⟨_,e,q⟩:=La;cases e;exact q
def aF(ha:b8 X e fe)(hr:A9 X es t)(hs:av (e::es) X.env=(ag,eval e X.env)::av es X.env:=by rfl):A9 X (e::es) (aA fe t):=cA (Xa ha hr hs) λρ Q K_=>by obtain⟨ds,e,q⟩:=K_;obtain⟨d,ed,e⟩:=bnd e;obtain⟨r,er,e⟩:=bnd e;cases e;exact⟨d,ed,r,er,q⟩
def m9{x1}(h:A9 X es t):b8 X (.Tuple es x1 pos) (dG t):=cE (Pe h) λρ Q Kz=>by obtain⟨d,e,q⟩:=Kz;obtain⟨ds,ed,e⟩:=bnd e;exact⟨ds,ed,szl (x:=D.tup ds) e q⟩
def mE(h:A9 X es t):kB X (.List es pos) (dC t):=cF (Pc h) λρ Q Ky=>by obtain⟨d,e,q⟩:=Ky;obtain⟨ds,ed,e⟩:=bnd e;exact⟨ds,ed,szl (x:=D.lst ds) e q⟩
noncomputable def VN:Tells ixF a9:=λx y d Q e q=>by
 cases x<;>first|(cases e;done)|skip
 all_goals (cases y<;>first|(cases e;done)|skip)
 .have e:uM _ _=aa d:=e;show(match uM _ _ with|some d=>Q d|none=>False);rw[e];exact q
 .have e:uM _ _=aa d:=e;show(match uM _ _ with|some d=>Q d|none=>False);rw[e];exact q
 .obtain ⟨n,e1,rfl⟩:=qZ e;have e1:uM _ _=aa n:=e1;show(match uM _ _ with|some n=>Q (.int n)|none=>False);rw[e1];exact q
def fA(ha:b8 X a fa)(hb:b8 X b fb)(hs:C9 b:=by intro _ _;rfl):b8 X (.Subscript a b pos) (aC a9 fa fb):=cE (ix3 ha hb hs) (g8 VN)
def OZ:Tells vn vK:=λx y d Q e q=>by
 cases x<;>first|cases e;done|skip
 rename_i ks ds;obtain⟨k,ek,e⟩:=bnd e;have ek:F6 y=aa k:=by cases y<;>first|exact ek|cases ek
 have e:j9 ks ds k=aa d:=e
 show(match D.jR ks ds,F6 y with
  |.jR ks ds,aa k=>(match j9 ks ds k with|some d=>Q d|none=>False)
  |_,_=>False)
 rw[ek];dsimp only;rw[e];exact q
def Ar(hu:X.A.units+1<cx)(ho:b8 X o fo)(hi:b8 X i fi)(hs:IU i:=by intro _ _;rfl):b8 X (.Subscript o i pos) (aC vK fo fi):=cE (Lw hu ho hi hs) (g8 OZ)
def nA(f:F1)(g:List D->Option D):Prop:=∀(ds:List D) (d:D) (Q:D->Prop),g ds=aa d->Q d->f ds Q
def GF(h:nA f g)(ρ:dJ)(Q:D->Prop)(w:wE (bI g t) ρ Q):OK f (wA t) ρ Q:=by obtain⟨d,e,q⟩:=w;obtain⟨ds,ed,e⟩:=bnd e;exact⟨ds,ed,h ds d Q e q⟩
theorem O0:nA xT aW:=λds d Q e q=>by
 cases ds with
 |nil=>cases e
 |cons a ds =>
  cases a<;>first|(cases e;done)|skip
  all_goals (cases ds<;>first|(cases e;exact q)|(cases e;done))
theorem GG:nA IX cB:=λds d Q e q=>by
 cases ds with
 |nil=>cases e
 |cons a ds =>
  cases a<;>first|(cases e;done)|skip
  all_goals (cases ds<;>first|(cases e;exact q)|(cases e;done))
theorem JI:nA U2 pX:=λds d Q e q=>by
 cases ds with
 |nil=>cases e
 |cons a ds =>
  cases a<;>first|(cases e;done)|skip
  all_goals (cases ds<;>first|(cases e;exact q)|(cases e;done))
def d6(hm:X.mg "len"=af)(ha:A9 X [e] t)(hg:Gl X "len":=by rfl)(he:av [e] X.env=(ag,eval e X.env)::av [] X.env:=by rfl):b8 X (.Call (.Name "len" p) [e] [] pos) (bI aW t):=cE (Oh hm ha hg he) (GF O0)
def jQ(hm:X.mg "tuple"=af)(ha:A9 X [e] t)(hg:Gl X "tuple":=by rfl)(he:av [e] X.env=(ag,eval e X.env)::av [] X.env:=by rfl):b8 X (.Call (.Name "tuple" p) [e] [] pos) (bI cB t):=cE (aCx hm Fq ha hg he) (GF GG)
def Cp(hm:X.mg "list"=af)(ha:A9 X [e] t)(hg:Gl X "list":=by rfl)(he:av [e] X.env=(ag,eval e X.env)::av [] X.env:=by rfl):kB X (.Call (.Name "list" p) [e] [] pos) (bI pX t):=cF (Vz hm a1L ha hg he) (GF JI)
theorem BA:∀ds:List D,L3.intsOf ds=L4.intsOf ds
 |[]=>rfl
 |d::ds=>by
  cases d<;>first|rfl|skip
  show(L3.intsOf ds).map _=(L4.intsOf ds).map _;rw[BA ds]
theorem pQ(a:Int):∀l:Q0e,(insI a l).Perm (a::l)
 |[]=>.refl _
 |b::l=>by
  unfold insI;split
  .exact .refl _
  .exact ((pQ a l).cons b).trans (.swap a b l)
theorem nB:∀l:Q0e,(sortI l).Perm l
 |[]=>.refl _
 |a::l=>(pQ a (sortI l)).trans ((nB l).cons a)
theorem rB(a:Int):∀l:Q0e,l.Pairwise (· <= ·)->(insI a l).Pairwise (· <= ·)
 |[],_=>by simp[insI]
 |b::l,h=>by
  unfold insI;split
  .rename_i hab;refine gq.mpr ⟨λc hc=>?_,h⟩;rcases bu.mp hc with e|e
   .subst e;exact hab
   .exact zp hab ((gq.mp h).1 c e)
  .rename_i hab;refine gq.mpr ⟨λc hc=>?_,rB a l (gq.mp h).2⟩;rcases bu.mp ((pQ a l).mem_iff.mp hc) with e|e
   .subst e;omega
   .exact (gq.mp h).1 c e
theorem kM:∀l:Q0e,(sortI l).Pairwise (· <= ·)
 |[]=>zj
 |a::l=>rB a _ (kM l)
theorem pR:∀{l m:Q0e},l.Perm m->l.Pairwise (· <= ·)->m.Pairwise (· <= ·)->l=m
 |[],m,p,_,_=>by rw[p.nil_eq]
 |a::l,[],p,_,_=>by have:=p.length_eq;simp at this
 |a::l,b::m,p,h1,h2=>by
  have e:a=b:=by
   have m1:=p.mem_iff.mp (b_ (a:=a) (l:=l));have m2:=p.mem_iff.mpr (b_ (a:=b) (l:=m));rcases bu.mp m1 with e|e
   .exact e
   .rcases bu.mp m2 with e2|e2
    .exact e2.symm
    .have:=(gq.mp h2).1 a e;have:=(gq.mp h1).1 b e2;omega
  subst e;rw[pR p.cons_inv (gq.mp h1).2 (gq.mp h2).2]
def DO:nA VA fZ:=λds d Q e q=>by
 unfold fZ at e;split at e
 .rename_i a;obtain⟨ns,e1,e⟩:=bnd e;by_cases hl:ns.length<64
  .rw [Z_ hl] at e;cases e;show(match L3.intsOf a with|some ns=>ns.length<64 /\∀ns':Q0e,ns'.Perm ns->ns'.Pairwise (· <= ·)->Q (.lst (ns'.map D.int))|none=>False);rw[BA,e1];refine⟨hl,λns' p s=>?_⟩;rw[pR (p.trans (nB ns).symm) s (kM ns)];exact q
  .rw [Zz hl] at e;cases e
 .cases e
def MM(hm:X.mg "sorted"=af)(ha:A9 X [e] t)(hg:Gl X "sorted":=by rfl)(he:av [e] X.env=(ag,eval e X.env)::av [] X.env:=by rfl):kB X (.Call (.Name "sorted" p) [e] [] pos) (bI fZ t):=cF (Z0 hm ha hg he) (GF DO)
def O1:nA sumF uI:=λds d Q e q=>by
 unfold uI at e;split at e
 .rename_i a;obtain⟨ns,e1,rfl⟩:=qZ e;have:=ints_of e1;subst this;rw[OU];exact q
 .cases e
def vz(hc:X.calm=ae)(hm:X.mg "sum"=af)(ha:A9 X [e] t)(hg:Gl X "sum":=by rfl)(he:av [e] X.env=(ag,eval e X.env)::av [] X.env:=by rfl):b8 X (.Call (.Name "sum" p) [e] [] pos) (bI uI t):=cE (Li hc hm ha hg he) (GF O1)
def aD3(T:String)(d:D):HA T d=isT T d:=by cases d<;>rfl
theorem GH(hT:JA T)(hm:X.mg "isinstance"=af)(hmT:X.mg x=af)(hv:bootBuiltins x=aa (.type T))(he:b8 X e f)(hg:Gl X "isinstance":=by rfl)(hgT:Gl X x:=by rfl)(hn:x ≠ "__name__":=by decide)(hdb:(x == ("__debug__":ak))=ag:=by decide)
  (hs:av [e,.Name x p2] X.env=(ag,eval e X.env)::av [.Name x p2] X.env:=by rfl) (hs2:av [.Name x p2] X.env=(ag,eval (.Name x p2) X.env)::av [] X.env:=by rfl) (hpl:(fq pos (av [.Name x p2] X.env)).any (·.1)=ag:=by rfl):
  b8 X (.Call (.Name "isinstance" p) [e,.Name x p2] [] pos) (jF T f):=cE (Lz hT hm hmT hv he hg hgT hn hdb hs hs2 hpl) λρ Q Jy=>by
 obtain⟨d,e,q⟩:=Jy;obtain⟨x,ex,e⟩:=bnd e;by_cases hx:HB x=ae
 .rw [Z_ hx] at e;cases e;exact⟨x,ex,(by cases x<;>first|trivial|cases hx),by show Q (.bl (isT T x));rw[<- aD3];exact q⟩
 .rw [Zz hx] at e;cases e
def eG(K:aq)(R:fY):Sp:=sp3 K λds Q=>∃d,R ds=.ok d/\Q d
inductive Cl (P:bh) (w:bb) (K:aq) (mg:Q0d) (base:bf) (CX:MC) (k:Nat) (x:ak) (ps:Q0g) (sp:Sp):Prop
 |mk {f:ah} {fd:gi} (F:lC P w K mg base CX k f fd ps sp) (m:mg x=aa (.ref f)) (kp:keepIn K (.ref f)=ae) (b:Binds K fd ps []):Cl P w K mg base CX k x ps sp
theorem Cl.up{P:bh}{w:bb}{K:aq}{mg:Q0d}{base:bf}{CX:MC}{j k:Nat}{x:ak}{ps:Q0g}{sp:Sp}(c:Cl P w K mg base CX j x ps sp)(h:j<=k:=by decide):Cl P w K mg base CX k x ps sp:=by obtain⟨F,m,q,b⟩:=c;exact⟨F.mono h,m,q,b⟩
inductive Df (K:aq) (mg:Q0d) (x:ak) (st:de) (ps:Q0g):Prop
 |mk {f:ah} {fd:gi} (a:Ey K ie x=aa (aa (.ref f))) (F:ZC K x x st f fd) (m:mg x=aa (.ref f)) (b:Binds K fd ps []):Df K mg x st ps
theorem aGS{K:aq}{mg:Q0d}{h:bf}{x:ak}{st:de}{ps:Q0g}{f:ah}{oc:ai}{od an:Option ah}{osl:Array (Option ai)}{kV doc pm cdv ct:ai}(X:K.In h)(G:h.Ns ie mg)
  (b:∀us:Q0f,us.length=ps.length->bindArgs (fnOf x x (qW st) (fJ st) (bF st) .none kV doc pm an cdv ct) ⟨us,[]⟩=pure (ps.zip us)) (a:Ey K ie x=aa (aa (.ref f)))
  (l:K.lookup f=aa ⟨oc,od,.func (fnOf x x (qW st) (fJ st) (bF st) .none kV doc pm an cdv ct),osl⟩) (c:codeIn K cdv x=ae) (k:keepIn K (.ref f)=ae):Df K mg x st ps:=⟨a,aCn l c k,PySem.W.mg_of X G a,.all b⟩
def u1{k:Nat}{A:bp}(r:fN k A):A.units+1<cx:=by have:=r.units;omega
def u2{k:Nat}{A:bp}(r:fN k A):A.units+2<cx:=by have:=r.units;omega
def u9{k:Nat}{A:bp}(r:fN k A):A.units+9<cx:=by have:=r.units;omega
theorem bM(C:Cl X.prog X.w X.K X.mg X.base dF k x ps (eG X.K R))(hr:fN k X.A)
  (ha:A9 X (e::es) t) (hg:Gl X x:=by rfl) (hdb:(x == ("__debug__":ak))=ag:=by decide) (he:av (e::es) X.env=(ag,eval e X.env)::av es X.env:=by rfl) (hpl:(fq pos (av es X.env)).any (·.1)=ag:=by rfl):
  b8 X (.Call (.Name x p) (e::es) [] pos) (aH R t):=by
 obtain⟨F,hm,hk,hb⟩:=C;refine cE (Vy F hr hm hk hb ha hg hdb he hpl) λρ Q Jx=>?_;obtain⟨d,e,q⟩:=Jx;obtain⟨ds,ed,e⟩:=bnd e;refine⟨ds,ed,d,?_,q⟩
 cases h:R ds with
 |ok d'=>rw[h] at e;cases e;rfl
 |no=>rw[h] at e;cases e
 |ex c=>rw[h] at e;cases e
def JJ(hc:X.calm=ae)(hm:X.mg "list"=af)(hmr:X.mg "range"=af)(ha:A9 X [a] t)(hg:Gl X "list":=by rfl)(hgr:Gl X "range":=by rfl)(hs:av [a] X.env=[(ag,eval a X.env)]:=by rfl)
  (he:av [.Call (.Name "range" p2) [a] [] pos2] X.env=(ag,eval (.Call (.Name "range" p2) [a] [] pos2) X.env)::av [] X.env:=by rfl):
  kB X (.Call (.Name "list" p) [.Call (.Name "range" p2) [a] [] pos2] [] pos) (HC t):=cF (JB hc hm hmr ha hg hgr hs he) λρ Q Jw=>by
 obtain⟨d,e,q⟩:=Jw;obtain⟨ds,ed,e⟩:=bnd e;refine⟨ds,ed,?_⟩;split at e
 .rename_i j;by_cases h:j.natAbs<=16777216
  .rw [Z_ h] at e;cases e;exact⟨⟨by omega,by omega⟩,q⟩
  .rw [Zz h] at e;cases e
 .cases e
section
variable{tg:ar}
def lH(h:b8 X l f):VJ X tg l (cC f):=cI (Vp h) λρ Q Jv=>by
 obtain⟨ds,e,q⟩:=Jv;obtain⟨d,ed,e⟩:=bnd e;refine⟨d,ed,?_⟩;cases d<;>first|cases e;done|skip
 all_goals (cases e;exact q)
def VO(h:aA fa aE ρ=aa as):∃a,fa ρ=aa a/\as=[a]:=by obtain⟨a,ea,e⟩:=bnd h;cases e;exact⟨a,ea,rfl⟩
def aD4(h:aA fa (aA fb aE) ρ=aa as):∃a b,fa ρ=aa a/\fb ρ=aa b/\as=[a,b]:=by obtain⟨a,ea,e⟩:=bnd h;obtain⟨r,er,e⟩:=bnd e;obtain⟨b,eb,rfl⟩:=VO er;cases e;exact⟨a,b,ea,eb,rfl⟩
def dB(hm:X.mg "range"=af)(ha:b8 X a fa)(hg:Gl X "range":=by rfl)(hs:av [a] X.env=[(ag,eval a X.env)]:=by rfl):VJ X tg (.Call (.Name "range" p) [a] [] pos) (aR (aA fa aE)):=cI (Zf hm (aF ha aM hs) hg hs) λρ Q Ju=>by
 obtain⟨ds,e,q⟩:=Ju;obtain⟨as,ea,e⟩:=bnd e;refine⟨as,ea,?_⟩;obtain⟨a,ha',rfl⟩:=VO ea
 clear ea ha'
 cases a<;>first|cases e;done|skip
 rename_i j;by_cases h:j.natAbs<4611686018427387904
 .have e:(if j.natAbs<4611686018427387904 then aa ((aY 0 j.toNat).map D.int) else af)=aa ds:=e;rw[Z_ h] at e;cases e;exact⟨⟨by omega,by omega⟩,q⟩
 .have e:(if j.natAbs<4611686018427387904 then aa ((aY 0 j.toNat).map D.int) else af)=aa ds:=e;rw[Zz h] at e;cases e
def Z8(hm:X.mg "range"=af)(ha:b8 X a fa)(hb:b8 X b fb)(hg:Gl X "range":=by rfl)(hs:av [a,b] X.env=[(ag,eval a X.env),(ag,eval b X.env)]:=by rfl)(hs2:av [b] X.env=[(ag,eval b X.env)]:=by rfl):
  VJ X tg (.Call (.Name "range" p) [a,b] [] pos) (aR (aA fa (aA fb aE))):=cI (ZS hm (aF ha (aF hb aM hs2) (by rw[hs,hs2])) hg hs hs2) λρ Q Jt=>by
 obtain⟨ds,e,q⟩:=Jt;obtain⟨as,ea,e⟩:=bnd e;refine⟨as,ea,?_⟩;obtain⟨a,b,ha',hb',rfl⟩:=aD4 ea
 clear ea ha' hb'
 cases a<;>first|(cases e;done)|skip
 all_goals (cases b<;>first|(cases e;done)|skip)
 rename_i i j;by_cases h:i.natAbs<4611686018427387904/\j.natAbs<4611686018427387904
 .have e:(if i.natAbs<4611686018427387904/\j.natAbs<4611686018427387904 then aa ((aY i (j-i).toNat).map D.int) else af)=aa ds:=e;rw[Z_ h] at e;cases e;exact⟨⟨by omega,by omega,by omega,by omega⟩,q⟩
 .have e:(if i.natAbs<4611686018427387904/\j.natAbs<4611686018427387904 then aa ((aY i (j-i).toNat).map D.int) else af)=aa ds:=e;rw[Zz h] at e;cases e
end
def JK(hm:X.mg "enumerate"=af)(ha:A9 X [a] t)(hg:Gl X "enumerate":=by rfl)(hs:av [a] X.env=[(ag,eval a X.env)]:=by rfl):VJ X (.Tuple es kk tp) (.Call (.Name "enumerate" p) [a] [] pos) (pZ t):=cI (JG hm ha hg hs) λρ Q Js=>by obtain⟨ds,e,q⟩:=Js;obtain⟨as,ea,e⟩:=bnd e;refine⟨as,ea,?_⟩;unfold KG at e;split at e<;>first|(cases e;exact q)|cases e
theorem x8:∀(ds acc ys:List D) (Q:D->Prop),jG g t e ρ ds=aa ys->acc.length+ds.length<=bg->Q (.lst (acc++ys))->qY (vf g) (wT t) (wE e) ρ ds acc Q
 |[],acc,ys,Q,h,_,q=>by cases h;rw[qY];simpa using q
 |d::ds,acc,ys,Q,h,hl,q=>by
  rw[qY];obtain⟨ρ1,e1,h⟩:=bnd h;obtain⟨b,e2,h⟩:=bnd h;simp only[bx] at hl;refine⟨ρ1,e1,b,e2,?_⟩
  cases b with
  |true =>
   rw[Z_ rfl] at h ⊢;obtain⟨y,e3,h⟩:=bnd h;obtain⟨zs,e4,rfl⟩:=qZ h;exact⟨y,e3,by omega,x8 ds (acc++[y]) zs Q e4 (by simp;omega) (by simpa using q)⟩
  |false =>
   rw[Zz bt] at h ⊢;exact x8 ds acc ys Q h (by omega) q
def DP(ρ:dJ)(Q:D->Prop)(w:wE (bJ nl fr it g t e) ρ Q):A6 nl fr (wI it) (vf g) (wT t) (wE e) ρ Q:=by
 obtain⟨d,h,q⟩:=w;obtain⟨ds,e1,h⟩:=bnd h;refine⟨ds,e1,?_⟩;by_cases hl:ds.length<=oN
 .rw [Z_ hl] at h;obtain⟨ys,e2,rfl⟩:=qZ h;exact x8 ds [] ys Q e2 (by rw[gx,fg,qv];exact hl) (by simpa using q)
 .rw [Zz hl] at h;cases h
abbrev O2(X:Cx)(nl:Nat)(tg:ar)(g:GEF):Prop:=ZX X nl tg (vf g)
abbrev O4(X:Cx)(ifs:List ar)(t:TF):Prop:=IZ X ifs (wT t)
def cG(h:ZX X nl tg g)(c:∀d ρ Q,g' d ρ Q->g d ρ Q):ZX X nl tg g':=OM h λ_ _ _ _ Jr=>by obtain⟨S,ρ,d,Q3,hl,fc,sl,dn,hg,k⟩:=Jr;exact⟨S,ρ,d,Q3,hl,fc,sl,dn,c d ρ Q3 hg,k⟩
def gY(nd:X.N.Nodup)(hil:i<nl)(hi:X.N[i]?=aa x:=by rfl)(hx:Loc X.env.scope x:=by first|exact .inl rfl|exact .inr rfl)(hfx:X.fn x=ae\/X.env.scope.names.lookup x=aa .local:=by first|exact .inr rfl|exact .inl rfl):O2 X nl (.Name x pos) (g1 i):=cG (Vl nd hil hi hx hfx) λd ρ Q Jq=>by obtain⟨ρ',e,q⟩:=Jq;cases e;exact q
theorem MN(h:zL d=aa p):d=.tup [p.1,p.2]:=by
 cases d<;>first|(cases h;done)|skip
 rename_i l
 cases l with
 |nil=>cases h
 |cons a l =>
  cases l with
  |nil=>cases h
  |cons b l =>
   cases l with
   |nil=>cases h;rfl
   |cons c l=>cases h
def JL(hc:X.calm=ae)(nd:X.N.Nodup)(hil:i<nl)(hjl:j<nl)(hi:X.N[i]?=aa x:=by rfl)(hj:X.N[j]?=aa y:=by rfl)(hx:Loc X.env.scope x:=by first|exact .inl rfl|exact .inr rfl)(hfx:X.fn x=ae\/X.env.scope.names.lookup x=aa .local:=by first|exact .inr rfl|exact .inl rfl)(hy:Loc X.env.scope y:=by first|exact .inl rfl|exact .inr rfl)(hfy:X.fn y=ae\/X.env.scope.names.lookup y=aa .local:=by first|exact .inr rfl|exact .inl rfl)
  (hn:(ee [.Name x px,.Name y py] X.env).length=2:=by rfl) (hst:(ee [.Name x px,.Name y py] X.env).findIdx? (·.1)=af:=by rfl)
  (hs1:(ee [.Name x px,.Name y py] X.env).map (·.2)=assign (.Name x px) X.env::(ee [.Name y py] X.env).map (·.2):=by rfl) (hs2:(ee [.Name y py] X.env).map (·.2)=assign (.Name y py) X.env::(ee [] X.env).map (·.2):=by rfl):
  O2 X nl (.Tuple [.Name x px,.Name y py] kk pos) (g2 i j):=cG (Vk hc nd hil hjl hi hj hx hfx hy hfy hn hst hs1 hs2) λd ρ Q Jp=>by
 obtain⟨ρ',e,q⟩:=Jp;obtain⟨p,ep,rfl⟩:=qZ e;rw[MN ep];exact q
def rC:O4 X [] cM:=λpins s σ H Q I Jo=>by obtain⟨S,ρ,Q3,fc,sl,⟨_,e,q⟩,k⟩:=Jo;cases e;exact Nc pins s σ H Q I ⟨S,ρ,Q3,fc,sl,q,k⟩
def nD(h:vC X c t):O4 X [c] t:=Vh h
section
variable{ls fs:Q0g}{fr:List Nat}{sc:gf}{tg iter elt:ar}{ifs:List ar}{pos:bo}{it:AF}{g:GEF}{t:TF}{e:EF}
theorem kC(hc:X.calm=ae)(hi:VJ X tg iter it)
  (hg:∀cl C pn ex s H,(blk X (ls++fs) sc cl C pn ex s H).N.Nodup->O2 (blk X (ls++fs) sc cl C pn ex s H) ls.length tg g) (hf:∀cl C pn ex s H,O4 (blk X (ls++fs) sc cl C pn ex s H) ifs t) (he:∀cl C pn ex s H,b8 (blk X (ls++fs) sc cl C pn ex s H) elt e)
  (B:XB X.env.scope.names sc X.N ls fs fr=ae:=by rfl) (hs:∀x,foldedSetIterable iter X.env x=pure x:=by intro _;rfl):kB X (.ListComp elt [⟨tg,iter,ifs,0⟩] sc pos) (bJ ls.length fr it g t e):=cF (Vg hc hi hg hf he B hs) DP
variable{i:Nat}{x:ak}{spos pos':bo}
theorem VP(nd:X.N.Nodup)(hc:X.calm=ae)(hi:VJ X tg iter it)
  (hg:∀cl C pn ex s H,(blk X (ls++fs) sc cl C pn ex s H).N.Nodup->O2 (blk X (ls++fs) sc cl C pn ex s H) ls.length tg g) (hf:∀cl C pn ex s H,O4 (blk X (ls++fs) sc cl C pn ex s H) ifs t) (he:∀cl C pn ex s H,b8 (blk X (ls++fs) sc cl C pn ex s H) elt e)
  (hx0:X.N[i]?=aa x:=by rfl) (hx:X.env.scope.names.lookup x=aa .local:=by rfl) (hsw:fj (.ListComp elt [⟨tg,iter,ifs,0⟩] sc pos) (aa (.Name x pos')) spos.line X.env=pure ae:=by rfl)
  (B:XB X.env.scope.names sc X.N ls fs fr=ae:=by rfl) (hs:∀x,foldedSetIterable iter X.env x=pure x:=by intro _;rfl):pV X (.Assign [.Name x pos'] (.ListComp elt [⟨tg,iter,ifs,0⟩] sc pos) spos) (fG i (bJ ls.length fr it g t e)) :=
 cS (U8 nd hc hi hg hf he hx0 hx hsw B hs) λE ρ w=>by
  unfold wS fG at w;unfold vw
  cases h:bJ ls.length fr it g t e (gJ ρ) with
  |none=>rw[h] at w;exact w.elim
  |some d=>rw[h] at w;exact DP _ _ ⟨d,h,w⟩
theorem O5(nd:X.N.Nodup)(hc:X.calm=ae)(hi:VJ X tg iter it)
  (hg:∀cl C pn ex s H,(blk X (ls++fs) sc cl C pn ex s H).N.Nodup->O2 (blk X (ls++fs) sc cl C pn ex s H) ls.length tg g) (hf:∀cl C pn ex s H,O4 (blk X (ls++fs) sc cl C pn ex s H) ifs t) (he:∀cl C pn ex s H,b8 (blk X (ls++fs) sc cl C pn ex s H) elt e)
  (hx0:X.N[i]?=aa x:=by rfl) (hx:X.env.scope.names.lookup x=aa .local:=by rfl) (hsw:fj (.ListComp elt [⟨tg,iter,ifs,0⟩] sc pos) (aa (.Name x pos')) spos.line X.env=pure ae:=by rfl)
  (B:XB X.env.scope.names sc X.N ls fs fr=ae:=by rfl) (hs:∀x,foldedSetIterable iter X.env x=pure x:=by intro _;rfl):pV X (.Assign [.Name x pos'] (.ListComp elt [⟨tg,iter,ifs,0⟩] sc pos) spos) (aN i (bJ ls.length fr it g t e)) :=
 cS (OO nd hc hi hg hf he hx0 hx hsw B hs) λE ρ w=>by
  unfold wS aN at w;unfold vx
  cases h:bJ ls.length fr it g t e (gJ ρ) with
  |none=>rw[h] at w;exact w.elim
  |some d=>rw[h] at w;exact DP _ _ ⟨d,h,w⟩
end
end
section
variable{X:Cx}
def cO(h:PO3 X e t)(c:∀ρ Q,t' ρ Q->t ρ Q):PO3 X e t':=λpins s σ H Q I Uj=>by obtain⟨S,ρ,Q3,fc,sl,ht,k⟩:=Uj;exact h pins s σ H Q I ⟨S,ρ,Q3,fc,sl,c ρ Q3 ht,k⟩
def no4:PO4 X af KH:=cO Lh λ_ _ Ui=>by obtain⟨_,e,q⟩:=Ui;cases e;exact q
def po4(h:b8 X e f):PO4 X (aa e) (oE f):=cO (po3 h) λρ Q Uh=>by
 obtain⟨o,e,q⟩:=Uh;obtain⟨d,ed,e⟩:=bnd e;obtain⟨i,ei,rfl⟩:=qZ e;refine⟨d,ed,?_⟩;cases d<;>first|cases ei;done|skip
 cases ei;exact q
def sl4{e:ar}{lo hi:Option ar}{p2 pos:bo}{f:EF}{fl fh:OF}(he:b8 X e f)(hl:PO4 X lo fl)(hh:PO4 X hi fh):b8 X (.Subscript e (.Slice lo hi af p2) pos) (DW f fl fh):=cE (sl3 he hl hh) λρ Q Ug=>by
 obtain⟨r,e,q⟩:=Ug;obtain⟨d,ed,e⟩:=bnd e;obtain⟨l,el,e⟩:=bnd e;obtain⟨h,eh,e⟩:=bnd e;refine⟨d,ed,l,el,h,eh,?_⟩;cases d<;>first|cases e;done|skip
 all_goals (cases e;exact q)
def px4(h:b8 X e f):OV X e (dZ f):=cX (px3 h) λρ Q Ue=>by
 obtain⟨p,e,q⟩:=Ue;obtain⟨d,ed,e⟩:=bnd e;refine⟨d,ed,?_⟩;by_cases hi:d.tT=ae
 .rw [Z_ hi] at e;cases e;exact⟨hi,q⟩
 .rw [Zz hi] at e;cases e
def tM(h:b8 X e f):OV X e (bG f):=cX (Nm h) λρ Q Ud=>by obtain⟨p,e,q⟩:=Ud;obtain⟨d,ed,e⟩:=bnd e;cases e;exact⟨d,ed,q⟩
def DQ(h:mH o=aa ds):o=aa (.ow (.lst ds)):=by
 unfold mH at h;split at h
 .cases h;rfl
 .cases h
def JM(f:List D->D->(List D->D->Prop)->Prop)(m:List D->D->Option (List D×D)):Prop:=∀ds d q (Q:List D->D->Prop),m ds d=aa q->Q q.1 q.2->f ds d Q
def Az(h:JM f m)(ρ:bV)(Q:bV->D->Prop)(w:wX (kR i m x) ρ Q):qe i f (wX x) ρ Q:=by obtain⟨r,e,q⟩:=w;obtain⟨ds0,e0,e⟩:=bnd e;obtain⟨p,ep,e⟩:=bnd e;obtain⟨ds,e1,e⟩:=bnd e;obtain⟨z,ez,rfl⟩:=qZ e;have o0:=DQ e0;have o1:=DQ e1;refine⟨by rw[o0];trivial,p,ep,?_⟩;show(match p.1[i]? with|some (.ow (.lst ds))=>f ds p.2 λds' r=>Q (p.1.set i (.ow (.lst ds'))) r|_=>False);rw[o1];exact h ds p.2 z _ ez q
def O6:JM vv eQ:=λds d q Q e k=>by
 unfold eQ at e;by_cases h:ds.length<oN
 .rw [Z_ h] at e;cases e;exact⟨by rw[gx];exact h,k⟩
 .rw [Zz h] at e;cases e
noncomputable def O7:JM vt XH:=λds d q Q e k=>by
 cases d<;>first|cases e;done|skip
 rename_i i;have e:(if i.natAbs<9223372036854775808 then(G5 ds.length i).bind λj=>(ds[j]?).map λd=>(ds.eraseIdx j,d) else af)=aa q:=e;by_cases h:i.natAbs<9223372036854775808
 .rw [Z_ h] at e;obtain⟨j,ej,e⟩:=bnd e;obtain⟨d,ed,rfl⟩:=qZ e;have ej:N7 ds.length i=aa j:=ej;refine⟨⟨by omega,by omega⟩,?_⟩;show(match N7 ds.length i with|some j=>(match ds[j]? with|some d=>Q (ds.eraseIdx j) d|none=>False)|none=>False);rw[ej];dsimp only;rw[ed];exact k
 .rw [Zz h] at e;cases e
section
variable{i:Nat}{x:ak}{e:ar}{p apos cpos:bo}{f:XF}
def x9(he:OV X e f)(hN:X.N[i]?=aa x:=by rfl)(hv:AN X.env.scope x:=by first|exact d_ rfl|exact cc (d_ rfl)|exact cc (cc rfl))(hd:(x == ("__debug__":ak))=ag:=by decide)(hcd:(x == ("__classdict__":ak))=ag:=by decide)
  (hbase:attributeBase (.Name x p) "append" X.env (eval (.Name x p) X.env)=eval (.Name x p) X.env:=by rfl)
  (hfew:((fq cpos (av [e] X.env)).all (λx=>!x.1)&&(backToKw cpos (mn [] X.env)).all (λx=>x.1.isSome)
   && Zv ([e].length+([]:List iw).length+(if([]:List iw).isEmpty then 0 else 1)<30))=ae:=by rfl)
  (hline:(apos.endLine == cpos.line)=ae:=by rfl) (hs:av [e] X.env=(ag,eval e X.env)::av [] X.env:=by rfl):
  OV X (.Call (.Attribute (.Name x p) "append" apos) [e] [] cpos) (kR i eQ f):=cX (My he hN hv hd hcd hbase hfew hline hs) (Az O6)
def Jn(he:OV X e f)(hN:X.N[i]?=aa x:=by rfl)(hv:AN X.env.scope x:=by first|exact d_ rfl|exact cc (d_ rfl)|exact cc (cc rfl))(hd:(x == ("__debug__":ak))=ag:=by decide)(hcd:(x == ("__classdict__":ak))=ag:=by decide)
  (hbase:attributeBase (.Name x p) "pop" X.env (eval (.Name x p) X.env)=eval (.Name x p) X.env:=by rfl)
  (hfew:((fq cpos (av [e] X.env)).all (λx=>!x.1)&&(backToKw cpos (mn [] X.env)).all (λx=>x.1.isSome)
   && Zv ([e].length+([]:List iw).length+(if([]:List iw).isEmpty then 0 else 1)<30))=ae:=by rfl)
  (hline:(apos.endLine == cpos.line)=ae:=by rfl) (hs:av [e] X.env=(ag,eval e X.env)::av [] X.env:=by rfl):
  OV X (.Call (.Attribute (.Name x p) "pop" apos) [e] [] cpos) (kR i XH f):=cX (Mx he hN hv hd hcd hbase hfew hline hs) (Az O7)
def Vf(hN:X.N[i]?=aa x:=by rfl)(hv:AN X.env.scope x:=by first|exact d_ rfl|exact cc (d_ rfl)|exact cc (cc rfl))(hd:(x == ("__debug__":ak))=ag:=by decide)(hcd:(x == ("__classdict__":ak))=ag:=by decide)
  (hbase:attributeBase (.Name x p) "pop" X.env (eval (.Name x p) X.env)=eval (.Name x p) X.env:=by rfl) (hline:(apos.endLine == cpos.line)=ae:=by rfl):
  OV X (.Call (.Attribute (.Name x p) "pop" apos) [] [] cpos) (zM i):=cX (Uu hN hv hd hcd hbase hline) λρ Q Ve=>by
 obtain⟨r,e,q⟩:=Ve;obtain⟨ds,ed,e⟩:=bnd e;obtain⟨d,e1,rfl⟩:=qZ e;have o:=DQ ed;show(match ρ[i]? with|some (.ow (.lst ds))=>(match ds[ds.length-1]? with|some d=>Q (ρ.set i (.ow (.lst ds.dropLast))) d|none=>False)|_=>False);rw[o];dsimp only;rw[e1];exact q
end
def g6:tL X [] cJ:=Ak Of λ_ _ w=>w
theorem Vd(E:DE)(ρ:bV)(w:wS (aI f g) E ρ):vy (wS f) (wS g) E ρ:=by
 unfold wS aI at w;unfold vy wS
 cases h:f ρ with
 |nx ρ'=>rw[h] at w;exact w
 |rt d=>rw[h] at w;exact w
 |no=>rw[h] at w;exact w
 |ex c=>rw[h] at w;exact w
def a8{st:de}{rest:List de}{f g:SF}(h1:pV X st f)(h2:tL X rest g):tL X (st::rest) (aI f g):=Ak (Od h1 h2) Vd
def aT{st:de}{f:SF}(h1:pV X st f):tL X [st] f:=Vw h1
theorem eB(h:b8 X e f):pV X (.Return (aa e) pos) (bB f):=cS (Oa h) λE ρ w=>by
 unfold wS bB at w
 cases h:f (bW ρ) with
 |none=>rw[h] at w;exact w.elim
 |some d=>rw[h] at w;exact⟨d,h,w⟩
theorem fV(hc:vC X c t)(ha:tL X a f)(hb:tL X b g):pV X (.If c a b pos) (eO t f g):=cS (Ny hc ha hb) λE ρ w=>by
 unfold wS eO at w
 cases h:t (bW ρ) with
 |none=>rw[h] at w;exact w.elim
 |some c =>
  rw[h] at w;refine⟨c,h,?_⟩
  cases c with
  |true=>rw[Z_ rfl];exact w
  |false=>rw[Zz bt];exact w
section
variable{i:Nat}{x:ak}{e:ar}{f:EF}{pos pos':bo}
theorem dA(hN:X.N.Nodup)(he:b8 X e f)(hi:X.N[i]?=aa x:=by rfl)(hx:Loc X.env.scope x:=by first|exact .inl rfl|exact .inr rfl)(hs:fj e (aa (.Name x pos')) pos.line X.env=pure ag:=by rfl)(hf:X.fn x=ae\/X.env.scope.names.lookup x=aa .local:=by first|exact .inl rfl|exact .inr rfl):
  pV X (.Assign [.Name x pos'] e pos) (aN i f):=cS (Nv hN he hi hx hs hf) λE ρ w=>by
 unfold wS aN at w
 cases h:f (gJ ρ) with
 |none=>rw[h] at w;exact w.elim
 |some d=>rw[h] at w;exact⟨d,h,w⟩
theorem zH(hN:X.N.Nodup)(he:kB X e f)(hi:X.N[i]?=aa x:=by rfl)(hx:Loc X.env.scope x:=by first|exact .inl rfl|exact .inr rfl)(hs:fj e (aa (.Name x pos')) pos.line X.env=pure ag:=by rfl)(hf:X.fn x=ae\/X.env.scope.names.lookup x=aa .local:=by first|exact .inl rfl|exact .inr rfl):
  pV X (.Assign [.Name x pos'] e pos) (fG i f):=cS (Nt hN he hi hx hs hf) λE ρ w=>by
 unfold wS fG at w
 cases h:f (gJ ρ) with
 |none=>rw[h] at w;exact w.elim
 |some d=>rw[h] at w;exact⟨d,h,w⟩
theorem Co(hN:X.N.Nodup)(he:kB X e f)(hi:X.N[i]?=aa x:=by rfl)(hx:Loc X.env.scope x:=by first|exact .inl rfl|exact .inr rfl)(hs:fj e (aa (.Name x pos')) pos.line X.env=pure ag:=by rfl)(hf:X.fn x=ae\/X.env.scope.names.lookup x=aa .local:=by first|exact .inl rfl|exact .inr rfl):
  pV X (.Assign [.Name x pos'] e pos) (jH i f):=cS (Uv hN he hi hx hs hf) λE ρ w=>by
 unfold wS jH at w
 cases h:f (bW ρ) with
 |none=>rw[h] at w;exact w.elim
 |some d =>
  rw[h] at w;dsimp only at w;by_cases hl:oZ d=ae
  .rw [Z_ hl] at w;refine⟨d,h,?_,w⟩;cases d<;>first|exact hl|cases hl
  .rw [Zz hl] at w;exact w.elim
theorem Vc{f:XF}(hN:X.N.Nodup)(he:OV X e f)(hi:X.N[i]?=aa x:=by rfl)(hx:Loc X.env.scope x:=by first|exact .inl rfl|exact .inr rfl)(hs:fj e (aa (.Name x pos')) pos.line X.env=pure ag:=by rfl)(hf:X.fn x=ae\/X.env.scope.names.lookup x=aa .local:=by first|exact .inl rfl|exact .inr rfl):
  pV X (.Assign [.Name x pos'] e pos) (oP i f):=cS (Vt hN he hi hx hs hf) λE ρ w=>by
 unfold wS oP at w
 cases h:f ρ with
 |none=>rw[h] at w;exact w.elim
 |some d=>rw[h] at w;exact⟨d,h,w⟩
def VQ(hN:X.N.Nodup)(hi:X.N[i]?=aa x:=by rfl)(hx:Loc X.env.scope x:=by first|exact .inl rfl|exact .inr rfl)(hs:fj (.Dict [] [] p) (aa (.Name x pos')) pos.line X.env=pure ag:=by rfl)(hf:X.fn x=ae\/X.env.scope.names.lookup x=aa .local:=by first|exact .inl rfl|exact .inr rfl):
  pV X (.Assign [.Name x pos'] (.Dict [] [] p) pos) (EA i):=cS (VB hN hi hx hs hf) λE ρ w=>w
end
theorem mC(he:OV X e f)(hs:fj e af pos.line X.env=pure ag:=by rfl):pV X (.Expr e pos) (sX f):=cS (Vr he hs) λE ρ w=>by
 unfold wS sX at w
 cases h:f ρ with
 |none=>rw[h] at w;exact w.elim
 |some d=>rw[h] at w;exact⟨d,h,w⟩
theorem Jm(he:OV X e f)(hk:b8 X k fk)
  (hN:X.N[i]?=aa x:=by rfl) (hv:AN X.env.scope x:=by first|exact d_ rfl|exact cc (d_ rfl)|exact cc (cc rfl)) (hd:(x == ("__debug__":ak))=ag:=by decide) (hcd:(x == ("__classdict__":ak))=ag:=by decide)
  (ha:∀v,assign (.Subscript (.Name x p) k pos') X.env v=(do
   let ov <- holding [v] (eval (.Name x p) X.env)
   let iv <- holding [v,ov] (eval k X.env)
   standAt pos'
   holding [v,ov,iv] (setItem ov iv v)
   release [v,ov,iv] []):=by intro _;rfl)
  (hs:swapsWithSole [.Subscript (.Name x p) k pos'] e pos.line X.env=pure ag:=by rfl) (hw:swappedStores [.Subscript (.Name x p) k pos'] e X.env=pure af:=by rfl)
  (h1:(ee [.Subscript (.Name x p) k pos'] X.env).map (·.2)=[assign (.Subscript (.Name x p) k pos') X.env]:=by rfl):
  pV X (.Assign [.Subscript (.Name x p) k pos'] e pos) (M5 i f fk):=cS (put3 he hk hN hv hd hcd ha hs hw h1) λE ρ w=>by
 unfold wS M5 at w
 cases h:((f ρ).bind λp=>(mH p.1[i]?).bind λds=>(fk (bW p.1)).bind λkd=>(asInt kd).bind λkk=>(G5 ds.length kk).map λj=>p.1.set i (.ow (.lst (ds.set j p.2)))) with
 |none=>rw[h] at w;exact w.elim
 |some ρ' =>
  rw[h] at w;obtain⟨q,eq,h⟩:=bnd h;obtain⟨ds,ed,h⟩:=bnd h;obtain⟨kd,ek,h⟩:=bnd h;obtain⟨kk,e2,h⟩:=bnd h;obtain⟨j,ej,rfl⟩:=qZ h;have o:=DQ ed;refine⟨q,eq,by unfold vp;rw[o];trivial,kd,ek,?_⟩;cases kd<;>first|cases e2;done|skip
  cases e2;have ej:N7 ds.length kk=aa j:=ej
  show(match q.1[i]?,D.int kk with
   |some (.ow (.lst ds)),.int k=>(match N7 ds.length k with|some j=>E.nx (q.1.set i (.ow (.lst (ds.set j q.2))))|none=>False)
   |_,_=>False)
  rw[o];dsimp only;rw[ej];exact w
def O8(h:vM o=aa p):o=aa (.ow (.jR p.1 p.2)):=by
 unfold vM at h;split at h
 .cases h;rfl
 .cases h
theorem Vb(hu:X.A.units+1<cx)(he:OV X e f)(hk:b8 X k fk)
  (hN:X.N[i]?=aa x:=by rfl) (hv:AN X.env.scope x:=by first|exact d_ rfl|exact cc (d_ rfl)|exact cc (cc rfl)) (hd:(x == ("__debug__":ak))=ag:=by decide) (hcd:(x == ("__classdict__":ak))=ag:=by decide)
  (hs:fj e (aa (.Subscript (.Name x p) k pos')) pos.line X.env=pure ag:=by rfl):
  pV X (.Assign [.Subscript (.Name x p) k pos'] e pos) (KI i f fk):=cS (Uw hu he hk hN hv hd hcd hs) λE ρ w=>by
 unfold wS KI at w;cases h:((f ρ).bind λp=>(vM p.1[i]?).bind λkd=>(fk (bW p.1)).bind λkv=>(vJ kv).bind λkk =>
  if(jV kd.1 kd.2 kk).isNone=ae/\kd.2.length<oN then aa (p.1.set i (.ow (.jR (kd.1++[kk]) (kd.2++[p.2])))) else af) with
 |none=>rw[h] at w;exact w.elim
 |some ρ' =>
  rw[h] at w;obtain⟨q,eq,h⟩:=bnd h;obtain⟨kd,ed,h⟩:=bnd h;obtain⟨kv,ek,h⟩:=bnd h;obtain⟨kk,e2,h⟩:=bnd h;have o:=O8 ed;by_cases hc:(jV kd.1 kd.2 kk).isNone=ae/\kd.2.length<oN
  .rw [Z_ hc] at h;cases h;refine⟨q,eq,by rw[o];trivial,kv,ek,?_⟩;have e3:F6 kv=aa kk:=by cases kv<;>first|exact e2|cases e2
   show(match q.1[i]?,F6 kv with
    |some (.ow (.jR ks ds)),aa k=>(j9 ks ds k=af/\ds.length<bg)/\E.nx (q.1.set i (.ow (.jR (ks++[k]) (ds++[q.2]))))
    |_,_=>False)
   rw[o,e3];refine⟨⟨?_,by rw[gx];exact hc.2⟩,w⟩;have:=hc.1
   cases hl:jV kd.1 kd.2 kk with
   |none=>exact hl
   |some d=>rw[hl] at this;cases this
  .rw [Zz hc] at h;cases h
def Al(h:ZT X tg g)(c:∀d ρ Q,g' d ρ Q->g d ρ Q):ZT X tg g':=OM h λ_ _ _ _ Va=>by obtain⟨H₀,S,w,ρ,G,d,Q3,hl,st,dn,hg,k⟩:=Va;exact⟨H₀,S,w,ρ,G,d,Q3,hl,st,dn,c d ρ Q3 hg,k⟩
def hJ(hN:X.N.Nodup)(hi:X.N[i]?=aa x:=by rfl)(hx:Loc X.env.scope x:=by first|exact .inl rfl|exact .inr rfl)(hf:X.fn x=ae\/X.env.scope.names.lookup x=aa .local:=by first|exact .inl rfl|exact .inr rfl):ZT X (.Name x pos) (wG (gK i)) :=
 Al (Vn hN hi hx hf) λd ρ Q U_=>by obtain⟨ρ',e,q⟩:=U_;cases e;exact q
def GI(hc:X.calm=ae)(hN:X.N.Nodup)(hi:X.N[i]?=aa x:=by rfl)(hj:X.N[j]?=aa y:=by rfl)(hx:Loc X.env.scope x:=by first|exact .inl rfl|exact .inr rfl)(hy:Loc X.env.scope y:=by first|exact .inl rfl|exact .inr rfl)
  (hf:X.fn x=ae\/X.env.scope.names.lookup x=aa .local:=by first|exact .inl rfl|exact .inr rfl) (hf2:X.fn y=ae\/X.env.scope.names.lookup y=aa .local:=by first|exact .inl rfl|exact .inr rfl)
  (hn:(ee [.Name x px,.Name y py] X.env).length=2:=by rfl) (hst:(ee [.Name x px,.Name y py] X.env).findIdx? (·.1)=af:=by rfl)
  (hs1:(ee [.Name x px,.Name y py] X.env).map (·.2)=assign (.Name x px) X.env::(ee [.Name y py] X.env).map (·.2):=by rfl) (hs2:(ee [.Name y py] X.env).map (·.2)=assign (.Name y py) X.env::(ee [] X.env).map (·.2):=by rfl):
  ZT X (.Tuple [.Name x px,.Name y py] k pos) (wG (zN i j)):=Al (Vm hc hN hi hj hx hy hf hf2 hn hst hs1 hs2) λd ρ Q Uz=>by
 obtain⟨ρ',e,q⟩:=Uz;obtain⟨p,ep,rfl⟩:=qZ e;rw[MN ep];exact q
theorem kP(hc:X.calm=ae)(hp:qp (ay X.prog X.w) X.A X.env X.xe)(hi:VJ X tg iter it)(hg:ZT X tg (wG g))(hb:tL X body b)
  (hs:∀x,foldedSetIterable iter X.env x=pure x:=by intro _;rfl):pV X (.For tg iter body [] pos) (b9 it g b):=cS (Mn hc hp hi hg hb hs) λE ρ w=>by
 unfold wS b9 at w
 cases h:it (gJ ρ) with
 |none=>rw[h] at w;exact w.elim
 |some ds =>
  rw[h] at w;refine⟨ds,h,λi ρ'=>wS (eT g b (ds.drop i)) E ρ',(by show wS (eT g b (ds.drop 0)) E ρ;rw[pz];exact w),λi d ρ' hd iv=>?_,λρ' iv=>?_⟩
  .have hi:i<ds.length:=(cn.mp hd).1;have e1:ds[i]=d:=(cn.mp hd).2;have iv:wS (eT g b (ds.drop i)) E ρ':=iv;rw[zi hi,e1] at iv;unfold wS eT at iv
   cases hg:g d ρ' with
   |none=>rw[hg] at iv;exact iv.elim
   |some ρ1 =>
    rw[hg] at iv;dsimp only at iv;refine⟨ρ1,hg,?_⟩;unfold wS
    cases hb:b ρ1 with
    |nx ρ2=>rw[hb] at iv;dsimp only;rw[hb];exact iv
    |rt d=>rw[hb] at iv;dsimp only;rw[hb];exact iv
    |no=>rw[hb] at iv;dsimp only;rw[hb];exact iv
    |ex c=>rw[hb] at iv;dsimp only;rw[hb];exact iv
  .have iv:wS (eT g b (ds.drop ds.length)) E ρ':=iv;rw[a2z] at iv;exact iv
theorem aD6(hp:qp (ay X.prog X.w) X.A X.env X.xe)(hc:vC X c t)(hb:tL X body b):pV X (.While c body [] pos) (BO n t b):=cS (Y_ hp hc hb) λE ρ w=>by
 have least:∀{p:Nat->Prop},(∃n,p n) ->∃n,p n /\∀m,p m->n<=m:=λ{p} ⟨n,hn⟩=>by
  induction n using uj with
  |ind n ih =>
   by_cases h:∃m,m<n/\p m
   .obtain ⟨m,hm,pm⟩:=h;exact ih m hm pm
   .exact ⟨n,hn,λm pm=>by apply qd;intro z;exact h ⟨m,by omega,pm⟩⟩
 refine⟨λρ'=>∃m,wS (eI t b m) E ρ',λρ'=>(a2O λm=>wS (eI t b m) E ρ' /\∀k,wS (eI t b k) E ρ'->m<=k),⟨n,w⟩,λρ' iv=>?_⟩;obtain⟨m0,hm0⟩:=least iv;have hm:=a2N (p:=λm=>wS (eI t b m) E ρ' /\∀k,wS (eI t b k) E ρ'->m<=k) ⟨m0,hm0⟩;dsimp only;generalize (a2O λm=>wS (eI t b m) E ρ' /\∀k,wS (eI t b k) E ρ'->m<=k)=m at hm ⊢
 cases m with
 |zero=>exact hm.1.elim
 |succ m =>
  have h1:=hm.1;unfold wS eI at h1
  cases ht:t (bW ρ') with
  |none=>rw[ht] at h1;exact h1.elim
  |some c =>
   rw[ht] at h1;refine⟨c,ht,?_⟩
   cases c with
   |false=>rw[Zz bt];exact h1
   |true =>
    rw[Z_ rfl];dsimp only at h1;unfold wS
    cases hb:b ρ' with
    |nx ρ2 =>
     rw[hb] at h1;have h2:wS (eI t b m) E ρ2:=h1;refine⟨⟨m,h2⟩,?_⟩;obtain⟨k0,hk0⟩:=least (p:=λm=>wS (eI t b m) E ρ2) ⟨m,h2⟩;have hk:=a2N (p:=λm=>wS (eI t b m) E ρ2 /\∀k,wS (eI t b k) E ρ2->m<=k) ⟨k0,hk0⟩;exact Nat.lt_succ_of_le (hk.2 m h2)
    |rt d=>rw[hb] at h1;exact h1
    |no=>rw[hb] at h1;exact h1
    |ex c=>rw[hb] at h1;exact h1
end
theorem Ay{P:bh}{w:bb}{K:aq}{mg:Q0d}{base:bf}{x qual:ak}{st:de}{f:ah}{fd:gi}{N ps:Q0g}{k n np:Nat}{b:SF}(F:ZC K x qual st f fd)(S:gX N ps (bF st))(hn:N.length=n)(hp:ps.length=np)
  (hbody:∀(cdv:ai) (A:bp) (outer:List fm) (s:ao) (H:Hp) (E:XK),fN k (A.deeper (envOfC qual (bF st) s.heap.objs.size f cdv)) ->
   tL (tE dF P w K mg base N qual (bF st) f cdv A outer s H E).QM (fJ st) b):lC P w K mg base dF (k+1) f fd ps (eG K (bY n np b)):=by
 subst hn hp;refine Nq F S (λds Q ⟨d,e,q⟩=>?_) λcdv A outer s H E hr=>⟨_,hbody cdv A outer s H E hr,λds Q ⟨d,e,q⟩=>?_⟩
 .unfold bY at e;by_cases h:ds.length=ps.length
  .exact h
  .rw [Zz h] at e;cases e
 .unfold bY at e;by_cases h:ds.length=ps.length
  .rw [Z_ h] at e;have e2:kK N ds=c6 N.length ds:=rfl;unfold wS;rw[e2]
   cases hb:b (c6 N.length ds) with
   |rt d'=>rw[hb] at e;cases e;exact q
   |nx ρ=>rw[hb] at e;cases e;exact q
   |no=>rw[hb] at e;cases e
   |ex c=>rw[hb] at e;cases e
  .rw [Zz h] at e;cases e
theorem rO{P:bh}{w:bb}{K:aq}{mg:Q0d}{base:bf}{x:ak}{st:de}{N ps:Q0g}{k n np:Nat}{b:SF}(D:Df K mg x st ps)
  (h:∀{f:ah} {cdv:ai} {A:bp} {outer:List fm} {s:ao} {H:Hp} {E:XK},fN k (A.deeper (envOfC x (bF st) s.heap.objs.size f cdv))->N.Nodup->tL (tE dF P w K mg base N x (bF st) f cdv A outer s H E).QM (fJ st) b)
  (S:gX N ps (bF st):=by exact⟨rfl,rfl,rfl,by decide+kernel,rfl,by decide+kernel,by decide+kernel⟩) (hn:N.length=n:=by rfl) (hp:ps.length=np:=by rfl):Cl P w K mg base dF (k+1) x ps (eG K (bY n np b)):=by
 obtain⟨_,F,m,q⟩:=D;exact⟨Ay F S hn hp λ_ _ _ _ _ _ hr=>h hr S.nd,m,F.kp,q⟩
def Uc{P:bh}{w:bb}{K:aq}{mg:Q0d}{base:bf}{k:Nat}{f:ah}{fd:gi}{ps:Q0g}:lC P w K mg base dF k f fd ps (eG K λ_=>.no) :=
 ⟨λ_ _ _ _ h=>(by obtain⟨_,_,_,_,_,⟨_,e,_⟩,_⟩:=h;cases e),λ_ _ _ _ _ _ _ _ _ _ _ _ _ h=>(by obtain⟨_,_,_,_,_,⟨_,e,_⟩,_⟩:=h;cases e)⟩
def nn4{P:bh}{w:bb}{K:aq}{mg:Q0d}{base:bf}{k:Nat}{x:ak}{st:de}{ps:Q0g}(D:Df K mg x st ps):Cl P w K mg base dF k x ps (eG K λ_=>.no):=by obtain⟨_,F,m,q⟩:=D;exact⟨Uc,m,F.kp,q⟩
section
variable{X:Cx}{pins:Q0b}{σ:L2.St}{H:Hp}
theorem GJ(I:Inv X pins σ H s)(rx:RelV x v)(e:x=.bl k\/(∃p xs,x=.ref p/\(eE X.K H p xs\/fT X.K H p xs)/\k=!xs.isEmpty))
  (q:∀tk,Q k {s with toks:=tk}):ax (ay X.prog X.w) A (truthy v) Q E s:=by
 have hs:bg=16777216:=gx;rcases e with rfl|⟨p,xs,rfl,hx,rfl⟩
 .cases rx;exact mj (q s.toks)
 .cases rx;rcases hx with hx|hx
  .obtain ⟨its,r,pl,hz⟩:=I.list hx;have hlen:=r.length;exact a0b pl.isList (by simp only[cf];omega) (by rw[lZ r];exact q _)
  .obtain ⟨its,r,pl,hz⟩:=I.tuple hx;have hlen:=r.length;exact a1y pl (by simp only[cf];omega) (by rw[lZ r];exact q _)
def TrV(K:aq)(H:Hp)(x:V)(k:Bool):Prop:=x=.bl k\/(∃p xs,x=.ref p/\(eE K H p xs\/fT K H p xs)/\k=!xs.isEmpty)
def O9(h:j<n):(dj n).drop j=j::(dj n).drop (j+1):=by
 have hl:j<(dj n).length:=by rw[pw];exact h
 rw[zi hl,List.getElem_range]
section
variable{it:ah}{fp wr:List ah}{n:Nat}{P:Nat->ai->Prop}{St:Nat->bf->Prop}{R:Result->ao->Prop}{tr:Nat->Bool}
theorem BB(W:Walks X.prog X.w X.A.in1 it fp wr n P St)(hf:∀b∈wr,pL X pins H b)(ht:∀j v,P j v ->∃x,RelV x v/\TrV X.K H x (tr j)):
  ∀(m j:Nat) (st:ao),m+j=n->Inv X pins σ H st->St j st.heap->(∀st',Inv X pins σ H st'->R (.ok (.ret (.bool (((dj n).drop j).all tr)))) st')->ou (ay X.prog X.w) X.A (.builtin "all.loop" ⟨[.ref it],[]⟩) R st
 |0,j,st,hj,I,hS,k=>by
  obtain rfl:j=n:=by omega
  refine qk (a1i) ?_;rw[qt yj];refine au (W.done st _ _ hS λh2 t2 kp=>au (om (a_ ?_)));have:=k _ (VD (t':=t2) I kp hf)
  rwa [a2A (by simp)] at this
 |m+1,j,st,hj,I,hS,k=>by
  have hjn:j<n:=by omega
  refine qk (a1i) ?_;rw[qt yj];refine au (W.item j st _ _ hjn hS λv h2 t2 pv vh kp=>?_);have I2:Inv X pins σ H {st with heap:=h2,toks:=t2}:=VD (t':=t2) I kp hf;obtain⟨x,rx,hx⟩:=ht j v pv;rw[O9 hjn,og] at k;refine au (jo (GJ I2 rx hx λt3=>au (a0j ?_)));have I3:Inv X pins σ H {st with heap:=h2,toks:=t3}:=I2.tok t3
  cases hb:tr j with
  |true =>
   rw[hb,oh] at k;rw[Z_ rfl];exact a_ ⟨xp yj _,BB W hf ht m (j+1) _ (by omega) I3 vh k⟩
  |false =>
   rw[hb,zr] at k;rw[Zz bt];exact au (om (a_ (k _ I3)))
end
def Aq(f:List Bool->Bool)(K:aq):List V->Hp->VK->Prop:=λxs H Q=>∃a ys bs,xs=[.ref a]/\H a=aa (.lst ys)/\bs.length=ys.length/\(∀(j:Nat) (y:V) (b:Bool),ys[j]?=aa y->bs[j]?=aa b->TrV K H y b)/\Q (.bl (f bs)) H
def PB(hc:X.calm=ae):iS X (.builtin "all") (Aq (λbs=>bs.all id) X.K):=by
 intro pins s σ H xs us Q I r h;obtain⟨a,ys,bs,rfl,ha,hl,ht,q⟩:=h;obtain⟨u,rfl,ru⟩:=vals1 r;cases ru;obtain⟨its,rv,p,hz⟩:=I.list (eE.of ha);have hlt:a<s.heap.objs.size:=by obtain⟨o,n,e,_⟩:=p;exact cb e
 have hn:its.length=ys.length:=rv.length.symm;have ht2:∀j v,its.toArray[j]?=aa v ->∃x,RelV x v/\TrV X.K H x (bs.getD j ae):=λj v e=>by
  have e1:its[j]?=aa v:=by simpa using e
  have hj:j<ys.length:=by have:=(cn.mp e1).1;omega
  obtain⟨u,e2,ru⟩:=rv.get (getElem?_eq_getElem hj);rw[e1] at e2;cases e2;refine⟨_,ru,ht j _ _ (getElem?_eq_getElem hj) ?_⟩;rw[l_,getElem?_eq_getElem (by omega)];rfl
 refine call_function_tree (F.kind_all) F.plain_all F.entry_all (F.args_all1 _) ?_;unfold Builtin.«all»;refine au (m:=oneArg "all" _) (a_ (au (Eg p.isList (a_ ⟨xp yj _,?_⟩))));have hfr:H s.heap.objs.size=af:=I.hok.fresh (bc _);have I1:Inv X pins σ H {s with heap:=s.heap.push {cls:=.type "list_iterator",data:=.fields #[.ref a,rawInt 0]} }:=I.kept (t':=s.toks) λb o e=>di _ e;refine BB (X:=X) (pins:=pins) (σ:=σ) (H:=H) (tr:=λj=>bs.getD j ae) (a0J (A:=X.A.in1) (show X.A.in1.handled=af from I.ok.hd hc) s.heap.objs.size a (h_ hlt) its.toArray) (λb hb=>?_) ht2 its.toArray.size 0 _ rfl I1
  ⟨⟨_,gg _ rfl,rfl,rfl⟩,p.isList.at λo e=>di _ e⟩ λst' I'=>?_
 .cases br.mp hb;exact I.C2 (bc _) hfr
 .refine ⟨.bl _,H,I',rfl,?_⟩;rw[pz,show its.toArray.size=bs.length by simp[hn,hl],range_all];exact q
theorem Cn{K:aq}{S:ah->Prop}{H:Hp}:∀{es:List D} {ys:List V} {bs:List Bool},aX K S H es ys->oY es=aa bs->bs.length=ys.length /\∀(j:Nat) (y:V) (b:Bool),ys[j]?=aa y->bs[j]?=aa b->TrV K H y b
 |[],ys,bs,dn,h=>by simp only[aX] at dn;subst dn;cases h;exact⟨rfl,λj y b e=>by simp at e⟩
 |d::es,ys,bs,dn,h=>by
  obtain⟨v,r,rfl,h1,h2⟩:=dn.bO;obtain⟨b,eb,h⟩:=bnd h;obtain⟨bs',e2,rfl⟩:=qZ h;obtain⟨hl,ih⟩:=Cn h2 e2;refine⟨by simp[hl],λj y c ey ec=>?_⟩
  cases j with
  |zero =>
   simp at ey ec;subst ey ec;cases d<;>first|cases eb;done|skip
   .cases eb;simp only[Dn] at h1;exact .inl h1
   .cases eb;simp only[Dn] at h1;obtain⟨a,xs,rfl,ha,da⟩:=h1;exact .inr ⟨a,xs,rfl,.inr (fT.of ha),by rw[<- da.empty]⟩
   .cases eb;simp only[Dn] at h1;obtain⟨a,xs,rfl,ha,_,da⟩:=h1;exact .inr ⟨a,xs,rfl,.inl (eE.of ha),by rw[<- da.empty]⟩
  |succ j=>exact ih j y c (by simpa using ey) (by simpa using ec)
def trF(f:List Bool->Bool):F1
 |[.lst es],Q=>∃bs,oY es=aa bs/\Q (.bl (f bs))
 |_,_=>False
theorem Zn{K:aq}{f:List Bool->Bool}:C3 K (Aq f K) (trF f):=by
 intro S H xs ds Q3 Q fc hd hf k
 match ds,hf with
 |[.lst es],⟨bs,eb,q⟩ =>
  obtain⟨v,r,rfl,h1,h2⟩:=hd.bO;simp only[aX] at h2;subst h2;simp only[Dn] at h1;obtain⟨a,ys,rfl,ha,sa,da⟩:=h1;obtain⟨hl,ht⟩:=Cn da eb;exact⟨a,ys,bs,rfl,ha,hl,ht,k _ H _ (Same.refl H) (by simp only[Dn]) q⟩
def Ap{p pos:bo}{e:ar}{t:AF}(hc:X.calm=ae)(hm:X.mg "all"=af)(ha:A9 X [e] t)(hg:Gl X "all":=by rfl)(he:av [e] X.env=(ag,eval e X.env)::av [] X.env:=by rfl):b8 X (.Call (.Name "all" p) [e] [] pos) (bI allM t) :=
 cE (xS (PB hc) Zn a3P hg hm ha (by decide) (by decide) he (by rfl)) (GF λds d Q e q=>by
  unfold allM at e;split at e
  .obtain ⟨bs,eb,rfl⟩:=qZ e;exact⟨bs,eb,q⟩
  .cases e)
end
end L4
namespace L3
open PySem.Spec PyProof.Rows L2
section
variable{prog:bh}{w:bb}{A:bp}{E:Q0c}{s:ao}
theorem GK{Q:List ai->ao->Prop}{r:ah}{a b c:Int}{t u v:Tok}{n:Nat}(hh:A.handled=af)(hr:IsRange s.heap r a b c t u v)(hsmall:a3J a b c=ae)(hn:yp a b c=n)
  (hlen:n<=2^24) (hQ:∀h' tk acc,s.heap.objs.size<=h'.objs.size->(∀b o,s.heap.get? b=aa o->h'.get? b=aa o)->ItemsOf (λi v=>∃t,v=.int (a+i*c) t) acc n->Q acc.toList {s with heap:=h',toks:=tk}):ax (ay prog w) A (collect (.ref r)) Q E s:=by
 unfold collect;apply au;apply a0h;refine qk a1d ?_;rw[qt a1a]
 wp_walk
 refine⟨xp yi _,qk a1f ?_⟩;rw[qt yi];refine wpAny_extend_range (R:=wants _ _) (s:={s with heap:=s.heap.push {cls:=.type "list",data:=.seq #[]} }) hh (di _ hr) hsmall hn hlen s.heap.objs.size (.ref s.heap.objs.size) _ (gg _ rfl) λh' tk acc' c' hk hS' hacc=>?_;apply au;apply Ei hS';exact a_ (hQ h' tk acc' (ku (cb hS')) (λb o e=>hk b o (h_ (cb e)) (di _ e)) hacc)
end
end L3
namespace L4
open PySem.Spec PyProof.Rows L2 L3
open PySem.W
noncomputable def told(lt:Nat->Nat->Bool){α:Type}:oz α->α
 |.ret a=>a
 |.ask i j k=>told lt (k (lt i j))
theorem jB{α β:Type}(f:α->oz β):∀t:oz α,told lt (t.bind f)=told lt (f (told lt t))
 |.ret _=>rfl
 |.ask i j k=>jB f (k (lt i j))
section
variable{lt:Nat->Nat->Bool}
def Up(lt:Nat->Nat->Bool)(p:Array Nat)(k:Nat):Prop:=∀i j,i<j->j<k->lt (p.getD j 0) (p.getD i 0)=ag
def QP(lt:Nat->Nat->Bool)(p:Array Nat)(k:Nat):Prop:=∀i j,i<j->j<k->lt (p.getD i 0) (p.getD j 0)=ag
structure oJ (lt:Nat->Nat->Bool):Prop where
 as:∀a b,lt a b=ae->lt b a=ag
 tr:∀a b c,lt b a=ag->lt c b=ag->lt c a=ag
theorem oJ.QY(O:oJ lt)(x:Nat):lt x x=ag:=by
 cases hb:lt x x with
 |false=>rfl
 |true=>have:=O.as _ _ hb;rw[hb] at this;exact this
def iZ{p:Array Nat}{i:Nat}:p.getD i 0=(p[i]?).getD 0:=by rw[Array.getD_eq_getD_getElem?]
def iK{p:Array Nat}{i j:Nat}(hj:j<=p.size)(k:Nat):(je p i j).getD k 0=if i<=k/\k<j then p.getD (i+j-1-k) 0 else p.getD k 0:=by unfold je;rw[iZ,getElem?_mirror_all hj];split<;>rw[iZ]
def yA(p:Array Nat)(i j:Nat):(je p i j).size=p.size:=mirror_size _ _ _ _
def gZ(p:Array Nat)(i j:Nat):(je p i j).Perm p:=mirror_perm _ _ _ _
theorem JN(O:oJ lt)(p:Array Nat):∀f n,1<=n->Up lt p n->n<=told lt (jl p f n)/\told lt (jl p f n)<=n+f/\Up lt p (told lt (jl p f n))/\(told lt (jl p f n)<n+f->lt (p.getD (told lt (jl p f n)) 0) (p.getD (told lt (jl p f n)-1) 0)=ae)
 |0,n,h1,hu=>⟨bc _,bc _,hu,λh=>Zw h (j7 _)⟩
 |f+1,n,h1,hu=>by
  show n<=told lt (if lt (p.getD n 0) (p.getD (n-1) 0)=ae then mq n else jl p f (n+1))/\told lt (if lt (p.getD n 0) (p.getD (n-1) 0)=ae then mq n else jl p f (n+1))<=n+(f+1)/\Up lt p (told lt (if lt (p.getD n 0) (p.getD (n-1) 0)=ae then mq n else jl p f (n+1)))/\(told lt (if lt (p.getD n 0) (p.getD (n-1) 0)=ae then mq n else jl p f (n+1))<n+(f+1)->lt (p.getD (told lt (if lt (p.getD n 0) (p.getD (n-1) 0)=ae then mq n else jl p f (n+1))) 0) (p.getD (told lt (if lt (p.getD n 0) (p.getD (n-1) 0)=ae then mq n else jl p f (n+1))-1) 0)=ae)
  cases hc:lt (p.getD n 0) (p.getD (n-1) 0) with
  |true=>exact⟨bc _,by show n<=n+(f+1);omega,hu,λ_=>hc⟩
  |false =>
   rw[Zz bt];have hu2:Up lt p (n+1):=λi j hij hj=>by
    by_cases hj2:j<n
    .exact hu i j hij hj2
    .have:j=n:=by omega
     subst this;by_cases hi:i=j-1
     .subst hi;exact hc
     .exact O.tr _ _ _ (hu i (j-1) (by omega) (by omega)) hc
   obtain⟨a,b,c,d⟩:=JN O p f (n+1) (by omega) hu2;exact⟨by omega,by omega,c,λh=>d (by omega)⟩
def Zm(hn:n<=p.size)(h:QP lt p n):Up lt (je p 0 n) n:=λi j hij hj=>by rw[iK hn,iK hn,Z_ ⟨by omega,hj⟩,Z_ ⟨by omega,by omega⟩];exact h _ _ (by omega) (by omega)
def Last(lt:Nat->Nat->Bool)(p:Array Nat)(n q:Nat):Prop:=q+1<=n /\∀i j,n-(q+1)<=i->i<n->n-(q+1)<=j->j<n->lt (p.getD i 0) (p.getD j 0)=ag
def rev_last(hn:n<=p.size)(h:QP lt p n)(l:Last lt p n q):QP lt (je p (n-(q+1)) n) n:=λi j hij hj=>by
 have:=l.1;rw[iK hn,iK hn];by_cases h1:n-(q+1)<=i
 .rw [Z_ ⟨h1,by omega⟩,Z_ ⟨by omega,hj⟩];exact l.2 _ _ (by omega) (by omega) (by omega) (by omega)
 .rw [Zz (by omega)];by_cases h2:n-(q+1)<=j
  .rw [Z_ ⟨h2,hj⟩];exact h _ _ (by omega) (by omega)
  .rw [Zz (by omega)];exact h i j hij hj
def lI(O:oJ lt)(h1:1<=n)(h:QP lt p n)(hc:lt (p.getD (n-1) 0) (p.getD n 0)=ag):QP lt p (n+1):=λi j hij hj=>by
 by_cases hj2:j<n
 .exact h i j hij hj2
 .have:j=n:=by omega
  subst this;by_cases hi:i=j-1
  .subst hi;exact hc
  .exact O.tr _ _ _ hc (h i (j-1) (by omega) (by omega))
def VR(hn:n<p.size):(je p (n-(q+1)) n).getD n 0=p.getD n 0:=by rw[iK (ku hn),Zz (by omega)]
theorem vD(O:oJ lt):∀f (p:Array Nat) n q,1<=n->n+f<=p.size->QP lt p n->Last lt p n q ->∀r,r=told lt (oy f p n q)->r.1.Perm p/\r.2.1<=n+f/\n<=r.2.1/\QP lt r.1 r.2.1/\Last lt r.1 r.2.1 r.2.2
 |0,p,n,q,_,_,h,l,r,er=>by subst er;exact⟨rq _,bc _,bc _,h,l⟩
 |f+1,p,n,q,h1,hs,h,l,r,er=>by
  have er:r=told lt (if lt (p.getD n 0) (p.getD (n-1) 0)=ae then(if q>0 then oy f (je p (n-(q+1)) n) (n+1) 0 else oy f p (n+1) 0) else .ask (p.getD (n-1) 0) (p.getD n 0) λd=>if d=ae then .ret (p,n,q) else oy f p (n+1) (q+1)):=er;have one:∀p:Array Nat,Last lt p (n+1) 0:=λp=>⟨by omega,λi j a b c d=>by
   have e1:i=n:=by omega
   have e2:j=n:=by omega
   rw[e1,e2];exact O.QY _⟩
  cases hc:lt (p.getD n 0) (p.getD (n-1) 0) with
  |true =>
   rw[hc,Z_ rfl] at er;have hc2:=O.as _ _ hc;by_cases hq:q>0
   .rw [Z_ hq] at er;have d1:=rev_last (by omega) h l;have lq:=l.1;have d2:QP lt (je p (n-(q+1)) n) (n+1):=by refine lI O h1 d1 ?_;rw[VR (by omega),iK (by omega),Z_ ⟨by omega,by omega⟩];exact O.tr _ (p.getD (n-1) 0) _ hc2 (l.2 _ _ (by omega) (by omega) (by omega) (by omega))
    obtain⟨a,b,c,d,e⟩:=vD O f (je p (n-(q+1)) n) (n+1) 0 (by omega) (by rw[yA];omega) d2 (one _) r er;exact⟨a.trans (gZ _ _ _),by omega,by omega,d,e⟩
   .rw [Zz hq] at er;obtain⟨a,b,c,d,e⟩:=vD O f p (n+1) 0 (by omega) (by omega) (lI O h1 h hc2) (one _) r er;exact⟨a,by omega,by omega,d,e⟩
  |false =>
   rw[hc,Zz bt] at er;have er:r=told lt (if lt (p.getD (n-1) 0) (p.getD n 0)=ae then mq (p,n,q) else oy f p (n+1) (q+1)):=er
   cases hd:lt (p.getD (n-1) 0) (p.getD n 0) with
   |true =>
    rw[hd,Z_ rfl] at er;subst er;exact⟨rq _,by show n<=n+(f+1);omega,bc _,h,l⟩
   |false =>
    rw[hd,Zz bt] at er;have lq:=l.1;have l2:Last lt p (n+1) (q+1):=⟨by omega,λi j a b c d=>by
     by_cases hi:i<n
     .by_cases hj:j<n
      .exact l.2 i j (by omega) hi (by omega) hj
      .have:j=n:=by omega
       subst this;exact O.tr _ (p.getD (j-1) 0) _ hd (l.2 i (j-1) (by omega) hi (by omega) (by omega))
     .have:i=n:=by omega
      subst this;by_cases hj:j<i
      .exact O.tr _ (p.getD (i-1) 0) _ (l.2 (i-1) j (by omega) (by omega) (by omega) hj) hc
      .have:j=i:=by omega
       subst this;exact(one p).2 j j (by omega) (by omega) (by omega) (by omega)⟩
    obtain⟨a,b,c,d,e⟩:=vD O f p (n+1) (q+1) (by omega) (by omega) (lI O h1 h hd) l2 r er;exact⟨a,by omega,by omega,d,e⟩
def BC{p q:Array Nat}(h:p.Perm q):p.size=q.size:=h.size_eq
def MO(O:oJ lt)(h1:1<=n)(hn:n<=nrem)(hs:nrem<=p.size)(h:QP lt p n)(r:Nat×Array Nat)(er:r=told lt (Fb n nrem p)):r.2.Perm p/\1<=r.1/\r.1<=nrem/\Up lt r.2 r.1:=by unfold Fb at er;rw[jB] at er;obtain⟨a,b,c,_⟩:=JN O (je p 0 n) (nrem-n) n h1 (Zm (by omega) h);subst er;exact⟨gZ _ _ _,gn h1 a,(by show told lt _<=nrem;omega),c⟩
def uE(O:oJ lt){n nrem:Nat}{p:Array Nat}(h1:1<=n)(hn:n+1<=nrem)(hs:nrem<=p.size)(h:QP lt p (n+1))(r:Nat×Array Nat)(er:r=told lt (xu n nrem p)):r.2.Perm p/\1<=r.1/\r.1<=nrem/\Up lt r.2 r.1:=by
 unfold xu at er;rw[jB] at er;have one:Last lt p (n+1) 0:=⟨by omega,λi j a b c d=>by
  have e1:i=n:=by omega
  have e2:j=n:=by omega
  rw[e1,e2];exact O.QY _⟩
 obtain⟨a,b,c,d,e⟩:=vD O (nrem-(n+1)) p (n+1) 0 (by omega) (by omega) h one _ rfl;generalize told lt (oy (nrem-(n+1)) p (n+1) 0)=z at a b c d e er;have hz:=BC a;by_cases hq:z.2.2>0
 .rw [Z_ hq] at er;obtain⟨a2,b2,c2,d2⟩:=MO O (n:=z.2.1) (nrem:=nrem) (p:=je z.1 (z.2.1-(z.2.2+1)) z.2.1) (by omega) (by omega) (by rw[yA];omega) (rev_last (by omega) d e) r er;exact⟨a2.trans ((gZ _ _ _).trans a),b2,c2,d2⟩
 .rw [Zz hq] at er;obtain⟨a2,b2,c2,d2⟩:=MO O (n:=z.2.1) (nrem:=nrem) (p:=z.1) (by omega) (by omega) (by omega) d r er;exact⟨a2.trans a,b2,c2,d2⟩
def qF(O:oJ lt)(h1:1<=n)(hs:n<=p.size)(r:Nat×Array Nat)(er:r=told lt (xv n p)):r.2.Perm p/\1<=r.1/\r.1<=n/\Up lt r.2 r.1:=by
 unfold xv at er;rw[jB] at er;obtain⟨a,b,c,d⟩:=JN O p (n-1) 1 (bc _) (λi j hij hj=>by omega);generalize told lt (jl p (n-1) 1)=m at a b c d er;by_cases hm:(m == n)=ae
 .rw [Z_ hm] at er;subst er;exact⟨rq _,a,by show m<=n;omega,c⟩
 .rw [Zz hm] at er;have hm:m≠n:=λe=>hm (by rw[e];simp);have hlt:=d (by omega);by_cases h2:m>1
  .rw [Z_ h2] at er;have er:r=told lt (if lt (p.getD 0 0) (p.getD (m-1) 0)=ae then mq (m,p) else xu m n (je p 0 m)):=er
   cases hc:lt (p.getD 0 0) (p.getD (m-1) 0) with
   |true =>
    rw[hc,Z_ rfl] at er;subst er;exact⟨rq _,a,by show m<=n;omega,c⟩
   |false =>
    rw[hc,Zz bt] at er;have all:∀i j,i<m->j<m->lt (p.getD i 0) (p.getD j 0)=ag:=λi j hi hj=>by
     have i0:∀i,i<m->lt (p.getD 0 0) (p.getD i 0)=ag:=λi hi=>by
      by_cases he:i=m-1
      .subst he;exact hc
      .exact O.tr _ _ _ (c i (m-1) (by omega) (by omega)) hc
     have QY:∀x,lt x x=ag:=λx=>by
      cases hb:lt x x with
      |false=>rfl
      |true=>have:=O.as _ _ hb;rw[hb] at this;exact this
     have z0:lt (p.getD i 0) (p.getD 0 0)=ag:=by
      by_cases hi0:i=0
      .subst hi0;exact QY _
      ·-- a later one is not less than the first one
       exact c 0 i (by omega) hi
     exact O.tr _ _ _ (i0 j hj) z0
    have dn:QP lt (je p 0 m) (m+1):=by
     refine lI O a (λi j hij hj=>?_) ?_
     .rw [iK (by omega),iK (by omega),Z_ ⟨by omega,by omega⟩,Z_ ⟨by omega,by omega⟩];exact all _ _ (by omega) (by omega)
     .rw [iK (by omega),iK (by omega),Z_ ⟨by omega,by omega⟩,Zz (by omega)];exact O.tr _ (p.getD (m-1) 0) _ (O.as _ _ hlt) (all _ _ (by omega) (by omega))
    obtain⟨a2,b2,c2,d2⟩:=uE O a (by omega) (by rw[yA];exact hs) dn r er;exact⟨a2.trans (gZ _ _ _),b2,c2,d2⟩
  .rw [Zz h2] at er;have:m=1:=by omega
   subst this;have dn:QP lt p (1+1):=lI O (bc _) (λi j hij hj=>by omega) (O.as _ _ hlt);exact uE O (bc _) (by omega) hs dn r er
theorem yB(O:oJ lt)(p:Array Nat)(k:Nat):∀f l r,l<=r->r<=k->r-l<=f->Up lt p k->(∀i,i<l->lt (p.getD k 0) (p.getD i 0)=ag)->(∀i,r<=i->i<k->lt (p.getD i 0) (p.getD k 0)=ag) ->
  told lt (jr p k f l r)<=k/\(∀i,i<told lt (jr p k f l r)->lt (p.getD k 0) (p.getD i 0)=ag) /\∀i,told lt (jr p k f l r)<=i->i<k->lt (p.getD i 0) (p.getD k 0)=ag
 |0,l,r,hlr,hr,hf,_,h1,h2=>by
  have:l=r:=by omega
  subst this;exact⟨hr,h1,h2⟩
 |f+1,l,r,hlr,hr,hf,hu,h1,h2=>by
  unfold jr;by_cases hge:l >= r
  .rw [Z_ hge];have:l=r:=by omega
   subst this;exact⟨hr,h1,h2⟩
  .rw [Zz hge];show told lt (if lt (p.getD k 0) (p.getD ((l+r)/2) 0)=ae then jr p k f l ((l+r)/2) else jr p k f ((l+r)/2+1) r)<=k/\(∀i,i<told lt (if lt (p.getD k 0) (p.getD ((l+r)/2) 0)=ae then jr p k f l ((l+r)/2) else jr p k f ((l+r)/2+1) r)->lt (p.getD k 0) (p.getD i 0)=ag) /\∀i,told lt (if lt (p.getD k 0) (p.getD ((l+r)/2) 0)=ae then jr p k f l ((l+r)/2) else jr p k f ((l+r)/2+1) r)<=i->i<k->lt (p.getD i 0) (p.getD k 0)=ag
   cases hc:lt (p.getD k 0) (p.getD ((l+r)/2) 0) with
   |true =>
    rw[Z_ rfl];refine yB O p k f l ((l+r)/2) (by omega) (by omega) (by omega) hu h1 λi hi hik=>?_;by_cases he:i=(l+r)/2
    .subst he;exact O.as _ _ hc
    .exact O.tr _ _ _ (O.as _ _ hc) (hu _ i (by omega) hik)
   |false =>
    rw[Zz bt];refine yB O p k f ((l+r)/2+1) r (by omega) hr (by omega) hu (λi hi=>?_) h2;by_cases he:i=(l+r)/2
    .subst he;exact hc
    .exact O.tr _ _ _ (hu i ((l+r)/2) (by omega) (by omega)) hc
def MP{p:Array Nat}{k l:Nat}(hk:k<p.size)(hl:l<=k)(i:Nat):(bubble p k (k-l)).getD i 0=if i=l then p.getD k 0 else if l<i/\i<=k then p.getD (i-1) 0 else p.getD i 0:=by
 rw[iZ,getElem?_bubble hk _ (by omega),show k-(k-l)=l by omega];by_cases h1:i=l
 .rw [Z_ h1,Z_ h1,iZ]
 .rw [Zz h1,Zz h1];by_cases h2:l<i/\i<=k
  .rw [Z_ h2,Z_ h2,iZ]
  .rw [Zz h2,Zz h2,iZ]
theorem VS(O:oJ lt):∀f (p:Array Nat) k,k+f<=p.size->Up lt p k->(told lt (xw f p k)).Perm p/\Up lt (told lt (xw f p k)) (k+f)
 |0,p,k,_,h=>⟨rq _,h⟩
 |f+1,p,k,hs,h=>by
  unfold xw;rw[jB];obtain⟨a,b,c⟩:=yB O p k k 0 k (by omega) (bc _) (by omega) h (λi hi=>by omega) (λi hi hik=>by omega);generalize told lt (jr p k k 0 k)=l at a b c;have hk:k<p.size:=by omega
  have h2:Up lt (bubble p k (k-l)) (k+1):=λi j hij hj=>by
   rw[MP hk a,MP hk a];by_cases hjl:j=l
   .rw [Z_ hjl,Zz (by omega),Zz (by omega)];exact b i (by omega)
   .rw [Zz hjl];by_cases hj2:l<j/\j<=k
    .rw [Z_ hj2];by_cases hil:i=l
     .rw [Z_ hil];exact c (j-1) (by omega) (by omega)
     .rw [Zz hil];by_cases hi2:l<i/\i<=k
      .rw [Z_ hi2];exact h _ _ (by omega) (by omega)
      .rw [Zz hi2];exact h _ _ (by omega) (by omega)
    .rw [Zz hj2,Zz (by omega),Zz (by omega)];exact h _ _ hij (by omega)
  obtain⟨e,g⟩:=VS O f (bubble p k (k-l)) (k+1) (by rw[bubble_size];omega) h2;exact⟨e.trans (a1J _ _ _),by rw[show k+(f+1)=k+1+f by omega];exact g⟩
def Z9(O:oJ lt){n:Nat}(h1:1<=n):(told lt (ox n)).Perm (ze (dj n))/\Up lt (told lt (ox n)) n:=by
 unfold ox;rw[jB];obtain⟨a,b,c,d⟩:=qF O (n:=n) (p:=ze (dj n)) h1 (by simp) _ rfl;generalize told lt (xv n (ze (dj n)))=r at a b c d;have hs:r.2.size=n:=by rw[BC a];simp
 by_cases hr:r.1<n
 .rw [Z_ hr,show max r.1 1=r.1 by omega];obtain⟨e,g⟩:=VS O (n-r.1) r.2 r.1 (by omega) d;exact⟨e.trans a,by rw[show r.1+(n-r.1)=n by omega] at g;exact g⟩
 .rw [Zz hr];have:r.1=n:=by omega
  exact⟨a,by rw[<- this];exact d⟩
end
def tj(lt:Nat->Nat->Bool)(n:Nat):List Nat:=if n<2 then dj n else(told lt (ox n)).toList
open Att
noncomputable def MQ(n:Nat){α:Type}:oz α->(α->Prop)->Prop
 |.ret a,Q=>Q a
 |.ask i j k,Q=>i<n/\j<n /\∀b,MQ n (k b) Q
theorem lJ{n:Nat}{α β:Type}{f:α->oz β}{Q:β->Prop}:∀(t:oz α),MQ n t (λa=>MQ n (f a) Q)->MQ n (t.bind f) Q
 |.ret a,h=>h
 |.ask i j k,h=>⟨h.1,h.2.1,λb=>lJ (k b) (h.2.2 b)⟩
def Rg(n:Nat)(p:Array Nat):Prop:=p.Perm (ze (dj n))
theorem Rg.lt(h:Rg n p)(h1:1<=n)(k:Nat):p.getD k 0<n:=by
 rw[iZ]
 cases q:p[k]? with
 |none=>exact h1
 |some x =>
  have:x∈p:=Array.mem_of_getElem? q;have:=h.mem_iff.mp this;simpa using this
section
variable{n:Nat}
theorem DR(h1:1<=n)(h:Rg n p)(q:∀m,Q m):∀f m,MQ n (jl p f m) Q
 |0,m=>q m
 |f+1,m=>⟨h.lt h1 _,h.lt h1 _,λb=>by
  cases b with
  |true=>exact q m
  |false=>exact DR h1 h q f (m+1)⟩
theorem rD(h1:1<=n)(q:∀r,Rg n r.1->Q r):∀f p m k,Rg n p->MQ n (oy f p m k) Q
 |0,p,m,k,h=>q _ h
 |f+1,p,m,k,h=>⟨h.lt h1 _,h.lt h1 _,λb=>by
  cases b with
  |true =>
   show MQ n (if k>0 then _ else _) Q;by_cases hk:k>0
   .rw [Z_ hk];exact rD h1 q f _ _ _ ((gZ _ _ _).trans h)
   .rw [Zz hk];exact rD h1 q f _ _ _ h
  |false=>exact⟨h.lt h1 _,h.lt h1 _,λd=>by
    cases d with
    |true=>exact q _ h
    |false=>exact rD h1 q f _ _ _ h⟩⟩
def GL(h1:1<=n){Q:Nat×Array Nat->Prop}(q:∀r,Rg n r.2->Q r){m k:Nat}{p:Array Nat}(h:Rg n p):MQ n (Fb m k p) Q :=
 lJ _ (DR h1 ((gZ _ _ _).trans h) (λm'=>q (m',je p 0 m) ((gZ _ _ _).trans h)) _ _)
def rE(h1:1<=n){Q:Nat×Array Nat->Prop}(q:∀r,Rg n r.2->Q r){m k:Nat}{p:Array Nat}(h:Rg n p):MQ n (xu m k p) Q :=
 lJ _ (rD h1 (λr hr=>by
  by_cases hk:r.2.2>0
  .rw [Z_ hk];exact GL h1 q ((gZ _ _ _).trans hr)
  .rw [Zz hk];exact GL h1 q hr) _ _ _ _ h)
def PD(h1:1<=n){Q:Nat×Array Nat->Prop}(q:∀r,Rg n r.2->Q r){k:Nat}{p:Array Nat}(h:Rg n p):MQ n (xv k p) Q :=
 lJ _ (DR h1 h (λm=>by
  by_cases e:(m == k)=ae
  .rw [Z_ e];exact q _ h
  .rw [Zz e];by_cases e2:m>1
   .rw [Z_ e2];exact⟨h.lt h1 _,h.lt h1 _,λc=>by
     cases c with
     |true=>exact q _ h
     |false=>exact rE h1 q ((gZ _ _ _).trans h)⟩
   .rw [Zz e2];exact rE h1 q h) _ _)
theorem tN(h1:1<=n)(h:Rg n p)(q:∀m,Q m)(k:Nat):∀f l r,MQ n (jr p k f l r) Q
 |0,l,r=>q l
 |f+1,l,r=>by
  unfold jr;by_cases e:l >= r
  .rw [Z_ e];exact q l
  .rw [Zz e];exact⟨h.lt h1 _,h.lt h1 _,λc=>by
    cases c with
    |true=>exact tN h1 h q k f _ _
    |false=>exact tN h1 h q k f _ _⟩
theorem MR(h1:1<=n){Q:Array Nat->Prop}(q:∀p,Q p):∀f p k,Rg n p->MQ n (xw f p k) Q
 |0,p,k,h=>q p
 |f+1,p,k,h=>lJ _ (tN h1 h (λl=>MR h1 q f _ _ ((a1J _ _ _).trans h)) k _ _ _)
def VT(h1:1<=n){Q:Array Nat->Prop}(q:∀p,Q p):MQ n (ox n) Q :=
 lJ _ (PD h1 (λr hr=>by
  by_cases e:r.1<n
  .rw [Z_ e];exact MR h1 q _ _ _ hr
  .rw [Zz e];exact q _) (rq _))
end
section
variable{X:Cx}
def l4(ts:Q0a)(i:Nat):List Int:=(ts[i]?).getD []
theorem MS(h:∀i j (C:Bool->ao->Prop),i<n->j<n->C (lt i j) s->xx prog w A κ vs i j C s){α:Type}:∀(t:oz α) (Q:α->ao->Prop),MQ n t (λ_=>True)->Q (told lt t) s->t.kasWp (xx prog w A κ vs) Q s
 |.ret a,Q,_,q=>q
 |.ask i j k,Q,sf,q=>h i j _ sf.1 sf.2.1 (MS h (k (lt i j)) Q (sf.2.2 _) q)
end
section
variable{X:Cx}
def VU(ts:Q0a):(dj ts.length).map (l4 ts)=ts:=by
 refine Hb λi=>?_;rw[cg];by_cases h:i<ts.length
 .rw [rh h];simp[l4,h]
 .rw [kc (by simpa using h),kc (by simpa using h)];rfl
end
open PySem.SeqAt
section
variable{X:Cx}{pins:Q0b}{σ:L2.St}{H:Hp}{s:ao}{S:ah->Prop}
def EqI(n:Nat)(d e:D)(b:Bool):Prop:=(∃i j,d=.int i/\e=.int j/\b=Zv (i=j))\/(∃i,d=.bl i/\e=.bl i/\b=ae)\/(∃i,d=.str i/\e=.str i/\b=ae) \/∃m a c r,n=m+1/\d=.tup a/\e=.tup c/\vO (eqP m) a c=aa r/\b=(r&&Zv (a.length=c.length))
theorem DS:∀{n:Nat} {d e:D} {b:Bool},eqP n d e=aa b->EqI n d e b:=by
 intro n d e b h;have one:∀{p:Prop} [Decidable p],(if p then aa ae else af)=aa b->p/\b=ae:=λ{p} _ h=>by
  by_cases hp:p
  .rw [Z_ hp] at h;cases h;exact⟨hp,rfl⟩
  .rw [Zz hp] at h;exact nomatch h
 cases n with
 |zero =>
  cases d<;>first|(cases h;done)|skip
  all_goals (cases e<;>first|(cases h;done)|skip)
  .obtain ⟨rfl,hb⟩:=one h;exact .inr (.inl ⟨_,rfl,rfl,hb⟩)
  .cases h;exact .inl ⟨_,_,rfl,rfl,rfl⟩
  .obtain ⟨rfl,hb⟩:=one h;exact .inr (.inr (.inl ⟨_,rfl,rfl,hb⟩))
 |succ m =>
  cases d<;>first|(cases h;done)|skip
  all_goals (cases e<;>first|(cases h;done)|skip)
  .obtain ⟨rfl,hb⟩:=one h;exact .inr (.inl ⟨_,rfl,rfl,hb⟩)
  .cases h;exact .inl ⟨_,_,rfl,rfl,rfl⟩
  .obtain ⟨rfl,hb⟩:=one h;exact .inr (.inr (.inl ⟨_,rfl,rfl,hb⟩))
  .obtain ⟨r,e1,rfl⟩:=qZ (show(vO (eqP m) _ _).map _=aa b from h);exact .inr (.inr (.inr ⟨m,_,_,r,rfl,rfl,rfl,e1,rfl⟩))
theorem VW(I:L2.Inv X pins σ H s):∀(n:Nat) (d e:D) (x:V) (b:Bool),eqP n d e=aa b->Dn X.K S H d x->Dn X.K S H e x->b=ae:=by
 intro n
 induction n using uj with
 |ind n ih =>
  intro d e x b h hd he;rcases DS h with⟨i,j,rfl,rfl,rfl⟩|⟨i,rfl,rfl,hb⟩|⟨i,rfl,rfl,hb⟩|⟨m,a,c,r,rfl,rfl,rfl,e1,rfl⟩
  .simp only[Dn] at hd he;rw[hd] at he;cases he;exact Zx rfl
  .exact hb
  .exact hb
  .simp only[Dn] at hd he;obtain⟨p,xs,rfl,hp,da⟩:=hd;obtain⟨q,ys,eq,hq,dc⟩:=he;cases eq;have:=I.lB (fT.of hp) (fT.of hq);subst this;obtain⟨f,h1,h2⟩:=nM e1;have hl:a.length=c.length:=by rw[da.len,dc.len]
   rw[Zx hl,Bool.and_true,h2,ke];intro j hj;have hj:j<min a.length c.length:=by simpa using hj
   have ja:j<a.length:=fz hj (Nat.min_le_left ..);have jc:j<c.length:=fz hj (a11 ..);obtain⟨v,hv,dv⟩:=da.get (getElem?_eq_getElem ja);obtain⟨v2,hv2,dv2⟩:=dc.get (getElem?_eq_getElem jc);rw[hv] at hv2;cases hv2;exact ih m (za m) _ _ v _ (h1 j _ _ (getElem?_eq_getElem ja) (getElem?_eq_getElem jc)) dv dv2
theorem Zl(I:L2.Inv X pins σ H s):∀(n:Nat) (A:bp) (d e:D) (x y:V) (u v:ai) (b:Bool),A.units+n<cx->eqP n d e=aa b->Dn X.K S H d x->Dn X.K S H e y->L2.RelV x u->L2.RelV y v->qo A s u v b:=by
 have onI:∀(A:bp) (i j:Int) (x y:V) (u v:ai),Dn X.K S H (.int i) x->Dn X.K S H (.int j) y->L2.RelV x u->L2.RelV y v->qo A s u v (Zv (i=j)):=by
  intro A i j x y u v hd he ru rv;simp only[Dn] at hd he;subst hd he;obtain⟨t,rfl⟩:=ru;obtain⟨t2,rfl⟩:=rv;have:=(a3f i j t t2).at A s
  rwa [show(i == j)=Zv (i=j) from by simp[a2Q]] at this
 have onB:∀(A:bp) (i j b:Bool) (x y:V) (u v:ai),(if i=j then aa ae else af)=aa b->Dn X.K S H (.bl i) x->Dn X.K S H (.bl j) y->L2.RelV x u->L2.RelV y v->qo A s u v b:=by
  intro A i j b x y u v h hd he ru rv;simp only[Dn] at hd he;subst hd he;split at h
  .rename_i e;cases h;subst e;cases ru;cases rv;exact yc _
  .cases h
 have onS:∀(A:bp) (i j:ak) (b:Bool) (x y:V) (u v:ai),(if i=j then aa ae else af)=aa b->Dn X.K S H (.str i) x->Dn X.K S H (.str j) y->L2.RelV x u->L2.RelV y v->qo A s u v b:=by
  intro A i j b x y u v h hd he ru rv;simp only[Dn] at hd he;subst hd he;split at h
  .rename_i e;cases h;subst e;obtain⟨t,rfl⟩:=ru;obtain⟨t2,rfl⟩:=rv;have:=(a2V i i t t2).at A s
   rwa [show(i.cps.toList == i.cps.toList)=ae from by simp] at this
  .cases h
 intro n
 induction n using uj with
 |ind n ih =>
  intro A d e x y u v b hu h hd he ru rv;rcases DS h with⟨i,j,rfl,rfl,rfl⟩|⟨i,rfl,rfl,rfl⟩|⟨i,rfl,rfl,rfl⟩|⟨m,a,c,r,rfl,rfl,rfl,e1,rfl⟩
  .exact onI A _ _ x y u v hd he ru rv
  .exact onB A i i ae x y u v (Z_ rfl) hd he ru rv
  .exact onS A i i ae x y u v (Z_ rfl) hd he ru rv
  .have hd0:=hd;have he0:=he;simp only[Dn] at hd he;obtain⟨p,xs,rfl,hp,da⟩:=hd;obtain⟨q,ys,rfl,hq,dc⟩:=he;cases ru;cases rv;by_cases epq:p=q
   .subst epq;rw[VW I (m+1) _ _ _ _ h hd0 he0];exact yc _
   .obtain ⟨f,h1,h2⟩:=nM e1;obtain⟨its,rx,pt,_⟩:=I.tuple (fT.of hp);obtain⟨its2,ry,TU,_⟩:=I.tuple (fT.of hq);have l1:its.length=a.length:=by rw[<- rx.length,da.len]
    have l2:its2.length=c.length:=by rw[<- ry.length,dc.len]
    have key:=RcAt.tuples (A:=A) (s:=s) (e:=f) (show s.heap.IsTuple p its.toArray from pt) (show s.heap.IsTuple q its2.toArray from TU) (by omega) λj j1 j2=>by
     have j1:j<a.length:=by simpa[l1] using j1
     have j2:j<c.length:=by simpa[l2] using j2
     obtain⟨w,hw,dw⟩:=da.get (getElem?_eq_getElem j1);obtain⟨w2,hw2,dw2⟩:=dc.get (getElem?_eq_getElem j2);obtain⟨g,hg,rg⟩:=rx.get hw;obtain⟨g2,hg2,rg2⟩:=ry.get hw2;have e3:its.toArray[j]'(by simp;omega)=g:=by have:=(cn.mp hg).2;simpa using this
     have e4:its2.toArray[j]'(by simp;omega)=g2:=by have:=(cn.mp hg2).2;simpa using this
     rw[e3,e4];exact ih m (za m) A.in1 _ _ w w2 g g2 _ (by show A.units+1+m<cx;omega) (h1 j _ _ (getElem?_eq_getElem j1) (getElem?_eq_getElem j2)) dw dw2 rg rg2
    refine EqAt.of_refs epq ?_;rw[h2];simpa[l1,l2,a2Q] using key
def VX(K:aq)(g:Bool->Bool):R2:=λx y H Q=>∃(S:ah->Prop) (a c:List D) (b:Bool),Dn K S H (.tup a) x/\Dn K S H (.tup c) y/\eqP 8 (.tup a) (.tup c)=aa b/\Q (.bl (g b)) H
def PF(hu:X.A.units+8<cx):j6 X (compareOp .Eq) (VX X.K id):=by
 intro pins s σ H x y v u Q I rx ry h;obtain⟨S,a,c,b,hd,he,hb,q⟩:=h;have hd0:=hd;have he0:=he;simp only[Dn] at hd he;obtain⟨p,xs,rfl,hp,da⟩:=hd;obtain⟨p2,ys,rfl,hq,dc⟩:=he;cases rx;cases ry;obtain⟨r,e1,rfl⟩:=qZ (show(vO (eqP 7) a c).map _=aa b from hb);obtain⟨f,h1,h2⟩:=nM e1;obtain⟨its,rx,pt,_⟩:=I.tuple (fT.of hp);obtain⟨its2,ry,TU,_⟩:=I.tuple (fT.of hq);have l1:its.length=a.length:=by rw[<- rx.length,da.len]
 have l2:its2.length=c.length:=by rw[<- ry.length,dc.len]
 refine eq_tupleAt (e:=f) (show s.heap.IsTuple p its.toArray from pt) (show s.heap.IsTuple p2 its2.toArray from TU) (by omega) (λj j1 j2=>?_) ⟨_,H,I,?_,q⟩
 .have j1:j<a.length:=by simpa[l1] using j1
  have j2:j<c.length:=by simpa[l2] using j2
  obtain⟨w,hw,dw⟩:=da.get (getElem?_eq_getElem j1);obtain⟨w2,hw2,dw2⟩:=dc.get (getElem?_eq_getElem j2);obtain⟨g,hg,rg⟩:=rx.get hw;obtain⟨g2,hg2,rg2⟩:=ry.get hw2;have e3:its.toArray[j]'(by simp;omega)=g:=by simpa using (cn.mp hg).2
  have e4:its2.toArray[j]'(by simp;omega)=g2:=by simpa using (cn.mp hg2).2
  rw[e3,e4];exact Zl I 7 X.A.in1 _ _ w w2 g g2 _ (by show X.A.units+1+7<cx;omega) (h1 j _ _ (getElem?_eq_getElem j1) (getElem?_eq_getElem j2)) dw dw2 rg rg2
 .show L2.RelV (.bl _) (.bool _);simp only[L2.RelV,cf,l1,l2,h2,id];congr 1
def Yw(hu:X.A.units+8<cx):j6 X (compareOp .Eq) (λx y H Q=>r9 x y H Q\/VX X.K id x y H Q):=by
 intro pins s σ H x y v u Q I rx ry h;rcases h with h|h
 .exact TZ pins s σ H x y v u Q I rx ry h
 .exact PF hu pins s σ H x y v u Q I rx ry h
def Ao:F2:=λx y Q=>∃b,eqP 8 x y=aa b/\Q (.bl b)
def Yv{K:aq}:O3 K (λx y H Q=>r9 x y H Q\/VX K id x y H Q) Ao:=by
 intro S H x y dx dy Q3 Q fc hx hy hf k;obtain⟨b,e,q⟩:=hf;rcases DS e with⟨i,j,rfl,rfl,rfl⟩|⟨i,rfl,rfl,rfl⟩|⟨i,rfl,rfl,rfl⟩|⟨m,a,c,r,_,rfl,rfl,e1,rfl⟩
 .exact .inl (xQ S H x y (.int i) (.int j) Q3 Q fc hx hy ⟨rfl,q⟩ k)
 .exact .inl (xQ S H x y (.bl i) (.bl i) Q3 Q fc hx hy ⟨rfl,by rw[show eqS (.bl i) (.bl i)=ae from Zx rfl];exact q⟩ k)
 .exact .inl (xQ S H x y (.str i) (.str i) Q3 Q fc hx hy ⟨rfl,by rw[show eqS (.str i) (.str i)=ae from Zx rfl];exact q⟩ k)
 .exact .inr ⟨S,_,_,_,hx,hy,e,k _ H _ (Same.refl H) (by simp only[Dn];rfl) q⟩
def PH:Tells Ao yT:=λx y d Q e q=>by unfold yT at e;obtain⟨b,e1,rfl⟩:=qZ e;exact⟨b,e1,q⟩
open Classical in
theorem Yu(x y d:D)(e:yT x y=aa d):∃b,d=.bl b:=by
 unfold yT at e
 cases q:eqP 8 x y with
 |none=>rw[q] at e;cases e
 |some b=>rw[q] at e;cases e;exact⟨_,rfl⟩
def Ub(hu:X.A.units+9<cx)(ha:b8 X a fa)(hb:b8 X b fb):vC X (.Compare a [.Eq] [b] pos) (tV (aC yT fa fb)):=cT (oU (Yw (Nat.lt_of_succ_lt hu)) Yv ha hb (kJ _)) (oV PH Yu)
end
section
variable{X:Cx}
def VY(i:Nat){st:de}{f:SF}(h:pV X st f):pV X st (HG i f) :=
 iT h λB σ H Ua=>by obtain⟨H₀,S,w,ρ,G,E,hl,st,ht,ok⟩:=Ua;exact⟨H₀,S,w,freeze ρ i,G,E,hl,st.frozen,ht,ok⟩
end
end L4
namespace L5
open PySem.Spec PyProof.Rows L2 L3 L4
abbrev bmV:List ai:=[.type "ValueError",.type "Exception",.type "BaseException",.type "object"]
structure aOY (K:aq) (C:ah):Prop where
 ex:∃nm q N bs bm hdct sn sub ab col dd k0 k1 k2 k3 k5,K.lookup C=aa (excClassObj nm q C N bs bm hdct sn sub ab col dd k0 k1 k2 k3 k5 "ValueError.__new__")/\PySem.W.tailIn K bmV bm=ae/\PySem.W.nsOkIn K N=ae/\Ey K N "__init__"=aa af
open PySem.W Builtin.ObjectAttr Builtin.Getset_descriptor
structure aOZ (K:aq) (C:ah):Prop where
 hc:isClsIn K C=ae
 hm:mroIn K C (.type "object")=aa ae
 hs:subIn K (.ref C) (.type "BaseException")=aa ae
 hga:findIn K (.ref C) "__getattribute__"=aa (aa (.builtin "BaseException.__getattribute__"))
 hgg:findIn K (.ref C) "__getattr__"=aa af
 ha:findIn K (.ref C) "__class__"=aa (aa (.builtin "object.__class__"))
 hn:specialIn K (.builtin "object.__class__") "__get__"=aa (aa (.builtin "getset_descriptor.__get__"))
 ht:takesIn K (.builtin "object.__class__")=aa ae
section
variable{X:Cx}
theorem PJ(hc:X.calm=ae):iS X (.builtin "max") (λxs H Q=>∃a b,xs=[.int a,.int b]/\Q (.int (if b>a then b else a)) H):=by
 intro pins s σ H xs us Q I r h;obtain⟨a,b,rfl,q⟩:=h;obtain⟨u1,u2,rfl,⟨t1,rfl⟩,⟨t2,rfl⟩⟩:=vals2 r;refine max_two_ints (I.ok.hd hc) λh' tk hk=>⟨_,H,I.kept hk,?_,q⟩;by_cases z:b>a
 .rw [Z_ z,Z_ z];exact⟨_,rfl⟩
 .rw [Zz z,Zz z];exact⟨_,rfl⟩
def Ck(g:Int->Int->Int):F1
 |[.int a,.int b],Q=>Q (.int (g a b))
 |_,_=>False
theorem aAB{K:aq}{g:Int->Int->Int}:C3 K (λxs H Q=>∃a b,xs=[.int a,.int b]/\Q (.int (g a b)) H) (Ck g):=by
 intro S H xs ds Q3 Q fc hd hf k
 match ds,hf with
 |[.int a,.int b],hf =>
  obtain⟨v,r,rfl,h1,h2⟩:=hd.bO;obtain⟨v2,r2,rfl,h3,h4⟩:=h2.bO;simp only[aX] at h4;subst h4;simp only[Dn] at h1 h3;subst h1 h3;exact⟨a,b,rfl,k _ H _ (Same.refl H) (by simp only[Dn]) hf⟩
def JO:nA (Ck λa b=>if b>a then b else a) vL:=λds d Q e q=>by
 unfold vL at e;split at e
 .cases e;exact q
 .cases e
def T_(hc:X.calm=ae)(hm:X.mg "max"=af)(ha:A9 X [a,b] t)(hg:Gl X "max":=by rfl)(he:av [a,b] X.env=(ag,eval a X.env)::av [b] X.env:=by rfl)(hpl:(fq pos (av [b] X.env)).any (·.1)=ag:=by rfl):b8 X (.Call (.Name "max" p) [a,b] [] pos) (bI vL t) :=
 cE (xS (PJ hc) aAB a1K hg hm ha (by decide) (by decide) he hpl) (GF JO)
end
variable{K:aq}{C D:ah}
structure VZ (K:aq) (C D:ah):Prop where
 ne:(fu C == fu D)=ag
 c:isClsIn K D=ae
 t:typeIn K (.ref D)=aa (.type "type")
 s:subIn K (.ref C) (.ref D)=aa ag
def PK(c:isClsIn K D=ae)(ht:typeIn K (.ref D)=aa (.type "type"))(s:subIn K t (.ref D)=aa b):kitCls K t (.ref D)=aa b:=by have c:(clsIn K D).isSome=ae:=c;unfold kitCls;dsimp only;rw[c,ht,Z_ (by decide)];exact s
def VZ.one(n:VZ K C D):kitOne K (.ref C) (.ref D)=aa ag:=by unfold kitOne;rw[n.ne,Zz bt];exact PK n.c n.t n.s
end L5
namespace L5
open PySem.Spec PyProof.Rows L2 L3 L4
open Att
section
variable{X:Cx}
def An:F2
 |.lst a,.int n,Q=>a.length*n.toNat<=bg /\ -(2^63)<=n/\n<2^63/\Q (.lst (dm n.toNat a).flatten)
 |_,_,_=>False
theorem MT{K:aq}{S:ah->Prop}{H:Hp}{ds:List D}{xs:List V}(h:aX K S H ds xs):∀n:Nat,aX K S H (dm n ds).flatten (dm n xs).flatten
 |0=>aX.nil
 |n+1=>by rw[jg,jg,nu,nu];exact h.append (MT h n)
def rep3(ha:c9 X a ta)(hb:c9 X b tb):FR X (.BinOp a .Mult b pos) (g5 An ta tb):=imp (TY aCl ha hb) λσ H Q h=>by
 obtain⟨S,ρ,Q3,fc,sl,ht,k⟩:=h;refine⟨S,ρ,_,fc,sl,ht,λv H1 d s1 d1 q1=>?_⟩;refine⟨S,ρ,_,bX fc s1,Sl.fits (.same s1) sl,q1,λu H2 d2 s2 d2' q2=>?_⟩;cases d<;>cases d2<;>try exact q2.elim
 rename_i ds n;simp only[Dn] at d1 d2';obtain⟨a,xs,rfl,ha,sa,da⟩:=d1;subst d2';have da':=aX.fits (.same s2) _ _ da;obtain⟨z1,z2,z3,q3⟩:=q2;refine⟨a,n,xs,rfl,rfl,s2 _ _ ha,z2,z3,by rw[<- da.len];exact z1,λp hp=>k p _ _ _ ((s1.trans s2).free hp) aU ((s1.trans s2).trans (aZ hp)) ?_ q3⟩;exact aX.fits ((Fits.fresh hp).trans (.same (aZ hp))) _ _ (MT da' _)
def PM:Tells An repLM:=λx y d Q e q=>by
 cases x<;>first|(cases e;done)|skip
 cases y<;>first|(cases e;done)|skip
 rename_i a n;have e:(if a.length*n.toNat<=oN/\n.natAbs<9223372036854775808 then aa (D.lst (dm n.toNat a).flatten) else af)=aa d:=e;by_cases h:a.length*n.toNat<=oN/\n.natAbs<9223372036854775808
 .rw [Z_ h] at e;cases e;exact⟨by rw[gx];exact h.1,by have:=h.2;omega,by have:=h.2;omega,q⟩
 .rw [Zz h] at e;cases e
def TM(ha:b8 X a fa)(hb:b8 X b fb):kB X (.BinOp a .Mult b pos) (aC repLM fa fb):=cF (rep3 ha hb) (g8 PM)
def Cj(he:OV X e f)(hg:ZT X tg (wG g))(hs:swapsWithSole [tg] e pos.line X.env=pure ag:=by rfl)(hw:swappedStores [tg] e X.env=pure af:=by rfl)
  (h1:(ee [tg] X.env).map (·.2)=[assign tg X.env]:=by rfl):pV X (.Assign [tg] e pos) (HH f g) :=
 iT (TR he hg hs hw h1) λB σ H Tz=>by
  obtain⟨H₀,S,w,ρ,G,E,hl,st,ht,ok⟩:=Tz;unfold wS HH at ht
  cases e1:(f ρ).bind λp=>g p.2 p.1 with
  |none=>rw[e1] at ht;exact ht.elim
  |some ρ' =>
   rw[e1] at ht;obtain⟨p,ef,eg⟩:=bnd e1;refine⟨H₀,S,w,ρ,G,λρ2 d2=>ρ2=p.1/\d2=p.2,hl,st,⟨p,ef,rfl,rfl⟩,λw' v H' ρ2 d2 st' d' q'=>?_⟩;obtain⟨rfl,rfl⟩:=q';exact⟨H₀,S,w',p.1,G,p.2,_,hl,st',d',⟨ρ',eg,ht⟩,λσ' H2 ρ3 hl' st2 q3=>ok.nx w' σ' H2 ρ3 hl' st2 q3⟩
end
section
variable{X:Cx}
section
variable{ls fs:Q0g}{fr:List Nat}{sc:gf}{tg iter elt:ar}{ifs:List ar}{pos:bo}{i:Nat}{x:ak}{spos pos':bo}
theorem JP{ti:WI}{g:GE}{tf:WT}{te:WE}(nd:X.N.Nodup)(hc:X.calm=ae)(hi:OL X tg iter ti)
  (hg:∀cl C pn ex s H,(blk X (ls++fs) sc cl C pn ex s H).N.Nodup->ZX (blk X (ls++fs) sc cl C pn ex s H) ls.length tg g) (hf:∀cl C pn ex s H,IZ (blk X (ls++fs) sc cl C pn ex s H) ifs tf) (he:∀cl C pn ex s H,c9 (blk X (ls++fs) sc cl C pn ex s H) elt te)
  (hx0:X.N[i]?=aa x:=by rfl) (hx:X.env.scope.names.lookup x=aa .local:=by rfl) (hsw:fj (.ListComp elt [⟨tg,iter,ifs,0⟩] sc pos) (aa (.Name x pos')) spos.line X.env=pure ae:=by rfl)
  (B:XB X.env.scope.names sc X.N ls fs fr=ae:=by rfl) (hs:∀x,foldedSetIterable iter X.env x=pure x:=by intro _;rfl):A4 X (.Assign [.Name x pos'] (.ListComp elt [⟨tg,iter,ifs,0⟩] sc pos) spos) (Ct i (A6 ls.length fr ti g tf te)) :=
 iT (pN (g:=tJ X.K ls.length (ls++fs).length g) (tf:=liftT X.K tf) (te:=lift X.K te) nd hx0 hx hc (iU B) hi (λcl C pn ex s H=>hg cl C pn ex s H (iU B).nd) hf he hsw hs) λBd σ H Tx=>by
 obtain⟨H₀,S,w,ρ,G,E,hl,st,ht,ok⟩:=Tx;exact oB (n:=(ls++fs).length) (by rw[bq,(iU B).xT]) ⟨_,bW ρ,_,st.XA,st.all,ht,λp xs H' ds hp hp' s' d' q'=>ok.nx w _ H' _ (by rw[ia];exact hl) ((st.same s').jO (d:=.lst ds) (by rw[hl];exact gH hx0) (by simp only[Dn];exact⟨p,xs,rfl,hp',st.IV p hp,aX.tT q'.1 d'⟩)) q'.2⟩
variable{it:AF}{g:GEF}{t:TF}{e:EF}
def Tw{f:EF}{ρ:dJ}{Q:D->Prop}{o:Out}{d:D}(h:f ρ=aa d)(hl:oZ d=ae)(q:Q d):wE f ρ λd=>(match d with | .lst ds=>jS ds=ae|_=>False)/\Q d:=by refine⟨d,h,?_,q⟩;cases d<;>first|exact hl|cases hl
theorem JQ(nd:X.N.Nodup)(hc:X.calm=ae)(hi:VJ X tg iter it)
  (hg:∀cl C pn ex s H,(blk X (ls++fs) sc cl C pn ex s H).N.Nodup->O2 (blk X (ls++fs) sc cl C pn ex s H) ls.length tg g) (hf:∀cl C pn ex s H,O4 (blk X (ls++fs) sc cl C pn ex s H) ifs t) (he:∀cl C pn ex s H,b8 (blk X (ls++fs) sc cl C pn ex s H) elt e)
  (hx0:X.N[i]?=aa x:=by rfl) (hx:X.env.scope.names.lookup x=aa .local:=by rfl) (hsw:fj (.ListComp elt [⟨tg,iter,ifs,0⟩] sc pos) (aa (.Name x pos')) spos.line X.env=pure ae:=by rfl)
  (B:XB X.env.scope.names sc X.N ls fs fr=ae:=by rfl) (hs:∀x,foldedSetIterable iter X.env x=pure x:=by intro _;rfl):pV X (.Assign [.Name x pos'] (.ListComp elt [⟨tg,iter,ifs,0⟩] sc pos) spos) (jH i (bJ ls.length fr it g t e)) :=
 cS (JP nd hc hi hg hf he hx0 hx hsw B hs) λE ρ w=>by
  unfold wS jH at w
  cases h:bJ ls.length fr it g t e (bW ρ) with
  |none=>rw[h] at w;exact w.elim
  |some d =>
   rw[h] at w;dsimp only at w;by_cases hl:oZ d=ae
   .rw [Z_ hl] at w;exact DP _ _ (Tw (o:=.no) (Q:=λd=>E.nx (ρ.set i (.ro d))) h hl w)
   .rw [Zz hl] at w;exact w.elim
end
theorem DT:∀(l:Q0e) (a M:Int),(M=a\/M∈l)->a<=M->(∀b∈l,b<=M)->l.foldl (λm b=>if m<b then b else m) a=M
 |[],a,M,h,_,_=>by
  rcases h with h|h
  .exact h.symm
  .cases h
 |b::l,a,M,h,ha,hb=>by
  have hbM:=hb b (by simp);rw[jk];by_cases hab:a<b
  .rw [Z_ hab];refine DT l b M ?_ hbM λc hc=>hb c (by simp[hc]);rcases h with h|h
   .omega
   .rcases bu.mp h with h|h
    .exact .inl h
    .exact .inr h
  .rw [Zz hab];refine DT l a M ?_ ha λc hc=>hb c (by simp[hc]);rcases h with h|h
   .exact .inl h
   .rcases bu.mp h with h|h
    .exact .inl (by omega)
    .exact .inr h
end
end L5
namespace L6
open PySem.Spec PyProof.Rows
def Up(l:List Nat):Prop:=l.Pairwise (·<·)
structure TOk (led:Bool) (t:SetTable) (n:Nat):Prop where
 fit:t.fits n=ae
 led:t.led=led
 no:t.dummies=#[]
 up:Up t.place.toList
section
variable{prog:bh}{w:bb}{A:bp}{E:Q0c}{s:ao}
theorem stored(ho:s.heap.get? a=aa o)(hd:o.data=.set es ep t):
  (s.heap.update a (a0X es' t')).get? a=aa {o with data:=.set es' (ep+1) t' }:=by
 have q:=ud (a0X es' t') ho (by rw[putSet_of es' t' hd];rfl)
 rwa [putSet_of es' t' hd] at q
end
open L2 L3 L4
section
variable{X:Cx}
def Jl{kt k2 TU}(hc:X.calm=ae)(hN:X.N.Nodup)(ha:A9 X [a,b] t)(hi:X.N[i]?=aa x:=by rfl)(hj:X.N[j]?=aa y:=by rfl)(hij:i≠j:=by decide)
  (hx:X.env.scope.names.lookup x=aa .local:=by rfl) (hy:X.env.scope.names.lookup y=aa .local:=by rfl)
  (hw:swappedStores [.Tuple [.Name x px,.Name y py] kt pt] (.Tuple [a,b] k2 TU) X.env=pure (aa [x,y]):=by rfl)
  (hs:swapsWithSole [.Tuple [.Name x px,.Name y py] kt pt] (.Tuple [a,b] k2 TU) pos.line X.env=pure ag:=by rfl):
  pV X (.Assign [.Tuple [.Name x px,.Name y py] kt pt] (.Tuple [a,b] k2 TU) pos) (M8 i j t) :=
 iT (aCT hc hN hi hj hij hx hy ha hw hs) λB σ H Tv=>by
  obtain⟨H₀,S,w,ρ,G,E,hl,st,ht,ok⟩:=Tv;unfold wS M8 at ht
  cases et:t (gJ ρ) with
  |none=>rw[et] at ht;exact ht.elim
  |some ds =>
   rw[et] at ht
   match ds,et,ht with
   |[d1,d2],et,ht =>
    refine⟨_,gJ ρ,λes=>es=[d1,d2],st.IV,st.rd,⟨_,et,rfl⟩,λvs H1 es s1 q1 e=>?_⟩;subst e;obtain⟨v1,r,rfl,q2,q3⟩:=q1.bO;obtain⟨v2,r2,rfl,q4,q5⟩:=q3.bO;simp only[aX] at q5;subst q5;refine⟨v1,v2,rfl,?_⟩;have st1:=(st.same s1).jO (by rw[hl];exact gH hi) q2;have m:∀a,SO S w ρ a->SO S w (ρ.set i (.ro d1)) a:=SO.mono λk e he=>by
     rcases get_set he with⟨_,z,_⟩|z
     .cases z
     .exact ⟨e,z.2⟩
    have st2:=st1.jO (i:=j) (by rw[ia,hl];exact gH hj) (Dn.fits (.mono m) _ _ q4);exact ok.nx w _ H1 _ (by rw[ia,ia];exact hl) st2 ht
   |[],et,ht=>exact ht.elim
   |[_],et,ht=>exact ht.elim
   |_::_::_::_,et,ht=>exact ht.elim
end
theorem GN(ht:jz s.heap t its.toArray)(hz:its.length<=bg)
  (h:∀h',s.heap.objs.size<=h'.objs.size->(∀b u,s.heap.get? b=aa u->h'.get? b=aa u)->Q its {s with heap:=h' }):ax (ay prog w) A (collect (.ref t)) Q E s:=by
 obtain⟨ot,hot,hct,nt,hdt⟩:=id ht;unfold collect;apply au;apply a0h;refine qk a1d ?_;rw[qt a1a]
 wp_walk
 refine⟨xp yi _,qk a1f ?_⟩;rw[qt yi];have g0:(s.heap.push {cls:=.type "list",data:=.seq #[]}).get? s.heap.objs.size=aa {cls:=.type "list",data:=.seq #[] 0}:=gg _ rfl;refine wpAny_extend_seq (R:=wants _ _) (s:={s with heap:=s.heap.push {cls:=.type "list",data:=.seq #[]} }) s.heap.objs.size t _ 0 (.inr rfl) g0 (di _ hot) hct hdt ?_ (by simpa using hz);have g1:=ud (gz (· ++ its.toArray)) g0 rfl;apply au;apply Ei g1;have fin:=h ((s.heap.push {cls:=.type "list",data:=.seq #[]}).update s.heap.objs.size (gz (· ++ its.toArray))) (ku (cb g1)) λb u e=>(Fe _ _ (m_ (cb e))).trans (di _ e);refine a_ ?_;simpa using fin
theorem JR(ht:jz s.heap t its.toArray)(hv:lp its ns)(jb:ns.length<64)
  (h:∀h' tk l out ns' e,(∀b u,s.heap.get? b=aa u->h'.get? b=aa u)->s.heap.objs.size<=l->lp out ns'->ns'.Perm ns->ns'.Pairwise (· <= ·)->h'.get? l=aa (seqObj "list" out.toArray e)->Q (.ref l) {s with heap:=h',toks:=tk}):
  ax (ay prog w) A (call (.builtin "sorted") [.ref t]) Q E s:=by
 have lv:its.length<64:=by rw[IntsAre.length hv];exact jb
 apply Calls.call_function_entry a1F a1D a1H (args_sorted1 _);unfold Builtin.«sorted»;refine au (m:=checkCount "sorted" 1 1 _) (a_ (au (GN (A:=A.in1) ht (by rw[gx];omega) λh1 l1 keep=>?_)));apply au;refine Eh ?_ (by rw[gx];omega);have g1:(h1.push (seqObj "list" its.toArray 0)).get? h1.objs.size=aa (seqObj "list" its.toArray 0):=gg _ rfl;refine au (jo (kn a1A ⟨_,g1,rfl⟩ a1I (list_sort_tree g1 hv lv λout ns' a1 a2 a3=>⟨_,rfl,?_⟩) (args_list_sort _)));obtain⟨e,g2⟩:=sortedHeap_at (out:=out) g1;refine a_ ⟨_,rfl,h _ s.toks _ out.toList ns' e (λb u q=>?_) l1 a1 a2 a3 (by simpa using g2)⟩;have lb:=cb (keep b u q);rw[sortedHeap_old (h_ lb) (by rw[uc];exact qw lb)];exact di _ (keep b u q)
section
variable{X:Cx}
def Yt(K:aq):List V->Hp->VK->Prop:=λxs H Q=>∃(a:ah) (ns:Q0e),xs=[.ref a]/\fT K H a (ns.map V.int)/\ns.length<64 /\∀ns':Q0e,ns'.Perm ns->ns'.Pairwise (· <= ·) ->∀p,H p=af->Q (.ref p) (upd H p (.lst (ns'.map V.int)))
def JS:iS X (.builtin "sorted") (Yt X.K):=by
 intro pins s σ H xs us Q I r h;obtain⟨a,ns,rfl,ha,jb,q⟩:=h;obtain⟨u,rfl,ru⟩:=vals1 r;cases ru;obtain⟨its,rv,pl,hz⟩:=I.tuple ha;refine JR pl (intsAre_of rv) jb λh' tk l out ns' e keep hl a1 a2 a3 g=>?_;have hz2:ns'.length<=bg:=by rw[a2.length_eq,gx];omega
 have I1:=I.laid (t':=tk) (a:=l) (o:=.lst (ns'.map V.int)) keep hl ⟨by rw[az];exact hz2,out,e,n6 a1,by simpa[seqObj] using g⟩;exact⟨.ref l,_,I1,rfl,q ns' a2 a3 l (I.hok.fresh hl)⟩
def V0(hm:X.mg "sorted"=af)(ha:A9 X [e] t)(hg:Gl X "sorted":=by rfl)(he:av [e] X.env=(ag,eval e X.env)::av [] X.env:=by rfl):
  kB X (.Call (.Name "sorted" p) [e] [] pos) (bI mI t) :=
 imp (qS JS hg hm Fs ha (by decide) (by decide) he (by rfl)) λσ H Q Tu=>by
  obtain⟨S,ρ,Q3,fc,sl,⟨d,ed,q3⟩,k⟩:=Tu;obtain⟨ds,eds,ed⟩:=bnd ed;refine⟨S,ρ,λes=>es=ds,fc,sl,⟨_,eds,rfl⟩,λvs H1 es s1 d1 q1=>?_⟩;subst q1;unfold mI at ed;split at ed
  .rename_i a;obtain⟨ns,e1,ed⟩:=bnd ed;by_cases hl:ns.length<64
   .rw [Z_ hl] at ed;cases ed;rw[ints_of e1] at d1;obtain⟨v,r,rfl,h1,h2⟩:=d1.bO;simp only[aX] at h2;subst h2;simp only[Dn] at h1;obtain⟨t1,xs,rfl,ht,dt⟩:=h1;rw[aX.ints.mp dt] at ht;refine⟨t1,ns,rfl,fT.of ht,hl,λns' pm so l hl2=>?_⟩;have e3:ns'=sortI ns:=pR (pm.trans (nB _).symm) so (kM _);subst e3;exact k l _ _ _ (s1.free hl2) aU (s1.trans (aZ hl2)) (aX.ints.mpr rfl) q3
   .rw [Zz hl] at ed;cases ed
  .cases ed
end
end L6
namespace L7
open PySem.Spec PyProof.Rows L2 L3 L4 LL
def kI(ns:Q0e):List Key:=ns.map c_
def Tt(ns:Q0e):(kI ns).map kV=ns.map V.int:=by unfold kI;rw[dq];rfl
theorem V1:∀{a b:Q0e},kI a=kI b->a=b
 |[],[],_=>rfl
 |[],_::_,h=>by cases h
 |_::_,[],h=>by cases h
 |x::a,y::b,h=>by unfold kI at h;rw[ba,ba] at h;injection h with h1 h2;injection h1 with h1;rw[h1,V1 h2]
section
variable(rd:List Int->List (List Int))
def Memo(n:Nat)(kvs:List (List Key×V)):Prop:=∀k v,gI kvs k=aa v ->∃ns:Q0e,k=kI ns/\v=.int (Wf rd (n-ns.length) ns)
def Memo.put(h:Memo rd n kvs)(a:Q0e):Memo rd n (putK kvs (kI a) (.int (Wf rd (n-a.length) a))):=λk v e=>by
 rw[UH] at e;split at e
 .rename_i z;cases e;exact⟨a,z,rfl⟩
 .exact h k v e
def Memo.at(h:Memo rd n kvs)(e:gI kvs (kI a)=aa v):v=.int (Wf rd (n-a.length) a):=by obtain⟨ns,e1,e2⟩:=h _ _ e;rw[V1 e1];exact e2
def But(p:ah)(H H':Hp):Prop:=∀b o,b≠p->H b=aa o->H' b=aa o
def But.trans(a:But p H H1)(b:But p H1 H2):But p H H2:=λc o n h=>b c o n (a c o n h)
def But.upd:But p H (upd H p o):=λc q n h=>by rw[bE n];exact h
abbrev All:ah->Prop:=λ_=>True
end
def At(K:aq)(x:Q0a)(a:Q0e)(p:ah)(σ:L2.St)(H:Hp):Prop :=
 ∃vo va,σ[0]?=aa (aa vo)/\Dn K All H (aJ x) vo/\σ[1]?=aa (aa va)/\Dn K All H (tupI a) va/\σ[2]?=aa (aa (.ref p))
def At.key{K:aq}{x:Q0a}{a:Q0e}{p:ah}{σ:L2.St}{H:Hp}(h:At K x a p σ H):∃b,σ[1]?=aa (aa (.ref b))/\H b=aa (.tup ((kI a).map kV)):=by obtain⟨vo,va,h1,h2,h3,h4,h5⟩:=h;unfold tupI at h4;simp only[Dn] at h4;obtain⟨b,ys,rfl,hb,db⟩:=h4;rw[aX.ints.mp db] at hb;exact⟨b,h3,by rw[Tt];exact hb⟩
section
variable{K:aq}{rd:List Int->List (List Int)}{x:Q0a}{Ok:List Int->Prop}{a:Q0e}{p:ah}{σ:L2.St}{H:Hp}{kvs:List (List Key×V)}
structure Parts (K:aq) (rd:List Int->List (List Int)) (x:Q0a) (a:Q0e) (C1:TT) (T1:TE) (T3:TS):Prop where
 c1:∀p σ H Q,At K x a p σ H->(∀H',Same H H'->Q (Zv (a.length=x.length)) H')->C1 σ H Q
 t1:∀σ H (Q:VK),(∀H',Same H H'->Q (.int 1) H')->T1 σ H Q
 t3:∀p (D:Ends) σ H,σ.length=4->At K x a p σ H->a.length<x.length->(∀(σ':L2.St) (H':Hp) (l:ah) (ps:List ah),Same H H'->At K x a p σ' H'->σ'[3]?=aa (aa (.ref l))->H' l=aa (.lst (ps.map V.ref))->ps.length=(rd a).length ->
  (∀(i:Nat) (q:ah) (b:Q0e),ps[i]?=aa q->(rd a)[i]?=aa b->H' q=aa (.tup (b.map V.int)))->D.nx σ' H')->T3 D σ H
end
section
variable{K:aq}{rd:List Int->List (List Int)}{x:Q0a}{Ok:List Int->Prop}{a:Q0e}{p:ah}{σ:L2.St}{H:Hp}{kvs:List (List Key×V)}
def wst(x:Q0a)(a:Q0e)(p:ah):bV:=[.ro (aJ x),.ro (tupI a),.ro (.exc "" p),.no]
theorem At.st(h:At K x a p σ H):ST K H All (λ_=>0) σ H (wst x a p) []:=by
 have no:∀(i:Nat) (d:D),(wst x a p)[i]?≠aa (Sv.ow d):=λi d e=>by
  match i,e with
  |0,e=>cases e
  |1,e=>cases e
  |2,e=>cases e
  |3,e=>cases e
  |n+4,e=>simp[wst] at e
 obtain⟨vo,va,h1,h2,h3,h4,h5⟩:=h;refine⟨λ_ _=>trivial,Same.refl H,λi d e=>Zw e (no i d),λi j d e h=>Zw h (no i d),λi d e=>?_,λg hg=>(by cases hg),λi _ e=>Zw e (no i _)⟩;have m:∀b,All b->SO All (λ_=>0) (wst x a p) b:=λb _=>⟨trivial,λi d e=>Zw e (no i d)⟩
 match i,e with
 |0,e=>cases e;exact⟨vo,h1,Dn.fits (.mono m) _ _ h2⟩
 |1,e=>cases e;exact⟨va,h3,Dn.fits (.mono m) _ _ h4⟩
 |2,e=>cases e;exact⟨_,h5,by simp only[Dn]⟩
 |3,e=>cases e
 |n+4,e=>simp[wst] at e
end
section
variable{prog:bh}{w:bb}{A:bp}{E:Q0c}{s:ao}{d it:ah}{o:aw}{es:Array yl}{ep i:Nat}
theorem PN(hs:(d == sysModules)=ag)(ho:s.heap.get? d=aa o)(hx:o.ExactDict)(hd:o.data=.dict es ep)
  (h:Q (.ref s.heap.objs.size) {s with heap:=s.heap.push {cls:=.type "dict_keyiterator",data:=.fields #[.ref d,.int 0 0,.int es.size 0,.int ep 0]} }):ax (ay prog w) A (pyIter (.ref d)) Q E s:=by
 have tD:s.TypeIs (.ref d) "dict":=⟨o,ho,hx.1⟩;refine wpAny_pyIter_slot tD a08 (kn a08 tD F.entry_dict_iter ?_ (F.args_dict_iter_1 _))
 (unfold Builtin.«dict.__iter__»;wp_walk)
 rw[hx.1,Zz (by decide)]
 wp_walk
 rw[hd];refine a_ ?_
 wp_walk
 rw[hd];refine a_ ?_
 wp_walk
 exact⟨.ref s.heap.objs.size,rfl,"dict_keyiterator",_,⟨_,gg _ rfl,rfl⟩,ue.lookup,h⟩
theorem PQ(hi:s.heap.IsKeyIter it d i es.size ep)(ho:s.heap.get? d=aa o)(hd:o.data=.dict es ep)(hl:i<es.size)
  (h:∀h',h'.IsKeyIter it d (i+1) es.size ep->pb it s.heap h'->Q (aa es[i].key) {s with heap:=h' }):ax (ay prog w) A (pyNext (.ref it)) Q E s:=by
 have tI:=hi.typeIs;obtain⟨oi,hoi,hci,hdi⟩:=id hi;unfold pyNext;refine au (Ek (qj (name:=qm "__next__") tI ue (kn ue tI a1g ?_ (a1k _))));unfold Builtin.«dict_keyiterator.__next__»
 wp_walk
 rw[hdi,show((yf "dict_keyiterator").elim "dict_keyiterator" λx=>x.tpName)="dict_keyiterator" by rw[xq];kernel_rfl,Zz (by decide)]
 wp_walk
 rw[hd];refine a_ ?_;rw[Zz (by simp)]
 wp_walk
 rw[hd];refine a_ ?_;rw[Zz (by simp)];refine a_ ?_;dsimp only;rw[Zz (by omega),gk,me hl];dsimp only
 wp_walk
 rw[hdi];dsimp only;simp only[show((yf "dict_keyiterator").elim "dict_keyiterator" λx=>x.tpName)="dict_keyiterator" by rw[xq];kernel_rfl,show a1v "dict_keyiterator"=ag from by decide,oj,if_false];generalize hb:List.any _ _=bw;have eb:bw=ag:=by rw[<- hb];decide
 subst eb;rw[Z_ (by simp),Zz (by decide)];have g1:=ud (Fd λx=>x.setIfInBounds (0+1) (rawInt ((i:Int)+1))) hoi (a0Y (ye hdi _));have hi1:(s.heap.update it (Fd λx=>x.setIfInBounds (0+1) (rawInt ((i:Int)+1)))).IsKeyIter it d (i+1) es.size ep:=⟨_,g1,(a0Z ..).trans hci,by rw[ye hdi];simp[rawInt]⟩;have fin:=h _ hi1 (mw ..);refine wpAny_update hoi ?_;have t1:Shared.TypeIs {s with heap:=s.heap.update it (Fd λx=>x.setIfInBounds (0+1) (rawInt ((i:Int)+1)))} (.ref it) "dict_keyiterator":=hi1.typeIs;refine au (jo (au (wpAny_isOneOf_keyiter t1 ?_)));rw[Z_ (by decide)];exact a_ (a_ ⟨_,rfl,a_ fin⟩)
theorem V2(hh:A.handled=af)(hi:s.heap.IsKeyIter it d i es.size ep)(ho:s.heap.get? d=aa o)(hd:o.data=.dict es ep)(hl:es.size<=i)
  (h:∀h',a01 it s.heap h'->Q af {s with heap:=h' }):ax (ay prog w) A (pyNext (.ref it)) Q E s:=by
 have tI:=hi.typeIs;obtain⟨oi,hoi,hci,hdi⟩:=id hi;unfold pyNext;refine au (Ek (qj (name:=qm "__next__") tI ue (kn ue tI a1g ?_ (a1k _))));unfold Builtin.«dict_keyiterator.__next__»
 wp_walk
 rw[hdi,show((yf "dict_keyiterator").elim "dict_keyiterator" λx=>x.tpName)="dict_keyiterator" by rw[xq];kernel_rfl,Zz (by decide)]
 wp_walk
 rw[hd];refine a_ ?_;rw[Zz (by simp)]
 wp_walk
 rw[hd];refine a_ ?_;rw[Zz (by simp)];refine a_ ?_;dsimp only;rw[Zz (by omega),gk,a2T hl];dsimp only
 wp_walk
 rw[hdi];dsimp only;simp only[show((yf "dict_keyiterator").elim "dict_keyiterator" λx=>x.tpName)="dict_keyiterator" by rw[xq];kernel_rfl,show a1v "dict_keyiterator"=ag from by decide,oj,if_false];rw[Z_ (by simp)]
 wp_walk
 have hA:A.in1.handled=af:=hh;unfold raiseNew;apply au;apply a0l;rw[hA];refine au (a_ (a0c (au ?_)));refine Ej (b:=ae) (T:="StopIteration") ?_ isSubtype_stop ?_
 .exact ⟨_,gg _ rfl,rfl⟩
 apply a_;apply h;exact((mw ..).extBut.push _).push _
end
end L7
namespace L8
open PySem.Spec PyProof.Rows L2
def gA(kvs:List (KX×V×V))(k:KX):Option V:=(kvs.find? λp=>Zv (p.1=k)).map (·.2.2)
def d7(kvs:List (KX×V×V))(k:KX)(y v:V):List (KX×V×V):=if kvs.any (λp=>Zv (p.1=k))=ae then kvs.map (λp=>if p.1=k then(p.1,p.2.1,v) else p) else kvs++[(k,y,v)]
def DY(H:Hp):KX->V->Prop
 |.inl k,y=>y=kV k
 |.inr ks,y=>∃b,y=.ref b/\mY H ks b
def nE(kvs:List (KX×V×V))(k:KX):Prop:=∀p∈kvs,p.1.isLeft=k.isLeft
def GO(kvs:List (KX×V×V))(k:KX)(y v:V):(d7 kvs k y v).length<=kvs.length+1:=by
 unfold d7;split
 .rw [az];omega
 .simp
abbrev PL:List (KX×V×V)->List (Key×ai)->Prop:=iu λp q=>p.1=.inl q.1/\p.2.1=kV q.1/\RelV p.2.2 q.2
abbrev PT(H:Hp):List (KX×V×V)->List (N1×ah×ai)->Prop:=iu λp q=>p.1=.inr q.1/\p.2.1=.ref q.2.1/\mY H q.1 q.2.1/\RelV p.2.2 q.2.2
theorem PL.val(r:PL kvs vs)(k:Key):mX (gA kvs (.inl k)) (valueAt vs k):=by
 induction r with
 |nil=>exact jn
 | @cons p q ps qs h t ih =>
  by_cases e:q.1=k
  .have e1:p.1=.inl k:=by rw[h.1,e]
   have a:gA (p::ps) (.inl k)=aa p.2.2:=by unfold gA;rw[ib,Zx e1];rfl
   have b:valueAt (q::qs) k=aa q.2:=by unfold valueAt;rw[ib];simp[e]
   rw[a,b];exact h.2.2
  .have e1:¬ p.1=.inl k:=λz=>e (by rw[h.1] at z;exact xj z);have a:gA (p::ps) (.inl k)=gA ps (.inl k):=by unfold gA;rw[ib,Zy e1]
   have b:valueAt (q::qs) k=valueAt qs k:=by unfold valueAt;rw[ib];simp[e]
   rw[a,b];exact ih
theorem PT.val(r:PT H kvs xs)(k:N1):mX (gA kvs (.inr k)) ((atKey xs k).map (·.2)):=by
 induction r with
 |nil=>exact jn
 | @cons p q ps qs h t ih =>
  by_cases e:q.1=k
  .have e1:p.1=.inr k:=by rw[h.1,e]
   have a:gA (p::ps) (.inr k)=aa p.2.2:=by unfold gA;rw[ib,Zx e1];rfl
   have b:atKey (q::qs) k=aa q.2:=by unfold atKey;rw[ib];simp[e]
   rw[a,b];exact h.2.2.2
  .have e1:¬ p.1=.inr k:=λz=>e (by rw[h.1] at z;exact tm z);have a:gA (p::ps) (.inr k)=gA ps (.inr k):=by unfold gA;rw[ib,Zy e1]
   have b:atKey (q::qs) k=atKey qs k:=by unfold atKey;rw[ib];simp[e]
   rw[a,b];exact ih
theorem V3(kvs:List (KX×V×V))(k:KX):kvs.any (λp=>Zv (p.1=k))=(gA kvs k).isSome:=by
 unfold gA;rw[ug]
 induction kvs with
 |nil=>rfl
 |cons p ps ih =>
  rw[km,ib,ih];cases Zv (p.1=k)<;>rfl
def PL.put(r:PL kvs vs)(k:Key)(rv:RelV v u):PL (d7 kvs (.inl k) (kV k) v) (stored vs k u):=by
 have e:kvs.any (λp=>Zv (p.1=.inl k))=vs.any (λkv=>kv.1=k):=by
  induction r with
  |nil=>rfl
  | @cons p q ps qs h t ih =>
   rw[km,km,ih,h.1];congr 1;exact decide_eq_decide.2 ⟨λz=>xj z,λz=>by rw[z]⟩
 unfold d7 stored;rw[e];split
 .rename_i hc
  clear hc e
  induction r with
  |nil=>exact .nil
  | @cons p q ps qs h t ih =>
   rw[ba,ba];refine .cons ?_ ih;by_cases z:q.1=k
   .rw [Z_ z,Z_ (by rw[h.1,z])];exact⟨h.1,h.2.1,rv⟩
   .rw [Zz z,Zz (λy=>z (by rw[h.1] at y;exact xj y))];exact h
 .exact yd r ⟨rfl,rfl,rv⟩
def PT.put(r:PT H kvs xs)(k:N1)(hb:mY H k b)(rv:RelV v u):PT H (d7 kvs (.inr k) (.ref b) v) (storedH xs k b u):=by
 have e:kvs.any (λp=>Zv (p.1=.inr k))=(atKey xs k).isSome:=by rw[V3];have:=(PT.val r k).n8;rw[ug] at this;exact this
 unfold d7 storedH;rw[e];split
 .rename_i hc
  clear hc e
  induction r with
  |nil=>exact .nil
  | @cons p q ps qs h t ih =>
   rw[ba,ba];refine .cons ?_ ih;unfold putAt;by_cases z:q.1=k
   .rw [Z_ z,Z_ (by rw[h.1,z])];exact⟨h.1,h.2.1,h.2.2.1,rv⟩
   .rw [Zz z,Zz (λy=>z (by rw[h.1] at y;exact tm y))];exact h
 .exact yd r ⟨rfl,rfl,hb,rv⟩
section
variable{P:bh}{w:bb}{H:Hp}{h:bf}{a:ah}{o:aw}{kvs:List (KX×V×V)}
def l5(ok:oI P w H h)(n:mY H ks b):(gW P w).is h ks b:=by
 obtain⟨vs,e,r⟩:=n;obtain⟨_,its,rv,⟨q,h1,h2,m,h3⟩,_⟩:=(show dP P w H h b (.tup vs) from ok b _ e);have go:∀{ks:N1} {vs:List V} {us:Q0f},iu (xF H) ks vs->Vals vs us->gU (bC P w) h ks us:=by
  intro ks vs us r
  induction r generalizing us with
  |nil=>intro rv;cases rv;exact .nil
  | @cons k v ks vs i _ ih =>
   intro rv
   cases rv with
   | @cons _ u _ us ru rt =>
    refine .cons ?_ (ih rt)
    cases k with
    |inl k =>
     have i:v=kV k:=i;subst i;exact oS ru
    |inr k =>
     obtain⟨c,rfl,hc⟩:=i;have ru:u=.ref c:=ru;exact⟨c,ru,DF ok hc⟩
 exact⟨q,its.toArray,m,h1,h2,h3,by simpa using go r rv⟩
def nF(x:y7 P w H o kvs)(ho:h.get? a=aa o)(hp:∀p∈kvs,p.1.isLeft=ae):∃vs,PL kvs vs/\h.DictOf (bC P w) a vs:=by
 obtain⟨ex,es,ep,ed,hx⟩:=x;rcases hx with⟨vs,r,h1,h2,h3⟩|⟨xs,r,h1,h2⟩
 .exact ⟨vs,r,o,es,ep,ho,ex,ed,h1,h2,h3⟩
 .cases r with
  |nil =>
   have e0:es.toList=[]:=h1;have e1:es=#[]:=by simpa using e0
   subst e1;exact⟨[],.nil,o,#[],ep,ho,ex,ed,(λ_ he=>by simp at he),.nil,kh⟩
  | @cons p q ps qs hq t =>
   have:=hp p b_;rw[hq.1] at this;cases this
def rF(ok:oI P w H h)(x:y7 P w H o kvs)(ho:h.get? a=aa o)(hp:∀p∈kvs,p.1.isLeft=ag):∃xs,PT H kvs xs/\h.DictOfH (gW P w) a xs:=by
 obtain⟨ex,es,ep,ed,hx⟩:=x;rcases hx with⟨vs,r,h1,h2,h3⟩|⟨xs,r,h1,h2⟩
 .cases r with
  |nil =>
   have e0:es.toList=[]:=a2y (by rw[h2.length];rfl);exact⟨[],.nil,o,es,ep,ho,ex,ed,e0,(λ_ he=>by simp at he),kh⟩
  | @cons p q ps qs hq t =>
   have:=hp p b_;rw[hq.1] at this;cases this
 .refine ⟨xs,r,o,es,ep,ho,ex,ed,h1,?_,h2⟩;have go:∀{kvs:List (KX×V×V)} {xs:List (N1×ah×ai)},PT H kvs xs ->∀x∈xs,(gW P w).is h x.1 x.2.1:=by
   intro kvs xs r
   induction r with
   |nil=>intro x hx;cases hx
   |cons hq _ ih =>
    intro x hx;rcases bu.1 hx with e|hx
    .subst e;exact l5 ok hq.2.2.1
    .exact ih x hx
  exact go r
end
section
variable{X:Cx}{pins:Q0b}{σ:L2.St}{H:Hp}{s:ao}{a:ah}{y v z:V}{u r:ai}{A:bp}{E:Q0c}{o:aw}{kvs:List (KX×V×V)}{k:KX}
def oW(I:Inv X pins σ H s)(e:H a=aa (.dX o kvs)):kvs.length<=bg/\(a == sysModules)=ag/\s.heap.get? a=aa o/\y7 X.prog X.w H o kvs:=I.hok a _ e
def s_{k:Key}(kd:nE kvs (.inl k)):∀p∈kvs,p.1.isLeft=ae:=kd
def sy{k:N1}(kd:nE kvs (.inr k)):∀p∈kvs,p.1.isLeft=ag:=kd
theorem PU(hu:A.units+2<cx)(I:Inv X pins σ H s)(e:H a=aa (.dX o kvs))(hk:DY H k y)(kd:nE kvs k)(hv:gA kvs k=aa v)(ry:RelV y u)(h:∀w' s',Inv X pins σ H s'->RelV v w'->Q w' s'):
  ax (ay X.prog X.w) A (getItem (.ref a) u) Q E s:=by
 obtain⟨z,hs,ho,hx⟩:=oW I e
 cases k with
 |inl k =>
  have hk:y=kV k:=hk;subst hk;obtain⟨vs,rel,dd⟩:=nF hx ho (s_ kd);obtain⟨w',hw,wL⟩:=mX.some_of (v:=v) (o:=valueAt vs k) (by rw[<- hv];exact PL.val rel k);exact a0m (oS ry) dd.mapOf hw (h w' _ (I.tok _) wL)
 |inr k =>
  obtain⟨b,rfl,hb⟩:=hk;obtain rfl:u=fu b:=ry;obtain⟨xs,rel,dd⟩:=rF I.hok hx ho (sy kd);obtain⟨w',hw,wL⟩:=mX.some_of (v:=v) (o:=(atKey xs k).map (·.2)) (by rw[<- hv];exact PT.val rel k);obtain⟨p,hp,hp2⟩:=mx.mp hw;refine a0n (nest_room hu) (l5 I.hok hb) dd hp ?_;rw[hp2];exact h w' _ (I.tok _) wL
theorem Am(neg:Bool)(hu:A.units+2<cx)(I:Inv X pins σ H s)(e:H a=aa (.dX o kvs))(hk:DY H k y)(kd:nE kvs k)(ry:RelV y u)(h:∀s',Inv X pins σ H s'->Q (.bool (if neg then !(gA kvs k).isSome else(gA kvs k).isSome)) s'):
  ax (ay X.prog X.w) A (compareOp (if neg then .NotIn else .In) u (.ref a)) Q E s:=by
 obtain⟨z,hs,ho,hx⟩:=oW I e
 cases k with
 |inl k =>
  have hk:y=kV k:=hk;subst hk;obtain⟨vs,rel,dd⟩:=nF hx ho (s_ kd);have ev:(gA kvs (.inl k)).isSome=(valueAt vs k).isSome:=(PL.val rel k).n8;rw[ev] at h
  cases neg with
  |false=>exact wpAny_in_of (oS ry) hs dd.mapOf (h _ (I.tok _))
  |true=>exact wpAny_notIn_of (oS ry) hs dd.mapOf (h _ (I.tok _))
 |inr k =>
  obtain⟨b,rfl,hb⟩:=hk;obtain rfl:u=fu b:=ry;obtain⟨xs,rel,dd⟩:=rF I.hok hx ho (sy kd);have ev:=(PT.val rel k).n8;rw[ug] at ev;rw[ev] at h
  cases neg with
  |false=>exact wpAny_in_heap (nest_room hu) (l5 I.hok hb) hs dd (h _ (I.tok _))
  |true=>exact wpAny_notIn_heap (nest_room hu) (l5 I.hok hb) hs dd (h _ (I.tok _))
def yC(I:Inv X pins σ H s)(e:H a=aa (.dX o kvs)):s.TypeIs (.ref a) "dict":=by obtain⟨z,hs,ho,hx⟩:=oW I e;exact⟨o,ho,hx.1.1⟩
theorem Ys(hu:A.units+2<cx)(I:Inv X pins σ H s)(e:H a=aa (.dX o kvs))(hk:DY H k y)(kd:nE kvs k)(ry:RelV y u)(rz:RelV z r)(h:∀w' s',Inv X pins σ H s'->RelV ((gA kvs k).getD z) w'->Q w' s'):
  ax (ay X.prog X.w) A (call (.builtin "dict.get") [.ref a,u,r]) Q E s:=by
 obtain⟨_,hs,ho,hx⟩:=oW I e;have tI:=yC I e
 cases k with
 |inl k =>
  have hk:y=kV k:=hk;subst hk;obtain⟨vs,rel,dd⟩:=nF hx ho (s_ kd);exact a0G Fg tI a1h (a1l _ _ _) (meets_dict_get_default (bC X.prog X.w) a (oS ry) hs r) ⟨_,dd.mapOf,h _ _ (I.tok _) ((PL.val rel k).getD rz)⟩
 |inr k =>
  obtain⟨b,rfl,hb⟩:=hk;obtain rfl:u=fu b:=ry;obtain⟨xs,rel,dd⟩:=rF I.hok hx ho (sy kd);exact a0G Fg tI a1h (a1l _ _ _) (meetsH_dict_get_default (gW X.prog X.w) a b hs r) ⟨nest_room hu,k,xs,l5 I.hok hb,dd,h _ _ (I.tok _) ((PT.val rel k).getD rz)⟩
def GP{P:bh}{w:bb}{h':bf}{H':Hp}{kvs:List (KX×V×V)}{vs:List (Key×ai)}(rel:PL kvs vs)(dd:h'.DictOf (bC P w) a vs):∃o',h'.get? a=aa o'/\y7 P w H' o' kvs:=by obtain⟨o',es,ep,h1,h2,h3,h4,h5,h6⟩:=dd;exact⟨o',h1,h2,es,ep,h3,.inl ⟨vs,rel,h4,h5,h6⟩⟩
def MU{P:bh}{w:bb}{h':bf}{H':Hp}{kvs:List (KX×V×V)}{xs:List (N1×ah×ai)}(rel:PT H' kvs xs)(dd:h'.DictOfH (gW P w) a xs):∃o',h'.get? a=aa o'/\y7 P w H' o' kvs:=by obtain⟨o',es,ep,h1,h2,h3,h4,_,h6⟩:=dd;exact⟨o',h1,h2,es,ep,h3,.inr ⟨xs,rel,h4,h6⟩⟩
noncomputable def MV{H:Hp}{a:ah}{o:aw}{kvs:List (KX×V×V)}{u:HO}(e:H a=aa (.dX o kvs)):∀b ys,H b=aa (.tup ys)->upd H a u b=aa (.tup ys):=λb ys eb=>by rw[bE (Dh eb e (λz=>nomatch z))];exact eb
theorem PV(hu:A.units+2<cx)(I:Inv X pins σ H s)(e:H a=aa (.dX o kvs))(hk:DY H k y)(kd:nE kvs k)(hl:kvs.length<bg)(ry:RelV y u)(rv:RelV v r)(h:∀o' s',Inv X pins σ (upd H a (.dX o' (d7 kvs k y v))) s'->Q () s'):
  ax (ay X.prog X.w) A (setItem (.ref a) u r) Q E s:=by
 obtain⟨z,hs,ho,hx⟩:=oW I e;have hz:(d7 kvs k y v).length<=bg:=by have:=GO kvs k y v;omega
 have mu:Mut (H a):=by rw[e];exact jn
 cases k with
 |inl k =>
  have hk:y=kV k:=hk;subst hk;obtain⟨vs,rel,dd⟩:=nF hx ho (s_ kd);have hv:vs.length<=bg:=by rw[<- qq rel];exact z
  refine a0d (hsz:=hv) (oS ry) dd λh' QN sb=>?_;obtain⟨o',g1,g2⟩:=GP (H':=upd H a (.dX o (d7 kvs (.inl k) (kV k) v))) (PL.put rel k rv) QN;exact h o' _ (n9 I mu sb ⟨o',g1⟩ ⟨hz,hs,g1,g2.stay λb ys eb=>by
   by_cases hb:b=a
   .subst hb;rw[aU] at eb;cases eb
   .rw [bE hb] at eb ⊢;exact eb⟩)
 |inr k =>
  obtain⟨b,rfl,hb⟩:=hk;obtain rfl:u=fu b:=ry;obtain⟨xs,rel,dd⟩:=rF I.hok hx ho (sy kd);have hv:xs.length<=bg:=by rw[<- qq rel];exact z
  refine a0e (hsz:=hv) (nest_room hu) (l5 I.hok hb) dd λh' QN sb=>?_;obtain⟨o',g1,g2⟩:=MU (PT.put rel k hb rv) QN;exact h o' _ (n9 I mu sb ⟨o',g1⟩ ⟨hz,hs,g1,g2.stay (MV e)⟩)
end
open L7
def Ci(td ty:TE):TE:=λσ H Q=>td σ H λx H1=>ty σ H1 λy H2=>∃a o kvs k v,x=.ref a/\H2 a=aa (.dX o kvs)/\DY H2 k y/\nE kvs k/\gA kvs k=aa v/\Q v H2
def sx(neg:Bool)(ty td:TE):TE:=λσ H Q=>ty σ H λy H1=>td σ H1 λx H2=>∃a o kvs k,x=.ref a/\H2 a=aa (.dX o kvs)/\DY H2 k y/\nE kvs k/\Q (.bl (if neg then !(gA kvs k).isSome else(gA kvs k).isSome)) H2
def Yr(td ty tz:TE):TE:=λσ H Q=>td σ H λx H1=>∃a,x=.ref a/\(∃o kvs,H1 a=aa (.dX o kvs))/\ty σ H1 λy H2=>tz σ H2 λz H3=>∃o kvs k,H3 a=aa (.dX o kvs)/\DY H3 k y/\nE kvs k/\Q ((gA kvs k).getD z) H3
def Ts(td ty tv:TE):TS:=λD σ H=>tv σ H λv H1=>td σ H1 λx H2=>ty σ H2 λy H3=>∃a o kvs k,x=.ref a/\H3 a=aa (.dX o kvs)/\DY H3 k y/\nE kvs k/\kvs.length<bg /\∀o',D.nx σ (upd H3 a (.dX o' (d7 kvs k y v)))
def Tr:TE:=λ_ H Q=>∀p o,H p=af->Q (.ref p) (upd H p (.dX o []))
def Tq(tk tv:TE):TE:=λσ H Q=>∀p o,H p=af->tk σ (upd H p (.dX o [])) λy H1=>tv σ H1 λz H2=>∃k,DY H2 k y/\H2 p=aa (.dX o []) /\∀o',Q (.ref p) (upd H2 p (.dX o' [(k,y,z)]))
section
variable{X:Cx}{o i e f value:ar}{pos pos':bo}{td ty tv tz:TE}
def MW(hu:X.A.units+2<cx)(ho:PE X o td)(hi:PE X i ty)(hs:IU i):PE X (.Subscript o i pos) (Ci td ty):=by intro pins s σ H Q I h;refine MH a09.lookup hs (dR (ho pins s σ H _ I h) λu s1 ⟨x,H1,I1,rx,q1⟩=>?_);refine dR (hi pins s1 σ H1 _ I1 q1) λiv s2 Tp=>?_;obtain⟨y,H2,I2,ry,a,ob,kvs,k,v,ex,e,hk,kd,hv,q2⟩:=Tp;subst ex;obtain rfl:u=fu a:=rx;exact⟨yC I2 e,PU hu I2 e hk kd hv ry λw' s3 I3 r3=>⟨v,H2,I3,r3,q2⟩⟩
def Yq(hu:X.A.units+2<cx)(hi:PE X i ty)(ho:PE X o td):PC X .In i o (sx ag ty td):=by intro pins s σ H Q I h;refine dR (hi pins s σ H _ I h) λiv s1 To=>?_;obtain⟨y,H1,I1,ry,q1⟩:=To;refine dR (ho pins s1 σ H1 _ I1 q1) λu s2 Tn=>?_;obtain⟨x,H2,I2,rx,a,ob,kvs,k,ex,e,hk,kd,q2⟩:=Tn;subst ex;obtain rfl:u=fu a:=rx;exact Am ag hu I2 e hk kd ry λs3 I3=>⟨.bl _,H2,I3,rfl,q2⟩
def PX(hu:X.A.units+2<cx)(hi:PE X i ty)(ho:PE X o td):PC X .NotIn i o (sx ae ty td):=by intro pins s σ H Q I h;refine dR (hi pins s σ H _ I h) λiv s1 Tj=>?_;obtain⟨y,H1,I1,ry,q1⟩:=Tj;refine dR (ho pins s1 σ H1 _ I1 q1) λu s2 Ti=>?_;obtain⟨x,H2,I2,rx,a,ob,kvs,k,ex,e,hk,kd,q2⟩:=Ti;subst ex;obtain rfl:u=fu a:=rx;exact Am ae hu I2 e hk kd ry λs3 I3=>⟨.bl _,H2,I3,rfl,q2⟩
def aAF(hu:X.A.units+2<cx)(ho:PE X o td)(hi:PE X i ty)(hv:PE X value tv)(hs:fj value (aa (.Subscript o i pos')) pos.line X.env=pure ag):PS X (.Assign [.Subscript o i pos'] value pos) (Ts td ty tv):=by intro pins s σ H D I h;refine a0t (dR (hv pins s σ H _ I h) λr s1 ⟨v,H1,I1,rv,q1⟩=>?_) hs;refine dR (ho pins s1 σ H1 _ I1 q1) λu s2 Th=>?_;obtain⟨x,H2,I2,rx,q2⟩:=Th;refine dR (hi pins s2 σ H2 _ I2 q2) λiv s3 Tg=>?_;obtain⟨y,H3,I3,ry,a,ob,kvs,k,ex,e,hk,kd,hl,q3⟩:=Tg;subst ex;obtain rfl:u=fu a:=rx;exact PV hu I3 e hk kd hl ry rv λo' s4 I4=>⟨σ,_,I4,q3 o'⟩
def V4(hu:X.A.units+2<cx)(ho:PE X o td)(he:PE X e ty)(hf:PE X f tz)(m:M2 X o "get" apos e f cpos):PE X (.Call (.Attribute o "get" apos) [e,f] [] cpos) (Yr td ty tz):=by
 intro pins s σ H Q I h;refine wpAny_Call_method m.base m.few m.line F.plainAttrs_dict Fg F.type_dict_get (dR (ho pins s σ H _ I h) λu s1 ⟨x,H1,I1,rx,a,ex,⟨ob,kvs,e1⟩,q1⟩=>?_);subst ex;obtain rfl:u=fu a:=rx;refine⟨yC I1 e1,λb q=>?_,?_⟩
 .cases q;obtain⟨_,_,h3,h4⟩:=oW I1 e1;exact⟨ob,h3,h4.1.2.1⟩
 rw[m.trees];refine Fl rfl (a1n (Fj (dR (he pins s1 σ H1 _ I1 q1) λiv s2 ⟨y,H2,I2,ry,q2⟩=>?_)));refine Fj (dR (hf pins s2 σ H2 _ I2 q2) λfv s3 ⟨z,H3,I3,rz,o3,aO2,k,e3,hk,kd,q3⟩=>a1m ?_);exact Ys hu I3 e3 hk kd ry rz λw' s4 I4 r4=>⟨_,H3,I4,r4,q3⟩
def GQ(h:bf)(hb:sysModules<h.objs.size):dP P w H (h.push {cls:=.type "dict",data:=.dict #[]}) h.objs.size (.dX {cls:=.type "dict",data:=.dict #[]} []) :=
 ⟨kr _,beq_eq_false_iff_ne.mpr (e_ (h_ hb)),gg _ rfl,⟨rfl,rfl,rfl⟩,#[],0,rfl,.inl ⟨[],.nil,(λ_ he=>by simp at he),.nil,kh⟩⟩
def aAG:PE X (.Dict [] [] pos) Tr:=λpins s σ H Q I h =>
 a0s ⟨.ref s.heap.objs.size,_,I.laid (t':=s.toks) (λ_ _ q=>di _ q) (bc _) (GQ s.heap I.big),rfl,h _ _ (I.hok.fresh (bc _))⟩
theorem PY(hu:A.units+1<cx)(I:Inv X pins σ H s)(e:H a=aa (.dX ob []))(hk:DY H k y)(ry:RelV y u)(rv:RelV v r)(h:∀o' s',Inv X pins σ (upd H a (.dX o' [(k,y,v)])) s'->Q () s'):
  ax (ay X.prog X.w) A (dictSet a u r) Q E s:=by
 obtain⟨z,hs,ho,hx⟩:=oW I e;have mu:Mut (H a):=by rw[e];exact jn
 cases k with
 |inl k =>
  have hk:y=kV k:=hk;subst hk;obtain⟨vs,rel,dd⟩:=nF (a:=a) hx ho (λp hp=>by cases hp);cases rel;refine wpAny_dictSet_pairs (hsz:=by decide) (oS ry) dd λh' QN sb=>?_;obtain⟨o',g1,g2⟩:=GP (H':=upd H a (.dX ob [(.inl k,kV k,v)])) (PL.put .nil k rv) QN;exact h o' _ (n9 I mu sb ⟨o',g1⟩ ⟨by show 1<=bg;decide,hs,g1,g2.stay λb ys eb=>by
   by_cases hb:b=a
   .subst hb;rw[aU] at eb;cases eb
   .rw [bE hb] at eb ⊢;exact eb⟩)
 |inr k =>
  obtain⟨b,rfl,hb⟩:=hk;obtain rfl:u=fu b:=ry;obtain⟨xs,rel,dd⟩:=rF (a:=a) I.hok hx ho (λp hp=>by cases hp);cases rel;refine wpAny_dictSet_heap (hsz:=by decide) (show(gW X.prog X.w).room A from hu) (l5 I.hok hb) dd λh' QN sb=>?_;obtain⟨o',g1,g2⟩:=MU (PT.put (H:=H) .nil k hb rv) QN;exact h o' _ (n9 I mu sb ⟨o',g1⟩ ⟨by show 1<=bg;decide,hs,g1,g2.stay (MV e)⟩)
def GR(Q:VK)(p:ah)(o:aw):List (V×V)->Hp->Prop
 |[(y,z)],H2=>∃k,DY H2 k y/\H2 p=aa (.dX o []) /\∀o',Q (.ref p) (upd H2 p (.dX o' [(k,y,z)]))
 |_,_=>False
theorem GS{Q:VK}{p:ah}{o:aw}{ps:List (V×V)}{H2:Hp}(h:GR Q p o ps H2):∃y z k,ps=[(y,z)]/\DY H2 k y/\H2 p=aa (.dX o []) /\∀o',Q (.ref p) (upd H2 p (.dX o' [(k,y,z)])):=by
 match ps,h with
 |[(y,z)],⟨k,h1,h2,h3⟩=>exact⟨y,z,k,rfl,h1,h2,h3⟩
def aAH(hu:X.A.units+1<cx)(hk:PE X i ty)(hv:PE X value tv):PE X (.Dict [aa i] [value] pos) (Tq ty tv):=by
 intro pins s σ H Q I q;have hn:=I.hok.fresh (bc s.heap.objs.size);have I1:=I.laid (t':=s.toks) (λ_ _ z=>di _ z) (bc _) (GQ (P:=X.prog) (w:=X.w) s.heap I.big);have np:pairTrees [aa i] [value] X.env pos≠[]:=λz=>by have:=Es [aa i] [value] X.env pos rfl rfl;rw[z] at this;cases this
 rw[arm_eval_Dict,zip_pairTrees [aa i] [value] X.env pos rfl rfl,dictDisplay_pairs _ np (by rw[Es _ _ _ _ rfl rfl];show 1<17;decide)];apply au;refine tq (au ?_);unfold subDict;refine au (a0r (au (jo ?_)));rw[Z_ (by rw[Es _ _ _ _ rfl rfl];show 1<=15;decide)];refine au (dR (UO hk hv ZF pins _ σ _ (GR Q s.heap.objs.size _) I1 (q _ _ hn)) λws s2 ⟨ps,H2,I2,rel,q2⟩=>?_);obtain⟨y,z,k,rfl,hk2,hp,q3⟩:=GS q2;obtain⟨u,r,rfl,hy,hz⟩:∃u r,ws=[(u,r)]/\RelV y u/\RelV z r:=by
  cases rel with
  |cons h1 t=>cases t;exact⟨_,_,rfl,h1.1,h1.2⟩
 refine jo ?_;rw[nq];refine au (au (au (PY hu I2 hp hk2 hy hz λo' s3 I3=>a_ ?_)));show ax _ _ (pure PUnit.unit) _ _ _;exact a_ (a_ (a_ (a_ ⟨.ref s.heap.objs.size,_,I3,rfl,q3 o'⟩)))
end
def Itx(a:ah)(o:aw)(vs:List V):It :=
 ⟨λi H=>(∃kvs,H a=aa (.dX o kvs))/\i<vs.length,λi H x H'=>H'=H/\vs[i]?=aa x,λi H=>(∃kvs,H a=aa (.dX o kvs))/\vs.length<=i⟩
def Yp{P:bh}{w:bb}{K:aq}{tg:ar}{a it:ah}{o:aw}{vs:List V}{es:Array yl}{ep:Nat}(hd:o.data=.dict es ep)(hs:Vals vs (es.toList.map (·.key))):Turn P w K tg (Itx a o vs) [it] it (λi h=>h.IsKeyIter it a i es.size ep):=by
 have hz:es.size=vs.length:=by have:=hs.length;simp at this;omega
 refine⟨br.mpr rfl,λi h st b hb=>?_,λi h h' st k=>st.at λob e=>k it (br.mpr rfl) ob e,?_,?_,λA i s Q E st h=>wpAny_pyIter_keyiter st h⟩
 .cases br.1 hb;obtain⟨ob,e,_,d⟩:=st;exact⟨ob,e,λv z=>by rw[d] at z;cases z⟩
 .intro X hP hw hK hc i pins s σ H E I hf st hg;cases hP;cases hw;obtain⟨f0,f1,_,f3,f4,f5⟩:=hf it (br.mpr rfl);obtain⟨⟨kvs,ha⟩,hi⟩:=hg;obtain⟨_,_,ho,_⟩:=oW I ha;have hl:i<es.size:=by rw[hz];exact hi
  refine PQ st ho hd hl λh' st' sb=>⟨_,rfl,?_⟩;have I1:Inv X pins σ H {s with heap:=h' }:=I.turned (t':=s.toks) (λb ob nb e=>(sb.2 b nb).trans e) f0 f1 f3 f4 f5;obtain⟨u,hu,ru⟩:=hs.get (i:=i) (x:=vs[i]) (getElem?_eq_getElem hi);have hk:u=es[i].key:=by rw[cg,Hm,me hl] at hu;exact(df hu).symm
  subst hk;obtain⟨ob,e,c,d⟩:=id st';exact L1 (s:={s with heap:=h' }) e c d (by decide) ⟨vs[i],H,I1,ru,⟨rfl,getElem?_eq_getElem hi⟩,st',λb hb=>(hf b hb).1⟩
 .intro X hP hw hK hc i pins s σ H E I hf st hg;cases hP;cases hw;obtain⟨f0,f1,_,f3,f4,f5⟩:=hf it (br.mpr rfl);obtain⟨⟨kvs,ha⟩,hi⟩:=hg;obtain⟨_,_,ho,_⟩:=oW I ha;exact V2 (I.ok.hd hc) st ho hd (by rw[hz];exact hi) λh' eb=>⟨rfl,I.turned (t':=s.toks) (λb ob nb e=>eb b ob nb e) f0 f1 f3 f4 f5⟩
def Yo(tl:TE):TI:=λσ H R=>tl σ H λx H1=>∃a o kvs,x=.ref a/\H1 a=aa (.dX o kvs)/\((∀p∈kvs,DY H1 p.1 p.2.1)->R (Itx a o (kvs.map (·.2.1))) H1)
def Tf(h:(bC P w).is k u=ae):RelV (kV k) u:=by
 rcases cU h with⟨i,t,rfl,rfl⟩|⟨i,t,rfl,rfl⟩
 .exact ⟨t,rfl⟩
 .exact ⟨t,rfl⟩
def V5(x:y7 P w H o kvs):∃es ep,o.data=.dict es ep/\Vals (kvs.map (·.2.1)) (es.toList.map (·.key)) /\∀p∈kvs,DY H p.1 p.2.1:=by
 obtain⟨_,es,ep,ed,hx⟩:=x;refine⟨es,ep,ed,?_⟩;rcases hx with⟨vs,r,_,h2,_⟩|⟨xs,r,h1,_⟩
 .have go:∀{kvs:List (KX×V×V)} {vs:List (Key×ai)} {l:List yl},PL kvs vs->Pairs (bC P w) l vs->Vals (kvs.map (·.2.1)) (l.map (·.key)) /\∀p∈kvs,DY H p.1 p.2.1:=by
   intro kvs vs l r
   induction r generalizing l with
   |nil=>intro h2;cases h2;exact⟨.nil,λp hp=>by cases hp⟩
   | @cons p q ps qs hq t ih =>
    intro h2
    cases h2 with
    |cons k1 k2 k3 =>
     obtain⟨i1,i2⟩:=ih k3;refine⟨.cons ?_ i1,λp' hp'=>?_⟩
     .dsimp only;rw[hq.2.1];exact Tf k1
     .rcases bu.1 hp' with e|hp'
      .subst e;rw[hq.1,hq.2.1];rfl
      .exact i2 p' hp'
  exact go r h2
 .have go:∀{kvs:List (KX×V×V)} {xs:List (N1×ah×ai)},PT H kvs xs->Vals (kvs.map (·.2.1)) ((xs.map (entryOfKey (gW P w))).map (·.key)) /\∀p∈kvs,DY H p.1 p.2.1:=by
   intro kvs xs r
   induction r with
   |nil=>exact⟨.nil,λp hp=>by cases hp⟩
   | @cons p q ps qs hq t ih =>
    obtain⟨i1,i2⟩:=ih;refine⟨.cons ?_ i1,λp' hp'=>?_⟩
    .dsimp only;rw[hq.2.1];rfl
    .rcases bu.1 hp' with e|hp'
     .subst e;rw[hq.1,hq.2.1];exact⟨_,rfl,hq.2.2.1⟩
     .exact i2 p' hp'
  rw[h1];exact go r
def V6{X:Cx}{tg l:ar}{tl:TE}(hl:PE X l tl):PI X tg l (Yo tl):=by intro pins s σ H R I h;refine dR (hl pins s σ H _ I h) λv s1 Te=>?_;obtain⟨x,H1,I1,r1,a,o,kvs,ex,ha,q⟩:=Te;subst ex;obtain rfl:v=fu a:=r1;obtain⟨_,hs,ho,hx⟩:=oW I1 ha;obtain⟨es,ep,ed,ks,hk⟩:=V5 hx;refine PN hs ho hx.1 ed ⟨s1.heap.objs.size,[s1.heap.objs.size],_,_,_,rfl,I1.kept (t':=s1.toks) λb ob e=>di _ e,Yp ed ks,⟨_,gg _ rfl,rfl,by simp⟩,λb hb=>?_,q hk⟩;rw[br.1 hb];exact I1.C2 (bc _) (I1.hok.fresh (bc _))
open L3 L4
section
variable{K:aq}{S:ah->Prop}{H:Hp}
def aAI(h:Dn K S H d v)(e:vJ d=aa k):v=kV k:=by cases d<;>simp only[vJ] at e<;>cases e<;>simp only[Dn] at h<;>exact h
theorem GU:∀{ds:List D} {xs:List V} {ks:List Key},aX K S H ds xs->vQ ds=aa ks->xs=ks.map kV
 |[],xs,ks,h,e=>by simp only[aX] at h;cases e;exact h
 |d::ds,xs,ks,h,e=>by obtain⟨v,r,rfl,h1,h2⟩:=h.bO;obtain⟨k,ek,e⟩:=bnd e;obtain⟨ks',e2,rfl⟩:=qZ e;rw[aAI h1 ek,GU h2 e2];rfl
theorem V7(h:Dn K S H d v)(e:QV d=aa k):xF H k v:=by
 cases d with
 |tup ds =>
  obtain⟨ks,e2,rfl⟩:=qZ e;simp only[Dn] at h;obtain⟨a,xs,rfl,ha,dn⟩:=h;rw[GU dn e2] at ha;exact⟨a,rfl,ha⟩
 |int i=>cases e;simp only[Dn] at h;exact h
 |str i=>cases e;simp only[Dn] at h;exact h
 |_=>cases e
theorem BD:∀{ds:List D} {xs:List V} {ks:N1},aX K S H ds xs->mJ ds=aa ks->iu (xF H) ks xs
 |[],xs,ks,h,e=>by simp only[aX] at h;cases e;subst h;exact .nil
 |d::ds,xs,ks,h,e=>by obtain⟨v,r,rfl,h1,h2⟩:=h.bO;obtain⟨k,ek,e⟩:=bnd e;obtain⟨ks',e2,rfl⟩:=qZ e;exact .cons (V7 h1 ek) (BD h2 e2)
theorem oC(h:Dn K S H d v)(e:jT d=aa k):DY H k v:=by
 cases d with
 |tup ds =>
  obtain⟨ks,e2,rfl⟩:=qZ e;simp only[Dn] at h;obtain⟨a,xs,rfl,ha,dn⟩:=h;exact⟨a,rfl,xs,ha,BD dn e2⟩
 |int i=>cases e;simp only[Dn] at h;exact h
 |str i=>cases e;simp only[Dn] at h;exact h
 |_=>cases e
def V8(k:Key):Dn K S H (dK k) (kV k):=by cases k<;>simp only[dK,Dn]<;>rfl
theorem V9:∀ks:List Key,aX K S H (ks.map dK) (ks.map kV)
 |[]=>aX.nil
 |k::ks=>aX.cons (V8 k) (V9 ks)
theorem BE:∀{ks:N1} {vs:List V},iu (xF H) ks vs->aX K S H (ks.map QW) vs
 |_,_,.nil=>aX.nil
 |k::ks,v::vs,.cons h t=>by
  refine aX.cons ?_ (BE t)
  cases k with
  |inl k =>
   have h:v=kV k:=h;subst h;exact V8 k
  |inr k =>
   obtain⟨b,rfl,hb⟩:=h;simp only[QW,Dn];exact⟨b,_,rfl,hb,V9 k⟩
theorem Yn(h:DY H k v):Dn K S H (mh k) v:=by
 cases k with
 |inl k =>
  have h:v=kV k:=h;subst h;exact V8 k
 |inr k =>
  obtain⟨b,rfl,vs,hb,r⟩:=h;simp only[mh,Dn];exact⟨b,vs,rfl,hb,BE r⟩
theorem pS:∀{kvs:List (KX×V×V)} {ds:List D},aX K S H ds (kvs.map (·.2.2))->(∀d,bP (kvs.map (·.1)) ds k=aa d ->∃v,gA kvs k=aa v/\Dn K S H d v)/\(bP (kvs.map (·.1)) ds k=af->gA kvs k=af)
 |[],ds,h=>⟨λd e=>by simp[bP] at e,λ_=>rfl⟩
 |p::kvs,ds,h=>by
  cases ds with
  |nil=>exact Zw h.len (by simp)
  |cons d0 ds =>
   obtain⟨v,r,e1,h1,h2⟩:=h.bO;rw[ba] at e1;cases e1;have ih:=pS (k:=k) (kvs:=kvs) (ds:=ds) h2;by_cases e:p.1=k
   .have a:bP ((p::kvs).map (·.1)) (d0::ds) k=aa d0:=by simp[bP,e]
    have b:gA (p::kvs) k=aa p.2.2:=by simp[gA,e]
    rw[a,b];exact⟨λd ed=>by cases ed;exact⟨_,rfl,h1⟩,λz=>nomatch z⟩
   .have a:bP ((p::kvs).map (·.1)) (d0::ds) k=bP (kvs.map (·.1)) ds k:=by simp[bP,e]
    have b:gA (p::kvs) k=gA kvs k:=by simp[gA,e]
    rw[a,b];exact ih
def yD(h:kindB (kvs.map (·.1)) k=ae):nE kvs k:=λp hp=>by unfold kindB at h;rw[ke] at h;simpa using h p.1 (qz hp)
theorem Td(dv:Dn K S H d v):∀{kvs:List (KX×V×V)} {ds:List D},aX K S H ds (kvs.map (·.2.2)) ->
  (L8.d7 kvs k y v).map (·.1)=(L4.d7 (kvs.map (·.1)) ds k d).1/\aX K S H (L4.d7 (kvs.map (·.1)) ds k d).2 ((L8.d7 kvs k y v).map (·.2.2)):=by
 intro kvs ds h;have e:(kvs.map (·.1)).any (λq=>Zv (q=k))=kvs.any (λp=>Zv (p.1=k)):=by rw[a2B];rfl
 unfold L8.d7 L4.d7;rw[e];split
 .refine ⟨?_,?_⟩
  .simp only[dq];refine gd λp _=>?_;show(if p.1=k then(p.1,p.2.1,v) else p).1=p.1;split<;>rfl
  .dsimp only;have go:∀{kvs:List (KX×V×V)} {ds:List D},aX K S H ds (kvs.map (·.2.2))->aX K S H (((kvs.map (·.1)).zip ds).map λp=>if p.1=k then d else p.2) ((kvs.map λp=>if p.1=k then(p.1,p.2.1,v) else p).map (·.2.2)):=by
    intro kvs
    induction kvs with
    |nil=>intro ds h;cases ds with
     |nil=>exact aX.nil
     |cons d0 ds=>exact Zw h.len (by simp)
    |cons p kvs ih =>
     intro ds h
     cases ds with
     |nil=>exact Zw h.len (by simp)
     |cons d0 ds =>
      obtain⟨u,r,e1,h1,h2⟩:=h.bO;rw[ba] at e1;cases e1;refine aX.cons ?_ (ih h2);by_cases z:p.1=k
      .simpa [z] using dv
      .simpa [z] using h1
   exact go h
 .refine ⟨by simp,?_⟩;rw[cy];exact h.append (aX.one dv)
end
section
variable{X:Cx}
theorem PZ(hu:X.A.units+2<cx)(ho:b8 X o fo)(hi:b8 X i fi)(hs:IU i:=by intro _ _;rfl):b8 X (.Subscript o i pos) (aC kU fo fi):=imp (MW hu ho hi hs) λσ H Q Tc=>by
 obtain⟨S,ρ,Q3,fc,sl,⟨d,e,q⟩,k⟩:=Tc;obtain⟨x,ex,e⟩:=bnd e;obtain⟨y,ey,e⟩:=bnd e;refine⟨S,ρ,λd=>d=x,fc,sl,⟨x,ex,rfl⟩,λv H1 d1 s1 BF e1=>?_⟩;subst e1;refine⟨S,ρ,λd=>d=y,bX fc s1,Sl.fits (.same s1) sl,⟨y,ey,rfl⟩,λu H2 d2 s2 DX e2=>?_⟩;subst e2;have BF:=Dn.fits (.same s2) _ _ BF
 cases d1 with
 |cD q0 ks ds =>
  obtain⟨kk,ek,e⟩:=bnd e;simp only[Dn] at BF;obtain⟨a,o,kvs,rfl,ha,sa,⟨rfl,_⟩,da⟩:=BF;by_cases hk:kindB (kvs.map (·.1)) kk=ae
  .rw [Z_ hk] at e;obtain⟨v3,ev,dv⟩:=(pS da).1 d e;exact⟨a,o,kvs,kk,v3,rfl,ha,oC DX ek,yD hk,ev,k v3 H2 d (s1.trans s2) dv q⟩
  .rw [Zz hk] at e;cases e
 |_=>cases e
theorem WB(h:lift X.K (wE (aC (uJ neg) fi fo)) σ H Q):sx neg (lift X.K (wE fi)) (lift X.K (wE fo)) σ H Q:=by
 obtain⟨S,ρ,Q3,fc,sl,⟨d,e,q⟩,k⟩:=h;obtain⟨x,ex,e⟩:=bnd e;obtain⟨y,ey,e⟩:=bnd e;refine⟨S,ρ,λd=>d=x,fc,sl,⟨x,ex,rfl⟩,λv H1 d1 s1 BF e1=>?_⟩;subst e1;refine⟨S,ρ,λd=>d=y,bX fc s1,Sl.fits (.same s1) sl,⟨y,ey,rfl⟩,λu H2 d2 s2 DX e2=>?_⟩;subst e2;have BF:=Dn.fits (.same s2) _ _ BF
 cases d2 with
 |cD q0 ks ds =>
  obtain⟨kk,ek,e⟩:=bnd (o:=jT d1) e;simp only[Dn] at DX;obtain⟨a,o,kvs,rfl,ha,sa,⟨rfl,_⟩,da⟩:=DX;by_cases hk:kindB (kvs.map (·.1)) kk=ae
  .rw [Z_ hk] at e;cases e;have ev:(gA kvs kk).isSome=(bP (kvs.map (·.1)) ds kk).isSome:=by
    cases hl:bP (kvs.map (·.1)) ds kk with
    |none=>rw[(pS da).2 hl];rfl
    |some d3=>obtain⟨v3,e3,_⟩:=(pS da).1 d3 hl;rw[e3];rfl
   refine⟨a,o,kvs,kk,rfl,ha,oC BF ek,yD hk,?_⟩;rw[ev];exact k _ H2 _ (s1.trans s2) (by simp only[Dn]) q
  .rw [Zz hk] at e;cases e
 |_=>cases e
section
variable{o i:ar}{pos:bo}{fo fi:EF}
def BG(h:liftT X.K (wT (tV (aC (uJ neg) fi fo))) σ H Q):tB (sx neg (lift X.K (wE fi)) (lift X.K (wE fo))) σ H Q:=by
 obtain⟨S,ρ,Q3,fc,sl,⟨b,e,q⟩,k⟩:=h;obtain⟨d,e1,e2⟩:=bnd e;have eb:d=.bl b:=by
  obtain⟨x,ex,e⟩:=bnd e1;obtain⟨y,ey,e⟩:=bnd e
  cases y with
  |cD q0 ks ds =>
   obtain⟨kk,ek,e⟩:=bnd (o:=jT x) e;by_cases hk:kindB ks kk=ae
   .rw [Z_ hk] at e;cases e;cases e2;rfl
   .rw [Zz hk] at e;cases e
  |_=>cases e
 subst eb;refine WB ⟨S,ρ,λd=>d=.bl b,fc,sl,⟨_,e1,rfl⟩,λv H1 d s1 dn e3=>?_⟩;subst e3;simp only[Dn] at dn;exact⟨b,dn,k b H1 s1 q⟩
def Tb(hu:X.A.units+2<cx)(hi:b8 X i fi)(ho:b8 X o fo)(hm:behindInMarks .In o=ag:=by with_unfolding_all rfl):vC X (.Compare i [.In] [o] pos) (tV (aC (uJ ag) fi fo)):=OG (TJ (Yq hu hi ho) hm) λ_ _ _=>BG
def WC(hu:X.A.units+2<cx)(hi:b8 X i fi)(ho:b8 X o fo)(hm:behindInMarks .NotIn o=ag:=by with_unfolding_all rfl):vC X (.Compare i [.NotIn] [o] pos) (tV (aC (uJ ae) fi fo)):=OG (TJ (PX hu hi ho) hm) λ_ _ _=>BG
end
theorem WD(hu:X.A.units+2<cx)(ho:b8 X o fo)(he:b8 X e fe)(hf:b8 X f ff)(m:M2 X o "get" apos e f cpos):b8 X (.Call (.Attribute o "get" apos) [e,f] [] cpos) (mK fo fe ff):=imp (V4 hu ho he hf m) λσ H Q Ta=>by
 obtain⟨S,ρ,Q3,fc,sl,⟨d,e,q⟩,k⟩:=Ta;obtain⟨x,ex,e⟩:=bnd e;obtain⟨y,ey,e⟩:=bnd e;obtain⟨z,ez,e⟩:=bnd e
 cases x with
 |cD q0 ks ds =>
  obtain⟨kk,ek,e'⟩:=bnd e
  clear e
  refine⟨S,ρ,λd=>d=.cD q0 ks ds,fc,sl,⟨_,ex,rfl⟩,λv H1 d1 s1 BF e1=>?_⟩;subst e1;have Jk:=BF;simp only[Dn] at BF;obtain⟨a,o,kvs,rfl,ha,sa,_,da⟩:=BF;refine⟨a,rfl,⟨o,kvs,ha⟩,S,ρ,λd=>d=y,bX fc s1,Sl.fits (.same s1) sl,⟨y,ey,rfl⟩,λu H2 d2 s2 DX e2=>?_⟩;subst e2;refine⟨S,ρ,λd=>d=z,bX fc (s1.trans s2),Sl.fits (.same (s1.trans s2)) sl,⟨z,ez,rfl⟩,λt H3 d3 s3 dn3 e3=>?_⟩;subst e3;have BF:=Dn.fits (.same (s2.trans s3)) _ _ Jk;have DX:=Dn.fits (.same s3) _ _ DX;simp only[Dn] at BF;obtain⟨a',o,kvs,ea,ha,sa,⟨rfl,_⟩,da⟩:=BF;cases ea;by_cases hk:kindB (kvs.map (·.1)) kk=ae
  .rw [Z_ hk] at e';cases e';refine⟨o,kvs,kk,ha,oC DX ek,yD hk,?_⟩
   cases hl:bP (kvs.map (·.1)) ds kk with
   |none =>
    rw[hl] at q;rw[(pS da).2 hl];exact k _ H3 _ ((s1.trans s2).trans s3) dn3 q
   |some d4 =>
    rw[hl] at q;obtain⟨v4,e4,dv⟩:=(pS da).1 d4 hl;rw[e4];exact k _ H3 _ ((s1.trans s2).trans s3) dv q
  .rw [Zz hk] at e';cases e'
 |_=>cases e
theorem S_{K:aq}{a:ah}{o:aw}{kvs:List (KX×V×V)}{ds:List D}:Wlk K (Itx a o (kvs.map (·.2.1))) ((kvs.map (·.1)).map mh) ((.cD (λ_ u=>u=o) (kvs.map (·.1)) ds,.ref a)::kvs.map λp=>(mh p.1,p.2.1)) where
 go:=λS H fc hg i d e=>by have h:=hg _ b_;simp only[Dn] at h;obtain⟨b,o',kvs',eb,hb,sb,⟨_,eo⟩,dn⟩:=h;cases eb;have eo:o'=o:=eo;subst eo;rw[dq,cg] at e;obtain⟨p,ep,ed⟩:=mx.1 e;have hi:i<kvs.length:=(cn.1 ep).1;refine⟨⟨⟨kvs',hb⟩,by simpa using hi⟩,λx H' y=>?_⟩;obtain⟨e1,y⟩:=y;subst e1;rw[cg,ep] at y;cases y;cases ed;exact⟨Same.refl _,hg (mh p.1,p.2.1) (dg _ (qz (jt ep)))⟩
 stop:=λS H hg i hi=>by have h:=hg _ b_;simp only[Dn] at h;obtain⟨b,o',kvs',eb,hb,sb,⟨_,eo⟩,dn⟩:=h;cases eb;have eo:o'=o:=eo;subst eo;exact⟨⟨kvs',hb⟩,by simp at hi ⊢;omega⟩
theorem WH{tg l:ar}{f:EF}(h:b8 X l f):VJ X tg l (vR f):=IY (V6 h) λσ H R S0=>by
 obtain⟨S,ρ,Q3,fc,sl,⟨es,e,q⟩,k⟩:=S0;obtain⟨x,ex,e⟩:=bnd e;refine⟨S,ρ,λd=>d=x,fc,sl,⟨x,ex,rfl⟩,λv H1 d1 s1 BF e1=>?_⟩;subst e1
 cases d1 with
 |cD q0 ks ds =>
  cases e;simp only[Dn] at BF;obtain⟨a,o,kvs,rfl,ha,sa,⟨rfl,_⟩,da⟩:=BF;refine⟨a,o,kvs,rfl,ha,λhk=>k _ H1 _ _ s1 (λg hg=>?_) (S_ (ds:=ds)) q⟩;rcases bu.1 hg with e|hg
  .subst e;simp only[Dn];exact⟨a,o,kvs,rfl,ha,sa,⟨rfl,rfl⟩,da⟩
  .obtain ⟨p,hp,rfl⟩:=gj.1 hg;exact Yn (hk p hp)
 |_=>cases e
end
section
variable{X:Cx}
def MX(hN:X.N.Nodup)(hi:X.N[i]?=aa x:=by rfl)(hx:Loc X.env.scope x:=by first|exact .inl rfl|exact .inr rfl)(hs:fj (.Dict [] [] p) (aa (.Name x pos')) pos.line X.env=pure ag:=by rfl)(hf:X.fn x=ae\/X.env.scope.names.lookup x=aa .local:=by first|exact .inl rfl|exact .inr rfl):
  pV X (.Assign [.Name x pos'] (.Dict [] [] p) pos) (vS i):=iT (lX hN hi hx aAG hs hf) λB σ H ⟨H₀,S,w,ρ,G,E,hl,st,ht,ok⟩=>λp o hp =>
 ok.nx _ _ _ _ (by rw[ia];exact hl) (st.xO (d:=.cD iL [] []) (by rw[hl];exact gH hi) (aZ hp) hp ⟨o,[],aU,⟨rfl,trivial⟩,aX.nil⟩) ht
theorem WJ(hu:X.A.units+1<cx)(hN:X.N.Nodup)(hk:b8 X k fk)(hv:b8 X v fv)(hi:X.N[i]?=aa x:=by rfl)(hx:Loc X.env.scope x:=by first|exact .inl rfl|exact .inr rfl)(hs:fj (.Dict [aa k] [v] p) (aa (.Name x pos')) pos.line X.env=pure ag:=by rfl)(hf:X.fn x=ae\/X.env.scope.names.lookup x=aa .local:=by first|exact .inl rfl|exact .inr rfl):
  pV X (.Assign [.Name x pos'] (.Dict [aa k] [v] p) pos) (rS i fk fv):=iT (lX hN hi hx (aAH hu hk hv) hs hf) λB σ H ⟨H₀,S,w,ρ,G,E,hl,st,ht,ok⟩=>λp o hp=>by
 unfold wS rS at ht
 cases h:((fk (gJ ρ)).bind λkd=>(fv (gJ ρ)).bind λd=>(jT kd).map λkk=>(kk,d)) with
 |none=>rw[h] at ht;exact ht.elim
 |some q =>
  rw[h] at ht;obtain⟨kd,ek,h⟩:=bnd h;obtain⟨d,ed,h⟩:=bnd h;obtain⟨kk,e2,rfl⟩:=qZ h;have s0:Same H (upd H p (.dX o [])):=aZ hp;have st0:=st.same s0
  -- p is not among what was there
  have fc0:∀a,upd H p (.dX o []) a=af->(SO S w ρ a/\a≠p):=λa ea=>⟨st0.IV a ea,λz=>by rw[z,aU] at ea;cases ea⟩;have F0:Fits X.K (SO S w ρ) (λa=>SO S w ρ a/\a≠p) H (upd H p (.dX o [])):=(Fits.fresh hp).trans (.same s0);have sl0:Sl X.K (λa=>SO S w ρ a/\a≠p) (upd H p (.dX o [])) (gJ ρ) σ:=Sl.fits F0 st.rd;refine⟨_,gJ ρ,λy=>y=kd,fc0,sl0,⟨kd,ek,rfl⟩,λy H1 y' s1 dy ey=>?_⟩;subst ey;refine⟨_,gJ ρ,λy=>y=d,bX fc0 s1,Sl.fits (.same s1) sl0,⟨d,ed,rfl⟩,λz H2 z' s2 dz ez=>?_⟩;subst ez;have dy:=Dn.fits (.same s2) _ _ dy;have e3:H2 p=aa (.dX o []):=s2 _ _ (s1 _ _ aU);refine⟨kk,oC dy e2,e3,λo'=>?_⟩;have s3:Same H (upd H2 p (.dX o' [(kk,y,z)])):=λb u hb=>by rw[bE (bH hb hp)];exact s2 _ _ (s1 _ _ (s0 _ _ hb))
  have F3:Fits X.K (λa=>SO S w ρ a/\a≠p) (λa=>SO S w ρ a/\a≠p) H2 (upd H2 p (.dX o' [(kk,y,z)])):=.upd (.inr (.inr ⟨_,_,e3⟩)) (λh=>h.2 rfl);exact ok.nx _ _ _ _ (by rw[ia];exact hl) (st.xO (d:=.cD iL [kk] [z']) (by rw[hl];exact gH hi) s3 hp ⟨o',_,aU,⟨rfl,trivial⟩,aX.one (Dn.fits F3 _ _ dz)⟩) ht
def vE(h:EC o=aa p):o=aa (.ow (.cD p.1 p.2.1 p.2.2)):=by
 unfold EC at h;split at h
 .cases h;rfl
 .cases h
theorem GV(hu:X.A.units+2<cx)(he:OV X e f)(hk:b8 X k fk)
  (hN:X.N[i]?=aa x:=by rfl) (hv:AN X.env.scope x:=by first|exact d_ rfl|exact cc (d_ rfl)|exact cc (cc rfl)) (hd:(x == ("__debug__":ak))=ag:=by decide) (hcd:(x == ("__classdict__":ak))=ag:=by decide)
  (hs:fj e (aa (.Subscript (.Name x p) k pos')) pos.line X.env=pure ag:=by rfl):
  pV X (.Assign [.Subscript (.Name x p) k pos'] e pos) (gC i f fk):=iT (aAF hu (lV hN hv hd hcd) hk he hs) λB σ H Sz=>by
 obtain⟨H₀,S,w,ρ,G,E,hl,st,ht,ok⟩:=Sz;unfold wS gC at ht;cases h:((f ρ).bind λp=>(EC p.1[i]?).bind λkd=>(fk (bW p.1)).bind λkv=>(jT kv).bind λkk =>
  if kindB kd.2.1 kk=ae/\kd.2.2.length<oN then aa (p.1.set i (.ow (.cD (adr kd.1) (L4.d7 kd.2.1 kd.2.2 kk p.2).1 (L4.d7 kd.2.1 kd.2.2 kk p.2).2))) else af) with
 |none=>rw[h] at ht;exact ht.elim
 |some ρ2 =>
  rw[h] at ht;obtain⟨⟨ρ1,d1⟩,eq,h⟩:=bnd h;obtain⟨⟨q0,ks,ds⟩,ed,h⟩:=bnd h;obtain⟨kv,ek,h⟩:=bnd h;obtain⟨kk,e2,h⟩:=bnd h;have o0:=vE ed;by_cases hc:kindB ks kk=ae/\ds.length<oN
  .rw [Z_ hc] at h;cases h;refine⟨H₀,S,w,ρ,G,λρ' d=>ρ'=ρ1/\d=d1,hl,st,⟨_,eq,rfl,rfl⟩,λw' v H' ρ' d st' dv q'=>?_⟩;obtain⟨rfl,rfl⟩:=q';obtain⟨a0,_,_⟩:=st'.own i _ o0;refine⟨_,a0,S,bW ρ',λy=>y=kv,st'.XA,st'.all,⟨kv,ek,rfl⟩,λy H2 y' s2 dy ey=>?_⟩;subst ey;have st2:=st'.same s2;obtain⟨a,b,c⟩:=st2.own i _ o0;obtain⟨o,kvs,hp,⟨e5,hq⟩,dn⟩:=c;subst e5;have nS:¬ SO S w' ρ' (w' i):=λ⟨_,z⟩=>z i _ o0 rfl;refine⟨w' i,o,kvs,kk,rfl,hp,oC dy e2,yD hc.1,?_,λo'=>?_⟩
   .have:=dn.len;rw[az] at this;rw[gx,<- this];exact hc.2
   .have F:Fits X.K (SO S w' ρ') (SO S w' ρ') H2 (upd H2 (w' i) (.dX o' (L8.d7 kvs kk y v))):=.upd (.inr (.inr ⟨_,_,hp⟩)) nS;obtain⟨p1,p2⟩:=Td (k:=kk) (y:=y) (Dn.fits (.same s2) _ _ dv) dn;exact ok.nx w' σ _ _ hl (st2.write (d':=.cD (adr q0) _ _) o0 ⟨o',_,aU,⟨p1,o,hq⟩,aX.fits F _ _ p2⟩) ht
  .rw [Zz hc] at h;cases h
theorem aAJ{K:aq}{H₀ H:Hp}{S:ah->Prop}{w:Nat->ah}{σ:L2.St}{ρ:bV}{G:List (D×V)}{i j:Nat}{d:D}(h:ST K H₀ S w σ H ρ G)(hij:i≠j)(hi:i<σ.length)(ej:ρ[j]?=aa (.ow d)):
  ST K H₀ S (λn=>if n=i then w j else w n) (σ.set i (aa (.ref (w j)))) H ((ρ.set j .no).set i (.ow d)) G:=by
 obtain⟨aj,bj,cj⟩:=h.own j d ej;have hw:∀(n:Nat) (e:D),n≠i->((ρ.set j .no).set i (.ow d))[n]?=aa (Sv.ow e)->n≠j/\ρ[n]?=aa (Sv.ow e):=λn e hn he=>by
  rcases get_set he with⟨z,_,_⟩|⟨_,z⟩
  .exact Zw z hn
  .rcases get_set z with⟨_,z,_⟩|z
   .cases z
   .exact z
 have so:∀a,SO S w ρ a->SO S (λn=>if n=i then w j else w n) ((ρ.set j .no).set i (.ow d)) a:=λa ⟨s,n⟩=>⟨s,λm e he=>by
  show a≠(if m=i then w j else w m);by_cases hm:m=i
  .rw [Z_ hm];exact n j d ej
  .rw [Zz hm];exact n m e (hw m e hm he).2⟩
 refine⟨h.fc,h.sm,λn e he=>?_,λm n d1 e1 h1 h2 z=>?_,λn e he=>?_,λg hg=>Dn.fits (.mono so) _ _ (h.gh g hg),λn xs hx=>?_⟩
 rotate_right
 .show ∀ys,H (if n=i then w j else w n)=aa (.lst ys)->_;by_cases hn:n=i
  .subst hn;rw[Z_ rfl];rcases get_set hx with⟨_,z,_⟩|⟨z,_⟩
   .cases z;exact h.rw j xs ej
   .exact Zw rfl z
  .rw [Zz hn];exact h.rw n xs (hw n _ hn hx).2
 .by_cases hn:n=i
  .subst hn;rcases get_set he with⟨_,z,_⟩|⟨z,_⟩
   .cases z;rw[Z_ rfl];exact⟨lj hi,bj,cj.fits (.mono so) λ_ z=>z⟩
   .exact Zw rfl z
  .rw [Zz hn];obtain⟨_,he2⟩:=hw n e hn he;obtain⟨a,b,c⟩:=h.own n e he2;exact⟨by rw[jj (e_ hn)];exact a,b,c.fits (.mono so) λ_ z=>z⟩
 .have z:(if m=i then w j else w m)=(if n=i then w j else w n):=z;by_cases hm:m=i
  .by_cases hn:n=i
   .rw [hm,hn]
   .rw [Z_ hm,Zz hn] at z;obtain⟨q1,q2⟩:=hw n e1 hn h2;exact Zw (h.inj _ _ _ _ ej q2 z).symm q1
  .by_cases hn:n=i
   .rw [Zz hm,Z_ hn] at z;obtain⟨q1,q2⟩:=hw m d1 hm h1;exact Zw (h.inj _ _ _ _ q2 ej z) q1
   .rw [Zz hm,Zz hn] at z;exact h.inj m n d1 e1 (hw m d1 hm h1).2 (hw n e1 hn h2).2 z
 .rcases get_set he with⟨_,z,_⟩|⟨hn,z⟩
  .cases z
  .rcases get_set z with⟨_,z,_⟩|⟨_,z⟩
   .cases z
   .obtain ⟨v,a,b⟩:=h.ro n e z;exact⟨v,by rw[jj (e_ hn)];exact a,Dn.fits (.mono so) e v b⟩
theorem Cg{i j:Nat}{x y:ak}{pos pos' p:bo}(hN:X.N.Nodup)(hi:X.N[i]?=aa x:=by rfl)(hj:X.N[j]?=aa y:=by rfl)(hx:Loc X.env.scope x:=by first|exact .inl rfl|exact .inr rfl)(hv:AN X.env.scope y:=by first|exact d_ rfl|exact cc (d_ rfl)|exact cc (cc rfl))(hd:(y == ("__debug__":ak))=ag:=by decide)(hcd:(y == ("__classdict__":ak))=ag:=by decide)
  (hs:fj (.Name y p) (aa (.Name x pos')) pos.line X.env=pure ag:=by rfl) (hf:X.fn x=ae\/X.env.scope.names.lookup x=aa .local:=by first|exact .inl rfl|exact .inr rfl):
  pV X (.Assign [.Name x pos'] (.Name y p) pos) (zP i j):=iT (lX hN hi hx (lV hj hv hd hcd) hs hf) λB σ H Sy=>by
 obtain⟨H₀,S,w,ρ,G,E,hl,st,ht,ok⟩:=Sy;unfold wS zP at ht
 cases h:ρ[j]? with
 |none=>rw[h] at ht;exact ht.elim
 |some sv =>
  rw[h] at ht
  cases sv with
  |no=>exact ht.elim
  |ro d=>exact ht.elim
  |ow d =>
   dsimp only at ht;by_cases hij:i=j
   .rw [Z_ hij] at ht;exact ht.elim
   .rw [Zz hij] at ht;exact⟨_,(st.own j d h).1,ok.nx _ _ H _ (by rw[ia];exact hl) (aAJ st hij (by rw[hl];exact gH hi) h) ht⟩
end
def P0{K:aq}{H₀ H H':Hp}{S:ah->Prop}{w:Nat->ah}{σ:L2.St}{ρ:bV}{G:List (D×V)}{i:Nat}{d d':D}(h:ST K H₀ S w σ H ρ G)(e:ρ[i]?=aa (Sv.ow d))(hb:∀b u,b≠w i->H b=aa u->H' b=aa u)(q:xN K (SO S w ρ) H' d' (w i))(hr:∀xs,d'≠.rws xs:=by intro _ z;cases z):ST K H₀ S w σ H' (ρ.set i (.ow d')) G:=by
 obtain⟨a0,b0,c0⟩:=h.own i d e;have wr:=c0.wr;have so:SO S w (ρ.set i (.ow d'))=SO S w ρ:=by
  funext a
  refine propext ⟨λ⟨s,n⟩=>⟨s,λj f hf=>?_⟩,λ⟨s,n⟩=>⟨s,λj f hf=>?_⟩⟩
  .by_cases hj:j=i
   .subst hj;exact n j d' (by rw[lj (cn.1 e).1])
   .exact n j f (by rw[jj (e_ hj)];exact hf)
  .by_cases hj:j=i
   .subst hj;exact n j d e
   .exact n j f (by rw[jj (e_ hj)] at hf;exact hf)
 have ne:∀a,SO S w ρ a->a≠w i:=λa z=>z.2 i d e;have nt:∀a xs,H a=aa (.tup xs)->a≠w i:=λa xs z y=>by subst y;rcases wr with⟨_,k⟩|⟨_,k⟩|⟨_,_,k⟩<;>rw[z] at k<;>cases k
 have nf:∀a o u,H a=aa (.yP o u)->a≠w i:=λa o u z y=>by subst y;rcases wr with⟨_,k⟩|⟨_,k⟩|⟨_,_,k⟩<;>rw[z] at k<;>cases k
 have F:Fits K (SO S w ρ) (SO S w ρ) H H':=⟨λa xs z=>hb _ _ (nt a xs z) z,λa ns z=>z.elim (λ⟨o,y⟩=>.inl ⟨o,hb _ _ (nf a o _ y) y⟩) .inr,λa xs z s=>⟨hb _ _ (ne a s) z,s⟩,λa xs z s=>⟨hb _ _ (ne a s) z,s⟩,λa o xs z s=>⟨hb _ _ (ne a s) z,s⟩⟩;refine⟨h.fc,λb u z=>hb b u (bH z b0) (h.sm b u z),λj f hf=>?_,λj k d1 e1 h1 h2 z=>?_,λj f hf=>?_,λg hg=>by rw[so];exact Dn.fits F _ _ (h.gh g hg),λj xs hx=>?_⟩
 rotate_right
 .rcases get_set hx with⟨_,z,_⟩|⟨hj,z⟩
  .exact Zw (Sv.ow.inj z).symm (hr xs)
  .exact h.rwN z λob hob=>hb _ _ (λy=>hj (h.inj _ _ _ _ z e y)) hob
 .rw [so];rcases get_set hf with⟨hj,z,_⟩|⟨hj,z⟩
  .cases z;subst hj;exact⟨a0,b0,q⟩
  .obtain ⟨a,b,c⟩:=h.own j f z;exact⟨a,b,c.fits F λob hob=>hb _ _ (λy=>hj (h.inj _ _ _ _ z e y)) hob⟩
 .have old:∀{m:Nat} {y:D},(ρ.set i (.ow d'))[m]?=aa (Sv.ow y) ->∃y2,ρ[m]?=aa (Sv.ow y2):=λ{m y} hm=>by
   rcases get_set hm with⟨hj,_,_⟩|⟨_,z⟩
   .subst hj;exact⟨d,e⟩
   .exact ⟨_,z⟩
  obtain⟨_,g1⟩:=old h1;obtain⟨_,g2⟩:=old h2;exact h.inj j k _ _ g1 g2 z
 .rw [so];rcases get_set hf with⟨_,z,_⟩|⟨hj,z⟩
  .cases z
  .obtain ⟨u,a,b⟩:=h.ro j f z;exact⟨u,a,Dn.fits F f u b⟩
def XD(K:aq)(R:FnM):Sp:=λvs H Q _=>∃(T:ah->Prop) (ds:List D) (us:List V) (p:ah) (o:aw) (kvs:List (KX×V×V)) (xs:List D) (r:D×KD),vs=us++[.ref p]/\(∀a,H a=af->T a)/\¬ T p/\H p=aa (.dX o kvs)/\aX K T H ds us/\aX K T H xs (kvs.map (·.2.2))/\R ds (kvs.map (·.1),xs)=.ok r /\
 ∀v H' o' kvs',(∀b u,b≠p->H b=aa u->H' b=aa u)->H' p=aa (.dX o' kvs')->kvs'.map (·.1)=r.2.1->aX K T H' r.2.2 (kvs'.map (·.2.2))->Dn K T H' r.1 v->Q v H'
def tO(K:aq)(t:AF)(j:Nat):TA:=λσ H Q=>∃(S:ah->Prop) (ρ:dJ) (ds:List D) (p:ah),(∀a,H a=af->S a)/\Sl K S H ρ σ/\t ρ=aa ds/\σ[j]?=aa (aa (.ref p)) /\∀vs H',Same H H'->aX K S H' ds vs->Q (vs++[.ref p]) H'
section
variable{X:Cx}
def BH(he:b8 X e f)(hr:PA X es (tO X.K g j))(hs:av (e::es) X.env=(ag,eval e X.env)::av es X.env:=by rfl):PA X (e::es) (tO X.K (aA f g) j) :=
 UR (j8 he hr hs) λσ H Q Sx=>by obtain⟨S,ρ,ds,p,fc,sl,et,ej,k⟩:=Sx;obtain⟨d,ed,et⟩:=bnd et;obtain⟨r,er,et⟩:=bnd et;cases et;refine⟨S,ρ,λy=>y=d,fc,sl,⟨d,ed,rfl⟩,λv H1 d1 s1 BF e1=>?_⟩;subst e1;refine⟨S,ρ,r,p,bX fc s1,Sl.fits (.same s1) sl,er,ej,λvs H2 s2 DX=>?_⟩;exact k (v::vs) H2 (s1.trans s2) (aX.cons (Dn.fits (.same s2) _ _ BF) DX)
def Cf(hN:X.N[j]?=aa x:=by rfl)(hv:AN X.env.scope x:=by first|exact d_ rfl|exact cc (d_ rfl)|exact cc (cc rfl))(hd:(x == ("__debug__":ak))=ag:=by decide)(hcd:(x == ("__classdict__":ak))=ag:=by decide):PA X [.Name x pos] (tO X.K aE j) :=
 UR (j8 (lV hN hv hd hcd) sZ) λσ H Q Sw=>by obtain⟨S,ρ,ds,p,fc,sl,et,ej,k⟩:=Sw;cases et;exact⟨_,ej,k [] H (Same.refl H) aX.nil⟩
theorem BI{R:FnM}{t:AF}{j:Nat}{H₀ H:Hp}{S:ah->Prop}{w:Nat->ah}{σ:L2.St}{ρ:bV}{G:List (D×V)}{r:(Nat->aw->Prop)×D×KD}{Q:VK}(st:ST X.K H₀ S w σ H ρ G)(h:stepM R t j ρ=aa r)
  (k:∀v H',ST X.K H₀ S w σ H' (ρ.set j (.ow (.cD (adr r.1) r.2.2.1 r.2.2.2))) G->Dn X.K (SO S w ρ) H' r.2.1 v->Q v H'):De (XD X.K R) [] E0 (tO X.K t j) σ H Q:=by
 obtain⟨ds,et,h⟩:=bnd h;obtain⟨⟨q0,ks,xs⟩,eo,h⟩:=bnd h;have o0:=vE eo
 cases hR:R ds (ks,xs) with
 |no=>dsimp only at h;rw[hR] at h;cases h
 |ex c=>dsimp only at h;rw[hR] at h;cases h
 |ok r0 =>
  dsimp only at h;rw[hR] at h;cases h;obtain⟨a0,b0,_⟩:=st.own j _ o0;refine⟨SO S w ρ,gJ ρ,ds,w j,st.IV,st.rd,et,a0,λvs H1 s1 dn=>?_⟩;have st1:=st.same s1;obtain⟨_,_,⟨o,kvs,hp,⟨e5,hq⟩,dk⟩⟩:=st1.own j _ o0;subst e5;show XD X.K R ((vs++[V.ref (w j)])++[]) H1 Q E0;rw[kl];refine⟨SO S w ρ,ds,vs,w j,o,kvs,xs,r0,rfl,st1.IV,λz=>z.2 j _ o0 rfl,hp,dn,dk,hR,λv H' o' kvs' hb hp' ek dx dv=>?_⟩;exact k v H' (P0 st1 o0 hb ⟨o',kvs',hp',⟨ek,o,hq⟩,dx⟩) dv
theorem Ym(C:Cl X.prog X.w X.K X.mg X.base dF k y ps (XD X.K R))(hr:fN k X.A)(hij:i≠j)(hN:X.N.Nodup)
  (ha:PA X (e::es) (tO X.K t j)) (hi:X.N[i]?=aa x:=by rfl) (hx:Loc X.env.scope x:=by first|exact .inl rfl|exact .inr rfl) (hg:Gl X y:=by rfl) (hdb:(y == ("__debug__":ak))=ag:=by decide) (he:av (e::es) X.env=(ag,eval e X.env)::av es X.env:=by rfl) (hpl:(fq cpos (av es X.env)).any (·.1)=ag:=by rfl)
  (hs:fj (.Call (.Name y p) (e::es) [] cpos) (aa (.Name x pos')) pos.line X.env=pure ag:=by rfl) (hf:X.fn x=ae\/X.env.scope.names.lookup x=aa .local:=by first|exact .inl rfl|exact .inr rfl):
  pV X (.Assign [.Name x pos'] (.Call (.Name y p) (e::es) [] cpos) pos) (rT i R t j):=by
 obtain⟨F,hm,hk,hb⟩:=C;refine iT (lX hN hi hx (C6 F hr hg hm hk hb .nil UG ha hdb he hpl) hs hf) λB σ H Su=>?_;obtain⟨H₀,S,w,ρ,G,E,hl,st,ht,ok⟩:=Su;unfold wS rT at ht
 cases h:stepM R t j ρ with
 |none=>rw[h] at ht;exact ht.elim
 |some r =>
  rw[h] at ht;refine BI st h λv H' st' dv=>ok.nx w _ H' _ (by rw[ia];exact hl) (st'.jO (by rw[hl];exact gH hi) (Dn.fits (.mono λa z=>?_) _ _ dv)) ht;refine⟨z.1,λm y hm=>?_⟩;rcases get_set hm with⟨hj,_,hlt⟩|⟨_,q⟩
  .subst hj;obtain⟨_,et,h⟩:=bnd h;obtain⟨⟨q0,ks,xs⟩,eo,h⟩:=bnd h;exact z.2 m _ (vE eo)
  .exact z.2 m y q
theorem Jj(C:Cl X.prog X.w X.K X.mg X.base dF k y ps (XD X.K R))(hr:fN k X.A)
  (ha:PA X (e::es) (tO X.K t j)) (hg:Gl X y:=by rfl) (hdb:(y == ("__debug__":ak))=ag:=by decide) (he:av (e::es) X.env=(ag,eval e X.env)::av es X.env:=by rfl) (hpl:(fq cpos (av es X.env)).any (·.1)=ag:=by rfl)
  (hs:fj (.Call (.Name y p) (e::es) [] cpos) af pos.line X.env=pure ag:=by rfl):
  pV X (.Expr (.Call (.Name y p) (e::es) [] cpos) pos) (XM R t j):=by
 obtain⟨F,hm,hk,hb⟩:=C;refine iT (LY (C6 F hr hg hm hk hb .nil UG ha hdb he hpl) hs) λB σ H Ss=>?_;obtain⟨H₀,S,w,ρ,G,E,hl,st,ht,ok⟩:=Ss;unfold wS XM at ht
 cases h:stepM R t j ρ with
 |none=>rw[h] at ht;exact ht.elim
 |some r =>
  rw[h] at ht;exact BI st h λv H' st' _=>ok.nx w _ H' _ hl st' ht
abbrev WK(K:aq)(j:Nat)(k:EF):TS:=Bp (Ci (YQ j) (lift K (wE k)))
def Sr{st:de}{b:SF}{j:Nat}{x:ak}{i:ar}{k:EF}{p pos pos':bo}(hu:X.A.units+2<cx)(h:pV X st b)(hk:b8 X i k)(hN:X.N[j]?=aa x:=by rfl)(hv:AN X.env.scope x:=by first|exact d_ rfl|exact cc (d_ rfl)|exact cc (cc rfl))(hd:(x == ("__debug__":ak))=ag:=by decide)(hcd:(x == ("__classdict__":ak))=ag:=by decide)(hs:IU i:=by intro _ _;rfl):
  yQ X [st,.Return (aa (.Subscript (.Name x p) i pos)) pos'] (NY (xU X.K (XC X) X.N.length (wS b)) (WK X.K j k)):=xI h (LX (TL (MW hu (lV hN hv hd hcd) hk hs)))
theorem yW{st:de}{rest:List de}{f g:SF}{tl:TS}(h1:pV X st f)(h2:yQ X rest (NY (xU X.K (XC X) X.N.length (wS g)) tl)):yQ X (st::rest) (NY (xU X.K (XC X) X.N.length (wS (aI f g))) tl):=FU (xI h1 h2) λB σ H Sq=>by
 obtain⟨H₀,S,w,ρ,G,E,hl,st,ht,ok⟩:=Sq;unfold wS aI at ht;refine⟨H₀,S,w,ρ,G,{E with nx:=wS g E},hl,st,?_,⟨λw' σ' H' ρ' hl' st' q=>⟨H₀,S,w',ρ',G,E,hl',st',q,ok⟩,ok.rt,ok.bk,ok.ct,ok.ex⟩⟩;unfold wS
 cases hf:f ρ with
 |nx ρ'=>rw[hf] at ht;exact ht
 |rt d=>rw[hf] at ht;exact ht
 |ex c=>rw[hf] at ht;exact ht
 |no=>rw[hf] at ht;exact ht
end
theorem Ji{P:bh}{w:bb}{K:aq}{mg:Q0d}{base:bf}{x qual:ak}{st:de}{f:ah}{fd:gi}{N ps:Q0g}{k n np:Nat}{b:SF}{key:EF}(F:ZC K x qual st f fd)(S:gX N ps (bF st))(hn:N.length=n)(hp:ps.length=np)
  (hbody:∀(cdv:ai) (A:bp) (outer:List fm) (s:ao) (H:Hp) (E:XK),fN k (A.deeper (envOfC qual (bF st) s.heap.objs.size f cdv)) ->
   ∃xc,yQ (tE dF P w K mg base N qual (bF st) f cdv A outer s H E).QM (fJ st) (NY (xU K xc N.length (wS b)) (WK K (np-1) key))):lC P w K mg base dF (k+1) f fd ps (XD K (runM n np b key)):=by
 subst hn hp;refine F.ok S (λvs H Q E h=>?_) λcdv A outer s H vs Q E hr h=>?_
 .obtain ⟨T,ds,us,p,o,kvs,xs,r,rfl,fc,np,hp,du,dx,hR,kk⟩:=h;have hb:=KL hR iL;unfold vT at hb;split at hb
  .rename_i hl;rw[bq,<- du.len];exact hl
  .cases hb
 .obtain ⟨xc,hb⟩:=hbody cdv A outer s H E hr;obtain⟨T,ds,us,p,o,kvs,xs,r,rfl,fc,nT,hp,du,dx,hR,kk⟩:=h;refine⟨_,hb,?_⟩;have hq:=KL hR (λa _=>a=p);unfold vT at hq;split at hq
  case isFalse=>cases hq
  rename_i hl;have hlu:=du.len;have hpN:ps.length<=N.length:=by have:=congrArg rf S.pre;rw[ji] at this;omega
  have j0:ps.length-1=ds.length:=by omega
  have sj:(startM N.length ds (λa _=>a=p) (kvs.map (·.1),xs))[ds.length]?=aa (Sv.ow (.cD (λa _=>a=p) (kvs.map (·.1)) xs)):=by unfold startM;rw[ic (by simp)];simp
  have sv:∀i,i<ds.length->(startM N.length ds (λa _=>a=p) (kvs.map (·.1),xs))[i]?=(ds[i]?).map Sv.ro:=λi hi=>by unfold startM;rw[ik (by simpa using hi),cg]
  have sn:∀i,ds.length<i ->∀y,(startM N.length ds (λa _=>a=p) (kvs.map (·.1),xs))[i]?=aa y->y=Sv.no:=λi hi y e=>by
   unfold startM at e;rw[ic (by simp;omega)] at e;obtain⟨m,hm⟩:∃m,i-(a2i Sv.ro ds).length=m+1:=⟨i-ds.length-1,by simp;omega⟩;rw[hm,ll,kb] at e;split at e
   .cases e;rfl
   .cases e
  have ow:∀(i:Nat) (d:D),(startM N.length ds (λa _=>a=p) (kvs.map (·.1),xs))[i]?=aa (Sv.ow d)->i=ds.length/\d=.cD (λa _=>a=p) (kvs.map (·.1)) xs:=λi d e=>by
   rcases Nat.lt_trichotomy i ds.length with h|h|h
   .rw [sv i h] at e;obtain⟨y,_,ey⟩:=mx.1 e;cases ey
   .subst h;rw[sj] at e;cases e;exact⟨rfl,rfl⟩
   .cases sn i h _ e
  have so:∀a,T a->SO (λa=>T a\/a=p) (λ_=>p) (startM N.length ds (λa _=>a=p) (kvs.map (·.1),xs)) a:=λa ta=>⟨.inl ta,λi d e z=>nT (by rw[<- show a=p from z];exact ta)⟩;have σl:L2.start N (us++[.ref p])=us.map aa++aa (.ref p)::dm (N.length-(us.length+1)) af:=by unfold L2.start;simp
  cases hbs:b (startM N.length ds (λa _=>a=p) (kvs.map (·.1),xs)) with
  |no=>rw[hbs] at hq;cases hq
  |rt d=>rw[hbs] at hq;cases hq
  |ex c=>rw[hbs] at hq;cases hq
  |nx ρ1 =>
   rw[hbs] at hq;dsimp only at hq;refine⟨λc=>if c=p then af else H c,λa=>T a\/a=p,λ_=>p,startM N.length ds (λa _=>a=p) (kvs.map (·.1),xs),[],{nx:=λρ=>ρ=ρ1,rt:=λ_=>False,bk:=λ_=>False,ct:=λ_=>False,ex:=λ_=>False},?_,?_,?_,?_⟩
   .rw [σl];simp;omega
   .refine ⟨λa e=>?_,λc u e=>?_,λi d e=>?_,λi i' d d' h1 h2 _=>(ow i d h1).1.trans (ow i' d' h2).1.symm,λi d e=>?_,λg hg=>(by cases hg),λi xs e=>by have:=(ow i _ e).2;cases this⟩
    .by_cases z:a=p
     .exact .inr z
     .exact .inl (fc a (by simpa[z] using e))
    .by_cases z:c=p
     .simp [z] at e
     .simpa [z] using e
    .obtain ⟨rfl,rfl⟩:=ow i d e;refine⟨?_,by simp,o,kvs,hp,⟨rfl,rfl⟩,aX.fits (.mono so) _ _ dx⟩;rw[σl,ic (by simp;omega)];simp[hlu]
    .by_cases hi:i<ds.length
     .rw [sv i hi] at e;obtain⟨y,e1,ey⟩:=mx.1 e;cases ey;obtain⟨v,ev,dv⟩:=du.get e1;refine⟨v,?_,Dn.fits (.mono so) _ _ dv⟩;have hv:i<us.length:=(cn.1 ev).1;rw[σl,ik (by simpa using hv),cg,ev];rfl
     .rcases uk ds.length i with h|h
      .cases sn i h _ e
      .have:i=ds.length:=by omega
       subst this;rw[sj] at e;cases e
   .unfold wS;rw[hbs]
   .refine ⟨λw' σ' H' ρ' hl' st' e=>?_,λ_ _ _ _ _ z=>z.elim,λ_ _ _ _ _ _ z=>z.elim,λ_ _ _ _ _ _ z=>z.elim,λ_ _ _ z=>z.elim⟩;subst e;rw[j0] at hq ⊢;obtain⟨⟨q',ks',xs'⟩,eo,hq⟩:=bnd hq;obtain⟨kv,ek,hq⟩:=bnd hq;obtain⟨kk',e2,hq⟩:=bnd hq;have o0:=vE eo;obtain⟨a0,b0,⟨o1,aO5,hp1,⟨e5,hq1⟩,dk1⟩⟩:=st'.own ds.length _ o0;split at hq
    case isFalse=>cases hq
    rename_i hc;obtain⟨d,ed,hq9⟩:=qZ hq;obtain⟨_,hwp⟩:=hc.2 _ _ hq1;have hwp:w' ds.length=p:=hwp;refine⟨_,a0,SO (λa=>T a\/a=p) w' ρ',gJ ρ',λy=>y=kv,st'.IV,st'.rd,⟨kv,ek,rfl⟩,λy H2 y' s2 dy ey=>?_⟩;subst ey;have st2:=st'.same s2;obtain⟨_,_,⟨o2,WL,hp2,⟨e6,_⟩,dk2⟩⟩:=st2.own ds.length _ o0;have toT:∀a,SO (λa=>T a\/a=p) w' ρ' a->T a:=λa z=>z.1.elim id λy=>Zw (y.trans hwp.symm) (z.2 _ _ o0);have e7:WL.map (·.1)=ks':=e6;have hk2:kindB (WL.map (·.1)) kk'=ae:=by rw[e7];exact hc.1
    have ed2:bP (WL.map (·.1)) xs' kk'=aa d:=by rw[e7];exact ed
    obtain⟨v3,ev,dv⟩:=(pS dk2).1 d ed2;refine⟨w' ds.length,o2,WL,kk',v3,rfl,hp2,oC dy e2,yD hk2,ev,?_⟩;have er:r=(d,ks',xs'):=hq9.symm;subst er;rw[hwp] at hp2;exact kk v3 H2 o2 WL (λc u ne hc=>s2 _ _ (st'.sm c u (by simpa[ne] using hc))) hp2 e7 (aX.fits (.mono toT) _ _ dk2) (Dn.fits (.mono toT) _ _ dv)
theorem fdM{P:bh}{w:bb}{K:aq}{mg:Q0d}{base:bf}{x:ak}{st:de}{N ps:Q0g}{k n np:Nat}{b:SF}{key:EF}(D:Df K mg x st ps)
  (h:∀{f:ah} {cdv:ai} {A:bp} {outer:List fm} {s:ao} {H:Hp} {E:XK},fN k (A.deeper (envOfC x (bF st) s.heap.objs.size f cdv))->N.Nodup ->∃xc,yQ (tE dF P w K mg base N x (bF st) f cdv A outer s H E).QM (fJ st) (NY (xU K xc N.length (wS b)) (WK K (np-1) key)))
  (S:gX N ps (bF st):=by exact⟨rfl,rfl,rfl,by decide+kernel,rfl,by decide+kernel,by decide+kernel⟩) (hn:N.length=n:=by rfl) (hp:ps.length=np:=by rfl):Cl P w K mg base dF (k+1) x ps (XD K (runM n np b key)):=by
 obtain⟨_,F,m,q⟩:=D;exact⟨Ji F S hn hp λ_ _ _ _ _ _ hr=>h hr S.nd,m,F.kp,q⟩
def So{P:bh}{w:bb}{K:aq}{mg:Q0d}{base:bf}{k:Nat}{f:ah}{fd:gi}{ps:Q0g}:lC P w K mg base dF k f fd ps (XD K λ_ _=>.no) :=
 ⟨λ_ _ _ _ h=>(by obtain⟨_,_,_,_,_,_,_,_,_,_,_,_,_,_,e,_⟩:=h;cases e),λ_ _ _ _ _ _ _ _ _ _ _ _ _ h=>(by obtain⟨_,_,_,_,_,_,_,_,_,_,_,_,_,_,e,_⟩:=h;cases e)⟩
def nnM{P:bh}{w:bb}{K:aq}{mg:Q0d}{base:bf}{k:Nat}{x:ak}{st:de}{ps:Q0g}(D:Df K mg x st ps):Cl P w K mg base dF k x ps (XD K λ_ _=>.no):=by obtain⟨_,F,m,q⟩:=D;exact⟨So,m,F.kp,q⟩
section
variable{X:Cx}
def Jh(hm:X.mg "zip"=af)(ha:A9 X [a,b] t)(hg:Gl X "zip":=by rfl)(hs:av [a,b] X.env=[(ag,eval a X.env),(ag,eval b X.env)]:=by rfl)(hs2:av [b] X.env=[(ag,eval b X.env)]:=by rfl):
  VJ X (.Tuple es kk tp) (.Call (.Name "zip" p) [a,b] [] pos) (ED t):=cI (Lk hm ha hg hs hs2) λρ Q Sn=>by
 obtain⟨ds,e,q⟩:=Sn;obtain⟨as,ea,e⟩:=bnd e;refine⟨as,ea,?_⟩;unfold Eb at e;split at e<;>first|(cases e;exact q)|cases e
end
open L5
def Ce(hx:0<=x)(hy:0<=y):a1q x y=((x.toNat ||| y.toNat:Nat):Int):=by unfold a1q;rw[bitAnd_nn (by unfold Fm;omega) (by unfold Fm;omega)];unfold Fm;rw[show(-(-x-1)-1:Int)=x by omega,show(-(-y-1)-1:Int)=y by omega];omega
def Yl(hx:0<=x)(hy:0<=y):a1p x y=((x.toNat ||| y.toNat:Nat):Int)-((x.toNat &&& y.toNat:Nat):Int):=by unfold a1p;rw[Ce hx hy,bitAnd_pp hx hy]
section
variable{X:Cx}
def CNN(i j:Int):Prop:=0<=i/\0<=j
def WM(h:nnC i j=ae):CNN i j:=by unfold nnC at h;rw[gw] at h;exact⟨of_decide_eq_true h.1,of_decide_eq_true h.2⟩
def aAK:j6 X (binaryOp .BitAnd) (rI CNN λi j=>.int ((i.toNat &&& j.toNat:Nat):Int)):=YV λi j _ _ _ _ _ hc q=>and_int (by rw[bitAnd_pp hc.1 hc.2];exact q)
def Yk:j6 X (binaryOp .BitOr) (rI CNN λi j=>.int ((i.toNat ||| j.toNat:Nat):Int)):=YV λi j _ _ _ _ _ hc q=>or_int (by rw[Ce hc.1 hc.2];exact q)
def aAL:j6 X (binaryOp .BitXor) (rI CNN λi j=>.int (((i.toNat ||| j.toNat:Nat):Int)-((i.toNat &&& j.toNat:Nat):Int))):=YV λi j _ _ _ _ _ hc q=>xor_int (by rw[Yl hc.1 hc.2];exact q)
section
variable{a b:ar}{fa fb:EF}{pos:bo}
def BJ(ha:b8 X a fa)(hb:b8 X b fb):b8 X (.BinOp a .BitAnd b pos) (aC eZ fa fb):=cE (UT aAK l3 ha hb) (g8 (eL λi j h=>WM h))
def vm(ha:b8 X a fa)(hb:b8 X b fb):b8 X (.BinOp a .BitOr b pos) (aC yV fa fb):=cE (UT Yk l3 ha hb) (g8 (eL λi j h=>WM h))
def Sm(ha:b8 X a fa)(hb:b8 X b fb):b8 X (.BinOp a .BitXor b pos) (aC KN fa fb):=cE (UT aAL l3 ha hb) (g8 (eL λi j h=>WM h))
def sr(ha:b8 X a fa)(hb:b8 X b fb):b8 X (.BinOp a .RShift b pos) (aC p6 fa fb):=cE (UT aC3 l3 ha hb) (g8 (eL λi j h=>by simpa using h))
def JT(ha:b8 X a fa)(hb:b8 X b fb):b8 X (.BinOp a .LShift b pos) (aC lL fa fb):=cE (UT aC2 l3 ha hb) (g8 (eL λi j h=>by
 simp only[gw,decide_eq_true_eq] at h;refine⟨h.1.1,by omega,?_⟩;have:(2:Nat)^64=18446744073709551616:=by decide
 rw[this];exact h.2))
end
end
end L8
namespace L9
open PySem.Spec PyProof.Rows L2 L3 L4 L5
section
variable{X:Cx}
def Cd(K:aq):List V->Hp->VK->Prop:=λxs H Q=>∃(a:ah) (ns:Q0e),xs=[.ref a]/\eE K H a (ns.map V.int)/\ns≠[]/\Q (.int (BR ns)) H
theorem P4(hc:X.calm=ae):iS X (.builtin "max") (Cd X.K):=by
 intro pins s σ H xs us Q I r h;obtain⟨a,ns,rfl,ha,hne,q⟩:=h;obtain⟨u,rfl,ru⟩:=vals1 r;cases ru;obtain⟨its,rv,p,hz⟩:=I.list ha;have hi:=intsAre_of rv;obtain⟨zs,ez⟩:=hi.allInts.items;have en:zs.toList.map (·.1)=ns:=by rw[<- a0x,<- ez];exact hi.numsOf
 have sz:zs.size=ns.length:=by rw[<- en,az,ve]
 have hpos:0<zs.size:=by rw[sz];exact Gs.2 hne
 have pl:s.heap.IsList a its.toArray:=p.isList;have pt:s.heap.IsList a (intItems zs):=ez▸pl;have hlt:a<s.heap.objs.size:=by obtain⟨_,_,e,_⟩:=p;exact cb e
 refine call_max_walk (Eg pt ?_);refine⟨_,_,_,_,_,_,_,rfl,a0J (A:=X.A.in1) (I.ok.hd hc) _ a (h_ hlt) (intItems zs),⟨⟨_,gg _ rfl,rfl,rfl⟩,pt.push _⟩,?_,by simpa[intItems] using hpos,CmpOf.ints_gt (numAt zs) (λ_ _=>a0A),λv h' tk hP hk=>?_⟩
 .intro b hb;refine Nat.lt_of_lt_of_eq ?_ (uc _ _).symm;have two:b=s.heap.objs.size\/b=a:=by simpa using hb
  rcases two with z|z
  .rw [z];exact za _
  .rw [z];exact qw hlt
 .have hP:(intItems zs)[argBest (λi j=>Zv (numAt zs i>numAt zs j)) (zs.size-1)]?=aa v:=by simpa[intItems] using hP
  obtain⟨t,rfl⟩:=a0A hP;obtain⟨b1,b2⟩:=argBest_gt (numAt zs) (zs.size-1);generalize argBest (λi j=>Zv (numAt zs i>numAt zs j)) (zs.size-1)=J at b1 b2;have atz:∀j,j<ns.length->numAt zs j=ns.getD j 0:=λj hj=>by rw[numAt_eq,en]
  have mem:numAt zs J∈ns:=by rw[atz J (by omega),l_,getElem?_eq_getElem (by omega)];exact ni _
  have top:∀b∈ns,b<=numAt zs J:=λb hb=>by obtain⟨j,hj,ej⟩:=ur hb;subst ej;have:=b2 j (by omega);rw[atz j hj,l_,getElem?_eq_getElem hj] at this;exact this
  have key:BR ns=numAt zs J:=by
   cases ns with
   |nil=>exact Zw rfl hne
   |cons c l=>exact DT l c _ (bu.1 mem) (top c (by simp)) λb hb=>top b (by simp[hb])
  refine⟨.int (BR ns),H,I.kept λb o e=>hk b o (λhb=>?_) (di _ e),⟨t,by rw[key]⟩,q⟩;have:b=s.heap.objs.size:=by simpa using hb
  exact j7 _ (this▸cb e)
def Cc:F1
 |[.lst ds],Q=>∃ns:Q0e,ds=ns.map D.int/\ns≠[]/\Q (.int (BR ns))
 |_,_=>False
theorem aAN{K:aq}:C3 K (Cd K) Cc:=by
 intro S H xs ds Q3 Q fc hd hf k
 match ds,hf with
 |[.lst es],⟨ns,e,ne,q⟩ =>
  subst e;obtain⟨v,r,rfl,h1,h2⟩:=hd.bO;simp only[aX] at h2;subst h2;simp only[Dn] at h1;obtain⟨a,ys,rfl,ha,_,da⟩:=h1;have e2:=aX.ints.1 da;subst e2;exact⟨a,ns,rfl,(eE.of ha),ne,k _ H _ (Same.refl H) (by simp only[Dn]) q⟩
def JU:nA Cc KO:=λds d Q e q=>by
 unfold KO at e;split at e
 .obtain ⟨ns,e1,e⟩:=bnd e;by_cases ne:ns=[]
  .rw [Z_ ne] at e;cases e
  .rw [Zz ne] at e;cases e;have:=ints_of e1;subst this;exact⟨ns,rfl,ne,q⟩
 .cases e
def Sk(hc:X.calm=ae)(hm:X.mg "max"=af)(ha:A9 X [e] t)(hg:Gl X "max":=by rfl)(he:av [e] X.env=(ag,eval e X.env)::av [] X.env:=by rfl):b8 X (.Call (.Name "max" p) [e] [] pos) (bI KO t) :=
 cE (xS (P4 hc) aAN a1K hg hm ha (by decide) (by decide) he (by rfl)) (GF JU)
end
open PySem.SeqAt
structure QE (X:Cx) (e:ar) (f:EF):Prop where un:b8 X e f
structure QA (X:Cx) (es:List ar) (f:AF):Prop where un:A9 X es f
structure Q1 (X:Cx) (s:de) (f:SF):Prop where un:pV X s f
structure QS (X:Cx) (ss:List de) (f:SF):Prop where un:tL X ss f
end L9
namespace L4
open PySem.Spec PyProof.Rows L2 L3 PySem.W Att
section
variable{X:Cx}{pins:Q0b}{σ:L2.St}{H:Hp}{s:ao}
def Fp(X:Cx)(pins:Q0b)(b:ah):Prop :=
 b≠X.env.locals/\b∉X.fs/\(b∈X.ex\/X.s₀.heap.objs.size<=b)/\(∀x c,X.env.cells.lookup x=aa c->c≠b) /\∀p∈X.pn++pins,p.1≠b
def JV(I:Inv X pins σ H s)(hb:s.heap.objs.size<=b):Fp X pins b:=(I.C2 (H':=H) hb (I.hok.fresh hb)).2
def vF(I:Inv X pins σ H s)(f:Fp X pins b)(hn:H b=af)(e:s.heap.get? b=aa o)(d:∀v,o.data≠.cell v):Inv X (pins++[(b,o)]) σ H s:=by
 refine I.C0 λp hp=>?_;rcases ft.1 hp with z|z
 .exact I.pin p (gc _ z)
 .rw [br.1 z];exact⟨e,hn,f.1,f.2.1,d⟩
def l6(I:Inv X (pins++[(b,o)]) σ H s):s.heap.get? b=aa o/\H b=af:=by obtain⟨e,n,_⟩:=I.pin (b,o) (gc _ (gc _ (br.2 rfl)));exact⟨e,n⟩
theorem rG(I:Inv X (pins++[(b,o)]) σ H s)(f:Fp X pins b)(k:∀c u,c≠b->s.heap.get? c=aa u->h'.get? c=aa u)(e:h'.get? b=aa o')(d:∀v,o'.data≠.cell v):
  Inv X (pins++[(b,o')]) σ H {s with heap:=h',toks:=t' }:=by
 obtain⟨f1,f2,f3,f4,f5⟩:=id f;exact vF (I.iR.turned (t':=t') k (l6 I).2 f1 f3 f4 f5) f (l6 I).2 e d
end
def si(X:Cx)(σ:L2.St)(P:Q0b)(f:ai)(t:V->Hp->VK->Prop):Prop :=
 ∀(pins:Q0b) (s:ao) (H:Hp) (v:V) (u:ai) (Q:VK),Inv X pins σ H s->(∀p∈P,p∈pins)->RelV v u->t v H Q ->
  ax (ay X.prog X.w) X.A.in1.in1 (call f [u]) (EP X pins σ Q) (λ_ _=>False) s
def rH(X:Cx)(n:Nat)(lt:Nat->Nat->Bool)(ks:List V)(H:Hp):Prop :=
 ∀(pins:Q0b) (σ:L2.St) (s:ao) (us:Q0f),Inv X pins σ H s->Vals ks us ->
  ∃κ,(∀Q:SortKind->ao->Prop,Q κ s->ax (ay X.prog X.w) X.A.in1.in1 (keyKind' us.toArray) Q (λ_ _=>False) s) /\
   ∀(i j:Nat) (C:Bool->ao->Prop),i<n->j<n->C (lt i j) s->xx X.prog X.w X.A.in1.in1 κ us i j C s
theorem BK(r:RelV k u):∀{ks:List V} {us:Q0f},Vals ks us->Vals (ks++[k]) (us++[u])
 |_,_,.nil=>.cons r .nil
 |_,_,.cons q h=>.cons q (BK r h)
theorem nG:∀{ks:List V} {us:Q0f},Vals ks us->ks.length=us.length
 |_,_,.nil=>rfl
 |_,_,.cons q h=>by rw[bx,bx,nG h]
theorem BL(r:Vals xs us):∀ix:List Nat,(∀i∈ix,i<us.length)->Vals (ix.map λi=>xs.getD i .non) (ix.map λi=>us.getD i js)
 |[],_=>.nil
 |i::ix,h=>by
  have hi:=h i b_;have hl:=nG r;obtain⟨u,hu,ru⟩:=r.get (i:=i) (x:=xs[i]'(by omega)) (by simp[hl,hi]);have e1:xs.getD i .non=xs[i]'(by omega):=by simp[hl,hi]
  have e2:us.getD i js=u:=by rw[l_,hu];rfl
  refine .cons ?_ (BL r ix λj hj=>h j (dg _ hj));show RelV (xs.getD i .non) (us.getD i js);rw[e1,e2];exact ru
section
variable{X:Cx}{pins:Q0b}{σ:L2.St}{H:Hp}{s:ao}{P:Q0b}{f:ai}{t:V->Hp->VK->Prop}{xs:List V}{us:Q0f}{a kS:ah}{e1:Nat}{E:Q0c}
 {W:Nat->List V->Hp->Prop}
theorem yE{st:SortSt}{e:Nat}{kv:Q0f}{out:Q0f}{Pf:a03->ao->Prop}(I:Inv X ((pins++[(a,seqObj "list" #[] e1)])++[(kS,seqObj "list" kv.toArray e)]) σ H s)(fa:Fp X pins a)(fk:Fp X (pins++[(a,seqObj "list" #[] e1)]) kS)
  (hout:(arrOf st).map (·.2)=out.toArray) (hz:out.length<64) (hk:kv.length<64) (hf:failedOf st=af)
  (h:∀s' c,Inv X (pins++[(a,seqObj "list" out.toArray c)]) σ H s'->Pf (.done (.ret .none)) s'):ax (ay X.prog X.w) X.A.in1.in1 (ksk_tail a ag e1 (.ref kS) st) Pf E s:=by
 have nk:=(l6 I).1;have sk:=mw s.heap kS (gz λ_=>(#[]:Array ai));obtain⟨ck,hck⟩:∃ck,(s.heap.update kS (gz λ_=>(#[]:Array ai))).get? kS=aa (seqObj "list" #[] ck):=⟨_,yr nk λ_=>#[]⟩;have I1:=rG (h':=s.heap.update kS (gz λ_=>(#[]:Array ai))) (t':=s.toks) I fk (λb u hb q=>(sk.2 b hb).trans q) hck (λv z=>by cases z);have I2:=I1.iR;have na:=(l6 I2).1;obtain⟨hp2,e2⟩:∃g,s.heap.update kS (gz λ_=>(#[]:Array ai))=g:=⟨_,rfl⟩;have sa:=mw (s.heap.update kS (gz λ_=>(#[]:Array ai))) a (gz λ_=>out.toArray);obtain⟨ca,hca⟩:∃ca,((s.heap.update kS (gz λ_=>(#[]:Array ai))).update a (gz λ_=>out.toArray)).get? a=aa (seqObj "list" out.toArray ca):=⟨_,yr na λ_=>out.toArray⟩;have I3:=rG (t':=s.toks) I2 fa (λb u hb q=>(sa.2 b hb).trans q) hca (λv z=>by cases z);unfold ksk_tail;dsimp only;rw[hout];refine au (yq nk rfl ?_ (by rw[cf,gx];omega) (kr _));refine au (a0j (au (a1C na rfl ?_)));refine au (yq na rfl ?_ (kr _) (by show(if ag=ae then _ else _:Array ai).size<=_;rw[Zz bt,cf,gx];omega));rw[hf];simp only[if_false,bne_self_eq_false,oj];exact a_ (h _ ca I3)
theorem P5{lt:Nat->Nat->Bool}{ks:List V}{e:Nat}{kv:Q0f}{Pf:a03->ao->Prop}(I:Inv X ((pins++[(a,seqObj "list" #[] e1)])++[(kS,seqObj "list" kv.toArray e)]) σ H s)(fa:Fp X pins a)(fk:Fp X (pins++[(a,seqObj "list" #[] e1)]) kS)
  (r:Vals ks kv) (hl:kv.length=us.length) (jb:us.length<64) (O:oJ lt) (ask:2<=us.length->rH X us.length lt ks H)
  (h:∀(ix:List Nat) s' c,ix.Perm (dj us.length)->((∀i j:Nat,i<j->j<us.length->lt (ix.getD j 0) (ix.getD i 0)=ag)/\ix=tj lt us.length) ->
   Inv X (pins++[(a,seqObj "list" (ix.map λi=>us.getD i js).toArray c)]) σ H s'->Pf (.done (.ret .none)) s'):
  ax (ay X.prog X.w) X.A.in1.in1 (ksk_end a ag us.toArray e1 (.ref kS) kv.toArray) Pf E s:=by
 unfold ksk_end;dsimp only;simp only[if_false,oj];by_cases h2:us.length<2
 .have hs:us.toArray.size<2:=by rw[cf];exact h2
  rw[Z_ hs,Z_ hs];apply au;apply a_;apply au;apply a_;have hout:(arrOf (SortSt.mk' general' (kv.toArray.zip us.toArray) #[] 7 af)).map (·.2)=us.toArray:=by show(kv.toArray.zip us.toArray).map (·.2)=_;apply Array.toList_inj.mp;rw[Array.toList_map,ksk_zip,List.map_snd_zip (by rw[List.toList_toArray];omega)]
  refine yE I fa fk hout jb (by omega) rfl λs' c I'=>h (dj us.length) s' c (a2C _) ⟨λi j hij hj=>by omega,(Z_ h2).symm⟩ ?_;have:(dj us.length).map (λi=>us.getD i js)=us:=by
   refine Hb λi=>?_;rw[cg];by_cases hi:i<us.length
   .rw [rh hi];simp[hi]
   .rw [kc (by simpa using hi),kc (by simpa using hi)];rfl
  rw[this];exact I'
 .have hs:¬ us.toArray.size<2:=by rw[cf];exact h2
  rw[Zz hs,Zz hs];obtain⟨κ,kk,ka⟩:=ask (by omega) _ _ s kv I r;refine au (jx (kk _ ?_) (λ_ _ z=>z) λ_ _ z=>z.elim);refine au (jx (kat_run (κ:=κ) (ks:=kv) (vs:=us) (Q:=λst' s'=>∃p:Array Nat,p.size=us.length/\arrOf st'=p.map (kas_item (kv.toArray.zip us.toArray))/\failedOf st'=af/\p=told lt (ox us.length)/\s'=s)
   (G:=λp s'=>p=told lt (ox us.length)/\s'=s) hl (by omega) jb (λp st' s' a1 a2 a3 a4=>⟨p,a1,a2,a3,a4.1,a4.2⟩) ?_) ?_ λ_ _ z=>z)
  .exact MS (n:=us.length) (lt:=lt) (λi j C hi hj hC=>ka i j C hi hj hC) _ _ (VT (by omega) λ_=>trivial) ⟨rfl,rfl⟩
  .rintro ⟨⟨⟩,st'⟩ s' ⟨p,hp,har,hf,ep,rfl⟩;dsimp only;obtain⟨sp,su⟩:=Z9 O (n:=us.length) (by omega);rw[<- ep] at sp su;have hlp:p.toList.Perm (dj us.length):=by simpa using sp.toList
   refine yE I fa fk (kat_snds hl har) (by rw[az,ve,hp];exact jb) (by omega) hf λs' c I'=>h p.toList s' c hlp ⟨λi j hij hj=>?_,by rw[ep];exact(Zz h2).symm⟩ I';have:=su i j hij hj;rw[iZ,iZ] at this;simpa using this
theorem JW(hK:si X σ P f t)(hP:∀p∈P,p∈pins)(I:Inv X ((pins++[(a,seqObj "list" #[] e1)])++[(kS,seqObj "list" #[] 0)]) σ H s)(fa:Fp X pins a)(fk:Fp X (pins++[(a,seqObj "list" #[] e1)]) kS)
  (r:Vals xs us) (jb:us.length<64) (O:oJ lt) (w0:W 0 [] H) (ws:∀(i:Nat) (x:V) (ks:List V) (H':Hp),xs[i]?=aa x->W i ks H'->t x H' λk H''=>W (i+1) (ks++[k]) H'')
  (ask:∀ks H',W us.length ks H'->2<=us.length->rH X us.length lt ks H')
  (h:∀(ix:List Nat) (ks:List V) (H':Hp) s' c,W us.length ks H'->ix.Perm (dj us.length)->((∀i j:Nat,i<j->j<us.length->lt (ix.getD j 0) (ix.getD i 0)=ag)/\ix=tj lt us.length) ->
   Inv X (pins++[(a,seqObj "list" (ix.map λi=>us.getD i js).toArray c)]) σ H' s'->Pf (.done (.ret .none)) s'):
  ax (ay X.prog X.w) X.A.in1.in1 (ksk_rest a f ag us.toArray e1 (.ref kS)) Pf E s:=by
 unfold ksk_rest;refine au (om ?_);rw[List.forIn_toArray];refine au (ksk_fold (λi s'=>∃(H':Hp) (ks:List V) (kv:Q0f) (e:Nat),Inv X ((pins++[(a,seqObj "list" #[] e1)])++[(kS,seqObj "list" kv.toArray e)]) σ H' s'/\Vals ks kv/\kv.length=i/\W i ks H') us 0 s ⟨H,[],[],0,I,.nil,rfl,w0⟩ ?_ ?_)
 .rintro j u s' hu ⟨H',ks,kv,e,I',r',hl,w'⟩;rw[qv] at hl w' ⊢;have hj:j<us.length:=(cn.mp hu).1;have hxl:=nG r;obtain⟨u',hu',ru⟩:=r.get (i:=j) (x:=xs[j]'(by omega)) (by simp[hxl,hj]);rw[hu] at hu';cases hu';have q:=hK _ s' H' (xs[j]'(by omega)) u _ I' (λp hp=>jh _ (jh _ (hP p hp))) ru (ws j _ ks H' (by simp[hxl,hj]) w');refine au (Ek (jx q (λkvv s2 h2=>?_) λ_ _ z=>z.elim));obtain⟨k,H2,I2,rk,w2⟩:=h2;dsimp only;have nk:=(l6 I2).1;have sk:=mw s2.heap kS (gz (·.push kvv));have ea:kv.toArray.push kvv=(kv++[kvv]).toArray:=by simp
  obtain⟨c2,hc2⟩:∃c2,(s2.heap.update kS (gz (·.push kvv))).get? kS=aa (seqObj "list" (kv++[kvv]).toArray c2):=⟨_,by rw[<- ea];exact yr nk (·.push kvv)⟩;refine au (yq nk rfl ?_ (by rw[cf,gx];omega) (by rw[ea,cf,bq,Gr,gx];omega));refine a_ ⟨rfl,H2,ks++[k],kv++[kvv],c2,?_,BK rk r',by rw[bq,Gr,hl],w2⟩;exact rG (t':=s2.toks) I2 fk (λb o hb q=>(sk.2 b hb).trans q) hc2 (λv z=>by cases z)
 .rintro s' ⟨H',ks,kv,e,I',r',hl,w'⟩;rw[qv] at hl w';refine au (a1E (l6 I').1 rfl ?_);exact P5 I' fa fk r' hl jb O (ask ks H' w') λix s2 c hp hs I2=>h ix ks H' s2 c w' hp hs I2
theorem JX(hK:si X σ P f t)(hP:∀p∈P,p∈pins)(I:Inv X pins σ H s)(fa:Fp X pins a)(hn:H a=af)(ho:s.heap.get? a=aa (seqObj "list" us.toArray n))
  (r:Vals xs us) (jb:us.length<64) (O:oJ lt) (w0:W 0 [] H) (ws:∀(i:Nat) (x:V) (ks:List V) (H':Hp),xs[i]?=aa x->W i ks H'->t x H' λk H''=>W (i+1) (ks++[k]) H'')
  (ask:∀ks H',W us.length ks H'->2<=us.length->rH X us.length lt ks H')
  (h:∀(ix:List Nat) (ks:List V) (H':Hp) s' c,W us.length ks H'->ix.Perm (dj us.length)->((∀i j:Nat,i<j->j<us.length->lt (ix.getD j 0) (ix.getD i 0)=ag)/\ix=tj lt us.length) ->
   Inv X (pins++[(a,seqObj "list" (ix.map λi=>us.getD i js).toArray c)]) σ H' s'->Pf (.done (.ret .none)) s'):
  ax (ay X.prog X.w) X.A.in1.in1 (ksk_tree a f ag) Pf E s:=by
 have sa:=mw s.heap a (gz λ_=>(#[]:Array ai));obtain⟨ep1,ho1⟩:∃ep1,(s.heap.update a (gz λ_=>(#[]:Array ai))).get? a=aa (seqObj "list" #[] ep1):=⟨_,yr ho λ_=>#[]⟩;have I0:=vF I fa hn ho (λv z=>by cases z);have I1:=rG (h':=s.heap.update a (gz λ_=>(#[]:Array ai))) (t':=s.toks) I0 fa (λb u hb q=>(sa.2 b hb).trans q) ho1 (λv z=>by cases z);unfold ksk_tree;apply au;refine a1E ho rfl ?_;apply au;refine yq ho rfl ?_ (by rw[cf,gx];omega) (kr _);apply au;refine a1C ho1 rfl ?_;refine au (wpAny_newTuple ?_ (by show us.length<=_;rw[gx];omega));apply au;refine Eh ?_ (kr _);refine jo ?_;have I2:=I1.kept (t':=s.toks) (h':=((s.heap.update a (gz λ_=>(#[]:Array ai))).push (seqObj "tuple" us.toArray 0))) λb u q=>di _ q;have I3:=I2.kept (t':=s.toks) (h':=((s.heap.update a (gz λ_=>(#[]:Array ai))).push (seqObj "tuple" us.toArray 0)).push (seqObj "list" #[] 0)) λb u q=>di _ q;have fk:Fp X (pins++[(a,seqObj "list" #[] ep1)]) ((s.heap.update a (gz λ_=>(#[]:Array ai))).push (seqObj "tuple" us.toArray 0)).objs.size:=JV I2 (bc _);have I4:=vF I3 fk (I2.hok.fresh (bc _)) (gg _ rfl) (λv z=>by cases z);exact JW hK hP I4 fa fk r jb O w0 ws ask h
end
abbrev JY(q:ak)(sc:gf)(cl:List (ak×ah))(L f:ah)(cd:ai):fm:=envX q sc L f cd cl
def GW(X:Cx)(N:Q0g)(q:ak)(sc:gf)(cl:List (ak×ah))(L f:ah)(cd:ai)(s₀:ao)(H₀:Hp):Cx :=
 {X with N:=N,s₀:=s₀,H₀:=H₀,env:=JY q sc cl L f cd,A:=X.A.in1.in1.deeper (JY q sc cl L f cd),outer:=X.stack,stack:=JY q sc cl L f cd::X.stack,ex:=[],fn:=λ_=>ag,calm:=ae,pn:=[],xe:=λ_ _=>False}
structure GX (X:Cx) (x:ak) (fs:Q0g) (fr:List Nat) (sc:gf):Prop where
 kind:sc.kind=.function
 co:sc.isCoroutine=ag
 gen:sc.isGenerator=ag
 par:sc.names.lookup x=aa .local
 WN:∀y∈sc.names,y.2≠.cell
 free:∀y∈sc.names,y.2=.free->X.env.kindOf y.1=aa .cell\/X.env.kindOf y.1=aa .free
 slot:∀(k:Nat) (y:ak),fs[k]?=aa y ->∃j,fr[k]?=aa j/\X.N[j]?=aa y/\(y,jm)∈sc.names/\sc.names.lookup y=aa .free
 xT:fr.length=fs.length
def P6(v:V)(fr:List Nat)(σ:L2.St):L2.St:=aa v::fr.map λj=>(σ[j]?).join
section
variable{X:Cx}{pins:Q0b}{σ:L2.St}{H:Hp}{s:ao}
theorem aAP(hc:X.calm=ae)(B:GX X x fs fr sc)(I:Inv X pins σ H s)
  (hcl:∀y∈sc.names,y.2=.free->cl.lookup y.1=X.env.cells.lookup y.1) (lF:∀y c,cl.lookup y=aa c->X.env.cells.lookup y=aa c) (r:RelV v u)
  (hn:h1.Ns s.heap.objs.size λy=>[(x,u)].reverse.lookup y) (hk:∀b o,s.heap.get? b=aa o->h1.get? b=aa o):
  Inv (GW X (x::fs) q sc cl s.heap.objs.size f cd s H) [] (P6 v fr σ) H {s with heap:=h1,toks:=t' }:=by
 have ok:(GW X (x::fs) q sc cl s.heap.objs.size f cd s H).Ok:=by
  refine⟨I.ok.mod,B.kind,rfl,rfl,bc _,λy z c h1 h2=>I.ok.inj y z c (lF y c h1) (lF z c h2),λy hy=>?_,(λy c h=>by cases h),λ_=>I.ok.hd hc,a1w (A:=X.A.in1.in1) I.ok.frames,.inr ⟨rfl,rfl⟩,(λb z=>by cases z),λb o e=>I.bs b o e,gn I.ok.W9 I.sz,(λb o _ z=>by cases z),(λb z=>by cases z),I.stack,I.CZ,I.tab⟩;have hy:sc.names.lookup y=aa .cell\/sc.names.lookup y=aa .free:=hy;rcases hy with hy|hy
  .exact Zw rfl (B.WN _ (jy hy))
  .have hm:=jy hy;obtain⟨c,e⟩:=I.ok.has y (B.free _ hm rfl);exact⟨c,(hcl _ hm rfl).trans e⟩
 refine⟨ok,rfl,I.bare,Un.kept hk,⟨_,hn,λi y w e1 e2 e3=>?_⟩,λy c e=>?_,I.hok.fresh (bc _),λy c e=>I.l9 y c (lF y c e),(λp hp=>by cases hp),I.hok.kept hk,?_⟩
 .cases i with
  |zero =>
   have e1:x=y:=df e1;have e2:v=w:=df (df e2);subst e1 e2;exact⟨u,r,.inl ⟨B.par,by simp⟩⟩
  |succ i =>
   have e1:fs[i]?=aa y:=e1;obtain⟨j,ej,eN,hm,hlk⟩:=B.slot i y e1;have e4:(σ[j]?).join=aa w:=by have e2:(fr.map λj=>(σ[j]?).join)[i]?=aa (aa w):=e2;rw[cg,ej] at e2;exact df e2
   have e5:σ[j]?=aa (aa w):=by
    cases q:σ[j]? with
    |none=>rw[q] at e4;cases e4
    |some o=>rw[q] at e4;rw[show o=aa w from e4]
   have hfr:=B.free _ hm rfl;obtain⟨mm,_,hl⟩:=I.loc;obtain⟨z,rz,l⟩:=hl j y w eN e5 (.inr hfr);refine⟨z,rz,?_⟩;rcases l with⟨k1,_⟩|⟨k1,c,ec,zc⟩
   .rcases hfr with y1|y1<;>rw[k1] at y1<;>cases y1
   .obtain ⟨oc,hoc,hd⟩:=zc;exact .inr ⟨.inr hlk,c,(hcl _ hm rfl).trans ec,oc,hk _ _ hoc,hd⟩
 .obtain ⟨w,oc,hoc,hd⟩:=I.cell y c (lF y c e);exact⟨w,oc,hk _ _ hoc,hd⟩
 .show (P6 v fr σ).length=(x::fs).length;unfold P6;rw[bx,az,B.xT,bx]
def uF(H:Hp)(c:ah)(q:ak):Prop:=∃oc vs t,H c=aa (CW oc)/\oc.data=.fields vs/\vs[1]?=aa (.str q t)
def uF.rec(x:uF H c q)(ok:oI P w H h):h.CodeRec (.ref c) q:=by obtain⟨oc,vs,t,e,d,v⟩:=x;exact⟨c,oc,vs,t,rfl,(ok c _ e).1,d,v⟩
def uF.same(x:uF H c q)(sm:Same H H'):uF H' c q:=by obtain⟨oc,vs,t,e,d,v⟩:=x;exact⟨oc,vs,t,sm _ _ e,d,v⟩
theorem aAQ(hc:X.calm=ae)(B:GX X x fs fr sc)(hroom:X.A.depth<recursionLimit)
  (hcl:∀y∈sc.names,y.2=.free->cl.lookup y.1=X.env.cells.lookup y.1) (lF:∀y c,cl.lookup y=aa c->X.env.cells.lookup y=aa c)
  (hb:∀u,bindArgs (xt "<lambda>" q params body sc cl pm (.ref c) ct) ⟨[u],[]⟩=pure [(x,u)]) (he:∀L s H,PE (GW X (x::fs) q sc cl L f (.ref c) s H) body te):
  si X σ [(f,xr "<lambda>" q params body sc cl pm c ct)] (.ref f) (λv H Q=>uF H c q/\te (P6 v fr σ) H Q):=by
 intro pins s H v u Q I hp r ⟨cq,ht⟩;have ef:=(I.pin _ (gc _ (hp _ b_))).1;refine wpAny_call (kla_callFunE (fd:=xt "<lambda>" q params body sc cl pm (.ref c) ct) hroom ef rfl B.co B.gen rfl (cq.rec I.hok) ?_);rw[hb u];refine a_ (wpAny_newFunctionEnv B.WN (λy hy=>?_) (λh1 hns hsb=>⟨I.nolimit.fresh _ hsb,?_⟩) B.kind)
 .rw [br.1 hy];exact B.par
 .have hk:∀b o,s.heap.get? b=aa o->h1.get? b=aa o:=λb o e=>hsb.extBut b o (h_ (cb e)) (di _ e);have J:=aAP (q:=q) (f:=f) (cd:=.ref c) (t':=s.toks+1) hc B I hcl lF r hns hk;refine kla_codeExpr ?_;refine jx (he s.heap.objs.size s H [] _ (P6 v fr σ) H Q J ht) (λw s' h=>?_) λ_ _ z=>z.elim;obtain⟨y,H',J',ry,qy⟩:=h;exact⟨y,H',I.call' (s':=s') (ch:=[]) J'.os J'.base J'.hok J'.bare (λb z=>by cases z),ry,qy⟩
theorem yF{pos p2:bo}{c cv:ai}:∀(l:Q0f),TriplesOk l->codeAmong p2 (l++[rawInt pos.line,rawInt pos.col,c])=aa cv->codeAmong p2 l=aa cv\/cv=c
 |[],_,h=>by
  simp only[k_,codeAmong,rawInt] at h;split at h
  .exact .inr (df h).symm
  .cases h
 |.int a t::.int b u::d::r,hT,h=>by
  simp only[kj,codeAmong] at h ⊢;split at h
  .rename_i hp;rw[Z_ hp];exact .inl h
  .rename_i hn;rw[Zz hn];exact yF r hT h
theorem WQ(I:Inv X pins σ H s)(hx:(x0,c,P)∈dQ X.K)(hq:X.env.qual++"<lambda>"=mZ x0)
  (hcode:X.env.code=.ref c) (B:GX X x fs fr sc) (hdef:defaultsOf params X.env=([],[]))
  (h:∀(f c':ah) (ct:ai) (cl:List (ak×ah)) (H':Hp) (s':ao),Same H H'->uF H' c' (mZ x0)->(∀y∈sc.names,y.2=.free->cl.lookup y.1=X.env.cells.lookup y.1)->(∀y c,cl.lookup y=aa c->X.env.cells.lookup y=aa c) ->
   Inv X (pins++[(f,xr "<lambda>" (mZ x0) params body sc cl ((X.mg "__name__").getD .none) c' ct)]) σ H' s'->Q (.ref f) s'):
  ax (ay X.prog X.w) X.A (eval (.Lambda params body sc pos) X.env) Q E s:=by
 obtain⟨hC,hP⟩:=I.tab _ hx;dsimp only at hC hP;obtain⟨ps,eP,hT,hA⟩:=I.hok P _ hP;have C:=hC.keeps I.bk;obtain⟨bm,ob,b1,b2,b3,b4,b5,b6⟩:=I.mod.bm;have hgs:=I.mod.glob.keeps I.bk;have hgP:ie≠P:=λz=>by obtain⟨o,es,ep,eo,hd,_⟩:=hgs;rw[z,eP] at eo;cases eo;cases hd
 have b3':=I.bk _ _ b3;have hbP:bm≠P:=λz=>by rw[z,eP] at b3';cases b3';cases b4
 have hbG:bm≠ie:=λz=>by obtain⟨o,es,ep,eo,hd,_⟩:=hgs;rw[z,eo] at b3';cases b3';rw[hd] at b6;cases b6
 have Ag:s.heap.BuiltinsAt X.mg P:=⟨bm,ob,b1,b2,hbG,hbP,b3',b4,b5,b6⟩;obtain⟨cl,ecl,hcl,lF⟩:=xV (scope:=sc) (env:=X.env) λy hy hf=>I.ok.has _ (B.free y hy hf);refine kla_eval hdef ?_;rw[hq]
 -- behind the making: the function object is laid and pinned
 have fin:∀(c':ah) (ct:ai) (H':Hp) (h':bf) (tk:Tok),Same H H'->uF H' c' (mZ x0)->Inv X pins σ H' {s with heap:=h',toks:=tk} ->
   Q (.ref h'.objs.size) {s with heap:=h'.push (xr "<lambda>" (mZ x0) params body sc cl ((X.mg "__name__").getD .none) c' ct),toks:=tk}:=λc' ct H' h' tk sm cq I'=>by
  have I2:=I'.kept (t':=tk) (h':=h'.push (xr "<lambda>" (mZ x0) params body sc cl ((X.mg "__name__").getD .none) c' ct)) λb u e=>di _ e;exact h _ c' ct cl H' _ sm cq hcl lF (vF I2 (JV I' (bc _)) (I'.hok.fresh (bc _)) (gg _ rfl) (λv z=>by cases z))
 cases hf:codeAmong pos ps.toList with
 |some cv =>
  obtain⟨c',oc,vs,t,rfl,e1,e2,e3⟩:=hA pos cv hf;refine kla_makeFunctionHit (mg:=X.mg) ecl I.ok.glob hgs hcode C eP hT hf Ag λct h' tk hk hsz=>?_;exact fin c' ct H h' tk (λ_ _ e=>e) ⟨oc,vs,t,e1,e2,e3⟩ (I.kept hk)
 |none =>
  refine kla_makeFunction (mg:=X.mg) ecl I.ok.glob hgs hcode C eP hT hf hgP Ag λc' ct h' tk hX hge hlt hrec htb=>?_;obtain⟨c2,oc,vs,t,e2,hoc,hd,hv⟩:=hrec;cases e2;have hfr:H c'=af:=I.hok.fresh hge;have nC:∀{b:ah} {o:HO},H b=aa o->b≠c':=λe=>bH e hfr;have nP:∀{b:ah},H b=af->b≠P:=λe z=>by rw[z,hP] at e;cases e
  have sm:Same H (upd H c' (CW oc)):=λb o e=>by rw[bE (nC e)];exact e
  refine fin c' ct (upd H c' (CW oc)) h' tk sm ⟨oc,vs,t,aU,hd,hv⟩ (I.un (t':=tk) ⟨λb o e n _ _=>hX b o (nP n) e,λb o e n _ _=>⟨o.slots,hX b o (nP n) e⟩,λb o e n _=>?_,λb o e _=>?_,λb xs e=>sm _ _ e,λb o u e=>sm _ _ e,λb q e=>sm _ _ e⟩ λb u e=>?_)
  .rw [bE (h_ (fz (cb e) hge))];exact n
  .by_cases hb:b=P
   .exact ⟨_,hb▸htb⟩
   .exact ⟨o,hX b o hb e⟩
  .by_cases hb:b=c'
   .subst hb;rw[aU] at e;cases e;exact⟨hoc,trivial,⟨oc,hoc⟩,λ_ _ _ _=>trivial⟩
   .rw [bE hb] at e;by_cases hbP:b=P
    .subst hbP;rw[hP] at e;cases e;refine⟨_,htb,?_,λp2 cv e=>?_⟩
     .rw [a2R];exact TriplesOk_snoc _ _ _ _ hT
     .rw [a2R] at e;rcases yF _ hT e with z|z
      .obtain ⟨c3,oc3,vs3,t3,y1,y2,y3⟩:=hA p2 cv z;exact⟨c3,oc3,vs3,t3,y1,sm _ _ y2,y3⟩
      .exact ⟨c',oc,vs,t,z,aU,hd,hv⟩
    .refine (I.hok b u e).stay (λd w hc q=>hX d w ?_ q) (λd q=>sm _ _ q) (λd xs q=>sm _ _ q) λd o u q=>sm _ _ q;rcases hc with z|z
     .rw [z];exact hbP
     .intro y;rw[y,hP] at z;cases z
def track(I:Inv X (pins++[(b,o)]) σ H s)(f:Fp X pins b)(new:dP X.prog X.w (upd H b u) s.heap b u):Inv X pins σ (upd H b u) s:=by
 obtain⟨f1,f2,f3,f4,f5⟩:=f;have hn:=(l6 I).2;have J:=I.iR;have sm:∀{d:ah} {w:HO},H d=aa w->upd H b u d=aa w:=λ{d w} e=>by rw[bE (bH e hn)];exact e
 have q:=J.step (s:=s) (H':=upd H b u) (h':=s.heap) (g':=s.gens) (t':=s.toks) (d':=s.drawn) (ch:=[b]) (λd hd=>?_) (λd w _ _ _ e _=>e) (λd w _ _ _ e _=>⟨w.slots,e⟩) (λd w hd e n=>?_) (λd w _ e=>⟨w,e⟩) (λd xs e=>sm e) (λd o u e=>sm e) (λd q e=>sm e) (λm hm=>hm) (λd w e=>?_) J.bare
 .exact q
 .rw [br.1 hd];exact⟨f3,f1,f4,f5⟩
 .rw [bE λz=>hd (br.2 z)];exact n
 .by_cases hd:d=b
  .subst hd;rw[aU] at e;cases e;exact new
  .rw [bE hd] at e;exact(J.hok d w e).stay (λ_ _ _ q=>q) (λ_ q=>sm q) (λ_ _ q=>sm q) λ_ _ _ q=>sm q
end
section
variable{X:Cx}
def aAR(ts:Q0a):oJ λi j=>hV (l4 ts i) (l4 ts j):=⟨λx y a=>HE _ _ a,λx y z a b=>HF _ _ _ a b⟩
def P7{ts:Q0a}(nd:ts.Nodup){ix:List Nat}(hp:ix.Perm (dj ts.length))(hs:∀i j:Nat,i<j->j<ts.length->hV (l4 ts (ix.getD j 0)) (l4 ts (ix.getD i 0))=ag):nN ts=ix.map λi:Nat=>(i:Int):=by
 have hlen:ix.length=ts.length:=by rw[hp.length_eq,pw]
 have es:tW ts=ix.map (l4 ts):=by
  refine BQ ((pA ts).trans ?_) (vN ts) ?_
  .have:=(hp.map (l4 ts)).symm;rw[VU] at this;exact this
  .rw [UpT,pj,a2f];intro i j hi hj hij;have:=hs i j hij (by omega);simpa[hi,hj] using this
 unfold nN;rw[es,dq];refine gd λi hi=>?_;have hi:i<ts.length:=by simpa using hp.mem_iff.mp hi
 show((ts.idxOf (l4 ts i):Nat):Int)=i;have:l4 ts i=ts[i]:=by unfold l4;rw[getElem?_eq_getElem hi];rfl
 rw[this,a2E nd i hi]
theorem JZ{pins:Q0b}{σ:L2.St}{H:Hp}{s:ao}{P:Q0b}{r f:ah}{t:V->Hp->VK->Prop}{W:Nat->List V->Hp->Prop}{lt:Nat->Nat->Bool}{xs:List V}{Q:VK}(I:Inv X pins σ H s)
  (hK:si X σ P (.ref f) t) (hP:∀p∈P,p∈pins) (jb:xs.length<64) (O:oJ lt)
  (Jg:∀Qc:List ai->ao->Prop,(∀(us:Q0f) (h':bf) (tk:Nat),(∀b o,s.heap.get? b=aa o->h'.get? b=aa o)->Vals xs us->Qc us {s with heap:=h',toks:=tk})->ax (ay X.prog X.w) X.A.in1 (collect (.ref r)) Qc X.xe s)
  (w0:W 0 [] H) (ws:∀(i:Nat) (x:V) (ks:List V) (H':Hp),xs[i]?=aa x->W i ks H'->t x H' λk H''=>W (i+1) (ks++[k]) H'')
  (ask:∀ks H',W xs.length ks H'->2<=xs.length->rH X xs.length lt ks H')
  (h:∀(ix:List Nat) (ks:List V) (H':Hp) (D:ah),W xs.length ks H'->ix.Perm (dj xs.length)->((∀i j:Nat,i<j->j<xs.length->lt (ix.getD j 0) (ix.getD i 0)=ag)/\ix=tj lt xs.length)->H D=af->H' D=af ->
   Q (.ref D) (upd H' D (.lst (ix.map λi=>xs.getD i .non)))):
  ax (ay X.prog X.w) X.A (call (.builtin "sorted") [.ref r] [(qm "key",.ref f)]) (EP X pins σ Q) X.xe s:=by
 refine call_function_entry_kw a1F a1D a1H (ksk_s1 _ _) ?_;unfold Builtin.«sorted»;apply au (m:=checkCount "sorted" 1 1 _);apply a_;refine au (Jg _ λus h' tk kp rv=>?_);have hl:=nG rv;have I1:=I.kept (t':=tk) kp;apply au;refine Eh ?_ (by rw[gx];omega);have I2:=I1.kept (t':=tk) (h':=h'.push (seqObj "list" us.toArray 0)) λb u q=>di _ q;have hoL:(h'.push (seqObj "list" us.toArray 0)).get? h'.objs.size=aa (seqObj "list" us.toArray 0):=gg _ rfl;have hnD:H h'.objs.size=af:=I1.hok.fresh (bc _);have fD:Fp X pins h'.objs.size:=JV I1 (bc _);refine au (jo (wpAny_call_entry_kw a1A ⟨_,hoL,rfl⟩ a1I ?_ (ksk_l1 _ _)));show ax (ay X.prog X.w) X.A.in1.in1 (Builtin.«list.sort» ⟨[.ref h'.objs.size],[(qm "key",.ref f)]⟩) _ _ _;rw[ksk_t1];rw[hl] at jb;rw[hl] at ask h;refine JX hK hP I2 fD hnD hoL rv jb O w0 ws ask λix ks H' s' c w' hp hs I'=>?_;have hD':=(l6 I').2;refine⟨_,rfl,a_ ⟨_,rfl,.ref h'.objs.size,upd H' h'.objs.size (.lst (ix.map λi=>xs.getD i .non)),track I' fD ?_,rfl,h ix ks H' _ w' hp hs hnD hD'⟩⟩;refine⟨?_,ix.map λi=>us.getD i js,c,BL rv ix λi hi=>by simpa using hp.mem_iff.mp hi,(l6 I').1⟩;rw[az,hp.length_eq,pw,gx];omega
theorem Yj{K:aq}{S:ah->Prop}{H H':Hp}{ρ:dJ}{σ:L2.St}{fr:List Nat}{d:D}{v:V}(sl:Sl K S H ρ σ)(sm:Same H H')(dv:Dn K S H' d v):Sl K S H' ((benv 1 fr ρ).set 0 (aa d)) (P6 v fr σ):=by
 intro i e hi
 cases i with
 |zero=>cases hi;exact⟨v,rfl,dv⟩
 |succ i =>
  have hi:(fr.map λj=>(ρ[j]?).join)[i]?=aa (aa e):=hi;rw[cg] at hi
  cases ej:fr[i]? with
  |none=>rw[ej] at hi;cases hi
  |some j =>
   rw[ej] at hi;have hi:(ρ[j]?).join=aa e:=df hi;have e5:ρ[j]?=aa (aa e):=by
    cases q:ρ[j]? with
    |none=>rw[q] at hi;cases hi
    |some o=>rw[q] at hi;rw[show o=aa e from hi]
   obtain⟨w,ew,dw⟩:=sl j e e5;refine⟨w,?_,Dn.fits (Fits.same sm) e w dw⟩;show(fr.map λj=>(σ[j]?).join)[i]?=aa (aa w);rw[cg,ej,kq,ew];rfl
end
def vk(outer:List (ak×jf))(sc:gf)(N:Q0g)(x:ak)(fs:Q0g)(fr:List Nat):Bool :=
 (sc.kind == .function) && !sc.isCoroutine && !sc.isGenerator&&Zv (sc.names.lookup x=aa .local)&&sc.names.all (λy=>Zv (y.2≠.cell)) &&
 sc.names.all (λy=>Zv (y.2=.free->(outer.lookup y.1=aa .cell\/outer.lookup y.1=aa .free)))&&Zv (fr.length=fs.length) &&
 (fs.zip fr).all (λy=>Zv (N[y.2]?=aa y.1)&&sc.names.contains (y.1,jm)&&Zv (sc.names.lookup y.1=aa .free))
def aAS(h:vk X.env.scope.names sc X.N x fs fr=ae):GX X x fs fr sc:=by
 unfold vk at h;simp only[gw,ke,decide_eq_true_eq,zq] at h;obtain⟨⟨⟨⟨⟨⟨⟨h1,h2⟩,h3⟩,h4⟩,h5⟩,h6⟩,h7⟩,h8⟩:=h;refine⟨eq_of_beq h1,h2,h3,h4,h5,h6,λk y e=>?_,h7⟩;have hk:k<fs.length:=(cn.mp e).1;have hm:(y,fr[k]'(by omega))∈fs.zip fr:=by
  have:(fs.zip fr)[k]?=aa (y,fr[k]'(by omega)):=by rw[uu];exact⟨e,by simp⟩
  exact jt this
 obtain⟨⟨a,b⟩,c⟩:=h8 _ hm;exact⟨fr[k]'(by omega),by simp,a,by simpa using b,c⟩
def WR{K:aq}{x0:ak}{f c Pt:ah}{oc:ai}{od:Option ah}{fd:gi}{osl:Array (Option ai)}(nn:nsIn K ie x0=aa (aa (.ref f)))(lk:K.lookup f=aa ⟨oc,od,.func fd,osl⟩)(ht:tabIn K x0=aa (c,Pt)):fd.code=.ref c:=by
 unfold tabIn at ht;rw[nn] at ht;dsimp only at ht;rw[lk] at ht;dsimp only at ht;split at ht
 .rename_i c2 hc;split at ht
  .split at ht
   .cases ht;exact hc
   .cases ht
  .cases ht
 .cases ht
def Yi{K:aq}{x0:ak}{c Pt:ah}(hx:x0∈FH)(ht:tabIn K x0=aa (c,Pt)):(x0,c,Pt)∈dQ K:=zh.2 ⟨x0,hx,by rw[ht];rfl⟩
theorem Sj{P:bh}{w:bb}{K:aq}{mg:Q0d}{base:bf}{x qual:ak}{st:de}{f c Pt:ah}{fd:gi}{N ps:Q0g}{k n np:Nat}{b:SF}(F:ZC K x qual st f fd)(nn:nsIn K ie x=aa (aa (.ref f)))(ht:tabIn K x=aa (c,Pt))(S:gX N ps (bF st))(hn:N.length=n)(hp:ps.length=np)
  (hbody:∀(A:bp) (outer:List fm) (s:ao) (H:Hp) (E:XK),fN k (A.deeper (envOfC qual (bF st) s.heap.objs.size f (.ref c))) ->
   tL (tE dF P w K mg base N qual (bF st) f (.ref c) A outer s H E).QM (fJ st) b):lC P w K mg base dF (k+1) f fd ps (eG K (bY n np b)):=by
 subst hn hp;obtain⟨oc,od,kV,doc,pm,an,cdv,ct,osl,rfl,lk,hcd⟩:=F.ex;have ec:cdv=.ref c:=WR nn lk ht;subst ec;refine Dc lk hcd S (λvs H Q E h=>?_) λA outer s H vs Q E hr h=>?_
 .obtain ⟨S',ds,Q3,fc,dn,⟨d,e,q⟩,_⟩:=h;rw[<- dn.len];unfold bY at e;by_cases h:ds.length=ps.length
  .exact h
  .rw [Zz h] at e;cases e
 .obtain ⟨S',ds,Q3,fc,dn,⟨d,e,q⟩,kk⟩:=h;have hb:=hbody A outer s H E hr;unfold bY at e;by_cases h:ds.length=ps.length
  case neg=>rw[Zz h] at e;cases e
  rw[Z_ h] at e;refine⟨_,L2.yQ.QM hb,H,S',λ_=>0,kK N ds,[],{nx:=λ_=>Q3 .non,rt:=Q3},?_,FV fc dn,?_,⟨λw' σ' H' ρ' _ st' q=>?_,λv H' d s' d' q=>kk v H' d s' d' q,λ_ _ _ _ _ _ q=>q,λ_ _ _ _ _ _ q=>q,λ_ _ _ q=>q.elim⟩⟩
  .have hl2:=dn.len;have hp:ps.length<=N.length:=by have:=congrArg rf S.pre;rw[ji] at this;omega
   unfold L2.start;show _=N.length;rw[bq,az,lz];omega
  .have e2:kK N ds=c6 N.length ds:=rfl;unfold wS;rw[e2]
   cases hb:b (c6 N.length ds) with
   |rt d'=>rw[hb] at e;cases e;exact q
   |nx ρ=>rw[hb] at e;cases e;exact q
   |no=>rw[hb] at e;cases e
   |ex c=>rw[hb] at e;cases e
  .exact kk .non H' .non st'.sm (by simp only[Dn]) q
theorem aAT:∀(us:Q0f),us.length=1 ->∃a0,us=[a0]
 |[a0],_=>⟨a0,rfl⟩
theorem aAU:∀(us:Q0f),us.length=2 ->∃a0 a1,us=[a0,a1]
 |[a0,a1],_=>⟨a0,a1,rfl⟩
theorem aAV:∀(us:Q0f),us.length=3 ->∃a0 a1 a2,us=[a0,a1,a2]
 |[a0,a1,a2],_=>⟨a0,a1,a2,rfl⟩
theorem aAW:∀(us:Q0f),us.length=4 ->∃a0 a1 a2 a3,us=[a0,a1,a2,a3]
 |[a0,a1,a2,a3],_=>⟨a0,a1,a2,a3,rfl⟩
theorem Jf{P:bh}{w:bb}{K:aq}{mg:Q0d}{base:bf}{x:ak}{st:de}{c Pt:ah}{N ps:Q0g}{k n np:Nat}{b:SF}(D:Df K mg x st ps)(ht:tabIn K x=aa (c,Pt))
  (h:∀{f:ah} {A:bp} {outer:List fm} {s:ao} {H:Hp} {E:XK},fN k (A.deeper (envOfC x (bF st) s.heap.objs.size f (.ref c)))->N.Nodup->tL (tE dF P w K mg base N x (bF st) f (.ref c) A outer s H E).QM (fJ st) b)
  (S:gX N ps (bF st):=by exact⟨rfl,rfl,rfl,by decide+kernel,rfl,by decide+kernel,by decide+kernel⟩) (hn:N.length=n:=by rfl) (hp:ps.length=np:=by rfl):Cl P w K mg base dF (k+1) x ps (eG K (bY n np b)):=by
 obtain⟨a,F,m,q⟩:=D;exact⟨Sj F a ht S hn hp λ_ _ _ _ _ hr=>h hr S.nd,m,F.kp,q⟩
def rJ{K:aq}{x:ak}(h:nsIn K ie x=aa af):tabIn K x=af:=by unfold tabIn;rw[h]
theorem GY{K:aq}{x:ak}{f c Pt:ah}{oc oc2:ai}{od od2:Option ah}{fd:gi}{vs:Array ai}{sl sl2:Array (Option ai)}(h1:nsIn K ie x=aa (aa (.ref f)))(h2:K.lookup f=aa ⟨oc,od,.func fd,sl⟩)(h3:fd.code=.ref c)
  (h4:K.lookup c=aa ⟨oc2,od2,.fields vs,sl2⟩) (h5:vs[11]?=aa (.ref Pt)):tabIn K x=aa (c,Pt):=by
 unfold tabIn;rw[h1];dsimp only;rw[h2];dsimp only;rw[h3];dsimp only;rw[h4];dsimp only;rw[h5]
theorem P8{K:aq}{r1 r2 r3 r4 r5:Option (ah×ah)}(h1:tabIn K "going_of"=r1)(h2:tabIn K "count_of_chain"=r2)(h3:tabIn K "cut_paper"=r3)(h4:tabIn K "downsets"=r4)(h5:tabIn K "strictest_chains"=r5):
  dQ K=([("going_of",r1),("count_of_chain",r2),("cut_paper",r3),("downsets",r4),("strictest_chains",r5)]:List (ak×Option (ah×ah))).filterMap λp=>p.2.map λt=>(p.1,t.1,t.2):=by
 subst h1 h2 h3 h4 h5;rfl
def tabs_ok{K:aq}{q:bh}{L:List (ak×ah×ah)}(h:dQ K=L)(nd:(L.map (·.2.2)).Nodup)(rc:∀t∈L,∃e,(recsOf q).find? (λe=>e.name == t.1)=aa e):TabsOk K q:=⟨by rw[h];exact nd,by rw[h];exact rc⟩
section
variable{prog:bh}{w:bb}{A:bp}{E:Q0c}{s:ao}{z TI TO i1 i2:ah}{f1 f2:List ah}{n1 n2 k:Nat}{P1 P2:Nat->ai->Prop}{S1 S2:Nat->bf->Prop}{a b:ai}
structure Zap (z TI TO i1 i2:ah) (f1 f2:List ah):Prop where
 zO:z≠TO
 zI:z≠TI
 OI:TO≠TI
 m1:i1∈f1
 m2:i2∈f2
 z1:z∉f1
 z2:z∉f2
 o1:TO∉f1
 o2:TO∉f2
 c1:i1∉f2
 c2:i2∉f1
 I1:TI≠i1
 I2:TI≠i2
def Zap.q2(p:Zap z TI TO i1 i2 f1 f2):z≠i2:=λe=>p.z2 (e▸p.m2)
end
open PySem.SeqAt
section
variable{X:Cx}
theorem uG:∀{ns:Q0e} {us:Q0f},Vals (ns.map V.int) us ->∀(j:Nat) (y:ai),us[j]?=aa y ->∃a u,ns[j]?=aa a/\y=o_ a u
 |[],_,.nil,j,y,h=>by cases h
 |n::ns,_,.cons q r,j,y,h=>by
  cases j with
  |zero =>
   obtain⟨t,e⟩:=q;cases h;exact⟨n,t,rfl,e⟩
  |succ j=>exact uG r j y h
end
section
variable{X:Cx}
theorem oX:∀{ns:Q0e} {us:Q0f},Vals (ns.map V.int) us->lp us ns
 |[],_,.nil=>.nil
 |n::ns,_,.cons q r=>by obtain⟨t,rfl⟩:=q;exact .cons n t (oX r)
def WU{H:Hp}{ns:Q0e}(h2:2<=ns.length):rH X ns.length (λi j=>hV (l4 (ns.map λn=>[n]) i) (l4 (ns.map λn=>[n]) j)) (ns.map V.int) H:=by
 intro pins σ s us I r;have hi:=oX r;have hl:ns.length=us.length:=by have:=nG r;rwa [az] at this
 refine⟨oneType',λQ q=>?_,λi j C h1 h3 hC=>?_⟩
 .rw [ksk_kind (keys:=us.toArray) (kz:=ns) hi (by simpa using hl▸h2)];exact a_ q
 .have at':∀k,k<ns.length ->∃t,us.getD k js=o_ (ns.getD k 0) t/\l4 (ns.map λn=>[n]) k=[ns.getD k 0]:=λk hk=>by
   have e1:ns[k]?=aa (ns.getD k 0):=by rw[l_,getElem?_eq_getElem hk];rfl
   obtain⟨a,u,e2,e3⟩:=uG r k (us.getD k js) (by rw[l_,getElem?_eq_getElem (by omega)];rfl);rw[e1] at e2;cases e2;refine⟨u,e3,?_⟩;unfold l4;rw[cg,e1];rfl
  obtain⟨t,e1,e2⟩:=at' i h1;obtain⟨u,e3,e4⟩:=at' j h3;unfold xx;rw[e1,e3];refine kat_lt_int ?_;have hC:C (hV (l4 (ns.map λn=>[n]) i) (l4 (ns.map λn=>[n]) j)) s:=hC;rw[e2,e4] at hC;have:hV [ns.getD i 0] [ns.getD j 0]=Zv (ns.getD i 0<ns.getD j 0):=by
   unfold hV;by_cases z:ns.getD i 0=ns.getD j 0
   .rw [Z_ z,z];simp[hV]
   .rw [Zz z]
  rw[this] at hC;exact hC
theorem WV(hc:X.calm=ae)(hr:fN k X.A)(hm:X.mg "sorted"=af)(hmr:X.mg "range"=af)(ha:b8 X a fa)
  (hx:(x0,c,Pt)∈dQ X.K) (hcode:X.env.code=.ref c) (B:GX X x fs fr sc) (hk:∀cl L f cd s H,b8 (GW X (x::fs) (mZ x0) sc cl L f cd s H) body fk)
  (hb:∀(cl:List (ak×ah)) (pm cd ct u:ai),bindArgs (xt "<lambda>" (mZ x0) params body sc cl pm cd ct) ⟨[u],[]⟩=pure [(x,u)])
  (hq:X.env.qual++"<lambda>"=mZ x0:=by rfl) (hdef:defaultsOf params X.env=([],[]):=by rfl)
  (hg:Gl X "sorted":=by rfl) (hgr:Gl X "range":=by rfl) (hs:av [a] X.env=[(ag,eval a X.env)]:=by rfl)
  (he:av [.Call (.Name "range" p2) [a] [] pos2] X.env=(ag,eval (.Call (.Name "range" p2) [a] [] pos2) X.env)::av [] X.env:=by rfl):
  kB X (.Call (.Name "sorted" p) [.Call (.Name "range" p2) [a] [] pos2] [⟨aa "key",.Lambda params body sc Je,kp⟩] pos) (uQ fr fa fk):=by
 intro pins s σ H Q I ⟨S,ρ,Q3,fc,sl,⟨d,ed,q3⟩,kk⟩;obtain⟨da,e1,edA⟩:=bnd ed;obtain⟨j,e2,edB⟩:=bnd edA;obtain rfl:da=.int j:=by
  cases da<;>first|cases e2;done|skip
  cases e2;rfl
 clear ed edA
 have ed:=edB
 clear edB
 by_cases hj:0<=j/\j<64
 case neg=>rw[Zz hj] at ed;cases ed
 rw[Z_ hj] at ed;obtain⟨kd,e3,ed⟩:=bnd ed;obtain⟨ns,e4,ed⟩:=bnd ed;by_cases hq2:ns.length<64/\ns.Nodup
 case neg=>rw[Zz hq2] at ed;cases ed
 rw[Z_ hq2] at ed;cases ed;have ekd:=ints_of e4;obtain⟨ts,ets⟩:∃ts:Q0a,ts=ns.map λn=>[n]:=⟨_,rfl⟩;have lns:ts.length=ns.length:=by rw[ets,az]
 have hnd:ts.Nodup:=by rw[ets,zl,pj];exact a2D (λh z=>h (Hd z).1) hq2.2
 have ht:ts.length<64/\ts.Nodup:=⟨by omega,hnd⟩;have lkd:=zQ e3;rw[az,show(aY 0 j.toNat).length=j.toNat by simp[aY]] at lkd;have lts:ts.length=j.toNat:=by rw[lns,<- lkd,ekd,az]
 have hA:PA X [.Call (.Name "range" p2) [a] [] pos2] _:=j8 (A7 hgr hmr (aF ha aM hs) hs) sZ he;refine xo (lW I hg hm Fs ?_);refine callWith_kw (dR (hA pos pins s σ H (λvs H1=>∃r,vs=[.ref r]/\Same H H1/\H1 r=aa (.rng 0 j)) I ⟨S,ρ,λds=>ds=[.int j],fc,sl,⟨[.int j],(by show((fa ρ).bind λd=>(aa ([]:List D)).bind λds=>aa (d::ds))=_;rw[e1];rfl),rfl⟩,λvs H1 ds s1 d1 q1=>?_⟩) λus s1 ⟨vs,H1,I1,r1,q1⟩=>?_) he
 .subst q1;have:=aX.ints (ns:=[j]) |>.mp d1;exact⟨j,this,λb hb=>⟨b,rfl,s1.trans (aZ hb),aU⟩⟩
 obtain⟨r,rfl,sm1,hr1⟩:=q1;obtain⟨u,rfl,ru⟩:=vals1 r1;cases ru;refine kws_cons (WQ I1 hx hq hcode B hdef λf c' ct cl H2 s2 sm2 cq hcl lF I2=>kws_nil ?_);show ax (ay X.prog X.w) X.A (call (.builtin "sorted") [.ref r] [(qm "key",.ref f)]) _ _ s2;have sm:=sm1.trans sm2;obtain⟨t0,u0,v0,er⟩:=I2.hok r _ (sm2 _ _ hr1);have hsz:yp 0 j 1=(j.toNat:Int):=by rw[Er];split<;>omega
 have hlx:((lE 0 j.toNat).map V.int).length=ts.length:=by rw[az,m7,lts]
 have key:=aAQ (te:=lift X.K (wE fk)) (σ:=σ) (q:=mZ x0) (params:=params) (f:=f) (c:=c') (pm:=(X.mg "__name__").getD .none) (ct:=ct) hc B (by have:=hr.dp;omega) hcl lF (λu=>hb cl _ _ _ u) λL s H=>hk cl L f (.ref c') s H;have main:=JZ (Q:=Q) (W:=λi ks H'=>Same H2 H'/\aX X.K S H' (kd.take i) ks) (lt:=λi j=>hV (l4 ts i) (l4 ts j)) (xs:=(lE 0 j.toNat).map V.int) (r:=r) I2 key (λp hp=>gc _ hp) (by rw[hlx];exact ht.1) (aAR ts)
  (λQc q=>GK (A:=X.A.in1) (a:=0) (b:=j) (c:=1) (n:=j.toNat) (I.ok.hd hc) er (En (by omega) (by omega) (by omega) (by omega)) hsz (by omega) λh' tk acc hle kp hit=>q _ h' tk kp (F5 hit))
  ⟨Same.refl _,by rw[List.take_zero];exact aX.nil⟩ (λi x ks H' hxi ⟨sm',dk⟩=>?_) (λks H' ⟨sm',dk⟩ h2=>?_) λix ks H' Dd ⟨sm',dk⟩ hp hs hD hD'=>?_
 .exact dR main λv s' ⟨y,H',J,ry,qy⟩=>⟨y,H',J.iR,ry,qy⟩
 .rw [cg] at hxi;obtain⟨z,ez,rfl⟩:∃z,(lE 0 j.toNat)[i]?=aa z/\V.int z=x:=by
   cases e:(lE 0 j.toNat)[i]? with
   |none=>rw[e] at hxi;cases hxi
   |some z=>rw[e] at hxi;exact⟨z,rfl,df hxi⟩
  obtain⟨kv,ek,ek2⟩:=zR e3 (show((aY 0 j.toNat).map D.int)[i]?=aa (.int z) by rw[cg,show(aY 0 j.toNat)[i]?=aa z from ez];rfl);refine⟨cq.same sm',S,_,λd=>d=kv,bX fc (sm.trans sm'),Yj (d:=.int z) sl (sm.trans sm') (by simp only[Dn]),⟨kv,ek2,rfl⟩,λv H'' d s3 dv ed=>?_⟩;subst ed;refine⟨sm'.trans s3,?_⟩;rw[a2c,ek];exact aX.append (aX.fits (Fits.same s3) _ _ dk) (aX.one dv)
 .rw [hlx,ph (by omega),ekd] at dk;have ek:=aX.ints.mp dk;subst ek;rw[hlx] at h2 ⊢;rw[ets] at h2 ⊢;rw[az] at h2 ⊢;exact WU h2
 .rw [hlx] at hp hs;have hpl:=P7 ht.2 hp hs.1;have hH:H Dd=af:=sm.free hD;rw[<- ets] at q3;refine kk Dd _ _ ((nN ts).map D.int) hH aU ((sm.trans sm').trans (aZ hD')) ?_ q3;rw[hpl];refine aX.ints.mpr ?_;rw[dq];refine gd λi hi=>?_;have hi:i<j.toNat:=by rw[<- lts];simpa using hp.mem_iff.mp hi
  show((lE 0 j.toNat).map V.int).getD i .non=V.int (i:Int);have:((lE 0 j.toNat).map V.int)[i]?=aa (V.int (i:Int)):=by rw[cg];unfold lE;rw[cg,rh hi];simp
  rw[l_,this];rfl
end
section
variable{X:Cx}
theorem aAX(hc:X.calm=ae)(hr:fN k X.A)(hm:X.mg "sorted"=af)(hmr:X.mg "range"=af)
  (hx:(x0,c,Pt)∈dQ X.K) (hcode:X.env.code=.ref c) (ha:b8 X a fa) (hk:∀cl L f cd s H,b8 (GW X (x::fs) (mZ x0) sc cl L f cd s H) body fk) (B:vk X.env.scope.names sc X.N x fs fr=ae:=by rfl)
  (hb:∀(cl:List (ak×ah)) (pm cd ct u:ai),bindArgs (xt "<lambda>" (mZ x0) params body sc cl pm cd ct) ⟨[u],[]⟩=pure [(x,u)]:=by intro _ _ _ _ _;rfl)
  (hq:X.env.qual++"<lambda>"=mZ x0:=by rfl) (hdef:defaultsOf params X.env=([],[]):=by rfl)
  (hg:Gl X "sorted":=by rfl) (hgr:Gl X "range":=by rfl) (hs:av [a] X.env=[(ag,eval a X.env)]:=by rfl)
  (he:av [.Call (.Name "range" p2) [a] [] pos2] X.env=(ag,eval (.Call (.Name "range" p2) [a] [] pos2) X.env)::av [] X.env:=by rfl):
  kB X (.Call (.Name "sorted" p) [.Call (.Name "range" p2) [a] [] pos2] [⟨aa "key",.Lambda params body sc Je,kp⟩] pos) (uQ fr fa fk):=WV hc hr hm hmr ha hx hcode (aAS B) hk hb hq hdef hg hgr hs he
end
end L4
namespace K34
open L2 L3 L4 L6 L7 L8 L9 L5
def top(i : Nat):de:=PySem.Challenge.pw_risecount_k34_counted_by.main.body.getD i (.Pass ⟨0,0,0,0⟩)
section
variable(P:bh)(w:bb){K:aq}{mg:Q0d}(base:bf)(kk:Nat)
def uP(F:Df K mg "ready_things" (top 1) ["order","ahead"])(yG:mg "all"=af)(aV:mg "len"=af)(aS:mg "range"=af):Cl P w K mg base dF (kk+1) "ready_things" ["order","ahead"] (eG K LL.d8):=by
 refine rO (N:=["order","ahead","others"]) F (λhr nd=>?_);exact(a8 (O5 (i:=2) (ls:=["thing"]) (fs:=["ahead"]) (fr:=[1]) nd rfl (dB aS (d6 aV (aF (x4 0) aM))) (λ_ _ _ _ _ _ nd=>gY (i:=0) nd (by decide)) (λ_ _ _ _ _ _=>nD (GB (x4 0) (x4 1))) (λ_ _ _ _ _ _=>(x4 0)))
  (aT (eB (kB.pe (kC (ls:=["thing"]) (fs:=["ahead","order"]) (fr:=[1,0]) rfl (lH (x4 2)) (λ_ _ _ _ _ _ nd=>gY (i:=0) nd (by decide)) (λ_ _ _ _ _ _=>nD (DN (Ap rfl yG (aF (kB.pe (kC (ls:=["lower"]) (fs:=["ahead"]) (fr:=[1]) rfl (lH (fA (x4 2) (x4 0))) (λ_ _ _ _ _ _ nd=>gY (i:=0) nd (by decide)) (λ_ _ _ _ _ _=>rC) (λ_ _ _ _ _ _=>(in4 (x4 0) (x4 1))))) aM)))) (λ_ _ _ _ _ _=>(x4 0)))))))
def P9(F:Df K mg "joined" (top 2) ["ahead","thing"])(eV:mg "sorted"=af)(bU:mg "tuple"=af):Cl P w K mg base dF (kk+1) "joined" ["ahead","thing"] (eG K LL.fO):=by refine rO (N:=["ahead","thing"]) F (λhr nd=>?_);exact(aT (eB (jQ bU (aF (kB.pe (V0 eV (aF (eA (x4 0) (m9 (aF (x4 1) aM))) aM))) aM))))
def yH(F:Df K mg "descents_of" (top 3) ["going"])(aV:mg "len"=af)(aS:mg "range"=af)(bU:mg "tuple"=af):Cl P w K mg base dF (kk+1) "descents_of" ["going"] (eG K fS):=by refine rO (N:=["going"]) F (λhr nd=>?_);exact(aT (eB (jQ bU (aF (kB.pe (kC (ls:=["place"]) (fs:=["going"]) (fr:=[0]) rfl (dB aS (x5 (d6 aV (aF (x4 0) aM)) i4)) (λ_ _ _ _ _ _ nd=>gY (i:=0) nd (by decide)) (λ_ _ _ _ _ _=>nD (zF (fA (x4 1) (x4 0)) (fA (x4 1) (eA (x4 0) i4)))) (λ_ _ _ _ _ _=>(x4 0)))) aM))))
def WW(F:Df K mg "added" (top 8) ["one","other"])(WY:mg "zip"=af):Cl P w K mg base dF (kk+1) "added" ["one","other"] (eG K LL.jZ):=by refine rO (N:=["one","other"]) F (λhr nd=>?_);exact(aT (eB (kB.pe (kC (ls:=["a","b"]) (fs:=[]) (fr:=[]) rfl (Jh WY (aF (x4 0) (aF (x4 1) aM))) (λ_ _ _ _ _ _ nd=>JL (i:=0) (j:=1) rfl nd (by decide) (by decide)) (λ_ _ _ _ _ _=>rC) (λ_ _ _ _ _ _=>(eA (x4 0) (x4 1)))))))
def oK(F:Df K mg "one_descent_more" (top 7) ["shares"]):Cl P w K mg base dF (kk+1) "one_descent_more" ["shares"] (eG K LL.b7):=by refine rO (N:=["shares"]) F (λhr nd=>?_);exact(aT (eB (eA (kB.pe (mE (aF i4 aM))) (sl4 (x4 0) no4 (po4 (zG i4))))))
theorem nH(F:Df K mg "find_shares" (top 6) ["order","ahead","last","shares"])(g4:Cl P w K mg base dF kk "ready_things" ["order","ahead"] (eG K LL.d8))(vG:Cl P w K mg base dF kk "added" ["one","other"] (eG K LL.jZ))(eM:Cl P w K mg base dF kk "one_descent_more" ["shares"] (eG K LL.b7))(rK:Cl P w K mg base dF kk "joined" ["ahead","thing"] (eG K LL.fO))(aV:mg "len"=af)(yI:mg "max"=af):∀n:Nat,Cl P w K mg base dF (kk+n) "find_shares" ["order","ahead","last","shares"] (XD K (LL.bK n))
 |0=>nnM F
 |n+1=>by
  have kQ:=nH F g4 vG eM rK aV yI n;have g4:=g4.up (lx kk n);have vG:=vG.up (lx kk n);have eM:=eM.up (lx kk n);have rK:=rK.up (lx kk n);refine fdM (N:=["order","ahead","last","shares","state","some","thing","further"]) F (λhr nd=>?_);exact⟨_,(yW (dA (i:=4) nd (m9 (aF (x4 1) (aF (x4 2) aM))))
  (Sr (j:=3) (u2 hr) (fV (WC (u2 hr) (x4 4) (x4 3))
   (a8 (zH (i:=5) nd (TM (kB.pe (mE (aF i4 aM))) (T_ rfl yI (aF (d6 aV (aF (x4 0) aM)) (aF i4 aM)))))
   (a8 (fV (pP (d6 aV (aF (x4 1) aM)) (d6 aV (aF (x4 0) aM)))
    (aT (Jm (i:=5) (tM i4) i4))
    g6)
   (a8 (VY 5 (kP rfl g_ (lH (bM g4 hr (aF (x4 0) (aF (x4 1) aM)))) (hJ (i:=6) nd)
    (a8 (Ym (i:=7) (j:=3) kQ hr (by decide) nd (BH (x4 0) (BH (bM rK hr (aF (x4 1) (aF (x4 6) aM))) (BH (x4 6) (Cf (j:=3))))))
    (aT (dA (i:=5) nd (bM vG hr (aF (x4 5) (aF (if4 (zF (x4 2) (x4 6)) (bM eM hr (aF (x4 7) aM)) (x4 7)) aM))))))))
   (aT (GV (i:=3) (u2 hr) (tM (x4 5)) (x4 4))))))
   g6) (x4 4)))⟩
def DU(F:Df K mg "shares_on" (top 5) ["order"])(kQ:Cl P w K mg base dF kk "find_shares" ["order","ahead","last","shares"] (XD K (LL.bK 11))):Cl P w K mg base dF (kk+1) "shares_on" ["order"] (eG K LL.iP):=by
 refine rO (N:=["order","shares"]) F (λhr nd=>?_);exact(a8 (MX (i:=1) nd)
  (a8 (Jj (j:=1) kQ hr (BH (x4 0) (BH (m9 aM) (BH i4 (Cf (j:=1))))))
  (aT (eB (x4 1)))))
def mF(F:Df K mg "shares_by_descents" (top 4) ["order"])(GZ:Cl P w K mg base dF kk "shares_on" ["order"] (eG K LL.iP))(bU:mg "tuple"=af):Cl P w K mg base dF (kk+1) "shares_by_descents" ["order"] (eG K LL.bQ):=by refine rO (N:=["order"]) F (λhr nd=>?_);exact(aT (eB (jQ bU (aF (PZ (u2 hr) (bM GZ hr (aF (x4 0) aM)) (m9 (aF (m9 aM) (aF i4 aM)))) aM))))
def QB(F:Df K mg "chosen" (top 10) ["x","m"])(aS:mg "range"=af):Cl P w K mg base dF (kk+1) "chosen" ["x","m"] (eG K LL.jL):=by
 refine rO (N:=["x","m","many","step"]) F (λhr nd=>?_);exact(a8 (dA (i:=2) nd i4)
  (a8 (kP rfl g_ (dB aS (x4 1)) (hJ (i:=3) nd)
   (aT (dA (i:=2) nd (F9 (rA (x4 2) (x5 (x4 0) (x4 3))) (eA (x4 3) i4)))))
  (aT (eB (x4 2)))))
def nI(F:Df K mg "sum_over_descents" (top 12) ["shares","n","k"])(yJ:Cl P w K mg base dF kk "chosen" ["x","m"] (eG K LL.jL))(nJ:mg "enumerate"=af)(rL:mg "sum"=af):Cl P w K mg base dF (kk+1) "sum_over_descents" ["shares","n","k"] (eG K LL.cR):=by refine rO (N:=["shares","n","k"]) F (λhr nd=>?_);exact(aT (eB (vz rfl rL (aF (kB.pe (kC (ls:=["d","share"]) (fs:=["n","k"]) (fr:=[1,2]) rfl (JK nJ (aF (x4 0) aM)) (λ_ _ _ _ _ _ nd=>JL (i:=0) (j:=1) rfl nd (by decide) (by decide)) (λ_ _ _ _ _ _=>rC) (λ_ _ _ _ _ _=>(rA (x4 1) (bM yJ hr (aF (x5 (x5 (eA (x4 3) (x4 2)) i4) (x4 0)) (aF (x4 2) aM))))))) aM))))
def G0(F:Df K mg "count_at" (top 11) ["order","k"])(oM:Cl P w K mg base dF kk "sum_over_descents" ["shares","n","k"] (eG K LL.cR))(nK:Cl P w K mg base dF kk "shares_by_descents" ["order"] (eG K LL.bQ))(aV:mg "len"=af):Cl P w K mg base dF (kk+1) "count_at" ["order","k"] (eG K LL.f9):=by refine rO (N:=["order","k"]) F (λhr nd=>?_);exact(aT (eB (bM oM hr (aF (bM nK hr (aF (x4 0) aM)) (aF (d6 aV (aF (x4 0) aM)) (aF (x4 1) aM))))))
def rM(F:Df K mg "count_of_chain" (top 15) ["order","k"])(yJ:Cl P w K mg base dF kk "chosen" ["x","m"] (eG K LL.jL))(zJ:Cl P w K mg base dF kk "descents_of" ["going"] (eG K fS)){cT pT:ah}(Ca:tw K "count_of_chain"=aa (cT,pT))(aV:mg "len"=af)(eV:mg "sorted"=af)(aS:mg "range"=af)(bU:mg "tuple"=af):Cl P w K mg base dF (kk+1) "count_of_chain" ["order","k"] (eG K c7):=by
 refine Jf (N:=["order","k","going"]) F Ca (λhr nd=>?_);exact(a8 (dA (i:=2) nd (jQ bU (aF (kB.pe (aAX (x:="thing") (fs:=["order"]) (fr:=[0]) (x0:="count_of_chain") rfl hr eV aS (Yi (by decide) Ca) rfl (d6 aV (aF (x4 0) aM)) (λ_ _ _ _ _ _=>(d6 aV (aF (fA (x4 1) (x4 0)) aM))))) aM)))
  (aT (eB (bM yJ hr (aF (x5 (x5 (eA (x4 1) (d6 aV (aF (x4 0) aM))) i4) (d6 aV (aF (bM zJ hr (aF (x4 2) aM)) aM))) (aF (d6 aV (aF (x4 0) aM)) aM))))))
def zK(F:Df K mg "counted_by" (top 14) ["rows","k"])(tP:Cl P w K mg base dF kk "count_of_chain" ["order","k"] (eG K c7)):Cl P w K mg base dF (kk+1) "counted_by" ["rows","k"] (eG K dY):=by
 refine rO (N:=["rows","k","counts","order","why"]) F (λhr nd=>?_);exact(a8 (zH (i:=2) nd (mE aM))
  (a8 (kP rfl g_ (lH (x4 0)) (GI (i:=3) (j:=4) rfl nd)
   (aT (mC (x9 (i:=2) (px4 (if4 (DN (x4 4)) (eA (fA (x4 2) (fA (x4 4) i4)) (fA (x4 2) (fA (x4 4) i4))) (bM tP hr (aF (x4 3) (aF (x4 1) aM)))))))))
  (aT (eB (fA (x4 2) (zG i4))))))
def QC(F:Df K mg "_law_cell" (top 17) ["_law_script","_law_k"])(aV:mg "len"=af):Cl P w K mg base dF (kk+1) "_law_cell" ["_law_script","_law_k"] (eG K LL.bT):=by
 refine rO (N:=["_law_script","_law_k"]) F (λhr nd=>?_);exact(a8 (fV (pP (d6 aV (aF (x4 0) aM)) i4)
   (aT (eB i4))
   g6)
  (aT (eB (fA (x4 0) (iI (x4 1) (d6 aV (aF (x4 0) aM)))))))
def J0(F:Df K mg "_law_mixed" (top 18) ["_law_cell_here","_law_k","_law_salt"]):Cl P w K mg base dF (kk+1) "_law_mixed" ["_law_cell_here","_law_k","_law_salt"] (eG K LL.eW):=by
 refine rO (N:=["_law_cell_here","_law_k","_law_salt","_law_one","_law_two"]) F (λhr nd=>?_);exact(a8 (dA (i:=3) nd (iI (rA (eA (eA (eA (x4 0) (rA (rA i4 (x4 1)) (x4 1))) (rA i4 (x4 1))) (x4 2)) i4) i4))
  (a8 (dA (i:=4) nd (iI (eA (eA (rA (x4 3) (eA (F9 (x4 3) i4) i4)) (rA i4 (x4 1))) (x4 2)) i4))
  (aT (eB (iI (rA (x4 4) i4) i4)))))
def J1(F:Df K mg "_law_draws" (top 19) ["_law_cell_here","_law_many_here","_law_salt"])(tQ:Cl P w K mg base dF kk "_law_mixed" ["_law_cell_here","_law_k","_law_salt"] (eG K LL.eW))(aS:mg "range"=af):Cl P w K mg base dF (kk+1) "_law_draws" ["_law_cell_here","_law_many_here","_law_salt"] (eG K LL.bR):=by
 refine rO (N:=["_law_cell_here","_law_many_here","_law_salt","_law_found","_law_left","_law_k"]) F (λhr nd=>?_);exact(a8 (zH (i:=3) nd (mE aM))
  (a8 (dA (i:=4) nd i4)
  (a8 (fV (Aw (x4 0) (v_ i4 i4))
   (aT (dA (i:=4) nd (x4 0)))
   g6)
  (a8 (kP rfl g_ (dB aS (x4 1)) (hJ (i:=5) nd)
   (aT (fV (zF (x4 4) i4)
    (a8 (mC (x9 (i:=3) (tM (iI (x4 4) i4))))
    (aT (dA (i:=4) nd (F9 (x4 4) i4))))
    (aT (mC (x9 (i:=3) (tM (bM tQ hr (aF (x4 0) (aF (x4 5) (aF (x4 2) aM)))))))))))
  (aT (eB (x4 3)))))))
def J3(F:Df K mg "_law_great" (top 20) ["_law_cell_here","_law_most","_law_salt"])(tQ:Cl P w K mg base dF kk "_law_mixed" ["_law_cell_here","_law_k","_law_salt"] (eG K LL.eW))(aS:mg "range"=af):Cl P w K mg base dF (kk+1) "_law_great" ["_law_cell_here","_law_most","_law_salt"] (eG K LL.iD):=by
 refine rO (N:=["_law_cell_here","_law_most","_law_salt","_law_found","_law_k"]) F (λhr nd=>?_);exact(a8 (fV (Aw (x4 0) (v_ i4 i4))
   (aT (eB (iI (F9 (x4 0) i4) (x4 1))))
   g6)
  (a8 (dA (i:=3) nd i4)
  (a8 (kP rfl g_ (dB aS i4) (hJ (i:=4) nd)
   (aT (dA (i:=3) nd (eA (rA (x4 3) i4) (bM tQ hr (aF (x4 0) (aF (x4 4) (aF (x4 2) aM))))))))
  (aT (eB (iI (x4 3) (x4 1)))))))
theorem BM(F:Df K mg "_law_same" (top 21) ["_law_found","_law_due"])(cQ:mg "isinstance"=af)(MY:mg "str"=af)(G2:mg "int"=af)(tR:mg "bool"=af)(bU:mg "tuple"=af)(aV:mg "len"=af)(aS:mg "range"=af)(yG:mg "all"=af):∀n:Nat,Cl P w K mg base dF (kk+n) "_law_same" ["_law_found","_law_due"] (eG K (LL.bZ n))
 |0=>nn4 F
 |n+1=>by
  have nL:=BM F cQ MY G2 tR bU aV aS yG n;refine rO (N:=["_law_found","_law_due"]) F (λhr nd=>?_);exact(a8 (fV (DN (GH JA.t cQ bU Fq (x4 1)))
   (a8 (fV (JH.pt (As (VM (DN (GH JA.t cQ bU Fq (x4 0)))) (Au (Kd (d6 aV (aF (x4 0) aM)) (d6 aV (aF (x4 1) aM))))))
    (aT (eB b4))
    g6)
   (aT (eB (Ap rfl yG (aF (kB.pe (kC (ls:=["_law_k"]) (fs:=["_law_found","_law_due"]) (fr:=[0,1]) rfl (dB aS (d6 aV (aF (x4 1) aM))) (λ_ _ _ _ _ _ nd=>gY (i:=0) nd (by decide)) (λ_ _ _ _ _ _=>rC) (λ_ _ _ _ _ _=>(bM nL hr (aF (fA (x4 1) (x4 0)) (aF (fA (x4 2) (x4 0)) aM)))))) aM)))))
   g6)
  (a8 (fV (Kb (x4 1) n4)
   (aT (eB (is4 (x4 0) n4)))
   g6)
  (a8 (fV (DN (GH JA.b cQ tR Fu (x4 1)))
   (aT (eB (OY (GH JA.b cQ tR Fu (x4 0)) (Z7 (eq4 (x4 0) (x4 1))))))
   g6)
  (a8 (fV (DN (GH JA.i cQ G2 a1M (x4 1)))
   (aT (eB (OY (GH JA.i cQ G2 a1M (x4 0)) (OY (Lf (GH JA.b cQ tR Fu (x4 0))) (Z7 (eq4 (x4 0) (x4 1)))))))
   g6)
  (aT (eB (OY (GH JA.s cQ MY a3N (x4 0)) (Z7 (eq4 (x4 0) (x4 1))))))))))
def J4(F:Df K mg "_law_order" (top 22) ["_law_draws_here","_law_n","_law_thick"])(aS:mg "range"=af)(eV:mg "sorted"=af)(bU:mg "tuple"=af)(aV:mg "len"=af)(pU:mg "list"=af):Cl P w K mg base dF (kk+1) "_law_order" ["_law_draws_here","_law_n","_law_thick"] (eG K LL.dW):=by
 refine rO (N:=["_law_draws_here","_law_n","_law_thick","_law_rest","_law_word","_law_k","_law_low","_law_at","_law_j","_law_under","_law_i"]) F (λhr nd=>?_);exact(a8 (zH (i:=3) nd (JJ rfl pU aS (aF (x4 1) aM)))
  (a8 (zH (i:=4) nd (mE aM))
  (a8 (kP rfl g_ (dB aS (x4 1)) (hJ (i:=5) nd)
   (aT (mC (x9 (i:=4) (Jn (i:=3) (px4 (iI (fA (x4 0) (x4 5)) (d6 aV (aF (x4 3) aM)))))))))
  (a8 (VQ (i:=6) nd)
  (a8 (dA (i:=7) nd (x4 1))
  (a8 (kP rfl g_ (dB aS (x4 1)) (hJ (i:=8) nd)
   (a8 (dA (i:=9) nd (kB.pe (mE aM)))
   (a8 (kP rfl g_ (dB aS (x4 8)) (hJ (i:=10) nd)
    (a8 (fV (Kf (iI (fA (x4 0) (x4 7)) i4) (x4 2))
     (aT (Co (i:=9) nd (Cr (x4 9) (kB.pe (kC (ls:=["_law_a"]) (fs:=["_law_under"]) (fr:=[9]) rfl (lH (eA (Ar (u1 hr) (x4 6) (fA (x4 4) (x4 10))) (kB.pe (mE (aF (fA (x4 4) (x4 10)) aM))))) (λ_ _ _ _ _ _ nd=>gY (i:=0) nd (by decide)) (λ_ _ _ _ _ _=>nD (GB (x4 0) (x4 1))) (λ_ _ _ _ _ _=>(x4 0)))))))
     g6)
    (aT (dA (i:=7) nd (eA (x4 7) i4)))))
   (aT (Vb (i:=6) (u1 hr) (tM (x4 9)) (fA (x4 4) (x4 8)))))))
  (aT (eB (jQ bU (aF (kB.pe (kC (ls:=["_law_b"]) (fs:=["_law_low"]) (fr:=[6]) rfl (dB aS (x4 1)) (λ_ _ _ _ _ _ nd=>gY (i:=0) nd (by decide)) (λ_ _ _ _ _ _=>rC) (λ_ _ _ _ _ _=>(jQ bU (aF (kB.pe (MM eV (aF (Ar (u1 hr) (x4 1) (x4 0)) aM))) aM))))) aM))))))))))
def J5(F:Df K mg "_law_masks" (top 23) ["_law_order_here"])(rL:mg "sum"=af):Cl P w K mg base dF (kk+1) "_law_masks" ["_law_order_here"] (eG K LL.fI):=by refine rO (N:=["_law_order_here"]) F (λhr nd=>?_);exact(aT (eB (kB.pe (kC (ls:=["_law_row"]) (fs:=[]) (fr:=[]) rfl (lH (x4 0)) (λ_ _ _ _ _ _ nd=>gY (i:=0) nd (by decide)) (λ_ _ _ _ _ _=>rC) (λ_ _ _ _ _ _=>(vz rfl rL (aF (kB.pe (kC (ls:=["_law_a"]) (fs:=[]) (fr:=[]) rfl (lH (x4 0)) (λ_ _ _ _ _ _ nd=>gY (i:=0) nd (by decide)) (λ_ _ _ _ _ _=>rC) (λ_ _ _ _ _ _=>(JT i4 (x4 0))))) aM)))))))
def J6(F:Df K mg "_law_count" (top 24) ["_law_order_here","_law_k"])(tS:Cl P w K mg base dF kk "_law_masks" ["_law_order_here"] (eG K LL.fI))(aS:mg "range"=af)(aV:mg "len"=af):Cl P w K mg base dF (kk+1) "_law_count" ["_law_order_here","_law_k"] (eG K LL.k6):=by
 refine rO (N:=["_law_order_here","_law_k","_law_masks_here","_law_n","_law_ways","_law_number","_law_fresh","_law_mask","_law_states","_law_b","_law_had","_law_at","_law_more","_law_good","_law_high"]) F (λhr nd=>?_);exact(a8 (dA (i:=2) nd (bM tS hr (aF (x4 0) aM)))
  (a8 (dA (i:=3) nd (d6 aV (aF (x4 0) aM)))
  (a8 (WJ (i:=4) (u1 hr) nd i4 i4)
  (a8 (kP rfl g_ (dB aS (x4 1)) (hJ (i:=5) nd)
   (a8 (MX (i:=6) nd)
   (a8 (VY 4 (kP rfl g_ (WH (x4 4)) (hJ (i:=7) nd)
    (a8 (dA (i:=8) nd (kB.pe (mE (aF (m9 (aF (x4 7) (aF i4 aM))) aM))))
    (a8 (kP rfl g_ (dB aS (x4 3)) (hJ (i:=9) nd)
     (aT (dA (i:=8) nd (eA (x4 8) (kB.pe (kC (ls:=["_law_had","_law_at"]) (fs:=["_law_b"]) (fr:=[9]) rfl (lH (x4 8)) (λ_ _ _ _ _ _ nd=>JL (i:=0) (j:=1) rfl nd (by decide) (by decide)) (λ_ _ _ _ _ _=>nD (pP (BJ (sr (x4 0) (x4 2)) i4) i4)) (λ_ _ _ _ _ _=>(m9 (aF (vm (x4 0) (JT i4 (x4 2))) (aF (eA (x4 2) i4) aM))))))))))
    (aT (kP rfl g_ (lH (x4 8)) (GI (i:=10) (j:=11) rfl nd)
     (a8 (dA (i:=12) nd (Sm (x4 10) (x4 7)))
     (a8 (dA (i:=13) nd b4)
     (a8 (kP rfl g_ (dB aS (x4 3)) (hJ (i:=9) nd)
      (aT (fV (pP (BJ (sr (x4 12) (x4 9)) i4) i4)
       (a8 (dA (i:=14) nd (JT (sr (fA (x4 2) (x4 9)) (x4 9)) (x4 9)))
       (aT (dA (i:=13) nd (OY (x4 13) (OY (eq4 (BJ (fA (x4 2) (x4 9)) (x4 10)) (fA (x4 2) (x4 9))) (Z7 (eq4 (BJ (x4 14) (x4 12)) i4)))))))
       g6)))
     (aT (fV (DN (x4 13))
      (aT (GV (i:=6) (u2 hr) (px4 (eA (WD (u2 hr) (x4 6) (x4 10) i4 ⟨rfl,rfl,rfl,rfl⟩) (PZ (u2 hr) (x4 4) (x4 7)))) (x4 10)))
      g6)))))))))))
   (aT (Cg (i:=4) (j:=6) nd)))))
  (aT (eB (WD (u2 hr) (x4 4) (x5 (JT i4 (x4 3)) i4) i4 ⟨rfl,rfl,rfl,rfl⟩)))))))
def J7(F:Df K mg "_law_loose" (top 25) ["_law_order_here"])(aV:mg "len"=af)(aS:mg "range"=af):Cl P w K mg base dF (kk+1) "_law_loose" ["_law_order_here"] (eG K LL.i8):=by
 refine rO (N:=["_law_order_here","_law_found","_law_a","_law_b"]) F (λhr nd=>?_);exact(a8 (zH (i:=1) nd (mE aM))
  (a8 (kP rfl g_ (dB aS (d6 aV (aF (x4 0) aM))) (hJ (i:=2) nd)
   (aT (kP rfl g_ (Z8 aS (eA (x4 2) i4) (d6 aV (aF (x4 0) aM))) (hJ (i:=3) nd)
    (aT (fV (JH.pt (GD (GB (x4 2) (fA (x4 0) (x4 3))) (GC (GB (x4 3) (fA (x4 0) (x4 2))))))
     (aT (mC (x9 (i:=1) (tM (m9 (aF (x4 2) (aF (x4 3) aM)))))))
     g6)))))
  (aT (eB (x4 1)))))
def WZ(F:Df K mg "_law_put" (top 26) ["_law_order_here","_law_a","_law_b"])(bU:mg "tuple"=af)(aV:mg "len"=af)(aS:mg "range"=af)(eV:mg "sorted"=af)(pU:mg "list"=af):Cl P w K mg base dF (kk+1) "_law_put" ["_law_order_here","_law_a","_law_b"] (eG K LL.jX):=by
 refine rO (N:=["_law_order_here","_law_a","_law_b","_law_low","_law_found","_law_c","_law_under"]) F (λhr nd=>?_);exact(a8 (dA (i:=3) nd (eA (kB.pe (Cp pU (aF (fA (x4 0) (x4 1)) aM))) (kB.pe (mE (aF (x4 1) aM)))))
  (a8 (zH (i:=4) nd (mE aM))
  (a8 (kP rfl g_ (dB aS (d6 aV (aF (x4 0) aM))) (hJ (i:=5) nd)
   (a8 (dA (i:=6) nd (kB.pe (Cp pU (aF (fA (x4 0) (x4 5)) aM))))
   (a8 (fV (JH.pt (As (pP (x4 5) (x4 2)) (Au (Kc (x4 2) (fA (x4 0) (x4 5))))))
    (aT (dA (i:=6) nd (eA (x4 6) (kB.pe (kC (ls:=["_law_x"]) (fs:=["_law_under"]) (fr:=[6]) rfl (lH (x4 3)) (λ_ _ _ _ _ _ nd=>gY (i:=0) nd (by decide)) (λ_ _ _ _ _ _=>nD (GB (x4 0) (x4 1))) (λ_ _ _ _ _ _=>(x4 0)))))))
    g6)
   (aT (mC (x9 (i:=4) (tM (jQ bU (aF (kB.pe (MM eV (aF (x4 6) aM))) aM)))))))))
  (aT (eB (jQ bU (aF (x4 4) aM)))))))
def J8(F:Df K mg "_law_paper" (top 27) ["_law_order_here","_law_draws_here"])(MZ:Cl P w K mg base dF kk "_law_put" ["_law_order_here","_law_a","_law_b"] (eG K LL.jX))(QD:Cl P w K mg base dF kk "_law_loose" ["_law_order_here"] (eG K LL.i8))(aV:mg "len"=af)(rL:mg "sum"=af):Cl P w K mg base dF (kk+1) "_law_paper" ["_law_order_here","_law_draws_here"] (eG K LL.gG):=by
 refine rO (N:=["_law_order_here","_law_draws_here","_law_rows","_law_numbers","_law_waiting","_law_one","_law_pairs","_law_pick","_law_a","_law_b","_law_parts","_law_missing"]) F (λhr nd=>?_);exact(a8 (zH (i:=2) nd (mE aM))
  (a8 (MX (i:=3) nd)
  (a8 (zH (i:=4) nd (mE (aF (x4 0) aM)))
  (a8 (aD6 g_ (zF (d6 aV (aF (x4 4) aM)) i4)
   (a8 (Vc (i:=5) nd (px4 (fA (x4 4) (zG i4))))
   (a8 (dA (i:=6) nd (bM QD hr (aF (x4 5) aM)))
   (aT (fV (Tb (u2 hr) (x4 5) (x4 3))
    (aT (mC (Vf (i:=4))))
    (aT (fV (pP (d6 aV (aF (x4 6) aM)) i4)
     (a8 (GV (i:=3) (u2 hr) (px4 (d6 aV (aF (x4 2) aM))) (x4 5))
     (aT (mC (x9 (i:=2) (tM (m9 (aF (x4 5) (aF (m9 aM) aM))))))))
     (a8 (dA (i:=7) nd (fA (x4 1) (iI (vz rfl rL (aF (kB.pe (kC (ls:=["_law_row"]) (fs:=[]) (fr:=[]) rfl (lH (x4 5)) (λ_ _ _ _ _ _ nd=>gY (i:=0) nd (by decide)) (λ_ _ _ _ _ _=>rC) (λ_ _ _ _ _ _=>(d6 aV (aF (x4 0) aM))))) aM)) (d6 aV (aF (x4 1) aM)))))
     (a8 (Cj (tM (fA (x4 6) (iI (x4 7) (d6 aV (aF (x4 6) aM))))) (GI (i:=8) (j:=9) rfl nd))
     (a8 (fV (pP (iI (F9 (x4 7) i4) i4) i4)
      (aT (Jl (i:=8) (j:=9) rfl nd (aF (x4 9) (aF (x4 8) aM))))
      g6)
     (a8 (dA (i:=10) nd (kB.pe (mE (aF (bM MZ hr (aF (x4 5) (aF (x4 8) (aF (x4 9) aM)))) (aF (bM MZ hr (aF (x4 5) (aF (x4 9) (aF (x4 8) aM)))) aM)))))
     (a8 (JQ (i:=11) (ls:=["_law_part"]) (fs:=["_law_numbers"]) (fr:=[3]) nd rfl (lH (x4 10)) (λ_ _ _ _ _ _ nd=>gY (i:=0) nd (by decide)) (λ_ _ _ _ _ _=>nD (WC (u2 hr) (x4 0) (x4 1))) (λ_ _ _ _ _ _=>(x4 0)))
     (aT (fV (zF (d6 aV (aF (x4 11) aM)) i4)
      (aT (mC (x9 (i:=4) (tM (fA (x4 11) (iI (F9 (x4 7) i4) (d6 aV (aF (x4 11) aM))))))))
      (a8 (GV (i:=3) (u2 hr) (px4 (d6 aV (aF (x4 2) aM))) (x4 5))
      (aT (mC (x9 (i:=2) (px4 (m9 (aF (x4 5) (aF (m9 (aF (x4 8) (aF (x4 9) (aF (PZ (u2 hr) (x4 3) (fA (x4 10) i4)) (aF (PZ (u2 hr) (x4 3) (fA (x4 10) i4)) aM))))) aM))))))))))))))))))))))
  (aT (eB (x4 2)))))))
def QF(F:Df K mg "_law_many" (top 28) ["_law_order_here"])(tS:Cl P w K mg base dF kk "_law_masks" ["_law_order_here"] (eG K LL.fI))(aV:mg "len"=af)(aS:mg "range"=af):Cl P w K mg base dF (kk+1) "_law_many" ["_law_order_here"] (eG K LL.gS):=by
 refine rO (N:=["_law_order_here","_law_masks_here","_law_ways","_law_step","_law_fresh","_law_mask","_law_b"]) F (λhr nd=>?_);exact(a8 (dA (i:=1) nd (bM tS hr (aF (x4 0) aM)))
  (a8 (WJ (i:=2) (u1 hr) nd i4 i4)
  (a8 (kP rfl g_ (dB aS (d6 aV (aF (x4 0) aM))) (hJ (i:=3) nd)
   (a8 (MX (i:=4) nd)
   (a8 (VY 2 (kP rfl g_ (WH (x4 2)) (hJ (i:=5) nd)
    (aT (kP rfl g_ (dB aS (d6 aV (aF (x4 0) aM))) (hJ (i:=6) nd)
     (aT (fV (JH.pt (GD (pP (BJ (sr (x4 5) (x4 6)) i4) i4) (GC (pP (BJ (fA (x4 1) (x4 6)) (x4 5)) (fA (x4 1) (x4 6))))))
      (aT (GV (i:=4) (u2 hr) (px4 (eA (WD (u2 hr) (x4 4) (vm (x4 5) (JT i4 (x4 6))) i4 ⟨rfl,rfl,rfl,rfl⟩) (PZ (u2 hr) (x4 2) (x4 5)))) (vm (x4 5) (JT i4 (x4 6)))))
      g6))))))
   (aT (Cg (i:=2) (j:=4) nd)))))
  (aT (eB (PZ (u2 hr) (x4 2) (x5 (JT i4 (d6 aV (aF (x4 0) aM))) i4)))))))
def J9(F:Df K mg "_law_small" (top 29) ["_law_script","_law_k","_law_salt"])(yK:Cl P w K mg base dF kk "_law_many" ["_law_order_here"] (eG K LL.gS))(oD:Cl P w K mg base dF kk "_law_order" ["_law_draws_here","_law_n","_law_thick"] (eG K LL.dW))(fK:Cl P w K mg base dF kk "_law_draws" ["_law_cell_here","_law_many_here","_law_salt"] (eG K LL.bR))(fW:Cl P w K mg base dF kk "_law_cell" ["_law_script","_law_k"] (eG K LL.bT)):Cl P w K mg base dF (kk+1) "_law_small" ["_law_script","_law_k","_law_salt"] (eG K LL.i9):=by
 refine rO (N:=["_law_script","_law_k","_law_salt","_law_head","_law_n","_law_thick","_law_draws_here","_law_order_here"]) F (λhr nd=>?_);exact(a8 (dA (i:=3) nd (bM fK hr (aF (bM fW hr (aF (x4 0) (aF (x4 1) aM))) (aF i4 (aF (x4 2) aM)))))
  (a8 (dA (i:=4) nd (fA (kB.pe (mE (aF i4 (aF i4 (aF i4 (aF i4 (aF i4 (aF i4 (aF i4 (aF i4 aM)))))))))) (iI (fA (x4 3) i4) i4)))
  (a8 (dA (i:=5) nd (fA (kB.pe (mE (aF i4 (aF i4 (aF i4 (aF i4 (aF i4 (aF i4 (aF i4 (aF i4 aM)))))))))) (iI (fA (x4 3) i4) i4)))
  (a8 (fV (pP (iI (fA (x4 3) i4) i4) i4)
   (a8 (dA (i:=4) nd (eA i4 (iI (fA (x4 3) i4) i4)))
   (aT (dA (i:=5) nd i4)))
   g6)
  (a8 (dA (i:=6) nd (bM fK hr (aF (bM fW hr (aF (x4 0) (aF (eA (x4 1) i4) aM))) (aF (eA (x4 4) (F9 (rA (x4 4) (x5 (x4 4) i4)) i4)) (aF (eA (x4 2) i4) aM)))))
  (a8 (dA (i:=7) nd (bM oD hr (aF (x4 6) (aF (x4 4) (aF (x4 5) aM)))))
  (a8 (fV (JH.pt (GD (zF (x4 4) i4) (GC (zF (bM yK hr (aF (x4 7) aM)) i4))))
   (aT (dA (i:=7) nd (bM oD hr (aF (x4 6) (aF (x4 4) (aF i4 aM))))))
   g6)
  (aT (eB (x4 7))))))))))
def KA(F:Df K mg "_law_moved" (top 30) ["_law_rows","_law_more"])(aV:mg "len"=af):Cl P w K mg base dF (kk+1) "_law_moved" ["_law_rows","_law_more"] (eG K LL.jA):=by
 refine rO (N:=["_law_rows","_law_more","_law_found","_law_order_here","_law_why"]) F (λhr nd=>?_);exact(a8 (zH (i:=2) nd (mE aM))
  (a8 (kP rfl g_ (lH (x4 0)) (GI (i:=3) (j:=4) rfl nd)
   (a8 (fV (zF (d6 aV (aF (x4 4) aM)) i4)
    (aT (dA (i:=4) nd (m9 (aF (fA (x4 4) i4) (aF (fA (x4 4) i4) (aF (eA (fA (x4 4) i4) (x4 1)) (aF (eA (fA (x4 4) i4) (x4 1)) aM)))))))
    g6)
   (aT (mC (x9 (i:=2) (tM (m9 (aF (x4 3) (aF (x4 4) aM)))))))))
  (aT (eB (x4 2)))))
def G3(F:Df K mg "_law_latest" (top 31) ["_law_rows","_law_number"])(aV:mg "len"=af)(aS:mg "range"=af)(yI:mg "max"=af):Cl P w K mg base dF (kk+1) "_law_latest" ["_law_rows","_law_number"] (eG K LL.cP):=by refine rO (N:=["_law_rows","_law_number"]) F (λhr nd=>?_);exact(aT (eB (Sk rfl yI (aF (kB.pe (kC (ls:=["_law_at"]) (fs:=["_law_rows","_law_number"]) (fr:=[0,1]) rfl (dB aS (x5 (d6 aV (aF (x4 0) aM)) i4)) (λ_ _ _ _ _ _ nd=>gY (i:=0) nd (by decide)) (λ_ _ _ _ _ _=>nD (Ub (u9 hr) (fA (fA (x4 1) (x4 0)) i4) (fA (fA (x4 1) (x4 2)) i4))) (λ_ _ _ _ _ _=>(x4 0)))) aM))))
def G4(F:Df K mg "_law_papers" (top 32) ["_law_script"])(yL:Cl P w K mg base dF kk "_law_latest" ["_law_rows","_law_number"] (eG K LL.cP))(yK:Cl P w K mg base dF kk "_law_many" ["_law_order_here"] (eG K LL.gS))(QG:Cl P w K mg base dF kk "_law_moved" ["_law_rows","_law_more"] (eG K LL.jA))(BN:Cl P w K mg base dF kk "_law_paper" ["_law_order_here","_law_draws_here"] (eG K LL.gG))(oD:Cl P w K mg base dF kk "_law_order" ["_law_draws_here","_law_n","_law_thick"] (eG K LL.dW))(fK:Cl P w K mg base dF kk "_law_draws" ["_law_cell_here","_law_many_here","_law_salt"] (eG K LL.bR))(fW:Cl P w K mg base dF kk "_law_cell" ["_law_script","_law_k"] (eG K LL.bT))(QH:Cl P w K mg base dF kk "_law_small" ["_law_script","_law_k","_law_salt"] (eG K LL.i9))(aV:mg "len"=af)(aS:mg "range"=af):Cl P w K mg base dF (kk+1) "_law_papers" ["_law_script"] (eG K LL.jN):=by
 refine rO (N:=["_law_script","_law_order_here","_law_draws_here","_law_size","_law_rows","_law_other","_law_ahead","_law_twice","_law_why"]) F (λhr nd=>?_);exact(a8 (dA (i:=1) nd (bM QH hr (aF (x4 0) (aF i4 (aF i4 aM)))))
  (a8 (dA (i:=2) nd (bM fK hr (aF (bM fW hr (aF (x4 0) (aF i4 aM))) (aF i4 (aF i4 aM)))))
  (a8 (dA (i:=3) nd (bM fK hr (aF (bM fW hr (aF (x4 0) (aF i4 aM))) (aF i4 (aF i4 aM)))))
  (a8 (dA (i:=4) nd (bM BN hr (aF (x4 1) (aF (x4 2) aM))))
  (a8 (fV (pP (iI (fA (x4 3) i4) i4) i4)
   (a8 (dA (i:=5) nd (bM oD hr (aF (eA (sl4 (x4 3) (po4 i4) (po4 i4)) (x4 2)) (aF (d6 aV (aF (x4 1) aM)) (aF i4 aM)))))
   (aT (fV (Ke (eA (rA i4 (bM yK hr (aF (x4 5) aM))) (d6 aV (aF (x4 4) aM))) i4)
    (a8 (dA (i:=6) nd (bM BN hr (aF (x4 5) (aF (x4 2) aM))))
    (aT (dA (i:=4) nd (eA (x4 6) (bM QG hr (aF (x4 4) (aF (d6 aV (aF (x4 6) aM)) aM)))))))
    g6)))
   g6)
  (a8 (VP (i:=7) (ls:=["_law_k"]) (fs:=["_law_rows","_law_size"]) (fr:=[4,3]) nd rfl (dB aS (iI (fA (x4 3) i4) i4)) (λ_ _ _ _ _ _ nd=>gY (i:=0) nd (by decide)) (λ_ _ _ _ _ _=>rC) (λ_ _ _ _ _ _=>(fA (x4 1) (iI (eA (fA (x4 2) i4) (rA (x4 0) (fA (x4 2) i4))) (d6 aV (aF (x4 1) aM))))))
  (a8 (dA (i:=8) nd (fA (fA (x4 4) (zG i4)) i4))
  (a8 (fV (JH.pt (GD (zF (d6 aV (aF (x4 8) aM)) i4) (GC (pP (iI (fA (x4 3) i4) i4) i4))))
   (aT (mC (x9 (i:=7) (tM (fA (x4 4) (fA (x4 8) (eA i4 (iI (fA (x4 3) i4) i4))))))))
   g6)
  (a8 (Co (i:=4) nd (Cr (eA (sl4 (x4 4) no4 (po4 (zG i4))) (x4 7)) (sl4 (x4 4) (po4 (zG i4)) no4)))
  (a8 (fV (JH.pt (GD (zF (d6 aV (aF (x4 8) aM)) i4) (GC (pP (iI (F9 (fA (x4 3) i4) i4) i4) i4))))
   (aT (dA (i:=8) nd (m9 (aF (fA (x4 8) i4) (aF (fA (x4 8) i4) (aF (bM yL hr (aF (x4 4) (aF (fA (x4 8) i4) aM))) (aF (bM yL hr (aF (x4 4) (aF (fA (x4 8) i4) aM))) aM)))))))
   g6)
  (aT (eB (m9 (aF (x4 1) (aF (eA (sl4 (x4 4) no4 (po4 (zG i4))) (kB.pe (mE (aF (m9 (aF (fA (fA (x4 4) (zG i4)) i4) (aF (x4 8) aM))) aM)))) aM)))))))))))))))
def W0(F:Df K mg "_law_any" (top 33) ["_law_script","_law_k","_law_salt"])(QI:Cl P w K mg base dF kk "_law_great" ["_law_cell_here","_law_most","_law_salt"] (eG K LL.iD))(fW:Cl P w K mg base dF kk "_law_cell" ["_law_script","_law_k"] (eG K LL.bT))(fK:Cl P w K mg base dF kk "_law_draws" ["_law_cell_here","_law_many_here","_law_salt"] (eG K LL.bR)):Cl P w K mg base dF (kk+1) "_law_any" ["_law_script","_law_k","_law_salt"] (eG K qM):=by
 refine rO (N:=["_law_script","_law_k","_law_salt","_law_head","_law_found"]) F (λhr nd=>?_);exact(a8 (dA (i:=3) nd (bM fK hr (aF (bM fW hr (aF (x4 0) (aF (x4 1) aM))) (aF i4 (aF (x4 2) aM)))))
  (a8 (fV (pP (iI (fA (x4 3) i4) i4) i4)
   (aT (eB (x5 (iI (fA (x4 3) i4) i4) i4)))
   g6)
  (a8 (dA (i:=4) nd (bM QI hr (aF (bM fW hr (aF (x4 0) (aF (eA (x4 1) i4) aM))) (aF (v_ i4 i4) (aF (eA (x4 2) i4) aM)))))
  (a8 (fV (pP (iI (fA (x4 3) i4) i4) i4)
   (aT (eB (zG (x4 4))))
   g6)
  (aT (eB (x4 4)))))))
def Yh{f:ah}{fd:gi}(F:ZC K "law" "law" (top 34) f fd)(nL:Cl P w K mg base dF kk "_law_same" ["_law_found","_law_due"] (eG K (LL.bZ 6)))(yM:Cl P w K mg base dF kk "count_at" ["order","k"] (eG K LL.f9))(l7:Cl P w K mg base dF kk "counted_by" ["rows","k"] (eG K dY))(fK:Cl P w K mg base dF kk "_law_draws" ["_law_cell_here","_law_many_here","_law_salt"] (eG K LL.bR))(fW:Cl P w K mg base dF kk "_law_cell" ["_law_script","_law_k"] (eG K LL.bT))(QJ:Cl P w K mg base dF kk "_law_count" ["_law_order_here","_law_k"] (eG K LL.k6))(aAY:Cl P w K mg base dF kk "_law_any" ["_law_script","_law_k","_law_salt"] (eG K qM))(KC:Cl P w K mg base dF kk "_law_papers" ["_law_script"] (eG K LL.jN))(aV:mg "len"=af)(bU:mg "tuple"=af)(aS:mg "range"=af):lC P w K mg base dF (kk+1) f fd ["_law_script"] (eG K qB):=by
 have S:gX ["_law_script","_law_order_here","_law_rows","_law_k","_law_small_here","_law_size","_law_part"] ["_law_script"] (bF (top 34)):=⟨rfl,rfl,rfl,by decide+kernel,rfl,by decide+kernel,by decide+kernel⟩;have nd:=S.nd;refine Ay F S rfl rfl (λ_ _ _ _ _ _ hr=>?_);exact(a8 (Cj (tM (bM KC hr (aF (x4 0) aM))) (GI (i:=1) (j:=2) rfl nd))
  (a8 (dA (i:=3) nd (bM aAY hr (aF (x4 0) (aF i4 (aF i4 aM)))))
  (a8 (kP rfl g_ (dB aS i4) (hJ (i:=4) nd)
   (aT (fV (VM (DN (bM nL hr (aF (bM l7 hr (aF (jQ bU (aF (x4 2) aM)) (aF (x4 4) aM))) (aF (bM QJ hr (aF (x4 1) (aF (x4 4) aM))) aM)))))
    (aT (eB b4))
    g6)))
  (a8 (fV (VM (DN (bM nL hr (aF (bM l7 hr (aF (jQ bU (aF (x4 2) aM)) (aF (x4 3) aM))) (aF (bM yM hr (aF (x4 1) (aF (x4 3) aM))) aM)))))
   (aT (eB b4))
   g6)
  (a8 (dA (i:=5) nd (bM fK hr (aF (bM fW hr (aF (x4 0) (aF i4 aM))) (aF i4 (aF i4 aM)))))
  (a8 (dA (i:=6) nd (jQ bU (aF (sl4 (x4 2) no4 (po4 (eA i4 (iI (eA (fA (x4 5) i4) (rA i4 (fA (x4 5) i4))) (d6 aV (aF (x4 2) aM)))))) aM)))
  (aT (eB (bM nL hr (aF (bM l7 hr (aF (x4 6) (aF (x4 3) aM))) (aF (bM yM hr (aF (fA (fA (x4 6) (zG i4)) i4) (aF (x4 3) aM))) aM)))))))))))
end
theorem all_mk{l:ql}{w:bb}{K:aq}{h:bf}{mg:Q0d}{fa:ah}(X:K.In h)(G:h.Ns ie mg)(hfa:mg "law"=aa (.ref fa))
  {Jd Jc:ah} (Yg:tw K "count_of_chain"=aa (Jd,Jc))
  (D1:Df K mg "ready_things" (top 1) ["order","ahead"])
  (D2:Df K mg "joined" (top 2) ["ahead","thing"])
  (D3:Df K mg "descents_of" (top 3) ["going"])
  (D4:Df K mg "added" (top 8) ["one","other"])
  (D5:Df K mg "one_descent_more" (top 7) ["shares"])
  (D6:Df K mg "find_shares" (top 6) ["order","ahead","last","shares"])
  (D7:Df K mg "shares_on" (top 5) ["order"])
  (D8:Df K mg "shares_by_descents" (top 4) ["order"])
  (D9:Df K mg "chosen" (top 10) ["x","m"])
  (D10:Df K mg "sum_over_descents" (top 12) ["shares","n","k"])
  (D11:Df K mg "count_at" (top 11) ["order","k"])
  (D12:Df K mg "count_of_chain" (top 15) ["order","k"])
  (D13:Df K mg "counted_by" (top 14) ["rows","k"])
  (D14:Df K mg "_law_cell" (top 17) ["_law_script","_law_k"])
  (D15:Df K mg "_law_mixed" (top 18) ["_law_cell_here","_law_k","_law_salt"])
  (D16:Df K mg "_law_draws" (top 19) ["_law_cell_here","_law_many_here","_law_salt"])
  (D17:Df K mg "_law_great" (top 20) ["_law_cell_here","_law_most","_law_salt"])
  (D18:Df K mg "_law_same" (top 21) ["_law_found","_law_due"])
  (D19:Df K mg "_law_order" (top 22) ["_law_draws_here","_law_n","_law_thick"])
  (D20:Df K mg "_law_masks" (top 23) ["_law_order_here"])
  (D21:Df K mg "_law_count" (top 24) ["_law_order_here","_law_k"])
  (D22:Df K mg "_law_loose" (top 25) ["_law_order_here"])
  (D23:Df K mg "_law_put" (top 26) ["_law_order_here","_law_a","_law_b"])
  (D24:Df K mg "_law_paper" (top 27) ["_law_order_here","_law_draws_here"])
  (D25:Df K mg "_law_many" (top 28) ["_law_order_here"])
  (D26:Df K mg "_law_small" (top 29) ["_law_script","_law_k","_law_salt"])
  (D27:Df K mg "_law_moved" (top 30) ["_law_rows","_law_more"])
  (D28:Df K mg "_law_latest" (top 31) ["_law_rows","_law_number"])
  (D29:Df K mg "_law_papers" (top 32) ["_law_script"])
  (D30:Df K mg "_law_any" (top 33) ["_law_script","_law_k","_law_salt"])
  (D31:Df K mg "law" (top 34) ["_law_script"])
  (yG:mg "all"=af) (aV:mg "len"=af) (aS:mg "range"=af) (eV:mg "sorted"=af) (bU:mg "tuple"=af) (WY:mg "zip"=af) (yI:mg "max"=af) (nJ:mg "enumerate"=af) (rL:mg "sum"=af) (cQ:mg "isinstance"=af) (MY:mg "str"=af) (G2:mg "int"=af) (tR:mg "bool"=af) (pU:mg "list"=af):
  ∃fd:gi,(∀(s:ao) (v:ai),pd s fd ⟨[v],[]⟩ [("_law_script",v)]) /\∀base:bf,K.In base->base.Ns ie mg->lC l.prog w K mg base dF 19 fa fd ["_law_script"] (eG K qB):=by
 obtain @⟨_,fd,_,F,m,_⟩:=D31;cases hfa.symm.trans m;refine⟨fd,λs v=>?_,λbase _ _=>?_⟩
 .obtain ⟨_,_,_,_,_,_,_,_,_,e,_⟩:=F.ex;rw[e];exact .of_eq rfl
 have o1:=uP l.prog w base 3 D1 yG aV aS;have o2:=P9 l.prog w base 3 D2 eV bU;have o3:=yH l.prog w base 3 D3 aV aS bU;have o4:=WW l.prog w base 3 D4 WY;have o5:=oK l.prog w base 3 D5 ;have o6:=nH l.prog w base 4 D6 o1.up o4.up o5.up o2.up aV yI 11;have o7:=DU l.prog w base 15 D7 o6.up;have o8:=mF l.prog w base 16 D8 o7.up bU;have o9:=QB l.prog w base 3 D9 aS;have Iq:=nI l.prog w base 4 D10 o9.up nJ rL;have Ip:=G0 l.prog w base 17 D11 Iq.up o8.up aV;have Io:=rM l.prog w base 4 D12 o9.up o3.up Yg aV eV aS bU;have Im:=zK l.prog w base 5 D13 Io.up;have sd:=QC l.prog w base 3 D14 aV;have Aa:=J0 l.prog w base 3 D15 ;have r_:=J1 l.prog w base 4 D16 Aa.up aS;have Il:=J3 l.prog w base 4 D17 Aa.up aS;have Ik:=BM l.prog w base 3 D18 cQ MY G2 tR bU aV aS yG 6;have z_:=J4 l.prog w base 3 D19 aS eV bU aV pU;have zz:=J5 l.prog w base 3 D20 rL;have Ij:=J6 l.prog w base 4 D21 zz.up aS aV;have Ii:=J7 l.prog w base 3 D22 aV aS;have Ih:=WZ l.prog w base 3 D23 bU aV aS eV pU;have Ig:=J8 l.prog w base 4 D24 Ih.up Ii.up aV rL;have zy:=QF l.prog w base 4 D25 zz.up aV aS;have Ie:=J9 l.prog w base 5 D26 zy.up z_.up r_.up sd.up;have Ic:=KA l.prog w base 3 D27 aV;have Ib:=G3 l.prog w base 3 D28 aV aS yI;have Ia:=G4 l.prog w base 6 D29 Ib.up zy.up Ic.up Ig.up z_.up r_.up sd.up Ie.up aV aS;have H_:=W0 l.prog w base 5 D30 Il.up sd.up r_.up;exact Yh l.prog w base 18 F Ik.up Ip.up Im.up r_.up sd.up Ij.up H_.up Ia.up aV bU aS
def Yf{K:aq}{H:Hp}{a:ah}{ns:Q0e}(o:Only H)(h:eE K H a (ns.map V.int)):Scr K H a ns:=by
 rcases h with h|h
 .rcases h with h|⟨b,h⟩
  .rcases o a with z|⟨_,_,z⟩|⟨_,z⟩<;>rw[z] at h<;>cases h
  .exact .inl ⟨b,h⟩
 .exact .inr (.inr h)
theorem walk{l:ql}{q:bh}{loose:Q0g}{XP:(ak->Option ai)->bf->Prop}{YP:bb->bf->Prop}{d:DefRec}{K:Params->aq}(hn:l.most=aa 63)(hdf:d.params.defaults=[])
  (hY:∀(w:bb) (h:bf),YP w h->(K w.params).In h) (se:∀w:bb,TabsOk (K w.params) q) (hnt:∀w:bb,noTabs (K w.params)=ae)
  (F:∀(w:bb) (mg:Q0d) (fa:ah) (h:bf),(K w.params).In h->h.Ns ie mg->mg d.name=aa (.ref fa) ->
   ∃fd:gi,(∀(s:ao) (u:ai),pd s fd ⟨[u],[]⟩ [("_law_script",u)]) /\∀base:bf,(K w.params).In base->base.Ns ie mg->lC l.prog w (K w.params) mg base dF 19 fa fd ["_law_script"] (eG (K w.params) qB)):
  Fc q loose XP YP l.row.toRowW d [] (λf vs=>Ex f vs) :=
 L2.ZA (n:=63) (k:=19) (x:="_law_script") (CX:=λ_=>dF) (sp:=λw=>eG (K w.params) qB) hn (by decide) hdf ⟨rfl,by decide,by decide⟩ hY se hnt F
  (λ_ H a ns hl o hS=>⟨λa=>H a=af,[.fX ns],λd=>d=.bl ae,λ_ h=>h,⟨_,_,rfl,⟨a,rfl,Yf o hS⟩,rfl⟩,⟨_,S9 ns hl,rfl⟩,λv H' d _ hd e=>by subst e;exact hd⟩) λ_ _ _ _ _ z=>z
end K34
open PySem.W PyProof.Rows
def PySem.W.Fast.tw8981041050463269307 := 0
def PySem.W.Fast.tw199245469002593010 := 0
def PySem.W.Fast.tw13012828923543763605 := 0
def PySem.W.Fast.tw2379577308276316044 := 0
def PySem.W.Fast.tw4542994355618993971 := 0
def PySem.W.Fast.tw4195379354608457864 := 0
def PySem.W.Fast.tw1723770592108573645 := 0
def PySem.W.Fast.tw14173788550321562327 := 0
def PySem.W.Fast.tw12585512818655269971 := 0
def PySem.W.Fast.tw13755937978259231078 := 0
def PySem.W.Fast.tw15669155475240724495 := 0
def PySem.W.Fast.tw7925386462521870402 := 0
set_option maxRecDepth 100000 in
set_option maxHeartbeats 0 in
theorem PySem.Challenge.cw_risecount_k34_counted_by_holds : PySem.Challenge.rw_risecount_k34_counted_by.Holds := by
 w_on; o_law; k_head; (case hw=>w_witness2)
 k_fill
 refine K34.walk (l := PySem.Challenge.rw_risecount_k34_counted_by) rfl rfl (fun w h Y => PySem.W.km_in_of Y) ?hTbs ?hNtb ?F
 case hTbs =>
  intro w
  refine' L4.tabs_ok (L4.P8 ?t1 ?t2 ?t3 ?t4 ?t5) ?nd ?rc
  (case t1=>(refine' L4.rJ ?p1; (case p1=>k_is)))
  (case t2=>(refine' L4.GY ?p1 ?p2 ?p3 ?p4 ?p5; (case p1=>k_is); (case p2=>k_is); (case p3=>exact rfl); (case p4=>k_is); (case p5=>exact rfl)))
  (case t3=>(refine' L4.rJ ?p1; (case p1=>k_is)))
  (case t4=>(refine' L4.rJ ?p1; (case p1=>k_is)))
  (case t5=>(refine' L4.rJ ?p1; (case p1=>k_is)))
  (case nd=>decide)
  (case rc=>(intro t ht; rcases List.mem_cons.1 ht with rfl | ht<;>first | exact ⟨_,rfl⟩ | cases ht))
 case hNtb =>
  intro w
  kernel_rfl
 case F =>
  intro w mg fa h KX G hmg
  refine' K34.all_mk KX G hmg ?aDt ?_ ?_ ?_ ?_ ?_ ?_ ?_ ?_ ?_ ?_ ?_ ?_ ?_ ?_ ?_ ?_ ?_ ?_ ?_ ?_ ?_ ?_ ?_ ?_ ?_ ?_ ?_ ?_ ?_ ?_ ?_ ?_ ?_ ?_ ?_ ?_ ?_ ?_ ?_ ?_ ?_ ?_ ?_ ?_ ?_
  (case aDt=>(refine' L4.GY ?p1 ?p2 ?p3 ?p4 ?p5; (case p1=>k_is); (case p2=>k_is); (case p3=>exact rfl); (case p4=>k_is); (case p5=>exact rfl)))
  all_goals first | exact PySem.W.mg_none_of KX G (by k_is) | (refine' L4.aGS KX G ?b ?a ?l ?c ?k; (case a=>k_is); (case l=>k_is); (case c=>k_is); (case k=>k_is); (case b=>(intro us hl; first | (obtain ⟨_,rfl⟩:=L4.aAT us hl; rfl) | (obtain ⟨_,_,rfl⟩:=L4.aAU us hl; rfl) | (obtain ⟨_,_,_,rfl⟩:=L4.aAV us hl; rfl) | (obtain ⟨_,_,_,_,rfl⟩:=L4.aAW us hl; rfl))))
end
